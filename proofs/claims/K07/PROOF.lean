import PyProof.Rows.All
import Wide.All
import OpenK.AllK
import Wide.FinOn
import HandS.ForMost
import HandS.ForExc
import HandS.More
import HandS.Small
import HandS.Flow
import HandS.Style
import HandS.IsInst
import HandS.Deep
import HandS.ListItems
import HandS.TupAny
import HandS.NoneIn
import HandS.Evl
import HandS.CallLocal
import PySem.Challenge.RW_cacheheld_k07_whole_choices
import PyProof.EqAt
import PyProof.NeKinds
import KE.KLam
import KE.KNestM
import HandS.Base
import HandS.Call
import HandS.List
import HandS.Lambda
import HandS.Nested
import HandS.EndTab
import HandS.Iter
import HandS.Words
import KE.KMinKey
import HandS.SortKw
import KE.GoesMore
import HandS.Comp
import HandS.Zip
import KE.SortData
set_option Elab.async false
set_option linter.all false
set_option maxRecDepth 100000
set_option maxHeartbeats 4000000
namespace Ca
open PySem L2
/-! ### the text by places -/
def top (i : Nat) : Stmt := PySem.Challenge.pw_cacheheld_k07_whole_choices.main.body.getD i (.Pass ⟨0, 0, 0, 0⟩)
abbrev s_check_number : Stmt := top 8
theorem sc_check_number : FnScope ["value", "lowest", "highest"] ["value", "lowest", "highest"] (defScope s_check_number) := ⟨rfl, rfl, rfl, by decide +kernel, rfl, by decide +kernel, by decide +kernel⟩

abbrev s_is_design : Stmt := top 16
theorem sc_is_design : FnScope ["value"] ["value"] (defScope s_is_design) := ⟨rfl, rfl, rfl, by decide +kernel, rfl, by decide +kernel, by decide +kernel⟩

abbrev s_is_world : Stmt := top 17
theorem sc_is_world : FnScope ["value"] ["value"] (defScope s_is_world) := ⟨rfl, rfl, rfl, by decide +kernel, rfl, by decide +kernel, by decide +kernel⟩

abbrev s_is_triple : Stmt := top 18
theorem sc_is_triple : FnScope ["value", "firsts", "seconds", "thirds"] ["value", "firsts", "seconds", "thirds"] (defScope s_is_triple) := ⟨rfl, rfl, rfl, by decide +kernel, rfl, by decide +kernel, by decide +kernel⟩

abbrev s_all_designs : Stmt := top 19
theorem sc_all_designs : FnScope [] [] (defScope s_all_designs) := ⟨rfl, rfl, rfl, by decide +kernel, rfl, by decide +kernel, by decide +kernel⟩

abbrev s_all_worlds : Stmt := top 20
theorem sc_all_worlds : FnScope [] [] (defScope s_all_worlds) := ⟨rfl, rfl, rfl, by decide +kernel, rfl, by decide +kernel, by decide +kernel⟩

abbrev s_all_triples : Stmt := top 21
theorem sc_all_triples : FnScope ["firsts", "seconds", "thirds", "one", "two", "three"] ["firsts", "seconds", "thirds"] (defScope s_all_triples) := ⟨rfl, rfl, rfl, by decide +kernel, rfl, by decide +kernel, by decide +kernel⟩

abbrev s_words_at : Stmt := top 22
theorem sc_words_at : FnScope ["place"] ["place"] (defScope s_words_at) := ⟨rfl, rfl, rfl, by decide +kernel, rfl, by decide +kernel, by decide +kernel⟩

abbrev s_check_design : Stmt := top 23
theorem sc_check_design : FnScope ["value"] ["value"] (defScope s_check_design) := ⟨rfl, rfl, rfl, by decide +kernel, rfl, by decide +kernel, by decide +kernel⟩

abbrev s_check_world : Stmt := top 24
theorem sc_check_world : FnScope ["value"] ["value"] (defScope s_check_world) := ⟨rfl, rfl, rfl, by decide +kernel, rfl, by decide +kernel, by decide +kernel⟩

abbrev s_check_question : Stmt := top 27
theorem sc_check_question : FnScope ["design", "world", "promise"] ["design", "world", "promise"] (defScope s_check_question) := ⟨rfl, rfl, rfl, by decide +kernel, rfl, by decide +kernel, by decide +kernel⟩

abbrev s_check_promise : Stmt := top 28
theorem sc_check_promise : FnScope ["value"] ["value"] (defScope s_check_promise) := ⟨rfl, rfl, rfl, by decide +kernel, rfl, by decide +kernel, by decide +kernel⟩

abbrev s_check_promises : Stmt := top 29
theorem sc_check_promises : FnScope ["value", "promise"] ["value"] (defScope s_check_promises) := ⟨rfl, rfl, rfl, by decide +kernel, rfl, by decide +kernel, by decide +kernel⟩

abbrev s_holds : Stmt := top 31
theorem sc_holds : FnScope ["design", "world", "promise", "is_kept"] ["design", "world", "promise"] (defScope s_holds) := ⟨rfl, rfl, rfl, by decide +kernel, rfl, by decide +kernel, by decide +kernel⟩

abbrev s_profile : Stmt := top 32
theorem sc_profile : FnScope ["design", "world", "promise"] ["design", "world"] (defScope s_profile) := ⟨rfl, rfl, rfl, by decide +kernel, rfl, by decide +kernel, by decide +kernel⟩

abbrev s_passes_by : Stmt := top 33
theorem sc_passes_by : FnScope ["design", "path", "guard", "_"] ["design"] (defScope s_passes_by) := ⟨rfl, rfl, rfl, by decide +kernel, rfl, by decide +kernel, by decide +kernel⟩

abbrev s_climbs : Stmt := top 34
theorem sc_climbs : FnScope ["design", "world", "path", "guard", "_"] ["design", "world"] (defScope s_climbs) := ⟨rfl, rfl, rfl, by decide +kernel, rfl, by decide +kernel, by decide +kernel⟩

abbrev s_guards : Stmt := top 35
theorem sc_guards : FnScope ["design", "world", "path", "guard", "_"] ["design", "world"] (defScope s_guards) := ⟨rfl, rfl, rfl, by decide +kernel, rfl, by decide +kernel, by decide +kernel⟩

abbrev s_is_alone : Stmt := top 36
theorem sc_is_alone : FnScope ["design"] ["design"] (defScope s_is_alone) := ⟨rfl, rfl, rfl, by decide +kernel, rfl, by decide +kernel, by decide +kernel⟩

abbrev s_is_primary : Stmt := top 37
theorem sc_is_primary : FnScope ["world"] ["world"] (defScope s_is_primary) := ⟨rfl, rfl, rfl, by decide +kernel, rfl, by decide +kernel, by decide +kernel⟩

abbrev s_keeps : Stmt := top 38
theorem sc_keeps : FnScope ["world"] ["world"] (defScope s_keeps) := ⟨rfl, rfl, rfl, by decide +kernel, rfl, by decide +kernel, by decide +kernel⟩

abbrev s_finishes : Stmt := top 39
theorem sc_finishes : FnScope ["world"] ["world"] (defScope s_finishes) := ⟨rfl, rfl, rfl, by decide +kernel, rfl, by decide +kernel, by decide +kernel⟩

abbrev s_holds_ending : Stmt := top 40
theorem sc_holds_ending : FnScope ["design", "world"] ["design", "world"] (defScope s_holds_ending) := ⟨rfl, rfl, rfl, by decide +kernel, rfl, by decide +kernel, by decide +kernel⟩

abbrev s_holds_filled : Stmt := top 41
theorem sc_holds_filled : FnScope ["design", "world", "path", "guard", "_"] ["design", "world"] (defScope s_holds_filled) := ⟨rfl, rfl, rfl, by decide +kernel, rfl, by decide +kernel, by decide +kernel⟩

abbrev s_holds_forward : Stmt := top 42
theorem sc_holds_forward : FnScope ["design", "world", "path", "guard", "_"] ["design", "world"] (defScope s_holds_forward) := ⟨rfl, rfl, rfl, by decide +kernel, rfl, by decide +kernel, by decide +kernel⟩

abbrev s_holds_fresh : Stmt := top 43
theorem sc_holds_fresh : FnScope ["design", "world"] ["design", "world"] (defScope s_holds_fresh) := ⟨rfl, rfl, rfl, by decide +kernel, rfl, by decide +kernel, by decide +kernel⟩

abbrev s_holds_linear : Stmt := top 44
theorem sc_holds_linear : FnScope ["design", "world"] ["design", "world"] (defScope s_holds_linear) := ⟨rfl, rfl, rfl, by decide +kernel, rfl, by decide +kernel, by decide +kernel⟩

abbrev s_holds_mended : Stmt := top 45
theorem sc_holds_mended : FnScope ["design", "world", "path", "guard", "_"] ["design", "world"] (defScope s_holds_mended) := ⟨rfl, rfl, rfl, by decide +kernel, rfl, by decide +kernel, by decide +kernel⟩

abbrev s_holds_moving : Stmt := top 46
theorem sc_holds_moving : FnScope ["design", "world"] ["design", "world"] (defScope s_holds_moving) := ⟨rfl, rfl, rfl, by decide +kernel, rfl, by decide +kernel, by decide +kernel⟩

abbrev s_holds_quiet : Stmt := top 47
theorem sc_holds_quiet : FnScope ["design", "world"] ["design", "world"] (defScope s_holds_quiet) := ⟨rfl, rfl, rfl, by decide +kernel, rfl, by decide +kernel, by decide +kernel⟩

abbrev s_holds_rest : Stmt := top 48
theorem sc_holds_rest : FnScope ["design", "world", "held"] ["design", "world"] (defScope s_holds_rest) := ⟨rfl, rfl, rfl, by decide +kernel, rfl, by decide +kernel, by decide +kernel⟩

abbrev s_holds_single : Stmt := top 49
theorem sc_holds_single : FnScope ["design", "world"] ["design", "world"] (defScope s_holds_single) := ⟨rfl, rfl, rfl, by decide +kernel, rfl, by decide +kernel, by decide +kernel⟩

abbrev s_keepers : Stmt := top 52
theorem sc_keepers : FnScope ["world", "wanted", "design"] ["world", "wanted"] (defScope s_keepers) := ⟨rfl, rfl, rfl, by decide +kernel, rfl, by decide +kernel, by decide +kernel⟩

abbrev s_worlds_for : Stmt := top 53
theorem sc_worlds_for : FnScope ["design", "wanted", "world"] ["design", "wanted"] (defScope s_worlds_for) := ⟨rfl, rfl, rfl, by decide +kernel, rfl, by decide +kernel, by decide +kernel⟩

abbrev s_nearest : Stmt := top 54
theorem sc_nearest : FnScope ["design", "world", "wanted"] ["design", "world", "wanted"] (defScope s_nearest) := ⟨rfl, rfl, rfl, by decide +kernel, rfl, by decide +kernel, by decide +kernel⟩

abbrev s_strongest : Stmt := top 55
theorem sc_strongest : FnScope ["world", "designs", "profiles", "design", "kept", "other"] ["world"] (defScope s_strongest) := ⟨rfl, rfl, rfl, by decide +kernel, rfl, by decide +kernel, by decide +kernel⟩

abbrev s_harmless : Stmt := top 56
theorem sc_harmless : FnScope ["design", "world", "place", "kept", "word"] ["design", "world", "place"] (defScope s_harmless) := ⟨rfl, rfl, rfl, by decide +kernel, rfl, by decide +kernel, by decide +kernel⟩

abbrev s_keeps_all : Stmt := top 57
theorem sc_keeps_all : FnScope ["design", "world", "wanted", "promise"] ["design", "world", "wanted"] (defScope s_keeps_all) := ⟨rfl, rfl, rfl, by decide +kernel, rfl, by decide +kernel, by decide +kernel⟩

abbrev s_changes : Stmt := top 58
theorem sc_changes : FnScope ["design", "other", "one", "another"] ["design", "other"] (defScope s_changes) := ⟨rfl, rfl, rfl, by decide +kernel, rfl, by decide +kernel, by decide +kernel⟩

abbrev s_is_proper_part : Stmt := top 59
theorem sc_is_proper_part : FnScope ["part", "whole", "promise"] ["part", "whole"] (defScope s_is_proper_part) := ⟨rfl, rfl, rfl, by decide +kernel, rfl, by decide +kernel, by decide +kernel⟩

abbrev s_changed : Stmt := top 60
theorem sc_changed : FnScope ["design", "place", "word"] ["design", "place", "word"] (defScope s_changed) := ⟨rfl, rfl, rfl, by decide +kernel, rfl, by decide +kernel, by decide +kernel⟩

abbrev s_Ltaken : Stmt := top 62
theorem sc_Ltaken : FnScope ["row", "many", "found", "cell"] ["row", "many"] (defScope s_Ltaken) := ⟨rfl, rfl, rfl, by decide +kernel, rfl, by decide +kernel, by decide +kernel⟩

abbrev s_Lpick : Stmt := top 63
theorem sc_Lpick : FnScope ["row", "kinds"] ["row", "kinds"] (defScope s_Lpick) := ⟨rfl, rfl, rfl, by decide +kernel, rfl, by decide +kernel, by decide +kernel⟩

abbrev s_Lalike : Stmt := top 64
theorem sc_Lalike : FnScope ["found", "due", "k"] ["found", "due"] (defScope s_Lalike) := ⟨rfl, rfl, rfl, by decide +kernel, rfl, by decide +kernel, by decide +kernel⟩

abbrev s_Lpaths : Stmt := top 65
theorem sc_Lpaths : FnScope [] [] (defScope s_Lpaths) := ⟨rfl, rfl, rfl, by decide +kernel, rfl, by decide +kernel, by decide +kernel⟩

abbrev s_Lpromises : Stmt := top 66
theorem sc_Lpromises : FnScope [] [] (defScope s_Lpromises) := ⟨rfl, rfl, rfl, by decide +kernel, rfl, by decide +kernel, by decide +kernel⟩

abbrev s_Lholds : Stmt := top 67
theorem sc_Lholds : FnScope ["design", "world", "promise", "path", "guard", "flight", "by", "climbs_v", "guards_v", "fresh", "low", "forward", "late", "whole", "found"] ["design", "world", "promise"] (defScope s_Lholds) := ⟨rfl, rfl, rfl, by decide +kernel, rfl, by decide +kernel, by decide +kernel⟩

abbrev s_Lwords : Stmt := top 68
theorem sc_Lwords : FnScope ["row", "many", "found", "one"] ["row", "many"] (defScope s_Lwords) := ⟨rfl, rfl, rfl, by decide +kernel, rfl, by decide +kernel, by decide +kernel⟩

abbrev s_Ldesigns : Stmt := top 69
theorem sc_Ldesigns : FnScope ["found", "path", "guard"] [] (defScope s_Ldesigns) := ⟨rfl, rfl, rfl, by decide +kernel, rfl, by decide +kernel, by decide +kernel⟩

abbrev s_Lworlds : Stmt := top 70
theorem sc_Lworlds : FnScope ["found", "source", "evictions"] [] (defScope s_Lworlds) := ⟨rfl, rfl, rfl, by decide +kernel, rfl, by decide +kernel, by decide +kernel⟩

abbrev s_Lkept : Stmt := top 71
theorem sc_Lkept : FnScope ["design", "world", "one"] ["design", "world"] (defScope s_Lkept) := ⟨rfl, rfl, rfl, by decide +kernel, rfl, by decide +kernel, by decide +kernel⟩

abbrev s_Lkeeps : Stmt := top 72
theorem sc_Lkeeps : FnScope ["design", "world", "wanted", "one"] ["design", "world", "wanted"] (defScope s_Lkeeps) := ⟨rfl, rfl, rfl, by decide +kernel, rfl, by decide +kernel, by decide +kernel⟩

abbrev s_law : Stmt := top 73
theorem sc_law : FnScope ["script", "row", "design", "world", "wanted", "due", "ranked", "place", "kept", "near", "some", "best", "one", "own", "at", "other", "more", "word"] ["script"] (defScope s_law) := ⟨rfl, rfl, rfl, by decide +kernel, rfl, by decide +kernel, by decide +kernel⟩

structure Txt (K : PySem.W.Frag) (mg : Str → Option Value) where
  f_check_number : Addr
  fd_check_number : FuncData
  F_check_number : Fun K "check_number" "check_number" s_check_number f_check_number fd_check_number
  m_check_number : mg "check_number" = some (.ref f_check_number)
  f_is_design : Addr
  fd_is_design : FuncData
  F_is_design : Fun K "is_design" "is_design" s_is_design f_is_design fd_is_design
  m_is_design : mg "is_design" = some (.ref f_is_design)
  f_is_world : Addr
  fd_is_world : FuncData
  F_is_world : Fun K "is_world" "is_world" s_is_world f_is_world fd_is_world
  m_is_world : mg "is_world" = some (.ref f_is_world)
  f_is_triple : Addr
  fd_is_triple : FuncData
  F_is_triple : Fun K "is_triple" "is_triple" s_is_triple f_is_triple fd_is_triple
  m_is_triple : mg "is_triple" = some (.ref f_is_triple)
  f_all_designs : Addr
  fd_all_designs : FuncData
  F_all_designs : Fun K "all_designs" "all_designs" s_all_designs f_all_designs fd_all_designs
  m_all_designs : mg "all_designs" = some (.ref f_all_designs)
  f_all_worlds : Addr
  fd_all_worlds : FuncData
  F_all_worlds : Fun K "all_worlds" "all_worlds" s_all_worlds f_all_worlds fd_all_worlds
  m_all_worlds : mg "all_worlds" = some (.ref f_all_worlds)
  f_all_triples : Addr
  fd_all_triples : FuncData
  F_all_triples : Fun K "all_triples" "all_triples" s_all_triples f_all_triples fd_all_triples
  m_all_triples : mg "all_triples" = some (.ref f_all_triples)
  f_words_at : Addr
  fd_words_at : FuncData
  F_words_at : Fun K "words_at" "words_at" s_words_at f_words_at fd_words_at
  m_words_at : mg "words_at" = some (.ref f_words_at)
  f_check_design : Addr
  fd_check_design : FuncData
  F_check_design : Fun K "check_design" "check_design" s_check_design f_check_design fd_check_design
  m_check_design : mg "check_design" = some (.ref f_check_design)
  f_check_world : Addr
  fd_check_world : FuncData
  F_check_world : Fun K "check_world" "check_world" s_check_world f_check_world fd_check_world
  m_check_world : mg "check_world" = some (.ref f_check_world)
  f_check_question : Addr
  fd_check_question : FuncData
  F_check_question : Fun K "check_question" "check_question" s_check_question f_check_question fd_check_question
  m_check_question : mg "check_question" = some (.ref f_check_question)
  f_check_promise : Addr
  fd_check_promise : FuncData
  F_check_promise : Fun K "check_promise" "check_promise" s_check_promise f_check_promise fd_check_promise
  m_check_promise : mg "check_promise" = some (.ref f_check_promise)
  f_check_promises : Addr
  fd_check_promises : FuncData
  F_check_promises : Fun K "check_promises" "check_promises" s_check_promises f_check_promises fd_check_promises
  m_check_promises : mg "check_promises" = some (.ref f_check_promises)
  f_holds : Addr
  fd_holds : FuncData
  F_holds : Fun K "holds" "holds" s_holds f_holds fd_holds
  m_holds : mg "holds" = some (.ref f_holds)
  f_profile : Addr
  fd_profile : FuncData
  F_profile : Fun K "profile" "profile" s_profile f_profile fd_profile
  m_profile : mg "profile" = some (.ref f_profile)
  f_passes_by : Addr
  fd_passes_by : FuncData
  F_passes_by : Fun K "passes_by" "passes_by" s_passes_by f_passes_by fd_passes_by
  m_passes_by : mg "passes_by" = some (.ref f_passes_by)
  f_climbs : Addr
  fd_climbs : FuncData
  F_climbs : Fun K "climbs" "climbs" s_climbs f_climbs fd_climbs
  m_climbs : mg "climbs" = some (.ref f_climbs)
  f_guards : Addr
  fd_guards : FuncData
  F_guards : Fun K "guards" "guards" s_guards f_guards fd_guards
  m_guards : mg "guards" = some (.ref f_guards)
  f_is_alone : Addr
  fd_is_alone : FuncData
  F_is_alone : Fun K "is_alone" "is_alone" s_is_alone f_is_alone fd_is_alone
  m_is_alone : mg "is_alone" = some (.ref f_is_alone)
  f_is_primary : Addr
  fd_is_primary : FuncData
  F_is_primary : Fun K "is_primary" "is_primary" s_is_primary f_is_primary fd_is_primary
  m_is_primary : mg "is_primary" = some (.ref f_is_primary)
  f_keeps : Addr
  fd_keeps : FuncData
  F_keeps : Fun K "keeps" "keeps" s_keeps f_keeps fd_keeps
  m_keeps : mg "keeps" = some (.ref f_keeps)
  f_finishes : Addr
  fd_finishes : FuncData
  F_finishes : Fun K "finishes" "finishes" s_finishes f_finishes fd_finishes
  m_finishes : mg "finishes" = some (.ref f_finishes)
  f_holds_ending : Addr
  fd_holds_ending : FuncData
  F_holds_ending : Fun K "holds_ending" "holds_ending" s_holds_ending f_holds_ending fd_holds_ending
  m_holds_ending : mg "holds_ending" = some (.ref f_holds_ending)
  f_holds_filled : Addr
  fd_holds_filled : FuncData
  F_holds_filled : Fun K "holds_filled" "holds_filled" s_holds_filled f_holds_filled fd_holds_filled
  m_holds_filled : mg "holds_filled" = some (.ref f_holds_filled)
  f_holds_forward : Addr
  fd_holds_forward : FuncData
  F_holds_forward : Fun K "holds_forward" "holds_forward" s_holds_forward f_holds_forward fd_holds_forward
  m_holds_forward : mg "holds_forward" = some (.ref f_holds_forward)
  f_holds_fresh : Addr
  fd_holds_fresh : FuncData
  F_holds_fresh : Fun K "holds_fresh" "holds_fresh" s_holds_fresh f_holds_fresh fd_holds_fresh
  m_holds_fresh : mg "holds_fresh" = some (.ref f_holds_fresh)
  f_holds_linear : Addr
  fd_holds_linear : FuncData
  F_holds_linear : Fun K "holds_linear" "holds_linear" s_holds_linear f_holds_linear fd_holds_linear
  m_holds_linear : mg "holds_linear" = some (.ref f_holds_linear)
  f_holds_mended : Addr
  fd_holds_mended : FuncData
  F_holds_mended : Fun K "holds_mended" "holds_mended" s_holds_mended f_holds_mended fd_holds_mended
  m_holds_mended : mg "holds_mended" = some (.ref f_holds_mended)
  f_holds_moving : Addr
  fd_holds_moving : FuncData
  F_holds_moving : Fun K "holds_moving" "holds_moving" s_holds_moving f_holds_moving fd_holds_moving
  m_holds_moving : mg "holds_moving" = some (.ref f_holds_moving)
  f_holds_quiet : Addr
  fd_holds_quiet : FuncData
  F_holds_quiet : Fun K "holds_quiet" "holds_quiet" s_holds_quiet f_holds_quiet fd_holds_quiet
  m_holds_quiet : mg "holds_quiet" = some (.ref f_holds_quiet)
  f_holds_rest : Addr
  fd_holds_rest : FuncData
  F_holds_rest : Fun K "holds_rest" "holds_rest" s_holds_rest f_holds_rest fd_holds_rest
  m_holds_rest : mg "holds_rest" = some (.ref f_holds_rest)
  f_holds_single : Addr
  fd_holds_single : FuncData
  F_holds_single : Fun K "holds_single" "holds_single" s_holds_single f_holds_single fd_holds_single
  m_holds_single : mg "holds_single" = some (.ref f_holds_single)
  f_keepers : Addr
  fd_keepers : FuncData
  F_keepers : Fun K "keepers" "keepers" s_keepers f_keepers fd_keepers
  m_keepers : mg "keepers" = some (.ref f_keepers)
  f_worlds_for : Addr
  fd_worlds_for : FuncData
  F_worlds_for : Fun K "worlds_for" "worlds_for" s_worlds_for f_worlds_for fd_worlds_for
  m_worlds_for : mg "worlds_for" = some (.ref f_worlds_for)
  f_nearest : Addr
  fd_nearest : FuncData
  F_nearest : Fun K "nearest" "nearest" s_nearest f_nearest fd_nearest
  m_nearest : mg "nearest" = some (.ref f_nearest)
  f_strongest : Addr
  fd_strongest : FuncData
  F_strongest : Fun K "strongest" "strongest" s_strongest f_strongest fd_strongest
  m_strongest : mg "strongest" = some (.ref f_strongest)
  f_harmless : Addr
  fd_harmless : FuncData
  F_harmless : Fun K "harmless" "harmless" s_harmless f_harmless fd_harmless
  m_harmless : mg "harmless" = some (.ref f_harmless)
  f_keeps_all : Addr
  fd_keeps_all : FuncData
  F_keeps_all : Fun K "keeps_all" "keeps_all" s_keeps_all f_keeps_all fd_keeps_all
  m_keeps_all : mg "keeps_all" = some (.ref f_keeps_all)
  f_changes : Addr
  fd_changes : FuncData
  F_changes : Fun K "changes" "changes" s_changes f_changes fd_changes
  m_changes : mg "changes" = some (.ref f_changes)
  f_is_proper_part : Addr
  fd_is_proper_part : FuncData
  F_is_proper_part : Fun K "is_proper_part" "is_proper_part" s_is_proper_part f_is_proper_part fd_is_proper_part
  m_is_proper_part : mg "is_proper_part" = some (.ref f_is_proper_part)
  f_changed : Addr
  fd_changed : FuncData
  F_changed : Fun K "changed" "changed" s_changed f_changed fd_changed
  m_changed : mg "changed" = some (.ref f_changed)
  f_Ltaken : Addr
  fd_Ltaken : FuncData
  F_Ltaken : Fun K "_law_taken" "_law_taken" s_Ltaken f_Ltaken fd_Ltaken
  m_Ltaken : mg "_law_taken" = some (.ref f_Ltaken)
  f_Lpick : Addr
  fd_Lpick : FuncData
  F_Lpick : Fun K "_law_pick" "_law_pick" s_Lpick f_Lpick fd_Lpick
  m_Lpick : mg "_law_pick" = some (.ref f_Lpick)
  f_Lalike : Addr
  fd_Lalike : FuncData
  F_Lalike : Fun K "_law_alike" "_law_alike" s_Lalike f_Lalike fd_Lalike
  m_Lalike : mg "_law_alike" = some (.ref f_Lalike)
  f_Lpaths : Addr
  fd_Lpaths : FuncData
  F_Lpaths : Fun K "_law_paths" "_law_paths" s_Lpaths f_Lpaths fd_Lpaths
  m_Lpaths : mg "_law_paths" = some (.ref f_Lpaths)
  f_Lpromises : Addr
  fd_Lpromises : FuncData
  F_Lpromises : Fun K "_law_promises" "_law_promises" s_Lpromises f_Lpromises fd_Lpromises
  m_Lpromises : mg "_law_promises" = some (.ref f_Lpromises)
  f_Lholds : Addr
  fd_Lholds : FuncData
  F_Lholds : Fun K "_law_holds" "_law_holds" s_Lholds f_Lholds fd_Lholds
  m_Lholds : mg "_law_holds" = some (.ref f_Lholds)
  f_Lwords : Addr
  fd_Lwords : FuncData
  F_Lwords : Fun K "_law_words" "_law_words" s_Lwords f_Lwords fd_Lwords
  m_Lwords : mg "_law_words" = some (.ref f_Lwords)
  f_Ldesigns : Addr
  fd_Ldesigns : FuncData
  F_Ldesigns : Fun K "_law_designs" "_law_designs" s_Ldesigns f_Ldesigns fd_Ldesigns
  m_Ldesigns : mg "_law_designs" = some (.ref f_Ldesigns)
  f_Lworlds : Addr
  fd_Lworlds : FuncData
  F_Lworlds : Fun K "_law_worlds" "_law_worlds" s_Lworlds f_Lworlds fd_Lworlds
  m_Lworlds : mg "_law_worlds" = some (.ref f_Lworlds)
  f_Lkept : Addr
  fd_Lkept : FuncData
  F_Lkept : Fun K "_law_kept" "_law_kept" s_Lkept f_Lkept fd_Lkept
  m_Lkept : mg "_law_kept" = some (.ref f_Lkept)
  f_Lkeeps : Addr
  fd_Lkeeps : FuncData
  F_Lkeeps : Fun K "_law_keeps" "_law_keeps" s_Lkeeps f_Lkeeps fd_Lkeeps
  m_Lkeeps : mg "_law_keeps" = some (.ref f_Lkeeps)
  f_law : Addr
  fd_law : FuncData
  F_law : Fun K "law" "law" s_law f_law fd_law
  m_law : mg "law" = some (.ref f_law)
  n_len : mg "len" = none
  n_isinstance : mg "isinstance" = none
  n_range : mg "range" = none
  n_int : mg "int" = none
  n_str : mg "str" = none
  n_bool : mg "bool" = none
  n_tuple : mg "tuple" = none
  n_list : mg "list" = none
  n_min : mg "min" = none
  n_any : mg "any" = none
  n_all : mg "all" = none
  n_zip : mg "zip" = none
  n_sorted : mg "sorted" = none

theorem b_check_number {K : PySem.W.Frag} {mg : Str → Option Value} (T : Txt K mg) : Binds K T.fd_check_number ["value", "lowest", "highest"] [] := T.F_check_number.binds (ps := ["value", "lowest", "highest"]) fun _ _ _ _ _ _ us hl => match us, hl with | [_, _, _], _ => rfl

theorem b_is_design {K : PySem.W.Frag} {mg : Str → Option Value} (T : Txt K mg) : Binds K T.fd_is_design ["value"] [] := T.F_is_design.binds (ps := ["value"]) fun _ _ _ _ _ _ us hl => match us, hl with | [_], _ => rfl

theorem b_is_world {K : PySem.W.Frag} {mg : Str → Option Value} (T : Txt K mg) : Binds K T.fd_is_world ["value"] [] := T.F_is_world.binds (ps := ["value"]) fun _ _ _ _ _ _ us hl => match us, hl with | [_], _ => rfl

theorem b_is_triple {K : PySem.W.Frag} {mg : Str → Option Value} (T : Txt K mg) : Binds K T.fd_is_triple ["value", "firsts", "seconds", "thirds"] [] := T.F_is_triple.binds (ps := ["value", "firsts", "seconds", "thirds"]) fun _ _ _ _ _ _ us hl => match us, hl with | [_, _, _, _], _ => rfl

theorem b_all_designs {K : PySem.W.Frag} {mg : Str → Option Value} (T : Txt K mg) : Binds K T.fd_all_designs [] [] := T.F_all_designs.binds (ps := []) fun _ _ _ _ _ _ us hl => match us, hl with | [], _ => rfl

theorem b_all_worlds {K : PySem.W.Frag} {mg : Str → Option Value} (T : Txt K mg) : Binds K T.fd_all_worlds [] [] := T.F_all_worlds.binds (ps := []) fun _ _ _ _ _ _ us hl => match us, hl with | [], _ => rfl

theorem b_all_triples {K : PySem.W.Frag} {mg : Str → Option Value} (T : Txt K mg) : Binds K T.fd_all_triples ["firsts", "seconds", "thirds"] [] := T.F_all_triples.binds (ps := ["firsts", "seconds", "thirds"]) fun _ _ _ _ _ _ us hl => match us, hl with | [_, _, _], _ => rfl

theorem b_words_at {K : PySem.W.Frag} {mg : Str → Option Value} (T : Txt K mg) : Binds K T.fd_words_at ["place"] [] := T.F_words_at.binds (ps := ["place"]) fun _ _ _ _ _ _ us hl => match us, hl with | [_], _ => rfl

theorem b_check_design {K : PySem.W.Frag} {mg : Str → Option Value} (T : Txt K mg) : Binds K T.fd_check_design ["value"] [] := T.F_check_design.binds (ps := ["value"]) fun _ _ _ _ _ _ us hl => match us, hl with | [_], _ => rfl

theorem b_check_world {K : PySem.W.Frag} {mg : Str → Option Value} (T : Txt K mg) : Binds K T.fd_check_world ["value"] [] := T.F_check_world.binds (ps := ["value"]) fun _ _ _ _ _ _ us hl => match us, hl with | [_], _ => rfl

theorem b_check_question {K : PySem.W.Frag} {mg : Str → Option Value} (T : Txt K mg) : Binds K T.fd_check_question ["design", "world", "promise"] [] := T.F_check_question.binds (ps := ["design", "world", "promise"]) fun _ _ _ _ _ _ us hl => match us, hl with | [_, _, _], _ => rfl

theorem b_check_promise {K : PySem.W.Frag} {mg : Str → Option Value} (T : Txt K mg) : Binds K T.fd_check_promise ["value"] [] := T.F_check_promise.binds (ps := ["value"]) fun _ _ _ _ _ _ us hl => match us, hl with | [_], _ => rfl

theorem b_check_promises {K : PySem.W.Frag} {mg : Str → Option Value} (T : Txt K mg) : Binds K T.fd_check_promises ["value"] [] := T.F_check_promises.binds (ps := ["value"]) fun _ _ _ _ _ _ us hl => match us, hl with | [_], _ => rfl

theorem b_holds {K : PySem.W.Frag} {mg : Str → Option Value} (T : Txt K mg) : Binds K T.fd_holds ["design", "world", "promise"] [] := T.F_holds.binds (ps := ["design", "world", "promise"]) fun _ _ _ _ _ _ us hl => match us, hl with | [_, _, _], _ => rfl

theorem b_profile {K : PySem.W.Frag} {mg : Str → Option Value} (T : Txt K mg) : Binds K T.fd_profile ["design", "world"] [] := T.F_profile.binds (ps := ["design", "world"]) fun _ _ _ _ _ _ us hl => match us, hl with | [_, _], _ => rfl

theorem b_passes_by {K : PySem.W.Frag} {mg : Str → Option Value} (T : Txt K mg) : Binds K T.fd_passes_by ["design"] [] := T.F_passes_by.binds (ps := ["design"]) fun _ _ _ _ _ _ us hl => match us, hl with | [_], _ => rfl

theorem b_climbs {K : PySem.W.Frag} {mg : Str → Option Value} (T : Txt K mg) : Binds K T.fd_climbs ["design", "world"] [] := T.F_climbs.binds (ps := ["design", "world"]) fun _ _ _ _ _ _ us hl => match us, hl with | [_, _], _ => rfl

theorem b_guards {K : PySem.W.Frag} {mg : Str → Option Value} (T : Txt K mg) : Binds K T.fd_guards ["design", "world"] [] := T.F_guards.binds (ps := ["design", "world"]) fun _ _ _ _ _ _ us hl => match us, hl with | [_, _], _ => rfl

theorem b_is_alone {K : PySem.W.Frag} {mg : Str → Option Value} (T : Txt K mg) : Binds K T.fd_is_alone ["design"] [] := T.F_is_alone.binds (ps := ["design"]) fun _ _ _ _ _ _ us hl => match us, hl with | [_], _ => rfl

theorem b_is_primary {K : PySem.W.Frag} {mg : Str → Option Value} (T : Txt K mg) : Binds K T.fd_is_primary ["world"] [] := T.F_is_primary.binds (ps := ["world"]) fun _ _ _ _ _ _ us hl => match us, hl with | [_], _ => rfl

theorem b_keeps {K : PySem.W.Frag} {mg : Str → Option Value} (T : Txt K mg) : Binds K T.fd_keeps ["world"] [] := T.F_keeps.binds (ps := ["world"]) fun _ _ _ _ _ _ us hl => match us, hl with | [_], _ => rfl

theorem b_finishes {K : PySem.W.Frag} {mg : Str → Option Value} (T : Txt K mg) : Binds K T.fd_finishes ["world"] [] := T.F_finishes.binds (ps := ["world"]) fun _ _ _ _ _ _ us hl => match us, hl with | [_], _ => rfl

theorem b_holds_ending {K : PySem.W.Frag} {mg : Str → Option Value} (T : Txt K mg) : Binds K T.fd_holds_ending ["design", "world"] [] := T.F_holds_ending.binds (ps := ["design", "world"]) fun _ _ _ _ _ _ us hl => match us, hl with | [_, _], _ => rfl

theorem b_holds_filled {K : PySem.W.Frag} {mg : Str → Option Value} (T : Txt K mg) : Binds K T.fd_holds_filled ["design", "world"] [] := T.F_holds_filled.binds (ps := ["design", "world"]) fun _ _ _ _ _ _ us hl => match us, hl with | [_, _], _ => rfl

theorem b_holds_forward {K : PySem.W.Frag} {mg : Str → Option Value} (T : Txt K mg) : Binds K T.fd_holds_forward ["design", "world"] [] := T.F_holds_forward.binds (ps := ["design", "world"]) fun _ _ _ _ _ _ us hl => match us, hl with | [_, _], _ => rfl

theorem b_holds_fresh {K : PySem.W.Frag} {mg : Str → Option Value} (T : Txt K mg) : Binds K T.fd_holds_fresh ["design", "world"] [] := T.F_holds_fresh.binds (ps := ["design", "world"]) fun _ _ _ _ _ _ us hl => match us, hl with | [_, _], _ => rfl

theorem b_holds_linear {K : PySem.W.Frag} {mg : Str → Option Value} (T : Txt K mg) : Binds K T.fd_holds_linear ["design", "world"] [] := T.F_holds_linear.binds (ps := ["design", "world"]) fun _ _ _ _ _ _ us hl => match us, hl with | [_, _], _ => rfl

theorem b_holds_mended {K : PySem.W.Frag} {mg : Str → Option Value} (T : Txt K mg) : Binds K T.fd_holds_mended ["design", "world"] [] := T.F_holds_mended.binds (ps := ["design", "world"]) fun _ _ _ _ _ _ us hl => match us, hl with | [_, _], _ => rfl

theorem b_holds_moving {K : PySem.W.Frag} {mg : Str → Option Value} (T : Txt K mg) : Binds K T.fd_holds_moving ["design", "world"] [] := T.F_holds_moving.binds (ps := ["design", "world"]) fun _ _ _ _ _ _ us hl => match us, hl with | [_, _], _ => rfl

theorem b_holds_quiet {K : PySem.W.Frag} {mg : Str → Option Value} (T : Txt K mg) : Binds K T.fd_holds_quiet ["design", "world"] [] := T.F_holds_quiet.binds (ps := ["design", "world"]) fun _ _ _ _ _ _ us hl => match us, hl with | [_, _], _ => rfl

theorem b_holds_rest {K : PySem.W.Frag} {mg : Str → Option Value} (T : Txt K mg) : Binds K T.fd_holds_rest ["design", "world"] [] := T.F_holds_rest.binds (ps := ["design", "world"]) fun _ _ _ _ _ _ us hl => match us, hl with | [_, _], _ => rfl

theorem b_holds_single {K : PySem.W.Frag} {mg : Str → Option Value} (T : Txt K mg) : Binds K T.fd_holds_single ["design", "world"] [] := T.F_holds_single.binds (ps := ["design", "world"]) fun _ _ _ _ _ _ us hl => match us, hl with | [_, _], _ => rfl

theorem b_keepers {K : PySem.W.Frag} {mg : Str → Option Value} (T : Txt K mg) : Binds K T.fd_keepers ["world", "wanted"] [] := T.F_keepers.binds (ps := ["world", "wanted"]) fun _ _ _ _ _ _ us hl => match us, hl with | [_, _], _ => rfl

theorem b_worlds_for {K : PySem.W.Frag} {mg : Str → Option Value} (T : Txt K mg) : Binds K T.fd_worlds_for ["design", "wanted"] [] := T.F_worlds_for.binds (ps := ["design", "wanted"]) fun _ _ _ _ _ _ us hl => match us, hl with | [_, _], _ => rfl

theorem b_nearest {K : PySem.W.Frag} {mg : Str → Option Value} (T : Txt K mg) : Binds K T.fd_nearest ["design", "world", "wanted"] [] := T.F_nearest.binds (ps := ["design", "world", "wanted"]) fun _ _ _ _ _ _ us hl => match us, hl with | [_, _, _], _ => rfl

theorem b_strongest {K : PySem.W.Frag} {mg : Str → Option Value} (T : Txt K mg) : Binds K T.fd_strongest ["world"] [] := T.F_strongest.binds (ps := ["world"]) fun _ _ _ _ _ _ us hl => match us, hl with | [_], _ => rfl

theorem b_harmless {K : PySem.W.Frag} {mg : Str → Option Value} (T : Txt K mg) : Binds K T.fd_harmless ["design", "world", "place"] [] := T.F_harmless.binds (ps := ["design", "world", "place"]) fun _ _ _ _ _ _ us hl => match us, hl with | [_, _, _], _ => rfl

theorem b_keeps_all {K : PySem.W.Frag} {mg : Str → Option Value} (T : Txt K mg) : Binds K T.fd_keeps_all ["design", "world", "wanted"] [] := T.F_keeps_all.binds (ps := ["design", "world", "wanted"]) fun _ _ _ _ _ _ us hl => match us, hl with | [_, _, _], _ => rfl

theorem b_changes {K : PySem.W.Frag} {mg : Str → Option Value} (T : Txt K mg) : Binds K T.fd_changes ["design", "other"] [] := T.F_changes.binds (ps := ["design", "other"]) fun _ _ _ _ _ _ us hl => match us, hl with | [_, _], _ => rfl

theorem b_is_proper_part {K : PySem.W.Frag} {mg : Str → Option Value} (T : Txt K mg) : Binds K T.fd_is_proper_part ["part", "whole"] [] := T.F_is_proper_part.binds (ps := ["part", "whole"]) fun _ _ _ _ _ _ us hl => match us, hl with | [_, _], _ => rfl

theorem b_changed {K : PySem.W.Frag} {mg : Str → Option Value} (T : Txt K mg) : Binds K T.fd_changed ["design", "place", "word"] [] := T.F_changed.binds (ps := ["design", "place", "word"]) fun _ _ _ _ _ _ us hl => match us, hl with | [_, _, _], _ => rfl

theorem b_Ltaken {K : PySem.W.Frag} {mg : Str → Option Value} (T : Txt K mg) : Binds K T.fd_Ltaken ["row", "many"] [] := T.F_Ltaken.binds (ps := ["row", "many"]) fun _ _ _ _ _ _ us hl => match us, hl with | [_, _], _ => rfl

theorem b_Lpick {K : PySem.W.Frag} {mg : Str → Option Value} (T : Txt K mg) : Binds K T.fd_Lpick ["row", "kinds"] [] := T.F_Lpick.binds (ps := ["row", "kinds"]) fun _ _ _ _ _ _ us hl => match us, hl with | [_, _], _ => rfl

theorem b_Lalike {K : PySem.W.Frag} {mg : Str → Option Value} (T : Txt K mg) : Binds K T.fd_Lalike ["found", "due"] [] := T.F_Lalike.binds (ps := ["found", "due"]) fun _ _ _ _ _ _ us hl => match us, hl with | [_, _], _ => rfl

theorem b_Lpaths {K : PySem.W.Frag} {mg : Str → Option Value} (T : Txt K mg) : Binds K T.fd_Lpaths [] [] := T.F_Lpaths.binds (ps := []) fun _ _ _ _ _ _ us hl => match us, hl with | [], _ => rfl

theorem b_Lpromises {K : PySem.W.Frag} {mg : Str → Option Value} (T : Txt K mg) : Binds K T.fd_Lpromises [] [] := T.F_Lpromises.binds (ps := []) fun _ _ _ _ _ _ us hl => match us, hl with | [], _ => rfl

theorem b_Lholds {K : PySem.W.Frag} {mg : Str → Option Value} (T : Txt K mg) : Binds K T.fd_Lholds ["design", "world", "promise"] [] := T.F_Lholds.binds (ps := ["design", "world", "promise"]) fun _ _ _ _ _ _ us hl => match us, hl with | [_, _, _], _ => rfl

theorem b_Lwords {K : PySem.W.Frag} {mg : Str → Option Value} (T : Txt K mg) : Binds K T.fd_Lwords ["row", "many"] [] := T.F_Lwords.binds (ps := ["row", "many"]) fun _ _ _ _ _ _ us hl => match us, hl with | [_, _], _ => rfl

theorem b_Ldesigns {K : PySem.W.Frag} {mg : Str → Option Value} (T : Txt K mg) : Binds K T.fd_Ldesigns [] [] := T.F_Ldesigns.binds (ps := []) fun _ _ _ _ _ _ us hl => match us, hl with | [], _ => rfl

theorem b_Lworlds {K : PySem.W.Frag} {mg : Str → Option Value} (T : Txt K mg) : Binds K T.fd_Lworlds [] [] := T.F_Lworlds.binds (ps := []) fun _ _ _ _ _ _ us hl => match us, hl with | [], _ => rfl

theorem b_Lkept {K : PySem.W.Frag} {mg : Str → Option Value} (T : Txt K mg) : Binds K T.fd_Lkept ["design", "world"] [] := T.F_Lkept.binds (ps := ["design", "world"]) fun _ _ _ _ _ _ us hl => match us, hl with | [_, _], _ => rfl

theorem b_Lkeeps {K : PySem.W.Frag} {mg : Str → Option Value} (T : Txt K mg) : Binds K T.fd_Lkeeps ["design", "world", "wanted"] [] := T.F_Lkeeps.binds (ps := ["design", "world", "wanted"]) fun _ _ _ _ _ _ us hl => match us, hl with | [_, _, _], _ => rfl

theorem b_law {K : PySem.W.Frag} {mg : Str → Option Value} (T : Txt K mg) : Binds K T.fd_law ["script"] [] := T.F_law.binds (ps := ["script"]) fun _ _ _ _ _ _ us hl => match us, hl with | [_], _ => rfl

/-! ### helpers -/
/-! rules whose reading names the written part: with that part outside, for a comprehension's block -/
section
variable {X : Cx} {K : PySem.W.Frag}
theorem op_inK (h : X.K = K) : OpR X (compareOp .In) (rIn K false) := h ▸ op_in_seq
theorem op_notInK (h : X.K = K) : OpR X (compareOp .NotIn) (rIn K true) := h ▸ op_notIn_seq
theorem ix_listK (h : X.K = K) : IxR X (rIxL K) := h ▸ ix_list
theorem ix_tupK (h : X.K = K) : IxR X (rIxT K) := h ▸ ix_tup
def lenK (K : PySem.W.Frag) : List V → Hp → VK → Prop := fun xs H Q => ∃ p ys, xs = [.ref p] ∧ (SqL K H p ys ∨ SqT K H p ys) ∧ Q (.int ys.length) H
theorem len_seqK (h : X.K = K) : CallR X (.builtin "len") (lenK K) := h ▸ call_len_seq
theorem isiK (h : X.K = K) : CallR X (.builtin "isinstance") (rIsi K) := h ▸ call_isi
theorem pe_fldK {e : Expr} {f : Str} {pos : Pos} {ta : TE} (h : X.K = K) (ha : PE X e ta) (hb : attributeBase e f X.env (eval e X.env) = eval e X.env) : PE X (.Attribute e f pos) (tFld K ta f) := h ▸ pe_fld ha hb
end
theorem dget {H : Hp} {a : Addr} {kvs : List (Key × V)} {x : Str} {v : V} (h : H a = some (.dK kvs)) (e : valV kvs (Sum.inr x) = some v) : DGet H a (.str x) (some v) := by
  rw [← e]
  exact DGet.k (k := Sum.inr x) h
theorem same_new {H : Hp} {p : Addr} {o : HO} (n : H p = none) : Same H (upd H p o) := fun b u e => by
  rw [upd_ne (ne_of_none e n)]
  exact e
theorem sN {H H1 : Hp} {p : Addr} {o : HO} (a : Same H H1) (n : H1 p = none) : Same H (upd H1 p o) := a.trans (same_new n)
theorem pget {α β : Type} {R : α → β → Prop} : ∀ {a : List α} {b : List β} {i : Nat} {x : α}, Paired R a b → a[i]? = some x → ∃ y, b[i]? = some y ∧ R x y
  | _, _, _, _, .nil, h => by simp at h
  | _, _, 0, _, .cons r _, h => by
    simp at h
    subst h
    exact ⟨_, rfl, r⟩
  | _, _, i + 1, _, .cons _ t, h => by
    obtain ⟨y, a, b⟩ := pget (i := i) t (by simpa using h)
    exact ⟨y, by simpa using a, b⟩
theorem small9 {n : Nat} (h : n ≤ 100 := by decide) : n < sizeLine := Nat.lt_of_le_of_lt h (by decide)
/-- what is not in F stands -/
def Keep (F : Addr → Prop) (H H' : Hp) : Prop := ∀ b o, H b = some o → ¬ F b → H' b = some o
theorem Keep.refl {F : Addr → Prop} {H : Hp} : Keep F H H := fun _ _ e _ => e
theorem Keep.trans {F : Addr → Prop} {H H1 H2 : Hp} (a : Keep F H H1) (b : Keep F H1 H2) : Keep F H H2 := fun c o e n => b c o (a c o e n) n
theorem Keep.new {F : Addr → Prop} {H H1 : Hp} {p : Addr} {o : HO} (a : Keep F H H1) (h : H1 p = none) : Keep F H (upd H1 p o) := fun c u e n => by
  have q := a c u e n
  rw [upd_ne (ne_of_none q h)]
  exact q
theorem Keep.put {F : Addr → Prop} {H H1 : Hp} {p : Addr} {o : HO} (a : Keep F H H1) (h : F p) : Keep F H (upd H1 p o) := fun c u e n => by
  have q := a c u e n
  rw [upd_ne (fun z => n (by rw [z]; exact h))]
  exact q
theorem Keep.mono {F G : Addr → Prop} {H H1 : Hp} (a : Keep F H H1) (h : ∀ b, F b → G b) : Keep G H H1 := fun c u e n => a c u e fun f => n (h c f)
theorem Keep.free {F : Addr → Prop} {H H1 : Hp} (a : Keep F H H1) {p : Addr} (h : H1 p = none) (n : ¬ F p) : H p = none := by
  cases q : H p with
  | none => rfl
  | some o =>
    rw [a p o q n] at h
    cases h
theorem Keep.same {F : Addr → Prop} {H0 H H1 : Hp} (a : Keep F H H1) (s : Same H0 H) (h : ∀ b, F b → H0 b = none) : Same H0 H1 := fun b o e => a b o (s b o e) fun f => by
  rw [h b f] at e
  cases e
end Ca

set_option Elab.async false
set_option linter.all false
set_option maxRecDepth 100000
set_option maxHeartbeats 4000000
namespace Ca
open PySem L2
/-! ### the row of draws: [script, place, mix, rest] -/
/-- what stands at a row: the script's list at a -/
def RowO (a : Addr) (o : HO) : Prop := ∃ i x y : Int, o = .lst [.ref a, .int i, .int x, .int y] ∧ 0 ≤ i ∧ 0 ≤ x ∧ x < 2147483647
/-- the row stands at r; ahead of it stood H0, the script at a in it -/
structure RowAt (K : PySem.W.Frag) (H0 : Hp) (a r : Addr) (H : Hp) : Prop where
  ex : ∃ ns : List Int, SqL K H0 a (ns.map V.int)
  no : H0 r = none
  sm : Same H0 H
  at_ : ∃ o, H r = some o ∧ RowO a o
theorem RowAt.put {K : PySem.W.Frag} {H0 H : Hp} {a r : Addr} {o : HO} (R : RowAt K H0 a r H) (h : RowO a o) : RowAt K H0 a r (upd H r o) := by
  refine ⟨R.ex, R.no, fun b u e => ?_, o, upd_same, h⟩
  rw [upd_ne (fun z => by rw [z, R.no] at e; cases e)]
  exact R.sm b u e
theorem RowAt.keep {K : PySem.W.Frag} {H0 H H' : Hp} {a r : Addr} {F : Addr → Prop} (R : RowAt K H0 a r H) (k : Keep F H H') (h : ∀ b, F b → H0 b = none) (hr : ¬ F r) : RowAt K H0 a r H' := by
  obtain ⟨o, e, q⟩ := R.at_
  exact ⟨R.ex, R.no, k.same R.sm h, o, k _ _ e hr, q⟩
/-- a draw below many: some number, the row turned, nothing else -/
@[irreducible] def spTaken (K : PySem.W.Frag) : Sp := fun vs H Q _ => ∃ (H0 : Hp) (a r : Addr) (m : Int), vs = [.ref r, .int m] ∧ RowAt K H0 a r H ∧ 0 < m ∧ m ≤ 1000 ∧ ∀ (k : Int) (o : HO), 0 ≤ k → k < m → RowO a o → Q (.int k) (upd H r o)
/-- a draw of one of some things -/
@[irreducible] def spPick (K : PySem.W.Frag) : Sp := fun vs H Q _ => ∃ (H0 : Hp) (a r l : Addr) (xs : List V), vs = [.ref r, .ref l] ∧ RowAt K H0 a r H ∧ H l = some (.lst xs) ∧ l ≠ r ∧ xs ≠ [] ∧ xs.length ≤ 1000 ∧ ∀ (x : V) (o : HO), x ∈ xs → RowO a o → Q x (upd H r o)
@[irreducible] def spPaths : Sp := fun vs H Q _ => vs = [] ∧ ∀ p, H p = none → Q (.ref p) (upd H p (.lst [.str "drop store", .str "drop store drop", .str "store", .str "store drop", .str "store set"]))
theorem taken_i {K : PySem.W.Frag} {H0 H : Hp} {a r : Addr} {m : Int} {Q : VK} {E : XK} (R : RowAt K H0 a r H) (m0 : 0 < m) (m1 : m ≤ 1000) (k : ∀ (k : Int) H', 0 ≤ k → k < m → RowAt K H0 a r H' → Keep (fun b => b = r) H H' → (∀ b, b ≠ r → H' b = H b) → Q (.int k) H') : spTaken K [.ref r, .int m] H Q E := by
  unfold spTaken
  exact ⟨H0, a, r, m, rfl, R, m0, m1, fun j o j0 j1 ro => k j _ j0 j1 (R.put ro) (Keep.refl.put rfl) fun b h => upd_ne h⟩
theorem pick_i {K : PySem.W.Frag} {H0 H : Hp} {a r l : Addr} {Q : VK} {E : XK} (xs : List V) (R : RowAt K H0 a r H) (hl : H l = some (.lst xs)) (n : l ≠ r) (h0 : xs ≠ []) (h1 : xs.length ≤ 1000) (k : ∀ x H', x ∈ xs → RowAt K H0 a r H' → Keep (fun b => b = r) H H' → Q x H') :
    spPick K [.ref r, .ref l] H Q E := by
  unfold spPick
  exact ⟨H0, a, r, l, xs, rfl, R, hl, n, h0, h1, fun x o m ro => k x _ m (R.put ro) (Keep.refl.put rfl)⟩
theorem paths_i {H : Hp} {Q : VK} {E : XK} (k : ∀ p, H p = none → Q (.ref p) (upd H p (.lst [.str "drop store", .str "drop store drop", .str "store", .str "store drop", .str "store set"]))) : spPaths [] H Q E := by
  unfold spPaths
  exact ⟨rfl, k⟩
section
variable {P : Program} {w : World} {K : PySem.W.Frag} {mg : Str → Option Value} {base : Heap}
theorem big18 : ((10 : Int) ^ (18 : Int).toNat) = 1000000000000000000 := by decide
theorem ok_Ltaken (T : Txt K mg) : FnOk P w K mg base CX0 1 T.f_Ltaken T.fd_Ltaken ["row", "many"] (spTaken K) := by
  refine T.F_Ltaken.ok sc_Ltaken (fun vs H Q E h => ?_) (fun cdv A outer s H vs Q E hr h => ?_)
  · unfold spTaken at h
    obtain ⟨H0, a, r, m, rfl, _⟩ := h
    rfl
  · unfold spTaken at h
    obtain ⟨H0, a, r, m, rfl, R, m0, m1, k⟩ := h
    have hu := hu_of hr
    obtain ⟨o, ho, i, x, y, rfl, i0, x0, x1⟩ := id R.at_
    refine ⟨_, (pss_cons (ps_if (pt_cmpR op_gt (pe_ix ix_list (pv 0) pe_int (fun _ _ => rfl)) pe_int (nomark _)) (pss_cons (ps_set (i := 2) sc_Ltaken.nd rfl (Or.inl rfl) (pe_op op_modN (pe_callTy call_int1 (by rfl) T.n_int (by decide +kernel) (pa_cons (pe_ix ix_list (pv 0) pe_int (fun _ _ => rfl)) pa_nil)) (pv 1)))
      (pss_cons (ps_asg (pe_op op_fdivN (pe_ix ix_list (pv 0) pe_int (fun _ _ => rfl)) (pv 1)) (pg_sub (pv 0) pe_int set_list))
      (pss_one (ps_ret (pv 2))))) pss_nil)
      (pss_cons (ps_asg (pe_op op_add (pe_ix ix_list (pv 0) pe_int (fun _ _ => rfl)) pe_int) (pg_sub (pv 0) pe_int set_list))
      (pss_cons (ps_if (pt_cmpR op_gt (pe_ix ix_list (pv 0) pe_int (fun _ _ => rfl)) (pe_callB call_len_seq (by rfl) T.n_len (by decide +kernel) (pa_cons (pe_ix ix_list (pv 0) pe_int (fun _ _ => rfl)) pa_nil)) (nomark _)) (pss_cons (ps_asg (pe_op op_modN (pe_callTy call_int1 (by rfl) T.n_int (by decide +kernel) (pa_cons (pe_op op_add (pe_op op_mul (pe_ix ix_list (pv 0) pe_int (fun _ _ => rfl)) pe_int) pe_int) pa_nil)) pe_int) (pg_sub (pv 0) pe_int set_list))
      (pss_one (ps_ret (pe_op op_modN (pe_callTy call_int1 (by rfl) T.n_int (by decide +kernel) (pa_cons (pe_op op_fdivN (pe_ix ix_list (pv 0) pe_int (fun _ _ => rfl)) pe_int) pa_nil)) (pv 1))))) pss_nil)
      (pss_cons (ps_set (i := 3) sc_Ltaken.nd rfl (Or.inl rfl) (pe_ix ix_list (pe_ix ix_list (pv 0) pe_int (fun _ _ => rfl)) (pe_op op_sub (pe_ix ix_list (pv 0) pe_int (fun _ _ => rfl)) pe_int) (fun _ _ => rfl)))
      (pss_cons (ps_asg (pe_op op_modN (pe_callTy call_int1 (by rfl) T.n_int (by decide +kernel) (pa_cons (pe_op op_add (pe_op op_add (pe_op op_mul (pe_ix ix_list (pv 0) pe_int (fun _ _ => rfl)) pe_int) (pv 3)) pe_int) pa_nil)) pe_int) (pg_sub (pv 0) pe_int set_list))
      (pss_cons (ps_if (pt_cmpR op_ge (pv 3) (pe_op op_pow pe_int pe_int) (nomark _)) (pss_one (ps_asg (pe_op op_fdivN (pv 3) (pv 1)) (pg_sub (pv 0) pe_int set_list))) pss_nil)
      (pss_one (ps_ret (pe_op op_modN (pe_callTy call_int1 (by rfl) T.n_int (by decide +kernel) (pa_cons (pv 3) pa_nil)) (pv 1)))))))))), ?_⟩
    refine ⟨_, rfl, _, _, _, _, rfl, rfl, SqL.of (ho), rfl, _, _, rfl, rfl, _, rfl, ?_⟩
    refine ite2 (fun hy => ?_) (fun hy => ?_)
    · have hy := of_decide_eq_true hy
      refine ⟨_, rfl, _, _, _, _, rfl, rfl, SqL.of (ho), rfl, .inl ⟨_, rfl, _, rfl, _, _, rfl, rfl, (by omega), ?_⟩⟩
      refine ⟨_, rfl, _, _, _, _, rfl, rfl, SqL.of (ho), rfl, _, rfl, _, _, rfl, rfl, ⟨by omega, by omega⟩, _, rfl, _, _, _, _, rfl, rfl, ho, rfl, ?_⟩
      refine ⟨_, rfl, ?_⟩
      exact k _ _ (Int.fmod_nonneg_of_pos _ m0) (Int.fmod_lt_of_pos _ m0) ⟨_, _, _, rfl, i0, x0, x1⟩
    · refine ⟨_, rfl, _, _, _, _, rfl, rfl, SqL.of (ho), rfl, _, _, rfl, rfl, _, rfl, _, _, _, _, rfl, rfl, ho, rfl, ?_⟩
      have h1 := upd_same (H := H) (a := r) (o := .lst [.ref a, .int (i + 1), .int x, .int y])
      have R1 : RowAt K H0 a r (upd H r (.lst [.ref a, .int (i + 1), .int x, .int y])) := R.put ⟨_, _, _, rfl, by omega, x0, x1⟩
      obtain ⟨ns, hs⟩ := R.ex
      have hS := R1.sm.seq hs
      refine ⟨_, rfl, _, _, _, _, rfl, rfl, SqL.of (h1), rfl, _, rfl, _, _, _, _, rfl, rfl, SqL.of (h1), rfl, a, ns.map V.int, rfl, .inl hS, _, _, rfl, rfl, _, rfl, ?_⟩
      refine ite2 (fun hi => ?_) (fun hi => ?_)
      · refine ⟨_, rfl, _, _, _, _, rfl, rfl, SqL.of (h1), rfl, _, _, rfl, rfl, .inl ⟨by omega, by omega⟩, _, _, rfl, rfl, .inl ⟨_, rfl, ?_⟩⟩
        refine ⟨_, _, rfl, rfl, (by show (2147483647 : Int) ≠ 0; decide), _, rfl, _, _, _, _, rfl, rfl, h1, rfl, ?_⟩
        have h2 := upd_same (H := upd H r (.lst [.ref a, .int (i + 1), .int x, .int y])) (a := r) (o := .lst [.ref a, .int (i + 1), .int ((x * 48271 + 11).fmod 2147483647), .int y])
        refine ⟨_, rfl, _, _, _, _, rfl, rfl, SqL.of (h2), rfl, _, _, rfl, rfl, ⟨by decide, by decide⟩, .inl ⟨_, rfl, _, rfl, _, _, rfl, rfl, (by omega), ?_⟩⟩
        rw [upd_upd]
        exact k _ _ (Int.fmod_nonneg_of_pos _ m0) (Int.fmod_lt_of_pos _ m0) ⟨_, _, _, rfl, by omega, Int.fmod_nonneg_of_pos _ (by decide), Int.fmod_lt_of_pos _ (by decide)⟩
      · have hi : ¬ ((ns.map V.int).length : Int) < i + 1 := of_decide_eq_false (by simpa using hi)
        have hlt : i.toNat < ns.length := by
          rw [List.length_map] at hi
          omega
        have hget : (ns.map V.int)[i.toNat]? = some (V.int (ns[i.toNat]'hlt)) := by
          rw [List.getElem?_map, List.getElem?_eq_getElem hlt]
          rfl
        refine ⟨_, rfl, _, _, _, _, rfl, rfl, SqL.of (h1), rfl, _, rfl, _, _, _, _, rfl, rfl, SqL.of (h1), rfl, _, _, rfl, rfl, a, ns.map V.int, _, _, rfl, rfl, hS, at_of (j := i.toNat) (by omega) hget, ?_⟩
        generalize ns[i.toNat]'hlt = c
        refine ⟨_, rfl, _, _, _, _, rfl, rfl, SqL.of (h1), rfl, _, _, rfl, rfl, .inl ⟨by omega, by omega⟩, _, rfl, _, _, rfl, rfl, _, _, rfl, rfl, .inl ⟨_, rfl, ?_⟩⟩
        refine ⟨_, _, rfl, rfl, (by show (2147483647 : Int) ≠ 0; decide), _, rfl, _, _, _, _, rfl, rfl, h1, rfl, ?_⟩
        refine ⟨_, rfl, _, _, rfl, rfl, ⟨by decide, by decide, by decide⟩, _, _, rfl, rfl, _, rfl, ?_⟩
        refine ite2 (fun hc => ?_) (fun hc => ?_)
        · refine ⟨_, rfl, _, rfl, _, _, rfl, rfl, ⟨by omega, by omega⟩, _, rfl, _, _, _, _, rfl, rfl, upd_same, rfl, ?_⟩
          refine ⟨_, rfl, .inl ⟨_, rfl, _, rfl, _, _, rfl, rfl, (by omega), ?_⟩⟩
          rw [upd_upd, upd_upd]
          exact k _ _ (Int.fmod_nonneg_of_pos _ m0) (Int.fmod_lt_of_pos _ m0) ⟨_, _, _, rfl, by omega, Int.fmod_nonneg_of_pos _ (by decide), Int.fmod_lt_of_pos _ (by decide)⟩
        · refine ⟨_, rfl, .inl ⟨_, rfl, _, rfl, _, _, rfl, rfl, (by omega), ?_⟩⟩
          rw [upd_upd]
          exact k _ _ (Int.fmod_nonneg_of_pos _ m0) (Int.fmod_lt_of_pos _ m0) ⟨_, _, _, rfl, by omega, Int.fmod_nonneg_of_pos _ (by decide), Int.fmod_lt_of_pos _ (by decide)⟩
theorem ok_Lpick (T : Txt K mg) : FnOk P w K mg base CX0 2 T.f_Lpick T.fd_Lpick ["row", "kinds"] (spPick K) := by
  refine T.F_Lpick.ok sc_Lpick (fun vs H Q E h => ?_) (fun cdv A outer s H vs Q E hr h => ?_)
  · unfold spPick at h
    obtain ⟨H0, a, r, l, xs, rfl, _⟩ := h
    rfl
  · unfold spPick at h
    obtain ⟨H0, a, r, l, xs, rfl, R, hl, nlr, ne, hn, k⟩ := h
    refine ⟨_, (pss_one (ps_ret (pe_ix ix_list (pv 1) (pe_call (ok_Ltaken T) (hr.mono (by decide)) rfl T.m_Ltaken T.F_Ltaken.kp (b_Ltaken T) .nil pass0 (pa_cons (pv 0) (pa_cons (pe_callB call_len_seq (by rfl) T.n_len (by decide +kernel) (pa_cons (pv 1) pa_nil)) pa_nil))) (fun _ _ => rfl)))), ?_⟩
    have hp : 0 < xs.length := List.length_pos_iff.mpr ne
    refine ⟨_, rfl, _, rfl, _, rfl, l, xs, rfl, .inl (SqL.of hl), ?_⟩
    have ht : ∀ Q' E', (∀ (j : Int) (o : HO), 0 ≤ j → j < (xs.length : Int) → RowO a o → Q' (.int j) (upd H r o)) → spTaken K [.ref r, .int (xs.length : Int)] H Q' E' := fun Q' E' k' => by
      unfold spTaken
      exact ⟨H0, a, r, _, rfl, R, by omega, by omega, k'⟩
    refine ht _ _ fun j o j0 j1 ro => ?_
    have hlt : j.toNat < xs.length := by omega
    have h2 : (upd H r o) l = some (.lst xs) := by rw [upd_ne nlr]; exact hl
    refine ⟨l, xs, j, xs[j.toNat], rfl, rfl, SqL.of h2, at_of (j := j.toNat) (by omega) (List.getElem?_eq_getElem hlt), ?_⟩
    exact k _ _ (List.getElem_mem hlt) ro
theorem ok_Lpaths (T : Txt K mg) : FnOk P w K mg base CX0 1 T.f_Lpaths T.fd_Lpaths [] (spPaths) := by
  refine T.F_Lpaths.ok sc_Lpaths (fun vs H Q E h => ?_) (fun cdv A outer s H vs Q E hr h => ?_)
  · unfold spPaths at h
    obtain ⟨rfl, _⟩ := h
    rfl
  · unfold spPaths at h
    obtain ⟨rfl, k⟩ := h
    refine ⟨_, (pss_one (ps_ret (pe_lst (pa_cons pe_str (pa_cons pe_str (pa_cons pe_str (pa_cons pe_str (pa_cons pe_str pa_nil)))))))), ?_⟩
    exact ⟨by show 5 ≤ sizeLine; decide, fun p hp => k p hp⟩
end
def pathsL : List Str := ["drop store", "drop store drop", "store", "store drop", "store set"]
def guardsL : List Str := ["always", "empty", "mark", "never", "newer", "token"]
def flightsL : List Str := ["alone", "shared"]
/-- a design's three words, a world's three -/
structure Conf where
  path : Str
  guard : Str
  flight : Str
  source : Str
  evict : Str
  stop : Str
structure Conf.Ok (c : Conf) : Prop where
  p : c.path ∈ pathsL
  g : c.guard ∈ guardsL
  f : c.flight ∈ flightsL
  s : c.source = "primary" ∨ c.source = "replica"
  e : c.evict = "evicts" ∨ c.evict = "keeps"
  t : c.stop = "finishes" ∨ c.stop = "stops"
section
variable {P : Program} {w : World} {K : PySem.W.Frag} {mg : Str → Option Value} {base : Heap}
theorem RowAt.ne {H0 H : Hp} {a r p : Addr} (R : RowAt K H0 a r H) (h : H p = none) : p ≠ r := fun z => by
  obtain ⟨o, e, _⟩ := R.at_
  rw [← z, h] at e
  cases e
theorem RowAt.new {H0 H : Hp} {a r p : Addr} {o : HO} (R : RowAt K H0 a r H) (h : H p = none) : RowAt K H0 a r (upd H p o) :=
  R.keep (F := fun _ => False) (Keep.new .refl h) (fun _ z => z.elim) id
theorem pick_lst {H0 H : Hp} {a r l : Addr} {Q : VK} {E : XK} (R : RowAt K H0 a r H) (n : H l = none) (xs : List V) (h0 : xs ≠ []) (h1 : xs.length ≤ 1000) (k : ∀ x H', x ∈ xs → RowAt K H0 a r H' → Keep (fun b => b = r) H H' → Q x H') :
    spPick K [.ref r, .ref l] (upd H l (.lst xs)) Q E := by
  unfold spPick
  exact ⟨H0, a, r, l, xs, rfl, R.new n, upd_same, R.ne n, h0, h1, fun x o m ro => k x _ m ((R.new n).put ro) ((Keep.refl.new n).put rfl)⟩
end
abbrev dT (c : Conf) : HO := .tup [.str c.path, .str c.guard, .str c.flight]
abbrev wT (c : Conf) : HO := .tup [.str c.source, .str c.evict, .str c.stop]
end Ca

set_option Elab.async false
set_option linter.all false
set_option maxRecDepth 100000
set_option maxHeartbeats 4000000
namespace Ca
open PySem L2
theorem ix_seqK {X : Cx} {K : PySem.W.Frag} (h : X.K = K) : IxR X (rIx K) := h ▸ ix_seq
theorem iteP {c : Bool} {A B : Prop} (h : c = true) (a : A) : if c = true then A else B := by
  rw [if_pos h]
  exact a
theorem iteQ {c : Bool} {A B : Prop} (h : c = false) (b : B) : if c = true then A else B := by
  rw [h]
  exact iteF b
/-! ### data at a bounded depth, tracked -/
def Dt (H : Hp) : Nat → V → PyData → Prop
  | n + 1, .ref a, .tuple ds => ∃ xs, H a = some (.tup xs) ∧ xs.length ≤ 1000 ∧ Paired (Dt H n) xs ds
  | n + 1, .ref a, .list ds => ∃ xs, H a = some (.lst xs) ∧ xs.length ≤ 1000 ∧ Paired (Dt H n) xs ds
  | _, .non, .none => True
  | _, .bl b, .bool c => b = c
  | _, .int i, .int j => i = j
  | _, .str x, .str y => x = y
  | _, _, _ => False
theorem Dt.same {H H' : Hp} (S : Same H H') : ∀ {n : Nat} {x : V} {d : PyData}, Dt H n x d → Dt H' n x d
  | 0, x, d, h => by
    cases x <;> cases d <;> first | exact h | (simp [Dt] at h)
  | n + 1, x, d, h => by
    cases x <;> cases d <;> first | exact h | skip
    · obtain ⟨xs, a, b, r⟩ := (show ∃ xs, _ from h)
      exact (show ∃ xs, _ from ⟨xs, S _ _ a, b, Paired.mapP r fun _ _ z => Dt.same S z⟩)
    · obtain ⟨xs, a, b, r⟩ := (show ∃ xs, _ from h)
      exact (show ∃ xs, _ from ⟨xs, S _ _ a, b, Paired.mapP r fun _ _ z => Dt.same S z⟩)
inductive DtC (H : Hp) : Nat → V → PyData → Prop where
  | non (n : Nat) : DtC H n .non .none
  | bl (n : Nat) (b : Bool) : DtC H n (.bl b) (.bool b)
  | int (n : Nat) (i : Int) : DtC H n (.int i) (.int i)
  | str (n : Nat) (x : Str) : DtC H n (.str x) (.str x)
  | tup (n : Nat) (a : Addr) (xs : List V) (ds : List PyData) (h : H a = some (.tup xs)) (l : xs.length ≤ 1000) (r : Paired (Dt H n) xs ds) : DtC H (n + 1) (.ref a) (.tuple ds)
  | lst (n : Nat) (a : Addr) (xs : List V) (ds : List PyData) (h : H a = some (.lst xs)) (l : xs.length ≤ 1000) (r : Paired (Dt H n) xs ds) : DtC H (n + 1) (.ref a) (.list ds)
theorem Dt.c {H : Hp} : ∀ {n : Nat} {x : V} {d : PyData}, Dt H n x d → DtC H n x d
  | 0, x, d, h => by
    cases x <;> cases d <;> simp [Dt] at h
    · exact .non _
    · subst h; exact .bl _ _
    · subst h; exact .int _ _
    · subst h; exact .str _ _
  | n + 1, x, d, h => by
    cases x <;> cases d <;> simp [Dt] at h
    · exact .non _
    · subst h; exact .bl _ _
    · subst h; exact .int _ _
    · subst h; exact .str _ _
    · obtain ⟨xs, a, b, r⟩ := h
      exact .lst _ _ _ _ a b r
    · obtain ⟨xs, a, b, r⟩ := h
      exact .tup _ _ _ _ a b r
def tyN : PyData → String
  | .none => "NoneType"
  | .bool _ => "bool"
  | .int _ => "int"
  | .str _ => "str"
  | .list _ => "list"
  | .tuple _ => "tuple"
  | .dict _ => "dict"
theorem dtc_ty {K : PySem.W.Frag} {H : Hp} {n : Nat} {x : V} {d : PyData} (h : DtC H n x d) : TyX K H x (.type (tyN d)) := by
  cases h with
  | non => exact .base .non
  | bl _ b => exact .base (.bl b)
  | int _ i => exact .base (.int i)
  | str _ x => exact .base (.str x)
  | tup _ a xs ds h l r => exact .base (.tup h)
  | lst _ a xs ds h l r => exact .base (.lst h)
theorem tyx_same {K : PySem.W.Frag} {H H' : Hp} {n : Nat} {x : V} {d : PyData} (h : DtC H n x d) (S : Same H H') : TyX K H' x (.type (tyN d)) := by
  cases h with
  | non => exact .base .non
  | bl _ b => exact .base (.bl b)
  | int _ i => exact .base (.int i)
  | str _ x => exact .base (.str x)
  | tup _ a xs ds h l r => exact .base (.tup (S _ _ h))
  | lst _ a xs ds h l r => exact .base (.lst (S _ _ h))
def isB (T : String) (d : PyData) : Bool := match d with
  | .none => false
  | .bool _ => T == "bool" || T == "int"
  | .int _ => T == "int"
  | .str _ => T == "str"
  | .list _ => T == "list"
  | .tuple _ => T == "tuple"
  | .dict _ => false
theorem kit_d {K : PySem.W.Frag} {H : Hp} {n : Nat} {x : V} {d : PyData} (h : DtC H n x d) (T : String) (hT : T = "list" ∨ T = "tuple" ∨ T = "str" ∨ T = "int" ∨ T = "bool") : PySem.W.kitOne K (.type (tyN d)) (.type T) = some (isB T d) := by
  refine kit_ty ?_
  rcases hT with e | e | e | e | e <;> subst e <;> cases h <;> simp only [tyN, isB] <;> decide +kernel
theorem kit_tl {K : PySem.W.Frag} {H : Hp} {n : Nat} {x : V} {d : PyData} (h : DtC H n x d) : PySem.W.kitAny K (.type (tyN d)) [.type "tuple", .type "list"] = some (isB "tuple" d || isB "list" d) := by
  refine kitAny_cons (kit_d h "tuple" (by simp)) (fun e => ?_) (fun e => by rw [e]; rfl)
  rw [e, Bool.false_or]
  refine kitAny_cons (kit_d h "list" (by simp)) (fun e => ?_) (fun e => e)
  rw [e]
  rfl
@[irreducible] def spAlike (n : Nat) : Sp := fun vs H Q _ => ∃ (x y : V) (d : PyData), vs = [x, y] ∧ Dt H n x d ∧ Dt H n y d ∧ ∀ H', Same H H' → Q (.bl true) H'
theorem alike_i {n : Nat} {x y : V} {d : PyData} {H : Hp} {Q : VK} {E : XK} (h1 : Dt H n x d) (h2 : Dt H n y d) (q : ∀ H', Same H H' → Q (.bl true) H') : spAlike n [x, y] H Q E := by
  unfold spAlike
  exact ⟨x, y, d, rfl, h1, h2, q⟩
section
variable {P : Program} {w : World} {K : PySem.W.Frag} {mg : Str → Option Value} {base : Heap}
/-- the two tests behind the lists and tuples: for what is neither -/
theorem alike_tail (T : Txt K mg) : True := trivial
theorem ok_alike0 (T : Txt K mg) : FnOk P w K mg base CX0 1 T.f_Lalike T.fd_Lalike ["found", "due"] (spAlike 0) := by
  refine T.F_Lalike.ok sc_Lalike (fun vs H Q E h => ?_) (fun cdv A outer s H vs Q E hr h => ?_)
  · unfold spAlike at h
    obtain ⟨x, y, d, rfl, _⟩ := h
    rfl
  · unfold spAlike at h
    obtain ⟨x, y, d, rfl, h1, h2, q⟩ := h
    have c1 := h1.c
    have c2 := h2.c
    refine ⟨_, (pss_cons (ps_if (pt_val (pe_callB call_isiT (by rfl) T.n_isinstance (by decide +kernel) (pa_cons (pv 1) (pa_cons (pe_tup (pa_cons (pe_bltn (v := .ty "tuple") (by rfl) T.n_tuple (by decide +kernel) rfl) (pa_cons (pe_bltn (v := .ty "list") (by rfl) T.n_list (by decide +kernel) rfl) pa_nil))) pa_nil)))) (pss_cons ps_never
      (pss_cons ps_never
      (pss_one ps_never))) pss_nil)
      (pss_cons (ps_if (PW.pt (pw_or (pt_cmpR op_isN (pv 1) pe_non (nomark _)) (pw_or1 (pt_val (pe_callB call_isi (by rfl) T.n_isinstance (by decide +kernel) (pa_cons (pv 1) (pa_cons (pe_bltn (v := .ty "str") (by rfl) T.n_str (by decide +kernel) rfl) pa_nil))))))) (pss_one (ps_ret (pe_and (pe_cmpR op_eq (pv 0) (pv 1) (nomark _)) (pe_one (pe_cmpR op_eq (pe_callB call_isi (by rfl) T.n_isinstance (by decide +kernel) (pa_cons (pv 0) (pa_cons (pe_bltn (v := .ty "str") (by rfl) T.n_str (by decide +kernel) rfl) pa_nil))) (pe_callB call_isi (by rfl) T.n_isinstance (by decide +kernel) (pa_cons (pv 1) (pa_cons (pe_bltn (v := .ty "str") (by rfl) T.n_str (by decide +kernel) rfl) pa_nil))) (nomark _)))))) pss_nil)
      (pss_one (ps_ret (pe_and (pe_callB call_isi (by rfl) T.n_isinstance (by decide +kernel) (pa_cons (pv 0) (pa_cons (pe_bltn (v := .ty "int") (by rfl) T.n_int (by decide +kernel) rfl) pa_nil))) (pe_and (pe_cmpR op_eq (pe_callB call_isi (by rfl) T.n_isinstance (by decide +kernel) (pa_cons (pv 0) (pa_cons (pe_bltn (v := .ty "bool") (by rfl) T.n_bool (by decide +kernel) rfl) pa_nil))) (pe_callB call_isi (by rfl) T.n_isinstance (by decide +kernel) (pa_cons (pv 1) (pa_cons (pe_bltn (v := .ty "bool") (by rfl) T.n_bool (by decide +kernel) rfl) pa_nil))) (nomark _)) (pe_one (pe_cmpR op_eq (pv 0) (pv 1) (nomark _))))))))), ?_⟩
    refine ⟨_, rfl, (by show 2 ≤ sizeLine; decide), fun p np => ⟨_, _, _, _, _, _, rfl, upd_same, .cons (.ty _) (.cons (.ty _) .nil), tyx_same c2 (same_new np), kit_tl c2, _, rfl, ?_⟩⟩
    have S1 := same_new (o := .tup [.ty "tuple", .ty "list"]) np
    generalize upd H p (.tup [.ty "tuple", .ty "list"]) = H1 at S1
    have sq : (isB "tuple" d || isB "list" d) = false := by cases c2 <;> rfl
    rw [sq]
    refine iteF ?_
    cases c1 with
    | non =>
      cases c2
      refine ⟨_, rfl, rfl, _, rfl, ?_⟩
      refine iteP rfl ?_
      refine ⟨_, rfl, _, rfl, rfl, _, rfl, ?_⟩
      refine iteT ?_
      refine ⟨_, rfl, _, _, _, _, false, rfl, .ty _, .base .non, kit_ty (by decide +kernel), _, rfl, _, _, _, _, false, rfl, .ty _, .base .non, kit_ty (by decide +kernel), rfl, ?_⟩
      exact q _ S1
    | str _ z =>
      cases c2
      refine ⟨_, rfl, rfl, _, rfl, ?_⟩
      refine iteQ rfl ?_
      refine ⟨_, rfl, _, _, _, _, true, rfl, .ty _, .base (.str z), kit_ty (by decide +kernel), _, rfl, ?_⟩
      refine iteT ?_
      refine ⟨_, rfl, _, rfl, rfl, _, rfl, ?_⟩
      rw [decide_eq_true (rfl : V.str z = V.str z)]
      refine iteT ?_
      refine ⟨_, rfl, _, _, _, _, true, rfl, .ty _, .base (.str z), kit_ty (by decide +kernel), _, rfl, _, _, _, _, true, rfl, .ty _, .base (.str z), kit_ty (by decide +kernel), rfl, ?_⟩
      exact q _ S1
    | int _ z =>
      cases c2
      refine ⟨_, rfl, rfl, _, rfl, ?_⟩
      refine iteQ rfl ?_
      refine ⟨_, rfl, _, _, _, _, false, rfl, .ty _, .base (.int z), kit_ty (by decide +kernel), _, rfl, ?_⟩
      refine iteF ?_
      refine ⟨_, rfl, _, _, _, _, true, rfl, .ty _, .base (.int z), kit_ty (by decide +kernel), _, rfl, ?_⟩
      refine iteT ?_
      refine ⟨_, rfl, _, _, _, _, false, rfl, .ty _, .base (.int z), kit_ty (by decide +kernel), _, rfl, _, _, _, _, false, rfl, .ty _, .base (.int z), kit_ty (by decide +kernel), rfl, _, rfl, ?_⟩
      refine iteP rfl ?_
      refine ⟨_, rfl, _, rfl, rfl, ?_⟩
      show Q (.bl (decide (V.int z = V.int z))) H1
      rw [decide_eq_true (rfl : V.int z = V.int z)]
      exact q _ S1
    | bl _ z =>
      cases c2
      refine ⟨_, rfl, rfl, _, rfl, ?_⟩
      refine iteQ rfl ?_
      refine ⟨_, rfl, _, _, _, _, false, rfl, .ty _, .base (.bl z), kit_ty (by decide +kernel), _, rfl, ?_⟩
      refine iteF ?_
      refine ⟨_, rfl, _, _, _, _, true, rfl, .ty _, .base (.bl z), kit_ty (by decide +kernel), _, rfl, ?_⟩
      refine iteT ?_
      refine ⟨_, rfl, _, _, _, _, true, rfl, .ty _, .base (.bl z), kit_ty (by decide +kernel), _, rfl, _, _, _, _, true, rfl, .ty _, .base (.bl z), kit_ty (by decide +kernel), rfl, _, rfl, ?_⟩
      refine iteP rfl ?_
      refine ⟨_, rfl, _, rfl, rfl, ?_⟩
      show Q (.bl (decide (V.bl z = V.bl z))) H1
      rw [decide_eq_true (rfl : V.bl z = V.bl z)]
      exact q _ S1
theorem ok_alike (n : Nat) : ∀ (T : Txt K mg), FnOk P w K mg base CX0 (n + 1) T.f_Lalike T.fd_Lalike ["found", "due"] (spAlike n) := by
  induction n with
  | zero => exact ok_alike0
  | succ n ih =>
    intro T
    refine T.F_Lalike.ok sc_Lalike (fun vs H Q E h => ?_) (fun cdv A outer s H vs Q E hr h => ?_)
    · unfold spAlike at h
      obtain ⟨x, y, d, rfl, _⟩ := h
      rfl
    · unfold spAlike at h
      obtain ⟨x, y, d, rfl, h1, h2, q⟩ := h
      have c1 := h1.c
      have c2 := h2.c
      refine ⟨_, (pss_cons (ps_if (pt_val (pe_callB call_isiT (by rfl) T.n_isinstance (by decide +kernel) (pa_cons (pv 1) (pa_cons (pe_tup (pa_cons (pe_bltn (v := .ty "tuple") (by rfl) T.n_tuple (by decide +kernel) rfl) (pa_cons (pe_bltn (v := .ty "list") (by rfl) T.n_list (by decide +kernel) rfl) pa_nil))) pa_nil)))) (pss_cons (ps_if (PW.pt (pw_or (pt_not (pt_val (pe_callB call_isiT (by rfl) T.n_isinstance (by decide +kernel) (pa_cons (pv 0) (pa_cons (pe_tup (pa_cons (pe_bltn (v := .ty "tuple") (by rfl) T.n_tuple (by decide +kernel) rfl) (pa_cons (pe_bltn (v := .ty "list") (by rfl) T.n_list (by decide +kernel) rfl) pa_nil))) pa_nil))))) (pw_or1 (pt_cmpR op_ne (pe_callB call_isi (by rfl) T.n_isinstance (by decide +kernel) (pa_cons (pv 0) (pa_cons (pe_bltn (v := .ty "list") (by rfl) T.n_list (by decide +kernel) rfl) pa_nil))) (pe_callB call_isi (by rfl) T.n_isinstance (by decide +kernel) (pa_cons (pv 1) (pa_cons (pe_bltn (v := .ty "list") (by rfl) T.n_list (by decide +kernel) rfl) pa_nil))) (nomark _))))) (pss_one (ps_ret pe_bl)) pss_nil)
      (pss_cons (ps_if (pt_cmpR op_ne (pe_callB call_len_seq (by rfl) T.n_len (by decide +kernel) (pa_cons (pv 0) pa_nil)) (pe_callB call_len_seq (by rfl) T.n_len (by decide +kernel) (pa_cons (pv 1) pa_nil)) (nomark _)) (pss_one (ps_ret pe_bl)) pss_nil)
      (pss_one (ps_ret (pe_cmpR (op_eqD hr.units) (pe_lc (own := [("k", 2)]) rfl sc_Lalike.nd (pi_range1 rfl T.n_range (pa_cons (pe_callB call_len_seq (by rfl) T.n_len (by decide +kernel) (pa_cons (pv 1) pa_nil)) pa_nil)) (blkOk_by (N := ["found", "due", "k"]) (sc := defScope s_Lalike) (by decide +kernel)) (fun _ _ _ _ _ => (pg_name (i := 2) sc_Lalike.nd rfl (Or.inl rfl))) (fun _ _ _ _ _ => (pts_one (pt_not (pt_val (pe_call (ih T) hr rfl T.m_Lalike T.F_Lalike.kp (b_Lalike T) .nil pass0 (pa_cons (pe_ix (ix_seqK (K := K) rfl) (pv 0) (pv 2) (fun _ _ => rfl)) (pa_cons (pe_ix (ix_seqK (K := K) rfl) (pv 1) (pv 2) (fun _ _ => rfl)) pa_nil))))))) (fun _ _ _ _ _ => (pv 2))) (pe_lst pa_nil) (nomark _)))))) pss_nil)
      (pss_cons (ps_if (PW.pt (pw_or (pt_cmpR op_isN (pv 1) pe_non (nomark _)) (pw_or1 (pt_val (pe_callB call_isi (by rfl) T.n_isinstance (by decide +kernel) (pa_cons (pv 1) (pa_cons (pe_bltn (v := .ty "str") (by rfl) T.n_str (by decide +kernel) rfl) pa_nil))))))) (pss_one (ps_ret (pe_and (pe_cmpR op_eq (pv 0) (pv 1) (nomark _)) (pe_one (pe_cmpR op_eq (pe_callB call_isi (by rfl) T.n_isinstance (by decide +kernel) (pa_cons (pv 0) (pa_cons (pe_bltn (v := .ty "str") (by rfl) T.n_str (by decide +kernel) rfl) pa_nil))) (pe_callB call_isi (by rfl) T.n_isinstance (by decide +kernel) (pa_cons (pv 1) (pa_cons (pe_bltn (v := .ty "str") (by rfl) T.n_str (by decide +kernel) rfl) pa_nil))) (nomark _)))))) pss_nil)
      (pss_one (ps_ret (pe_and (pe_callB call_isi (by rfl) T.n_isinstance (by decide +kernel) (pa_cons (pv 0) (pa_cons (pe_bltn (v := .ty "int") (by rfl) T.n_int (by decide +kernel) rfl) pa_nil))) (pe_and (pe_cmpR op_eq (pe_callB call_isi (by rfl) T.n_isinstance (by decide +kernel) (pa_cons (pv 0) (pa_cons (pe_bltn (v := .ty "bool") (by rfl) T.n_bool (by decide +kernel) rfl) pa_nil))) (pe_callB call_isi (by rfl) T.n_isinstance (by decide +kernel) (pa_cons (pv 1) (pa_cons (pe_bltn (v := .ty "bool") (by rfl) T.n_bool (by decide +kernel) rfl) pa_nil))) (nomark _)) (pe_one (pe_cmpR op_eq (pv 0) (pv 1) (nomark _))))))))), ?_⟩
      refine ⟨_, rfl, (by show 2 ≤ sizeLine; decide), fun p np => ⟨_, _, _, _, _, _, rfl, upd_same, .cons (.ty _) (.cons (.ty _) .nil), tyx_same c2 (same_new np), kit_tl c2, _, rfl, ?_⟩⟩
      have S1 := same_new (o := .tup [.ty "tuple", .ty "list"]) np
      generalize upd H p (.tup [.ty "tuple", .ty "list"]) = H1 at S1
      by_cases sq : (isB "tuple" d || isB "list" d) = true
      · rw [sq]
        refine iteT ?_
        have L2 : ∃ xs ys ds, (Paired (Dt H n) xs ds ∧ Paired (Dt H n) ys ds) ∧ (xs.length ≤ 1000 ∧ ys.length ≤ 1000) ∧ (∃ a b, x = .ref a ∧ y = .ref b ∧ ((H a = some (.tup xs) ∧ H b = some (.tup ys)) ∨ (H a = some (.lst xs) ∧ H b = some (.lst ys)))) := by
          cases c1 with
          | non => simp [isB] at sq
          | bl => simp [isB] at sq
          | int => simp [isB] at sq
          | str => simp [isB] at sq
          | tup _ a xs ds h l r =>
            cases c2 with
            | tup _ b ys ds h' l' r' => exact ⟨xs, ys, ds, ⟨r, r'⟩, ⟨l, l'⟩, a, b, rfl, rfl, .inl ⟨h, h'⟩⟩
          | lst _ a xs ds h l r =>
            cases c2 with
            | lst _ b ys ds h' l' r' => exact ⟨xs, ys, ds, ⟨r, r'⟩, ⟨l, l'⟩, a, b, rfl, rfl, .inr ⟨h, h'⟩⟩
        obtain ⟨xs, ys, ds, ⟨r1, r2⟩, ⟨l1, l2⟩, a, b, rfl, rfl, hh⟩ := L2
        have sqx : ∀ H', Same H H' → (SqL K H' a xs ∨ SqT K H' a xs) := fun H' S => by
          rcases hh with ⟨z, _⟩ | ⟨z, _⟩
          · exact .inr (SqT.of (S _ _ z))
          · exact .inl (SqL.of (S _ _ z))
        have sqy : ∀ H', Same H H' → (SqL K H' b ys ∨ SqT K H' b ys) := fun H' S => by
          rcases hh with ⟨_, z⟩ | ⟨_, z⟩
          · exact .inr (SqT.of (S _ _ z))
          · exact .inl (SqL.of (S _ _ z))
        have ixx : ∀ H' (i : Nat) (z : V) (Q' : VK), Same H H' → xs[i]? = some z → Q' z H' → rIx K (.ref a) (.int ((0 : Int) + (i : Int))) H' Q' := fun H' i z Q' S e k => by
          rcases sqx H' S with w | w
          · exact .inl ⟨a, xs, _, z, rfl, rfl, w, at_of (j := i) (by omega) e, k⟩
          · exact .inr (.inl ⟨a, xs, _, z, rfl, rfl, w, at_of (j := i) (by omega) e, k⟩)
        have ixy : ∀ H' (i : Nat) (z : V) (Q' : VK), Same H H' → ys[i]? = some z → Q' z H' → rIx K (.ref b) (.int ((0 : Int) + (i : Int))) H' Q' := fun H' i z Q' S e k => by
          rcases sqy H' S with w | w
          · exact .inl ⟨b, ys, _, z, rfl, rfl, w, at_of (j := i) (by omega) e, k⟩
          · exact .inr (.inl ⟨b, ys, _, z, rfl, rfl, w, at_of (j := i) (by omega) e, k⟩)
        have ey : ys.length = xs.length := r2.length.trans r1.length.symm
        refine ⟨_, rfl, (by show 2 ≤ sizeLine; decide), fun p2 np2 => ⟨_, _, _, _, _, _, rfl, upd_same, .cons (.ty _) (.cons (.ty _) .nil), tyx_same c1 (S1.trans (same_new np2)), kit_tl c1, _, rfl, ?_⟩⟩
        rw [sq]
        have S2 := sN S1 (o := .tup [.ty "tuple", .ty "list"]) np2
        generalize upd H1 p2 (.tup [.ty "tuple", .ty "list"]) = H2 at S2
        refine iteF ?_
        refine ⟨_, rfl, _, _, _, _, _, rfl, .ty _, tyx_same c1 S2, kit_d c1 "list" (by simp), _, rfl, _, _, _, _, _, rfl, .ty _, tyx_same c2 S2, kit_d c2 "list" (by simp), rfl, _, rfl, ?_⟩
        rw [decide_eq_true (rfl : V.bl (isB "list" d) = V.bl (isB "list" d))]
        refine iteF ?_
        refine ⟨_, rfl, a, xs, rfl, sqx H2 S2, _, rfl, b, ys, rfl, sqy H2 S2, rfl, _, rfl, ?_⟩
        rw [ey, decide_eq_true (rfl : V.int (xs.length : Int) = V.int (xs.length : Int))]
        refine iteF ?_
        refine ⟨_, rfl, b, ys, rfl, sqy H2 S2, _, rfl, by omega, by omega, fun D nD => ?_⟩
        refine lc_range (lo := 0) (n := (ys.length : Int).toNat) (fun i H' => Same H2 H' ∧ H' D = some (.lst [])) ⟨same_new nD, upd_same⟩ ?_ ?_
        · rintro i H' hi ⟨S, hD⟩
          rw [Int.toNat_natCast] at hi
          have S3 := S2.trans S
          have hx : xs[i]? = some (xs[i]'(by omega)) := List.getElem?_eq_getElem _
          have hy : ys[i]? = some (ys[i]'hi) := List.getElem?_eq_getElem _
          obtain ⟨d1, e1, t1⟩ := pget r1 hx
          obtain ⟨d2, e2, t2⟩ := pget r2 hy
          rw [e1] at e2
          cases e2
          refine ⟨rfl, _, rfl, _, rfl, ixx H' i _ _ S3 hx ⟨_, rfl, _, rfl, ixy H' i _ _ S3 hy ?_⟩⟩
          refine alike_i (t1.same S3) (t2.same S3) fun H4 S4 => ⟨_, rfl, ?_⟩
          refine iteF ?_
          exact ⟨S.trans S4, S4 _ _ hD⟩
        · rintro H' ⟨S, hD⟩
          refine ⟨Nat.zero_le _, fun p5 np5 => ⟨_, _, .lst (SqL.of (same_new np5 _ _ hD)) .nil, .lst (SqL.of upd_same) .nil, rfl, rfl, ?_⟩⟩
          exact q _ (sN (S2.trans S) np5)
      · have sq : (isB "tuple" d || isB "list" d) = false := by simpa using sq
        rw [sq]
        refine iteF ?_
        cases c1 with
        | tup _ a xs ds h l r => simp [isB] at sq
        | lst _ a xs ds h l r => simp [isB] at sq
        | non =>
          cases c2
          refine ⟨_, rfl, rfl, _, rfl, ?_⟩
          refine iteP rfl ?_
          refine ⟨_, rfl, _, rfl, rfl, _, rfl, ?_⟩
          refine iteT ?_
          refine ⟨_, rfl, _, _, _, _, false, rfl, .ty _, .base .non, kit_ty (by decide +kernel), _, rfl, _, _, _, _, false, rfl, .ty _, .base .non, kit_ty (by decide +kernel), rfl, ?_⟩
          exact q _ S1
        | str _ z =>
          cases c2
          refine ⟨_, rfl, rfl, _, rfl, ?_⟩
          refine iteQ rfl ?_
          refine ⟨_, rfl, _, _, _, _, true, rfl, .ty _, .base (.str z), kit_ty (by decide +kernel), _, rfl, ?_⟩
          refine iteT ?_
          refine ⟨_, rfl, _, rfl, rfl, _, rfl, ?_⟩
          rw [decide_eq_true (rfl : V.str z = V.str z)]
          refine iteT ?_
          refine ⟨_, rfl, _, _, _, _, true, rfl, .ty _, .base (.str z), kit_ty (by decide +kernel), _, rfl, _, _, _, _, true, rfl, .ty _, .base (.str z), kit_ty (by decide +kernel), rfl, ?_⟩
          exact q _ S1
        | int _ z =>
          cases c2
          refine ⟨_, rfl, rfl, _, rfl, ?_⟩
          refine iteQ rfl ?_
          refine ⟨_, rfl, _, _, _, _, false, rfl, .ty _, .base (.int z), kit_ty (by decide +kernel), _, rfl, ?_⟩
          refine iteF ?_
          refine ⟨_, rfl, _, _, _, _, true, rfl, .ty _, .base (.int z), kit_ty (by decide +kernel), _, rfl, ?_⟩
          refine iteT ?_
          refine ⟨_, rfl, _, _, _, _, false, rfl, .ty _, .base (.int z), kit_ty (by decide +kernel), _, rfl, _, _, _, _, false, rfl, .ty _, .base (.int z), kit_ty (by decide +kernel), rfl, _, rfl, ?_⟩
          refine iteP rfl ?_
          refine ⟨_, rfl, _, rfl, rfl, ?_⟩
          show Q (.bl (decide (V.int z = V.int z))) H1
          rw [decide_eq_true (rfl : V.int z = V.int z)]
          exact q _ S1
        | bl _ z =>
          cases c2
          refine ⟨_, rfl, rfl, _, rfl, ?_⟩
          refine iteQ rfl ?_
          refine ⟨_, rfl, _, _, _, _, false, rfl, .ty _, .base (.bl z), kit_ty (by decide +kernel), _, rfl, ?_⟩
          refine iteF ?_
          refine ⟨_, rfl, _, _, _, _, true, rfl, .ty _, .base (.bl z), kit_ty (by decide +kernel), _, rfl, ?_⟩
          refine iteT ?_
          refine ⟨_, rfl, _, _, _, _, true, rfl, .ty _, .base (.bl z), kit_ty (by decide +kernel), _, rfl, _, _, _, _, true, rfl, .ty _, .base (.bl z), kit_ty (by decide +kernel), rfl, _, rfl, ?_⟩
          refine iteP rfl ?_
          refine ⟨_, rfl, _, rfl, rfl, ?_⟩
          show Q (.bl (decide (V.bl z = V.bl z))) H1
          rw [decide_eq_true (rfl : V.bl z = V.bl z)]
          exact q _ S1
end
end Ca

set_option Elab.async false
set_option linter.all false
set_option maxRecDepth 100000
set_option maxHeartbeats 4000000
namespace Ca
open PySem L2
/-- the constants of the program's modules -/
structure TxtC (K : PySem.W.Frag) (mg : Str → Option Value) where
  v_PATHS : Addr
  m_PATHS : mg "PATHS" = some (.ref v_PATHS)
  s_PATHS : ∀ H, SqT K H v_PATHS (pathsL.map V.str)
  v_GUARDS : Addr
  m_GUARDS : mg "GUARDS" = some (.ref v_GUARDS)
  s_GUARDS : ∀ H, SqT K H v_GUARDS (guardsL.map V.str)
  v_FLIGHTS : Addr
  m_FLIGHTS : mg "FLIGHTS" = some (.ref v_FLIGHTS)
  s_FLIGHTS : ∀ H, SqT K H v_FLIGHTS (flightsL.map V.str)
  v_SOURCES : Addr
  m_SOURCES : mg "SOURCES" = some (.ref v_SOURCES)
  s_SOURCES : ∀ H, SqT K H v_SOURCES ((["primary", "replica"] : List Str).map V.str)
  v_EVICTIONS : Addr
  m_EVICTIONS : mg "EVICTIONS" = some (.ref v_EVICTIONS)
  s_EVICTIONS : ∀ H, SqT K H v_EVICTIONS ((["evicts", "keeps"] : List Str).map V.str)
  v_STOPS : Addr
  m_STOPS : mg "STOPS" = some (.ref v_STOPS)
  s_STOPS : ∀ H, SqT K H v_STOPS ((["finishes", "stops"] : List Str).map V.str)
  v_PROMISES : Addr
  m_PROMISES : mg "PROMISES" = some (.ref v_PROMISES)
  s_PROMISES : ∀ H, SqT K H v_PROMISES ((["ending", "filled", "forward", "fresh", "linear", "mended", "moving", "quiet", "rest", "single"] : List Str).map V.str)
theorem in_map {x : Str} {l : List Str} (h : x ∈ l) : inV (.str x) (l.map V.str) = true := by
  unfold inV
  rw [List.any_eq_true]
  exact ⟨.str x, List.mem_map_of_mem h, by simp [eqV]⟩
theorem flat_map (l : List Str) : (l.map V.str).all flatV = true := by
  rw [List.all_eq_true]
  intro y hy
  obtain ⟨x, _, rfl⟩ := List.mem_map.mp hy
  rfl
@[irreducible] def spTri (K : PySem.W.Frag) : Sp := fun vs H Q _ => ∃ (a f s t : Addr) (x y z : Str) (l1 l2 l3 : List Str), vs = [.ref a, .ref f, .ref s, .ref t] ∧ H a = some (.tup [.str x, .str y, .str z]) ∧ SqT K H f (l1.map V.str) ∧ SqT K H s (l2.map V.str) ∧ SqT K H t (l3.map V.str) ∧
  x ∈ l1 ∧ y ∈ l2 ∧ z ∈ l3 ∧ Q (.bl true) H
@[irreducible] def spIsD : Sp := fun vs H Q _ => ∃ (c : Conf) (d : Addr), vs = [.ref d] ∧ H d = some (dT c) ∧ c.Ok ∧ Q (.bl true) H
@[irreducible] def spIsW : Sp := fun vs H Q _ => ∃ (c : Conf) (w : Addr), vs = [.ref w] ∧ H w = some (wT c) ∧ c.Ok ∧ Q (.bl true) H
@[irreducible] def spChD : Sp := fun vs H Q _ => ∃ (c : Conf) (d : Addr), vs = [.ref d] ∧ H d = some (dT c) ∧ c.Ok ∧ Q .non H
@[irreducible] def spChW : Sp := fun vs H Q _ => ∃ (c : Conf) (w : Addr), vs = [.ref w] ∧ H w = some (wT c) ∧ c.Ok ∧ Q .non H
section
variable {K : PySem.W.Frag} {c : Conf} {d w a f s t : Addr} {H : Hp} {Q : VK} {E : XK}
theorem tri_i {x y z : Str} {l1 l2 l3 : List Str} (h : H a = some (.tup [.str x, .str y, .str z])) (h1 : SqT K H f (l1.map V.str)) (h2 : SqT K H s (l2.map V.str)) (h3 : SqT K H t (l3.map V.str)) (m1 : x ∈ l1) (m2 : y ∈ l2) (m3 : z ∈ l3) (q : Q (.bl true) H) :
    spTri K [.ref a, .ref f, .ref s, .ref t] H Q E := by
  unfold spTri
  exact ⟨a, f, s, t, x, y, z, l1, l2, l3, rfl, h, h1, h2, h3, m1, m2, m3, q⟩
theorem isd_i (h : H d = some (dT c)) (O : c.Ok) (q : Q (.bl true) H) : spIsD [.ref d] H Q E := by
  unfold spIsD
  exact ⟨c, d, rfl, h, O, q⟩
theorem isw_i (h : H w = some (wT c)) (O : c.Ok) (q : Q (.bl true) H) : spIsW [.ref w] H Q E := by
  unfold spIsW
  exact ⟨c, w, rfl, h, O, q⟩
theorem chd_i (h : H d = some (dT c)) (O : c.Ok) (q : Q .non H) : spChD [.ref d] H Q E := by
  unfold spChD
  exact ⟨c, d, rfl, h, O, q⟩
theorem chw_i (h : H w = some (wT c)) (O : c.Ok) (q : Q .non H) : spChW [.ref w] H Q E := by
  unfold spChW
  exact ⟨c, w, rfl, h, O, q⟩
end
section
variable {P : Program} {w : World} {K : PySem.W.Frag} {mg : Str → Option Value} {base : Heap}
theorem ok_is_triple (T : Txt K mg) : FnOk P w K mg base CX0 1 T.f_is_triple T.fd_is_triple ["value", "firsts", "seconds", "thirds"] (spTri K) := by
  refine T.F_is_triple.ok sc_is_triple (fun vs H Q E h => ?_) (fun cdv A outer s H vs Q E hr h => ?_)
  · unfold spTri at h
    obtain ⟨a, f, s, t, x, y, z, l1, l2, l3, rfl, _⟩ := h
    rfl
  · unfold spTri at h
    obtain ⟨a, f, s, t, x, y, z, l1, l2, l3, rfl, ha, h1, h2, h3, m1, m2, m3, q⟩ := h
    refine ⟨_, (pss_cons (ps_if (PW.pt (pw_or (pt_not (pt_val (pe_callB call_isi (by rfl) T.n_isinstance (by decide +kernel) (pa_cons (pv 0) (pa_cons (pe_bltn (v := .ty "tuple") (by rfl) T.n_tuple (by decide +kernel) rfl) pa_nil))))) (pw_or1 (pt_cmpR op_ne (pe_callB call_len_seq (by rfl) T.n_len (by decide +kernel) (pa_cons (pv 0) pa_nil)) pe_int (nomark _))))) (pss_one ps_never) pss_nil)
      (pss_one (ps_ret (pe_and (pe_cmpR op_in_seq (pe_ix ix_tup (pv 0) pe_int (fun _ _ => rfl)) (pv 1) (by rfl)) (pe_and (pe_cmpR op_in_seq (pe_ix ix_tup (pv 0) pe_int (fun _ _ => rfl)) (pv 2) (by rfl)) (pe_one (pe_cmpR op_in_seq (pe_ix ix_tup (pv 0) pe_int (fun _ _ => rfl)) (pv 3) (by rfl)))))))), ?_⟩
    refine ⟨_, rfl, _, _, _, _, true, rfl, .ty _, .base (.tup ha), kit_ty (by decide +kernel), _, rfl, ?_⟩
    refine iteF ?_
    refine ⟨_, rfl, _, _, rfl, .inr (SqT.of ha), rfl, _, rfl, iteF ?_⟩
    refine ⟨_, rfl, _, _, _, _, rfl, rfl, SqT.of (ha), rfl, _, rfl, _, _, rfl, .inr h1, rfl, flat_map l1, true, (by show V.bl (inV _ _) = _; rw [in_map m1]), iteT ?_⟩
    refine ⟨_, rfl, _, _, _, _, rfl, rfl, SqT.of (ha), rfl, _, rfl, _, _, rfl, .inr h2, rfl, flat_map l2, true, (by show V.bl (inV _ _) = _; rw [in_map m2]), iteT ?_⟩
    refine ⟨_, rfl, _, _, _, _, rfl, rfl, SqT.of (ha), rfl, _, rfl, _, _, rfl, .inr h3, rfl, flat_map l3, ?_⟩
    show Q (.bl (inV _ _)) H
    rw [in_map m3]
    exact q
theorem ok_is_design (T : Txt K mg) (U : TxtC K mg) : FnOk P w K mg base CX0 2 T.f_is_design T.fd_is_design ["value"] spIsD := by
  refine T.F_is_design.ok sc_is_design (fun vs H Q E h => ?_) (fun cdv A outer s H vs Q E hr h => ?_)
  · unfold spIsD at h
    obtain ⟨c, d, rfl, _⟩ := h
    rfl
  · unfold spIsD at h
    obtain ⟨c, d, rfl, hd, O, q⟩ := h
    refine ⟨_, (pss_one (ps_ret (pe_call (ok_is_triple T) (hr.mono (by decide)) rfl T.m_is_triple T.F_is_triple.kp (b_is_triple T) .nil pass0 (pa_cons (pv 0) (pa_cons (pe_glob (v := .ref U.v_PATHS) rfl U.m_PATHS rfl) (pa_cons (pe_glob (v := .ref U.v_GUARDS) rfl U.m_GUARDS rfl) (pa_cons (pe_glob (v := .ref U.v_FLIGHTS) rfl U.m_FLIGHTS rfl) pa_nil))))))), ?_⟩
    refine ⟨_, rfl, ?_⟩
    exact tri_i hd (U.s_PATHS H) (U.s_GUARDS H) (U.s_FLIGHTS H) O.p O.g O.f q
theorem ok_is_world (T : Txt K mg) (U : TxtC K mg) : FnOk P w K mg base CX0 2 T.f_is_world T.fd_is_world ["value"] spIsW := by
  refine T.F_is_world.ok sc_is_world (fun vs H Q E h => ?_) (fun cdv A outer s H vs Q E hr h => ?_)
  · unfold spIsW at h
    obtain ⟨c, d, rfl, _⟩ := h
    rfl
  · unfold spIsW at h
    obtain ⟨c, d, rfl, hd, O, q⟩ := h
    refine ⟨_, (pss_one (ps_ret (pe_call (ok_is_triple T) (hr.mono (by decide)) rfl T.m_is_triple T.F_is_triple.kp (b_is_triple T) .nil pass0 (pa_cons (pv 0) (pa_cons (pe_glob (v := .ref U.v_SOURCES) rfl U.m_SOURCES rfl) (pa_cons (pe_glob (v := .ref U.v_EVICTIONS) rfl U.m_EVICTIONS rfl) (pa_cons (pe_glob (v := .ref U.v_STOPS) rfl U.m_STOPS rfl) pa_nil))))))), ?_⟩
    refine ⟨_, rfl, ?_⟩
    have two : ∀ {x a b : Str}, x = a ∨ x = b → x ∈ [a, b] := fun h => by
      rcases h with e | e <;> simp [e]
    exact tri_i hd (U.s_SOURCES H) (U.s_EVICTIONS H) (U.s_STOPS H) (two O.s) (two O.e) (two O.t) q
theorem ok_check_design (T : Txt K mg) (U : TxtC K mg) : FnOk P w K mg base CX0 3 T.f_check_design T.fd_check_design ["value"] spChD := by
  refine T.F_check_design.ok sc_check_design (fun vs H Q E h => ?_) (fun cdv A outer s H vs Q E hr h => ?_)
  · unfold spChD at h
    obtain ⟨c, d, rfl, _⟩ := h
    rfl
  · unfold spChD at h
    obtain ⟨c, d, rfl, hd, O, q⟩ := h
    refine ⟨_, (pss_one (ps_if (pt_not (pt_val (pe_call (ok_is_design T U) (hr.mono (by decide)) rfl T.m_is_design T.F_is_design.kp (b_is_design T) .nil pass0 (pa_cons (pv 0) pa_nil)))) (pss_one ps_never) pss_nil)), ?_⟩
    refine ⟨_, rfl, ?_⟩
    refine isd_i hd O ⟨_, rfl, ?_⟩
    exact iteF q
theorem ok_check_world (T : Txt K mg) (U : TxtC K mg) : FnOk P w K mg base CX0 3 T.f_check_world T.fd_check_world ["value"] spChW := by
  refine T.F_check_world.ok sc_check_world (fun vs H Q E h => ?_) (fun cdv A outer s H vs Q E hr h => ?_)
  · unfold spChW at h
    obtain ⟨c, d, rfl, _⟩ := h
    rfl
  · unfold spChW at h
    obtain ⟨c, d, rfl, hd, O, q⟩ := h
    refine ⟨_, (pss_one (ps_if (pt_not (pt_val (pe_call (ok_is_world T U) (hr.mono (by decide)) rfl T.m_is_world T.F_is_world.kp (b_is_world T) .nil pass0 (pa_cons (pv 0) pa_nil)))) (pss_one ps_never) pss_nil)), ?_⟩
    refine ⟨_, rfl, ?_⟩
    refine isw_i hd O ⟨_, rfl, ?_⟩
    exact iteF q
end
end Ca

set_option Elab.async false
set_option linter.all false
set_option maxRecDepth 100000
set_option maxHeartbeats 4000000
namespace Ca
open PySem L2
/-! ### defs that only compute a truth from a design and a world -/
@[irreducible] def spD (g : Conf → Bool) : Sp := fun vs H Q _ => ∃ (c : Conf) (d : Addr), vs = [.ref d] ∧ H d = some (dT c) ∧ c.Ok ∧ ∀ H', Evl.Ex H H' → Q (.bl (g c)) H'
@[irreducible] def spW (g : Conf → Bool) : Sp := fun vs H Q _ => ∃ (c : Conf) (w : Addr), vs = [.ref w] ∧ H w = some (wT c) ∧ c.Ok ∧ ∀ H', Evl.Ex H H' → Q (.bl (g c)) H'
@[irreducible] def spDW (g : Conf → Bool) : Sp := fun vs H Q _ => ∃ (c : Conf) (d w : Addr), vs = [.ref d, .ref w] ∧ H d = some (dT c) ∧ H w = some (wT c) ∧ c.Ok ∧ ∀ H', Evl.Ex H H' → Q (.bl (g c)) H'
section
variable {K : PySem.W.Frag} {c : Conf} {d w : Addr} {H : Hp} {σ : L2.St} {ta : TE} {tb : TE} {g : Conf → Bool}
theorem d_v (hd : H d = some (dT c)) (O : c.Ok) : Evl.SpV (spD g) ([.ref d] ++ []) H (.bl (g c)) := fun H1 e Q q E => by
  unfold spD
  exact ⟨c, d, rfl, e _ _ hd, O, q⟩
theorem w_v (hw : H w = some (wT c)) (O : c.Ok) : Evl.SpV (spW g) ([.ref w] ++ []) H (.bl (g c)) := fun H1 e Q q E => by
  unfold spW
  exact ⟨c, w, rfl, e _ _ hw, O, q⟩
theorem dw_v (hd : H d = some (dT c)) (hw : H w = some (wT c)) (O : c.Ok) : Evl.SpV (spDW g) ([.ref d, .ref w] ++ []) H (.bl (g c)) := fun H1 e Q q E => by
  unfold spDW
  exact ⟨c, d, w, rfl, e _ _ hd, e _ _ hw, O, q⟩
/-- x in [a, b, ..], the list made on the way -/
theorem ev_inLN {x : V} {xs : List V} (ha : Evl.Ev ta σ H x) (hb : Evl.EvL tb σ H xs) (hx : flatV x = true) (hf : xs.all flatV = true) : Evl.Ev (tOp (rIn K false) ta tb) σ H (.bl (inV x xs)) :=
  Evl.ev_opL ha hb fun _ _ h _ => Evl.rv_isL (Evl.sq_of h) hx hf
theorem ev_ends {x y : Str} (h : Evl.Ev ta σ H (.str x)) : Evl.Ev (tBM K "str" (fun x xs H Q => ∃ a b, x = .str a ∧ xs = [.str b] ∧ Q (.bl (Txt.endswith a b)) H) ta (tCons (tC (.str y)) tNil)) σ H (.bl (Txt.endswith x y)) := fun H1 e Q q =>
  h H1 e _ fun H2 e2 => ⟨rfl, x, y, rfl, rfl, q H2 e2⟩
end
section
variable {P : Program} {w : World} {K : PySem.W.Frag} {mg : Str → Option Value} {base : Heap}
def m_passes_by (c : Conf) : Bool := ((decide (V.str c.guard = V.str "never")) && (!decide (V.str c.path = V.str "store set")))
theorem ok_passes_by (T : Txt K mg) : FnOk P w K mg base CX0 1 T.f_passes_by T.fd_passes_by ["design"] (spD m_passes_by) := by
  refine T.F_passes_by.ok sc_passes_by (fun vs H Q E h => ?_) (fun cdv A outer s H vs Q E hr h => ?_)
  · unfold spD at h
    obtain ⟨c, d, rfl, hd, O, q⟩ := h
    rfl
  · unfold spD at h
    obtain ⟨c, d, rfl, hd, O, q⟩ := h
    refine ⟨_, (pss_cons (ps_asg (pv 0) (pg_tup rfl (pgs_cons (pg_name (i := 1) sc_passes_by.nd rfl (Or.inl rfl)) (pgs_cons (pg_name (i := 2) sc_passes_by.nd rfl (Or.inl rfl)) (pgs_cons (pg_name (i := 3) sc_passes_by.nd rfl (Or.inl rfl)) pgs_nil)))))
      (pss_one (ps_ret (pe_and (pe_cmpR op_eq (pv 2) pe_str (nomark _)) (pe_one (pe_cmpR op_ne (pv 1) pe_str (nomark _))))))), ?_⟩
    refine ⟨_, rfl, _, _, rfl, SqT.of hd, rfl, _, _, rfl, _, _, rfl, _, _, rfl, rfl, ?_⟩
    refine Evl.s_ret (Evl.ev_andV (Evl.ev_op (Evl.ev_var rfl) Evl.ev_c (Evl.rv_eq rfl)) (fun _ => (Evl.ev_op (Evl.ev_var rfl) Evl.ev_c (Evl.rv_ne rfl)))) fun H1 e1 => ?_
    have z := q H1 e1
    exact z

def m_keeps (c : Conf) : Bool := (decide (V.str c.evict = V.str "keeps"))
theorem ok_keeps (T : Txt K mg) : FnOk P w K mg base CX0 1 T.f_keeps T.fd_keeps ["world"] (spW m_keeps) := by
  refine T.F_keeps.ok sc_keeps (fun vs H Q E h => ?_) (fun cdv A outer s H vs Q E hr h => ?_)
  · unfold spW at h
    obtain ⟨c, w, rfl, hw, O, q⟩ := h
    rfl
  · unfold spW at h
    obtain ⟨c, w, rfl, hw, O, q⟩ := h
    refine ⟨_, (pss_one (ps_ret (pe_cmpR op_eq (pe_ix ix_tup (pv 0) pe_int (fun _ _ => rfl)) pe_str (nomark _)))), ?_⟩
    refine Evl.s_ret (Evl.ev_op (Evl.ev_op (Evl.ev_var rfl) Evl.ev_c (Evl.rv_ixT (SqT.of hw) rfl)) Evl.ev_c (Evl.rv_eq rfl)) fun H1 e1 => ?_
    have z := q H1 e1
    exact z

def m_finishes (c : Conf) : Bool := (decide (V.str c.stop = V.str "finishes"))
theorem ok_finishes (T : Txt K mg) : FnOk P w K mg base CX0 1 T.f_finishes T.fd_finishes ["world"] (spW m_finishes) := by
  refine T.F_finishes.ok sc_finishes (fun vs H Q E h => ?_) (fun cdv A outer s H vs Q E hr h => ?_)
  · unfold spW at h
    obtain ⟨c, w, rfl, hw, O, q⟩ := h
    rfl
  · unfold spW at h
    obtain ⟨c, w, rfl, hw, O, q⟩ := h
    refine ⟨_, (pss_one (ps_ret (pe_cmpR op_eq (pe_ix ix_tup (pv 0) pe_int (fun _ _ => rfl)) pe_str (nomark _)))), ?_⟩
    refine Evl.s_ret (Evl.ev_op (Evl.ev_op (Evl.ev_var rfl) Evl.ev_c (Evl.rv_ixT (SqT.of hw) rfl)) Evl.ev_c (Evl.rv_eq rfl)) fun H1 e1 => ?_
    have z := q H1 e1
    exact z

def m_is_alone (c : Conf) : Bool := (decide (V.str c.flight = V.str "alone"))
theorem ok_is_alone (T : Txt K mg) : FnOk P w K mg base CX0 1 T.f_is_alone T.fd_is_alone ["design"] (spD m_is_alone) := by
  refine T.F_is_alone.ok sc_is_alone (fun vs H Q E h => ?_) (fun cdv A outer s H vs Q E hr h => ?_)
  · unfold spD at h
    obtain ⟨c, d, rfl, hd, O, q⟩ := h
    rfl
  · unfold spD at h
    obtain ⟨c, d, rfl, hd, O, q⟩ := h
    refine ⟨_, (pss_one (ps_ret (pe_cmpR op_eq (pe_ix ix_tup (pv 0) pe_int (fun _ _ => rfl)) pe_str (nomark _)))), ?_⟩
    refine Evl.s_ret (Evl.ev_op (Evl.ev_op (Evl.ev_var rfl) Evl.ev_c (Evl.rv_ixT (SqT.of hd) rfl)) Evl.ev_c (Evl.rv_eq rfl)) fun H1 e1 => ?_
    have z := q H1 e1
    exact z

def m_is_primary (c : Conf) : Bool := (decide (V.str c.source = V.str "primary"))
theorem ok_is_primary (T : Txt K mg) : FnOk P w K mg base CX0 1 T.f_is_primary T.fd_is_primary ["world"] (spW m_is_primary) := by
  refine T.F_is_primary.ok sc_is_primary (fun vs H Q E h => ?_) (fun cdv A outer s H vs Q E hr h => ?_)
  · unfold spW at h
    obtain ⟨c, w, rfl, hw, O, q⟩ := h
    rfl
  · unfold spW at h
    obtain ⟨c, w, rfl, hw, O, q⟩ := h
    refine ⟨_, (pss_one (ps_ret (pe_cmpR op_eq (pe_ix ix_tup (pv 0) pe_int (fun _ _ => rfl)) pe_str (nomark _)))), ?_⟩
    refine Evl.s_ret (Evl.ev_op (Evl.ev_op (Evl.ev_var rfl) Evl.ev_c (Evl.rv_ixT (SqT.of hw) rfl)) Evl.ev_c (Evl.rv_eq rfl)) fun H1 e1 => ?_
    have z := q H1 e1
    exact z

def m_climbs (c : Conf) : Bool := ((decide (V.str c.path = V.str "store set")) && ((inV (V.str c.guard) [V.str "mark", V.str "newer"]) && (m_keeps c)))
theorem ok_climbs (T : Txt K mg) : FnOk P w K mg base CX0 2 T.f_climbs T.fd_climbs ["design", "world"] (spDW m_climbs) := by
  refine T.F_climbs.ok sc_climbs (fun vs H Q E h => ?_) (fun cdv A outer s H vs Q E hr h => ?_)
  · unfold spDW at h
    obtain ⟨c, d, w, rfl, hd, hw, O, q⟩ := h
    rfl
  · unfold spDW at h
    obtain ⟨c, d, w, rfl, hd, hw, O, q⟩ := h
    refine ⟨_, (pss_cons (ps_asg (pv 0) (pg_tup rfl (pgs_cons (pg_name (i := 2) sc_climbs.nd rfl (Or.inl rfl)) (pgs_cons (pg_name (i := 3) sc_climbs.nd rfl (Or.inl rfl)) (pgs_cons (pg_name (i := 4) sc_climbs.nd rfl (Or.inl rfl)) pgs_nil)))))
      (pss_one (ps_ret (pe_and (pe_cmpR op_eq (pv 2) pe_str (nomark _)) (pe_and (pe_cmpR op_in_seq (pv 3) (pe_tup (pa_cons pe_str (pa_cons pe_str pa_nil))) (by rfl)) (pe_one (pe_call (ok_keeps T) (hr.mono (by decide)) rfl T.m_keeps T.F_keeps.kp (b_keeps T) .nil pass0 (pa_cons (pv 1) pa_nil)))))))), ?_⟩
    refine ⟨_, rfl, _, _, rfl, SqT.of hd, rfl, _, _, rfl, _, _, rfl, _, _, rfl, rfl, ?_⟩
    refine Evl.s_ret (Evl.ev_andV (Evl.ev_op (Evl.ev_var rfl) Evl.ev_c (Evl.rv_eq rfl)) (fun _ => (Evl.ev_andV (Evl.ev_inU (Evl.ev_var rfl) (Evl.eu_tup (Evl.ea_cons Evl.ev_c (Evl.ea_cons Evl.ev_c Evl.ea_nil)) (by simp)) rfl rfl) (fun _ => (Evl.ev_call (Evl.ea_cons (Evl.ev_var rfl) Evl.ea_nil) (w_v hw O)))))) fun H1 e1 => ?_
    have z := q H1 e1
    exact z

def m_guards (c : Conf) : Bool := ((Txt.endswith c.path "drop") && ((decide (V.str c.guard = V.str "token")) || ((decide (V.str c.guard = V.str "mark")) && (m_keeps c))))
theorem ok_guards (T : Txt K mg) : FnOk P w K mg base CX0 2 T.f_guards T.fd_guards ["design", "world"] (spDW m_guards) := by
  refine T.F_guards.ok sc_guards (fun vs H Q E h => ?_) (fun cdv A outer s H vs Q E hr h => ?_)
  · unfold spDW at h
    obtain ⟨c, d, w, rfl, hd, hw, O, q⟩ := h
    rfl
  · unfold spDW at h
    obtain ⟨c, d, w, rfl, hd, hw, O, q⟩ := h
    refine ⟨_, (pss_cons (ps_asg (pv 0) (pg_tup rfl (pgs_cons (pg_name (i := 2) sc_guards.nd rfl (Or.inl rfl)) (pgs_cons (pg_name (i := 3) sc_guards.nd rfl (Or.inl rfl)) (pgs_cons (pg_name (i := 4) sc_guards.nd rfl (Or.inl rfl)) pgs_nil)))))
      (pss_one (ps_ret (pe_and (pe_bm PySem.F.plainAttrs_str PySem.F.slot_str_endswith PySem.F.type_str_endswith mt_endswith (pv 2) (pa_cons pe_str pa_nil)) (pe_one (pe_or (pe_cmpR op_eq (pv 3) pe_str (nomark _)) (pe_one (pe_and (pe_cmpR op_eq (pv 3) pe_str (nomark _)) (pe_one (pe_call (ok_keeps T) (hr.mono (by decide)) rfl T.m_keeps T.F_keeps.kp (b_keeps T) .nil pass0 (pa_cons (pv 1) pa_nil))))))))))), ?_⟩
    refine ⟨_, rfl, _, _, rfl, SqT.of hd, rfl, _, _, rfl, _, _, rfl, _, _, rfl, rfl, ?_⟩
    refine Evl.s_ret (Evl.ev_andV (ev_ends (Evl.ev_var rfl)) (fun _ => (Evl.ev_orV (Evl.ev_op (Evl.ev_var rfl) Evl.ev_c (Evl.rv_eq rfl)) (fun _ => (Evl.ev_andV (Evl.ev_op (Evl.ev_var rfl) Evl.ev_c (Evl.rv_eq rfl)) (fun _ => (Evl.ev_call (Evl.ea_cons (Evl.ev_var rfl) Evl.ea_nil) (w_v hw O)))))))) fun H1 e1 => ?_
    have z := q H1 e1
    exact z

def m_holds_ending (c : Conf) : Bool := ((m_is_alone c) || (m_finishes c))
theorem ok_holds_ending (T : Txt K mg) : FnOk P w K mg base CX0 2 T.f_holds_ending T.fd_holds_ending ["design", "world"] (spDW m_holds_ending) := by
  refine T.F_holds_ending.ok sc_holds_ending (fun vs H Q E h => ?_) (fun cdv A outer s H vs Q E hr h => ?_)
  · unfold spDW at h
    obtain ⟨c, d, w, rfl, hd, hw, O, q⟩ := h
    rfl
  · unfold spDW at h
    obtain ⟨c, d, w, rfl, hd, hw, O, q⟩ := h
    refine ⟨_, (pss_one (ps_ret (pe_or (pe_call (ok_is_alone T) (hr.mono (by decide)) rfl T.m_is_alone T.F_is_alone.kp (b_is_alone T) .nil pass0 (pa_cons (pv 0) pa_nil)) (pe_one (pe_call (ok_finishes T) (hr.mono (by decide)) rfl T.m_finishes T.F_finishes.kp (b_finishes T) .nil pass0 (pa_cons (pv 1) pa_nil)))))), ?_⟩
    refine Evl.s_ret (Evl.ev_orV (Evl.ev_call (Evl.ea_cons (Evl.ev_var rfl) Evl.ea_nil) (d_v hd O)) (fun _ => (Evl.ev_call (Evl.ea_cons (Evl.ev_var rfl) Evl.ea_nil) (w_v hw O)))) fun H1 e1 => ?_
    have z := q H1 e1
    exact z

def m_holds_filled (c : Conf) : Bool := (cond ((decide (V.str c.guard = V.str "mark")) && ((Txt.endswith c.path "drop") && (!(m_is_primary c)))) false ((!decide (V.str c.guard = V.str "never")) && ((m_is_alone c) || (m_finishes c))))
theorem ok_holds_filled (T : Txt K mg) : FnOk P w K mg base CX0 2 T.f_holds_filled T.fd_holds_filled ["design", "world"] (spDW m_holds_filled) := by
  refine T.F_holds_filled.ok sc_holds_filled (fun vs H Q E h => ?_) (fun cdv A outer s H vs Q E hr h => ?_)
  · unfold spDW at h
    obtain ⟨c, d, w, rfl, hd, hw, O, q⟩ := h
    rfl
  · unfold spDW at h
    obtain ⟨c, d, w, rfl, hd, hw, O, q⟩ := h
    refine ⟨_, (pss_cons (ps_asg (pv 0) (pg_tup rfl (pgs_cons (pg_name (i := 2) sc_holds_filled.nd rfl (Or.inl rfl)) (pgs_cons (pg_name (i := 3) sc_holds_filled.nd rfl (Or.inl rfl)) (pgs_cons (pg_name (i := 4) sc_holds_filled.nd rfl (Or.inl rfl)) pgs_nil)))))
      (pss_cons (ps_if (PW.pt (pw_and (pt_cmpR op_eq (pv 3) pe_str (nomark _)) (pw_and (pt_val (pe_bm PySem.F.plainAttrs_str PySem.F.slot_str_endswith PySem.F.type_str_endswith mt_endswith (pv 2) (pa_cons pe_str pa_nil))) (pw_and1 (pt_not (pt_val (pe_call (ok_is_primary T) (hr.mono (by decide)) rfl T.m_is_primary T.F_is_primary.kp (b_is_primary T) .nil pass0 (pa_cons (pv 1) pa_nil)))))))) (pss_one (ps_ret pe_bl)) pss_nil)
      (pss_one (ps_ret (pe_and (pe_cmpR op_ne (pv 3) pe_str (nomark _)) (pe_one (pe_or (pe_call (ok_is_alone T) (hr.mono (by decide)) rfl T.m_is_alone T.F_is_alone.kp (b_is_alone T) .nil pass0 (pa_cons (pv 0) pa_nil)) (pe_one (pe_call (ok_finishes T) (hr.mono (by decide)) rfl T.m_finishes T.F_finishes.kp (b_finishes T) .nil pass0 (pa_cons (pv 1) pa_nil)))))))))), ?_⟩
    refine ⟨_, rfl, _, _, rfl, SqT.of hd, rfl, _, _, rfl, _, _, rfl, _, _, rfl, rfl, ?_⟩
    refine Evl.q_when (Evl.et_and (Evl.et_test (Evl.ev_op (Evl.ev_var rfl) Evl.ev_c (Evl.rv_eq rfl))) (fun _ => (Evl.et_and (Evl.et_test (ev_ends (Evl.ev_var rfl))) (fun _ => (Evl.et_not (Evl.et_test (Evl.ev_call (Evl.ea_cons (Evl.ev_var rfl) Evl.ea_nil) (w_v hw O)))))))) (fun hb H1 e1 => ?_) (fun hb H1 e1 => ?_)
    · skip
      replace hd := e1 _ _ hd
      replace hw := e1 _ _ hw
      refine Evl.s_ret Evl.ev_c fun H2 e2 => ?_
      have z := q H2 (e1.trans e2)
      unfold m_holds_filled at z
      rw [hb] at z
      exact z
    · skip
      replace hd := e1 _ _ hd
      replace hw := e1 _ _ hw
      refine Evl.s_ret (Evl.ev_andV (Evl.ev_op (Evl.ev_var rfl) Evl.ev_c (Evl.rv_ne rfl)) (fun _ => (Evl.ev_orV (Evl.ev_call (Evl.ea_cons (Evl.ev_var rfl) Evl.ea_nil) (d_v hd O)) (fun _ => (Evl.ev_call (Evl.ea_cons (Evl.ev_var rfl) Evl.ea_nil) (w_v hw O)))))) fun H2 e2 => ?_
      have z := q H2 (e1.trans e2)
      unfold m_holds_filled at z
      rw [hb] at z
      exact z

def m_holds_forward (c : Conf) : Bool := (cond ((m_passes_by c) || ((!(m_is_alone c)) && (!decide (V.str c.path = V.str "store set")))) true ((m_keeps c) && ((decide (V.str c.guard = V.str "mark")) || ((decide (V.str c.guard = V.str "newer")) && (inV (V.str c.path) [V.str "store", V.str "store set"])))))
theorem ok_holds_forward (T : Txt K mg) : FnOk P w K mg base CX0 2 T.f_holds_forward T.fd_holds_forward ["design", "world"] (spDW m_holds_forward) := by
  refine T.F_holds_forward.ok sc_holds_forward (fun vs H Q E h => ?_) (fun cdv A outer s H vs Q E hr h => ?_)
  · unfold spDW at h
    obtain ⟨c, d, w, rfl, hd, hw, O, q⟩ := h
    rfl
  · unfold spDW at h
    obtain ⟨c, d, w, rfl, hd, hw, O, q⟩ := h
    refine ⟨_, (pss_cons (ps_asg (pv 0) (pg_tup rfl (pgs_cons (pg_name (i := 2) sc_holds_forward.nd rfl (Or.inl rfl)) (pgs_cons (pg_name (i := 3) sc_holds_forward.nd rfl (Or.inl rfl)) (pgs_cons (pg_name (i := 4) sc_holds_forward.nd rfl (Or.inl rfl)) pgs_nil)))))
      (pss_cons (ps_if (PW.pt (pw_or (pt_val (pe_call (ok_passes_by T) (hr.mono (by decide)) rfl T.m_passes_by T.F_passes_by.kp (b_passes_by T) .nil pass0 (pa_cons (pv 0) pa_nil))) (pw_or1 (PW.pt (pw_and (pt_not (pt_val (pe_call (ok_is_alone T) (hr.mono (by decide)) rfl T.m_is_alone T.F_is_alone.kp (b_is_alone T) .nil pass0 (pa_cons (pv 0) pa_nil)))) (pw_and1 (pt_cmpR op_ne (pv 2) pe_str (nomark _)))))))) (pss_one (ps_ret pe_bl)) pss_nil)
      (pss_one (ps_ret (pe_and (pe_call (ok_keeps T) (hr.mono (by decide)) rfl T.m_keeps T.F_keeps.kp (b_keeps T) .nil pass0 (pa_cons (pv 1) pa_nil)) (pe_one (pe_or (pe_cmpR op_eq (pv 3) pe_str (nomark _)) (pe_one (pe_and (pe_cmpR op_eq (pv 3) pe_str (nomark _)) (pe_one (pe_cmpR op_in_seq (pv 2) (pe_tup (pa_cons pe_str (pa_cons pe_str pa_nil))) (by rfl)))))))))))), ?_⟩
    refine ⟨_, rfl, _, _, rfl, SqT.of hd, rfl, _, _, rfl, _, _, rfl, _, _, rfl, rfl, ?_⟩
    refine Evl.q_when (Evl.et_or (Evl.et_test (Evl.ev_call (Evl.ea_cons (Evl.ev_var rfl) Evl.ea_nil) (d_v hd O))) (fun _ => (Evl.et_and (Evl.et_not (Evl.et_test (Evl.ev_call (Evl.ea_cons (Evl.ev_var rfl) Evl.ea_nil) (d_v hd O)))) (fun _ => (Evl.et_test (Evl.ev_op (Evl.ev_var rfl) Evl.ev_c (Evl.rv_ne rfl))))))) (fun hb H1 e1 => ?_) (fun hb H1 e1 => ?_)
    · skip
      replace hd := e1 _ _ hd
      replace hw := e1 _ _ hw
      refine Evl.s_ret Evl.ev_c fun H2 e2 => ?_
      have z := q H2 (e1.trans e2)
      unfold m_holds_forward at z
      rw [hb] at z
      exact z
    · skip
      replace hd := e1 _ _ hd
      replace hw := e1 _ _ hw
      refine Evl.s_ret (Evl.ev_andV (Evl.ev_call (Evl.ea_cons (Evl.ev_var rfl) Evl.ea_nil) (w_v hw O)) (fun _ => (Evl.ev_orV (Evl.ev_op (Evl.ev_var rfl) Evl.ev_c (Evl.rv_eq rfl)) (fun _ => (Evl.ev_andV (Evl.ev_op (Evl.ev_var rfl) Evl.ev_c (Evl.rv_eq rfl)) (fun _ => (Evl.ev_inU (Evl.ev_var rfl) (Evl.eu_tup (Evl.ea_cons Evl.ev_c (Evl.ea_cons Evl.ev_c Evl.ea_nil)) (by simp)) rfl rfl))))))) fun H2 e2 => ?_
      have z := q H2 (e1.trans e2)
      unfold m_holds_forward at z
      rw [hb] at z
      exact z

def m_holds_fresh (c : Conf) : Bool := (cond (m_climbs c) true ((m_is_primary c) && ((m_passes_by c) || ((m_is_alone c) && (m_guards c)))))
theorem ok_holds_fresh (T : Txt K mg) : FnOk P w K mg base CX0 3 T.f_holds_fresh T.fd_holds_fresh ["design", "world"] (spDW m_holds_fresh) := by
  refine T.F_holds_fresh.ok sc_holds_fresh (fun vs H Q E h => ?_) (fun cdv A outer s H vs Q E hr h => ?_)
  · unfold spDW at h
    obtain ⟨c, d, w, rfl, hd, hw, O, q⟩ := h
    rfl
  · unfold spDW at h
    obtain ⟨c, d, w, rfl, hd, hw, O, q⟩ := h
    refine ⟨_, (pss_cons (ps_if (pt_val (pe_call (ok_climbs T) (hr.mono (by decide)) rfl T.m_climbs T.F_climbs.kp (b_climbs T) .nil pass0 (pa_cons (pv 0) (pa_cons (pv 1) pa_nil)))) (pss_one (ps_ret pe_bl)) pss_nil)
      (pss_one (ps_ret (pe_and (pe_call (ok_is_primary T) (hr.mono (by decide)) rfl T.m_is_primary T.F_is_primary.kp (b_is_primary T) .nil pass0 (pa_cons (pv 1) pa_nil)) (pe_one (pe_or (pe_call (ok_passes_by T) (hr.mono (by decide)) rfl T.m_passes_by T.F_passes_by.kp (b_passes_by T) .nil pass0 (pa_cons (pv 0) pa_nil)) (pe_one (pe_and (pe_call (ok_is_alone T) (hr.mono (by decide)) rfl T.m_is_alone T.F_is_alone.kp (b_is_alone T) .nil pass0 (pa_cons (pv 0) pa_nil)) (pe_one (pe_call (ok_guards T) (hr.mono (by decide)) rfl T.m_guards T.F_guards.kp (b_guards T) .nil pass0 (pa_cons (pv 0) (pa_cons (pv 1) pa_nil)))))))))))), ?_⟩
    refine Evl.q_when (Evl.et_test (Evl.ev_call (Evl.ea_cons (Evl.ev_var rfl) (Evl.ea_cons (Evl.ev_var rfl) Evl.ea_nil)) (dw_v hd hw O))) (fun hb H1 e1 => ?_) (fun hb H1 e1 => ?_)
    · skip
      replace hd := e1 _ _ hd
      replace hw := e1 _ _ hw
      refine Evl.s_ret Evl.ev_c fun H2 e2 => ?_
      have z := q H2 (e1.trans e2)
      unfold m_holds_fresh at z
      rw [hb] at z
      exact z
    · skip
      replace hd := e1 _ _ hd
      replace hw := e1 _ _ hw
      refine Evl.s_ret (Evl.ev_andV (Evl.ev_call (Evl.ea_cons (Evl.ev_var rfl) Evl.ea_nil) (w_v hw O)) (fun _ => (Evl.ev_orV (Evl.ev_call (Evl.ea_cons (Evl.ev_var rfl) Evl.ea_nil) (d_v hd O)) (fun _ => (Evl.ev_andV (Evl.ev_call (Evl.ea_cons (Evl.ev_var rfl) Evl.ea_nil) (d_v hd O)) (fun _ => (Evl.ev_call (Evl.ea_cons (Evl.ev_var rfl) (Evl.ea_cons (Evl.ev_var rfl) Evl.ea_nil)) (dw_v hd hw O)))))))) fun H2 e2 => ?_
      have z := q H2 (e1.trans e2)
      unfold m_holds_fresh at z
      rw [hb] at z
      exact z

def m_holds_linear (c : Conf) : Bool := ((m_holds_forward c) && (m_holds_fresh c))
theorem ok_holds_linear (T : Txt K mg) : FnOk P w K mg base CX0 4 T.f_holds_linear T.fd_holds_linear ["design", "world"] (spDW m_holds_linear) := by
  refine T.F_holds_linear.ok sc_holds_linear (fun vs H Q E h => ?_) (fun cdv A outer s H vs Q E hr h => ?_)
  · unfold spDW at h
    obtain ⟨c, d, w, rfl, hd, hw, O, q⟩ := h
    rfl
  · unfold spDW at h
    obtain ⟨c, d, w, rfl, hd, hw, O, q⟩ := h
    refine ⟨_, (pss_one (ps_ret (pe_and (pe_call (ok_holds_forward T) (hr.mono (by decide)) rfl T.m_holds_forward T.F_holds_forward.kp (b_holds_forward T) .nil pass0 (pa_cons (pv 0) (pa_cons (pv 1) pa_nil))) (pe_one (pe_call (ok_holds_fresh T) (hr.mono (by decide)) rfl T.m_holds_fresh T.F_holds_fresh.kp (b_holds_fresh T) .nil pass0 (pa_cons (pv 0) (pa_cons (pv 1) pa_nil))))))), ?_⟩
    refine Evl.s_ret (Evl.ev_andV (Evl.ev_call (Evl.ea_cons (Evl.ev_var rfl) (Evl.ea_cons (Evl.ev_var rfl) Evl.ea_nil)) (dw_v hd hw O)) (fun _ => (Evl.ev_call (Evl.ea_cons (Evl.ev_var rfl) (Evl.ea_cons (Evl.ev_var rfl) Evl.ea_nil)) (dw_v hd hw O)))) fun H1 e1 => ?_
    have z := q H1 e1
    exact z

def m_holds_mended (c : Conf) : Bool := ((!decide (V.str c.path = V.str "store")) || (decide (V.str c.guard = V.str "never")))
theorem ok_holds_mended (T : Txt K mg) : FnOk P w K mg base CX0 1 T.f_holds_mended T.fd_holds_mended ["design", "world"] (spDW m_holds_mended) := by
  refine T.F_holds_mended.ok sc_holds_mended (fun vs H Q E h => ?_) (fun cdv A outer s H vs Q E hr h => ?_)
  · unfold spDW at h
    obtain ⟨c, d, w, rfl, hd, hw, O, q⟩ := h
    rfl
  · unfold spDW at h
    obtain ⟨c, d, w, rfl, hd, hw, O, q⟩ := h
    refine ⟨_, (pss_cons (ps_asg (pv 0) (pg_tup rfl (pgs_cons (pg_name (i := 2) sc_holds_mended.nd rfl (Or.inl rfl)) (pgs_cons (pg_name (i := 3) sc_holds_mended.nd rfl (Or.inl rfl)) (pgs_cons (pg_name (i := 4) sc_holds_mended.nd rfl (Or.inl rfl)) pgs_nil)))))
      (pss_one (ps_ret (pe_or (pe_cmpR op_ne (pv 2) pe_str (nomark _)) (pe_one (pe_cmpR op_eq (pv 3) pe_str (nomark _))))))), ?_⟩
    refine ⟨_, rfl, _, _, rfl, SqT.of hd, rfl, _, _, rfl, _, _, rfl, _, _, rfl, rfl, ?_⟩
    refine Evl.s_ret (Evl.ev_orV (Evl.ev_op (Evl.ev_var rfl) Evl.ev_c (Evl.rv_ne rfl)) (fun _ => (Evl.ev_op (Evl.ev_var rfl) Evl.ev_c (Evl.rv_eq rfl)))) fun H1 e1 => ?_
    have z := q H1 e1
    exact z

def m_holds_moving (c : Conf) : Bool := (m_is_alone c)
theorem ok_holds_moving (T : Txt K mg) : FnOk P w K mg base CX0 2 T.f_holds_moving T.fd_holds_moving ["design", "world"] (spDW m_holds_moving) := by
  refine T.F_holds_moving.ok sc_holds_moving (fun vs H Q E h => ?_) (fun cdv A outer s H vs Q E hr h => ?_)
  · unfold spDW at h
    obtain ⟨c, d, w, rfl, hd, hw, O, q⟩ := h
    rfl
  · unfold spDW at h
    obtain ⟨c, d, w, rfl, hd, hw, O, q⟩ := h
    refine ⟨_, (pss_one (ps_ret (pe_call (ok_is_alone T) (hr.mono (by decide)) rfl T.m_is_alone T.F_is_alone.kp (b_is_alone T) .nil pass0 (pa_cons (pv 0) pa_nil)))), ?_⟩
    refine Evl.s_ret (Evl.ev_call (Evl.ea_cons (Evl.ev_var rfl) Evl.ea_nil) (d_v hd O)) fun H1 e1 => ?_
    have z := q H1 e1
    exact z

def m_holds_quiet (c : Conf) : Bool := (cond (m_passes_by c) (m_is_primary c) ((m_finishes c) && (m_holds_fresh c)))
theorem ok_holds_quiet (T : Txt K mg) : FnOk P w K mg base CX0 4 T.f_holds_quiet T.fd_holds_quiet ["design", "world"] (spDW m_holds_quiet) := by
  refine T.F_holds_quiet.ok sc_holds_quiet (fun vs H Q E h => ?_) (fun cdv A outer s H vs Q E hr h => ?_)
  · unfold spDW at h
    obtain ⟨c, d, w, rfl, hd, hw, O, q⟩ := h
    rfl
  · unfold spDW at h
    obtain ⟨c, d, w, rfl, hd, hw, O, q⟩ := h
    refine ⟨_, (pss_cons (ps_if (pt_val (pe_call (ok_passes_by T) (hr.mono (by decide)) rfl T.m_passes_by T.F_passes_by.kp (b_passes_by T) .nil pass0 (pa_cons (pv 0) pa_nil))) (pss_one (ps_ret (pe_call (ok_is_primary T) (hr.mono (by decide)) rfl T.m_is_primary T.F_is_primary.kp (b_is_primary T) .nil pass0 (pa_cons (pv 1) pa_nil)))) pss_nil)
      (pss_one (ps_ret (pe_and (pe_call (ok_finishes T) (hr.mono (by decide)) rfl T.m_finishes T.F_finishes.kp (b_finishes T) .nil pass0 (pa_cons (pv 1) pa_nil)) (pe_one (pe_call (ok_holds_fresh T) (hr.mono (by decide)) rfl T.m_holds_fresh T.F_holds_fresh.kp (b_holds_fresh T) .nil pass0 (pa_cons (pv 0) (pa_cons (pv 1) pa_nil)))))))), ?_⟩
    refine Evl.q_when (Evl.et_test (Evl.ev_call (Evl.ea_cons (Evl.ev_var rfl) Evl.ea_nil) (d_v hd O))) (fun hb H1 e1 => ?_) (fun hb H1 e1 => ?_)
    · skip
      replace hd := e1 _ _ hd
      replace hw := e1 _ _ hw
      refine Evl.s_ret (Evl.ev_call (Evl.ea_cons (Evl.ev_var rfl) Evl.ea_nil) (w_v hw O)) fun H2 e2 => ?_
      have z := q H2 (e1.trans e2)
      unfold m_holds_quiet at z
      rw [hb] at z
      exact z
    · skip
      replace hd := e1 _ _ hd
      replace hw := e1 _ _ hw
      refine Evl.s_ret (Evl.ev_andV (Evl.ev_call (Evl.ea_cons (Evl.ev_var rfl) Evl.ea_nil) (w_v hw O)) (fun _ => (Evl.ev_call (Evl.ea_cons (Evl.ev_var rfl) (Evl.ea_cons (Evl.ev_var rfl) Evl.ea_nil)) (dw_v hd hw O)))) fun H2 e2 => ?_
      have z := q H2 (e1.trans e2)
      unfold m_holds_quiet at z
      rw [hb] at z
      exact z

def m_holds_rest (c : Conf) : Bool := (cond (m_passes_by c) true ((m_finishes c) && ((m_climbs c) || ((m_guards c) && ((m_is_primary c) || (!decide (V.str c.guard = V.str "token")))))))
theorem ok_holds_rest (T : Txt K mg) : FnOk P w K mg base CX0 3 T.f_holds_rest T.fd_holds_rest ["design", "world"] (spDW m_holds_rest) := by
  refine T.F_holds_rest.ok sc_holds_rest (fun vs H Q E h => ?_) (fun cdv A outer s H vs Q E hr h => ?_)
  · unfold spDW at h
    obtain ⟨c, d, w, rfl, hd, hw, O, q⟩ := h
    rfl
  · unfold spDW at h
    obtain ⟨c, d, w, rfl, hd, hw, O, q⟩ := h
    refine ⟨_, (pss_cons (ps_if (pt_val (pe_call (ok_passes_by T) (hr.mono (by decide)) rfl T.m_passes_by T.F_passes_by.kp (b_passes_by T) .nil pass0 (pa_cons (pv 0) pa_nil))) (pss_one (ps_ret pe_bl)) pss_nil)
      (pss_cons (ps_set (i := 2) sc_holds_rest.nd rfl (Or.inl rfl) (pe_and (pe_call (ok_guards T) (hr.mono (by decide)) rfl T.m_guards T.F_guards.kp (b_guards T) .nil pass0 (pa_cons (pv 0) (pa_cons (pv 1) pa_nil))) (pe_one (pe_or (pe_call (ok_is_primary T) (hr.mono (by decide)) rfl T.m_is_primary T.F_is_primary.kp (b_is_primary T) .nil pass0 (pa_cons (pv 1) pa_nil)) (pe_one (pe_cmpR op_ne (pe_ix ix_tup (pv 0) pe_int (fun _ _ => rfl)) pe_str (nomark _)))))))
      (pss_one (ps_ret (pe_and (pe_call (ok_finishes T) (hr.mono (by decide)) rfl T.m_finishes T.F_finishes.kp (b_finishes T) .nil pass0 (pa_cons (pv 1) pa_nil)) (pe_one (pe_or (pe_call (ok_climbs T) (hr.mono (by decide)) rfl T.m_climbs T.F_climbs.kp (b_climbs T) .nil pass0 (pa_cons (pv 0) (pa_cons (pv 1) pa_nil))) (pe_one (pv 2))))))))), ?_⟩
    refine Evl.q_when (Evl.et_test (Evl.ev_call (Evl.ea_cons (Evl.ev_var rfl) Evl.ea_nil) (d_v hd O))) (fun hb H1 e1 => ?_) (fun hb H1 e1 => ?_)
    · skip
      replace hd := e1 _ _ hd
      replace hw := e1 _ _ hw
      refine Evl.s_ret Evl.ev_c fun H2 e2 => ?_
      have z := q H2 (e1.trans e2)
      unfold m_holds_rest at z
      rw [hb] at z
      exact z
    · skip
      replace hd := e1 _ _ hd
      replace hw := e1 _ _ hw
      refine Evl.q_asg (Evl.ev_andV (Evl.ev_call (Evl.ea_cons (Evl.ev_var rfl) (Evl.ea_cons (Evl.ev_var rfl) Evl.ea_nil)) (dw_v hd hw O)) (fun _ => (Evl.ev_orV (Evl.ev_call (Evl.ea_cons (Evl.ev_var rfl) Evl.ea_nil) (w_v hw O)) (fun _ => (Evl.ev_op (Evl.ev_op (Evl.ev_var rfl) Evl.ev_c (Evl.rv_ixT (SqT.of hd) rfl)) Evl.ev_c (Evl.rv_ne rfl)))))) fun H2 e2 => ?_
      replace hd := e2 _ _ hd
      replace hw := e2 _ _ hw
      refine Evl.s_ret (Evl.ev_andV (Evl.ev_call (Evl.ea_cons (Evl.ev_var rfl) Evl.ea_nil) (w_v hw O)) (fun _ => (Evl.ev_orV (Evl.ev_call (Evl.ea_cons (Evl.ev_var rfl) (Evl.ea_cons (Evl.ev_var rfl) Evl.ea_nil)) (dw_v hd hw O)) (fun _ => (Evl.ev_var rfl))))) fun H3 e3 => ?_
      have z := q H3 ((e1.trans e2).trans e3)
      unfold m_holds_rest at z
      rw [hb] at z
      exact z

def m_holds_single (c : Conf) : Bool := (!(m_is_alone c))
theorem ok_holds_single (T : Txt K mg) : FnOk P w K mg base CX0 2 T.f_holds_single T.fd_holds_single ["design", "world"] (spDW m_holds_single) := by
  refine T.F_holds_single.ok sc_holds_single (fun vs H Q E h => ?_) (fun cdv A outer s H vs Q E hr h => ?_)
  · unfold spDW at h
    obtain ⟨c, d, w, rfl, hd, hw, O, q⟩ := h
    rfl
  · unfold spDW at h
    obtain ⟨c, d, w, rfl, hd, hw, O, q⟩ := h
    refine ⟨_, (pss_one (ps_ret (pe_not (pe_call (ok_is_alone T) (hr.mono (by decide)) rfl T.m_is_alone T.F_is_alone.kp (b_is_alone T) .nil pass0 (pa_cons (pv 0) pa_nil))))), ?_⟩
    refine Evl.s_ret (Evl.ev_notV (Evl.ev_call (Evl.ea_cons (Evl.ev_var rfl) Evl.ea_nil) (d_v hd O))) fun H1 e1 => ?_
    have z := q H1 e1
    exact z

end
end Ca

set_option Elab.async false
set_option linter.all false
set_option maxRecDepth 100000
set_option maxHeartbeats 4000000
namespace Ca
open PySem L2
/-! ### the ten promises -/
inductive Pm where
  | ending | filled | forward | fresh | linear | mended | moving | quiet | rest | single
  deriving DecidableEq
def Pm.str : Pm → Str
  | .ending => "ending"
  | .filled => "filled"
  | .forward => "forward"
  | .fresh => "fresh"
  | .linear => "linear"
  | .mended => "mended"
  | .moving => "moving"
  | .quiet => "quiet"
  | .rest => "rest"
  | .single => "single"
def allPm : List Pm := [.ending, .filled, .forward, .fresh, .linear, .mended, .moving, .quiet, .rest, .single]
abbrev pmV (m : Pm) : V := .str m.str
theorem pm_mem (m : Pm) : m ∈ allPm := by cases m <;> simp [allPm]
@[irreducible] def spChPm : Sp := fun vs H Q _ => ∃ (m : Pm), vs = [pmV m] ∧ Q .non H
theorem chpm_i {m : Pm} {H : Hp} {Q : VK} {E : XK} (q : Q .non H) : spChPm [pmV m] H Q E := by
  unfold spChPm
  exact ⟨m, rfl, q⟩
@[irreducible] def spChQ : Sp := fun vs H Q _ => ∃ (c : Conf) (d w : Addr) (m : Pm), vs = [.ref d, .ref w, pmV m] ∧ H d = some (dT c) ∧ H w = some (wT c) ∧ c.Ok ∧ Q .non H
section
variable {K : PySem.W.Frag} {c : Conf} {d w : Addr} {H : Hp} {Q : VK} {E : XK} {σ : L2.St} {m : Pm}
theorem chq_i (hd : H d = some (dT c)) (hw : H w = some (wT c)) (O : c.Ok) (q : Q .non H) : spChQ [.ref d, .ref w, pmV m] H Q E := by
  unfold spChQ
  exact ⟨c, d, w, m, rfl, hd, hw, O, q⟩
theorem given_map {α : Type} [Inhabited α] (xs : List α) (p : α → Bool) (v : α → V) : Evl.given xs.length (fun i => p (xs.getD i default)) (fun i => v (xs.getD i default)) = (xs.filter p).map v := by
  unfold Evl.given
  have h : xs = (List.range xs.length).map (fun i => xs.getD i default) := by
    refine List.ext_getElem (by simp) fun i h1 h2 => ?_
    simp only [List.getElem_map, List.getElem_range]
    simp [List.getD, List.getElem?_eq_getElem h1]
  conv => rhs; rw [h]
  rw [List.filter_map, List.map_map]
  rfl
theorem ex_tupK {a : Addr} {xs : List V} {H H' : Hp} (e : Evl.Ex H H') (h : SqT K H a xs) : SqT K H' a xs := Evl.ex_t e h
theorem el_lcT {a : Addr} {xs : List V} {tl : TE} {j : Nat} {vs : List Nat} {t : TT} {te : TE} (f : Nat → Bool) (v : Nat → V) (h : Evl.Ev tl σ H (.ref a)) (hx : SqT K H a xs) (hz : xs.length ≤ 40000) (hw : ∀ x, wipe ((wipe σ vs).set j (some x)) vs = wipe σ vs)
    (ht : ∀ (i : Nat) (x : V) H1, Evl.Ex H H1 → xs[i]? = some x → Evl.EvT t ((wipe σ vs).set j (some x)) H1 (f i)) (he : ∀ (i : Nat) (x : V) H1, Evl.Ex H H1 → xs[i]? = some x → f i = true → Evl.Ev te ((wipe σ vs).set j (some x)) H1 (v i)) :
    Evl.EvL (tLc (iTup K tl) (gName j) t te vs) σ H (Evl.given xs.length f v) := fun H0 e Q q => h H0 e _ fun H1 e1 => ⟨a, rfl, ⟨xs, Evl.ex_t (e.trans e1) hx⟩, fun Dl hD =>
  lc_tup (xs := xs) (Evl.Cw H1 f v Dl) ⟨hD, Evl.Ex.new hD, upd_same⟩ (fun i H' _ p => Evl.ex_t ((e.trans e1).trans p.2.1) hx) (fun i x H' hi p => ⟨hw x, Evl.cw_turn p (by have := (List.getElem?_eq_some_iff.mp hi).1; omega) (ht i x H1 (e.trans e1) hi) (fun hf => he i x H1 (e.trans e1) hi hf)⟩)
    (fun H' p => q Dl H' (Evl.fresh_back e1 p.1) (e1.trans p.2.1) p.2.2)⟩
theorem pm_at {i : Nat} {x : V} (h : (allPm.map pmV)[i]? = some x) : x = pmV (allPm.getD i .ending) := by
  rw [List.getElem?_map, Option.map_eq_some_iff] at h
  obtain ⟨m, e, r⟩ := h
  rw [← r, List.getD, e]
  rfl
instance : Inhabited Pm := ⟨.ending⟩
end
theorem eqV_pm : ∀ a b : Pm, eqV (pmV a) (pmV b) = decide (a = b) := by
  intro a b
  cases a <;> cases b <;> decide +kernel
theorem pmEq (a b : Pm) : decide (pmV a = pmV b) = decide (a = b) := by
  cases a <;> cases b <;> decide +kernel
section
variable {P : Program} {w : World} {K : PySem.W.Frag} {mg : Str → Option Value} {base : Heap}
theorem ok_check_promise (T : Txt K mg) (U : TxtC K mg) : FnOk P w K mg base CX0 1 T.f_check_promise T.fd_check_promise ["value"] spChPm := by
  refine T.F_check_promise.ok sc_check_promise (fun vs H Q E h => ?_) (fun cdv A outer s H vs Q E hr h => ?_)
  · unfold spChPm at h
    obtain ⟨m, rfl, _⟩ := h
    rfl
  · unfold spChPm at h
    obtain ⟨m, rfl, q⟩ := h
    refine ⟨_, (pss_one (ps_if (pt_cmpR op_notIn_seq (pv 0) (pe_glob (v := .ref U.v_PROMISES) rfl U.m_PROMISES rfl) (by rfl)) (pss_one ps_never) pss_nil)), ?_⟩
    refine ⟨_, rfl, _, _, rfl, .inr (U.s_PROMISES H), rfl, flat_map _, false, ?_, iteF q⟩
    have z : inV (pmV m) ((["ending", "filled", "forward", "fresh", "linear", "mended", "moving", "quiet", "rest", "single"] : List Str).map V.str) = true := in_map (by cases m <;> simp [Pm.str])
    show V.bl (!inV _ _) = _
    rw [z]
    rfl
theorem ok_check_question (T : Txt K mg) (U : TxtC K mg) : FnOk P w K mg base CX0 4 T.f_check_question T.fd_check_question ["design", "world", "promise"] spChQ := by
  refine T.F_check_question.ok sc_check_question (fun vs H Q E h => ?_) (fun cdv A outer s H vs Q E hr h => ?_)
  · unfold spChQ at h
    obtain ⟨c, d, w, m, rfl, _⟩ := h
    rfl
  · unfold spChQ at h
    obtain ⟨c, d, w, m, rfl, hd, hw, O, q⟩ := h
    refine ⟨_, (pss_cons (ps_expr (pe_call (ok_check_design T U) (hr.mono (by decide)) rfl T.m_check_design T.F_check_design.kp (b_check_design T) .nil pass0 (pa_cons (pv 0) pa_nil)))
      (pss_cons (ps_expr (pe_call (ok_check_world T U) (hr.mono (by decide)) rfl T.m_check_world T.F_check_world.kp (b_check_world T) .nil pass0 (pa_cons (pv 1) pa_nil)))
      (pss_one (ps_expr (pe_call (ok_check_promise T U) (hr.mono (by decide)) rfl T.m_check_promise T.F_check_promise.kp (b_check_promise T) .nil pass0 (pa_cons (pv 2) pa_nil)))))), ?_⟩
    refine ⟨_, rfl, ?_⟩
    refine chd_i hd O ⟨_, rfl, ?_⟩
    refine chw_i hw O ⟨_, rfl, ?_⟩
    exact chpm_i q
end
end Ca

set_option Elab.async false
set_option linter.all false
set_option maxRecDepth 100000
set_option maxHeartbeats 4000000
namespace Ca
open PySem L2
def progH (c : Conf) : Pm → Bool
  | .ending => m_holds_ending c
  | .filled => m_holds_filled c
  | .forward => m_holds_forward c
  | .fresh => m_holds_fresh c
  | .linear => m_holds_linear c
  | .mended => m_holds_mended c
  | .moving => m_holds_moving c
  | .quiet => m_holds_quiet c
  | .rest => m_holds_rest c
  | .single => m_holds_single c
@[irreducible] def spDWP (g : Conf → Pm → Bool) : Sp := fun vs H Q _ => ∃ (c : Conf) (d w : Addr) (m : Pm), vs = [.ref d, .ref w, pmV m] ∧ H d = some (dT c) ∧ H w = some (wT c) ∧ c.Ok ∧ ∀ H', Evl.Ex H H' → Q (.bl (g c m)) H'
section
variable {K : PySem.W.Frag} {c : Conf} {d w : Addr} {H : Hp} {Q : VK} {E : XK} {σ : L2.St} {g : Conf → Pm → Bool} {m : Pm}
theorem dwp_i (hd : H d = some (dT c)) (hw : H w = some (wT c)) (O : c.Ok) (q : ∀ H', Evl.Ex H H' → Q (.bl (g c m)) H') : spDWP g [.ref d, .ref w, pmV m] H Q E := by
  unfold spDWP
  exact ⟨c, d, w, m, rfl, hd, hw, O, q⟩
end
/-- the table of the promises' defs -/
structure TxtD_HOLDS (K : PySem.W.Frag) (w : World) (mg : Str → Option Value) (T : Txt K mg) where
  v_ : Addr
  m_ : mg "HOLDS" = some (.ref v_)
  k_ending : KDct K w v_ "ending" (.ref T.f_holds_ending)
  k_filled : KDct K w v_ "filled" (.ref T.f_holds_filled)
  k_forward : KDct K w v_ "forward" (.ref T.f_holds_forward)
  k_fresh : KDct K w v_ "fresh" (.ref T.f_holds_fresh)
  k_linear : KDct K w v_ "linear" (.ref T.f_holds_linear)
  k_mended : KDct K w v_ "mended" (.ref T.f_holds_mended)
  k_moving : KDct K w v_ "moving" (.ref T.f_holds_moving)
  k_quiet : KDct K w v_ "quiet" (.ref T.f_holds_quiet)
  k_rest : KDct K w v_ "rest" (.ref T.f_holds_rest)
  k_single : KDct K w v_ "single" (.ref T.f_holds_single)
section
variable {P : Program} {w : World} {K : PySem.W.Frag} {mg : Str → Option Value} {base : Heap}
theorem held (T : Txt K mg) (Y : TxtD_HOLDS K w mg T) (m : Pm) : ∃ (f : Addr) (fd : FuncData) (k : Nat) (g : Conf → Bool), FnOk P w K mg base CX0 k f fd ["design", "world"] (spDW g) ∧ k ≤ 5 ∧ PySem.W.keepIn K (.ref f) = true ∧ Binds K fd ["design", "world"] [] ∧ KDct K w Y.v_ m.str (.ref f) ∧ ∀ c, g c = progH c m := by
  cases m
  · exact ⟨_, _, _, _, ok_holds_ending T, by decide, T.F_holds_ending.kp, b_holds_ending T, Y.k_ending, fun _ => rfl⟩
  · exact ⟨_, _, _, _, ok_holds_filled T, by decide, T.F_holds_filled.kp, b_holds_filled T, Y.k_filled, fun _ => rfl⟩
  · exact ⟨_, _, _, _, ok_holds_forward T, by decide, T.F_holds_forward.kp, b_holds_forward T, Y.k_forward, fun _ => rfl⟩
  · exact ⟨_, _, _, _, ok_holds_fresh T, by decide, T.F_holds_fresh.kp, b_holds_fresh T, Y.k_fresh, fun _ => rfl⟩
  · exact ⟨_, _, _, _, ok_holds_linear T, by decide, T.F_holds_linear.kp, b_holds_linear T, Y.k_linear, fun _ => rfl⟩
  · exact ⟨_, _, _, _, ok_holds_mended T, by decide, T.F_holds_mended.kp, b_holds_mended T, Y.k_mended, fun _ => rfl⟩
  · exact ⟨_, _, _, _, ok_holds_moving T, by decide, T.F_holds_moving.kp, b_holds_moving T, Y.k_moving, fun _ => rfl⟩
  · exact ⟨_, _, _, _, ok_holds_quiet T, by decide, T.F_holds_quiet.kp, b_holds_quiet T, Y.k_quiet, fun _ => rfl⟩
  · exact ⟨_, _, _, _, ok_holds_rest T, by decide, T.F_holds_rest.kp, b_holds_rest T, Y.k_rest, fun _ => rfl⟩
  · exact ⟨_, _, _, _, ok_holds_single T, by decide, T.F_holds_single.kp, b_holds_single T, Y.k_single, fun _ => rfl⟩
theorem ok_holds (T : Txt K mg) (U : TxtC K mg) (Y : TxtD_HOLDS K w mg T) : FnOk P w K mg base CX0 6 T.f_holds T.fd_holds ["design", "world", "promise"] (spDWP progH) := by
  refine T.F_holds.ok sc_holds (fun vs H Q E h => ?_) (fun cdv A outer s H vs Q E hr h => ?_)
  · unfold spDWP at h
    obtain ⟨c, d, w, m, rfl, _⟩ := h
    rfl
  · unfold spDWP at h
    obtain ⟨c, d, u, m, rfl, hd, hw, O, q⟩ := h
    obtain ⟨f, fd, k, g, F, kp, hk, hb, kd, eg⟩ := held (P := P) (base := base) T Y m
    refine ⟨_, (pss_cons (ps_expr (pe_call (ok_check_question T U) (hr.mono (by decide)) rfl T.m_check_question T.F_check_question.kp (b_check_question T) .nil pass0 (pa_cons (pv 0) (pa_cons (pv 1) (pa_cons (pv 2) pa_nil)))))
      (pss_cons (ps_set (i := 3) sc_holds.nd rfl (Or.inl rfl) (pe_ix ix_kdict (pe_glob (v := .ref Y.v_) rfl Y.m_ rfl) (pv 2) (fun _ _ => rfl)))
      (pss_one (ps_ret (pe_callL (i := 3) F (hr.mono kp) rfl (Or.inl rfl) hk hb .nil pass0 (pa_cons (pv 0) (pa_cons (pv 1) pa_nil))))))), ?_⟩
    refine ⟨_, rfl, _, rfl, _, rfl, ?_⟩
    refine chq_i hd hw O ?_
    refine ⟨_, rfl, _, _, _, rfl, rfl, kd, rfl, _, rfl, _, rfl, ?_⟩
    have z := dw_v (g := g) hd hw O H (Evl.Ex.refl H) Q (fun H' e => by rw [eg]; exact q H' e)
    exact z _
end
end Ca

set_option Elab.async false
set_option linter.all false
set_option maxRecDepth 100000
set_option maxHeartbeats 4000000
namespace Ca
open PySem L2
section
variable {P : Program} {w : World} {K : PySem.W.Frag} {mg : Str → Option Value} {base : Heap}
theorem ok_profile (T : Txt K mg) (U : TxtC K mg) (Y : TxtD_HOLDS K w mg T) : FnOk P w K mg base CX0 7 T.f_profile T.fd_profile ["design", "world"] (fun vs H Q _ => ∃ (c : Conf) (d w : Addr), vs = [.ref d, .ref w] ∧ H d = some (dT c) ∧ H w = some (wT c) ∧ c.Ok ∧
    ∀ p H', H p = none → Evl.Ex H H' → H' p = some (.tup ((allPm.filter (progH c)).map pmV)) → Q (.ref p) H') := by
  refine T.F_profile.ok sc_profile (fun vs H Q E h => ?_) (fun cdv A outer s H vs Q E hr h => ?_)
  · obtain ⟨c, d, w, rfl, _⟩ := h
    rfl
  · obtain ⟨c, d, u, rfl, hd, hw, O, q⟩ := h
    refine ⟨_, (pss_cons (ps_expr (pe_call (ok_check_design T U) (hr.mono (by decide)) rfl T.m_check_design T.F_check_design.kp (b_check_design T) .nil pass0 (pa_cons (pv 0) pa_nil)))
      (pss_cons (ps_expr (pe_call (ok_check_world T U) (hr.mono (by decide)) rfl T.m_check_world T.F_check_world.kp (b_check_world T) .nil pass0 (pa_cons (pv 1) pa_nil)))
      (pss_one (ps_ret (pe_callTy call_tuple_of (by rfl) T.n_tuple (by decide +kernel) (pa_cons (pe_lc (own := [("promise", 2)]) rfl sc_profile.nd (pi_tup (pe_glob (v := .ref U.v_PROMISES) rfl U.m_PROMISES rfl)) (blkOk_by (N := ["design", "world", "promise"]) (sc := defScope s_profile) (by decide +kernel)) (fun _ _ _ _ _ => (pg_name (i := 2) sc_profile.nd rfl (Or.inl rfl))) (fun _ _ _ _ _ => (pts_one (pt_val (pe_call (ok_holds T U Y) (hr.mono (by decide)) rfl T.m_holds T.F_holds.kp (b_holds T) .nil pass0 (pa_cons (pv 0) (pa_cons (pv 1) (pa_cons (pv 2) pa_nil))))))) (fun _ _ _ _ _ => (pv 2))) pa_nil)))))), ?_⟩
    refine ⟨_, rfl, ?_⟩
    refine chd_i hd O ⟨_, rfl, ?_⟩
    refine chw_i hw O ?_
    have hs : SqT K H U.v_PROMISES (allPm.map pmV) := U.s_PROMISES H
    have tst : ∀ (i : Nat) (x : V) (H1 : Hp), Evl.Ex H H1 → (allPm.map pmV)[i]? = some x → Evl.EvT (tB (tCall (spDWP progH) [] E0 (tCons (tVar 0) (tCons (tVar 1) (tCons (tVar 2) tNil))))) [some (.ref d), some (.ref u), some x] H1 (progH c (allPm.getD i default)) := fun i x H1 e1 hx => by
      rw [pm_at hx]
      refine Evl.et_B (Evl.ev_call (Evl.ea_cons (Evl.ev_var rfl) (Evl.ea_cons (Evl.ev_var rfl) (Evl.ea_cons (Evl.ev_var rfl) Evl.ea_nil))) fun H2 e2 Q2 q2 E2 => ?_)
      exact dwp_i (e2 _ _ (e1 _ _ hd)) (e2 _ _ (e1 _ _ hw)) O q2
    refine ⟨_, rfl, ⟨_, hs⟩, fun D nD => lc_tup (xs := allPm.map pmV) (Evl.Cw H (fun i => progH c (allPm.getD i default)) (fun i => pmV (allPm.getD i default)) D) ⟨nD, Evl.Ex.new nD, upd_same⟩ (fun i H' _ p => Evl.ex_t p.2.1 hs) (fun i x H' hi p => ⟨rfl, Evl.cw_turn p ?_ (tst i x H (Evl.Ex.refl H) hi) (fun hf => ?_)⟩) fun H' p => ?_⟩
    · have := (List.getElem?_eq_some_iff.mp hi).1
      rw [List.length_map] at this
      have z : allPm.length = 10 := rfl
      omega
    · rw [pm_at hi]
      exact Evl.ev_var rfl
    · obtain ⟨np, e1, hp⟩ := p
      have hl : (allPm.map pmV).length = allPm.length := List.length_map _
      rw [hl, given_map allPm (progH c) pmV] at hp
      refine ⟨_, _, rfl, .inl ⟨SqL.of hp, fun t nt => ?_⟩⟩
      exact q t _ (Evl.fresh_back e1 nt) (e1.trans (Evl.Ex.new nt)) upd_same
end
end Ca

set_option Elab.async false
set_option linter.all false
set_option maxRecDepth 100000
set_option maxHeartbeats 4000000
namespace Ca
open PySem L2
@[irreducible] def spProms : Sp := fun vs H Q _ => vs = [] ∧ ∀ p, H p = none → Q (.ref p) (upd H p (.lst (allPm.map pmV)))
theorem proms_i {H : Hp} {Q : VK} {E : XK} (k : ∀ p, H p = none → Q (.ref p) (upd H p (.lst (allPm.map pmV)))) : spProms [] H Q E := by
  unfold spProms
  exact ⟨rfl, k⟩
section
variable {P : Program} {w : World} {K : PySem.W.Frag} {mg : Str → Option Value} {base : Heap}
theorem ok_Lpromises (T : Txt K mg) : FnOk P w K mg base CX0 1 T.f_Lpromises T.fd_Lpromises [] spProms := by
  refine T.F_Lpromises.ok sc_Lpromises (fun vs H Q E h => ?_) (fun cdv A outer s H vs Q E hr h => ?_)
  · unfold spProms at h
    obtain ⟨rfl, _⟩ := h
    rfl
  · unfold spProms at h
    obtain ⟨rfl, k⟩ := h
    refine ⟨_, (pss_one (ps_ret (pe_lst (pa_cons pe_str (pa_cons pe_str (pa_cons pe_str (pa_cons pe_str (pa_cons pe_str (pa_cons pe_str (pa_cons pe_str (pa_cons pe_str (pa_cons pe_str (pa_cons pe_str pa_nil))))))))))))), ?_⟩
    exact ⟨by show 10 ≤ sizeLine; decide, fun p hp => k p hp⟩
end
/-- a comprehension over the list of the promises, those of which a test says yes -/
theorem lcP {K : PySem.W.Frag} {a : Addr} {g : TG} {tt : TT} {te : TE} {vs : List Nat} {σ : St} {H : Hp} {D : Addr} {Qd : Hp → Prop} {j : Nat} (f : Pm → Bool) (nD : H D = none) (hs : SqL K H a (allPm.map pmV))
    (hg : g = gName j) (hw : ∀ x, wipe ((wipe σ vs).set j (some x)) vs = wipe σ vs)
    (ht : ∀ m, Evl.EvT tt ((wipe σ vs).set j (some (pmV m))) H (f m)) (he : ∀ m, Evl.Ev te ((wipe σ vs).set j (some (pmV m))) H (pmV m))
    (hq : ∀ H', Evl.Ex H H' → H' D = some (.lst ((allPm.filter f).map pmV)) → Qd H') :
    ∃ W : Nat → Nat → Hp → Prop, (∃ m, W 0 m (upd H D (.lst []))) ∧ ∀ i m H', W i m H' →
      ((Itl K a).stop i H' ∧ Qd H') ∨ ((Itl K a).go i H' ∧ ∃ Nx : Hp → Prop, (∀ H', Nx H' → ∃ m', m' < m ∧ W (i + 1) m' H') ∧ ∀ x H'', (Itl K a).yld i H' x H'' → g x (wipe σ vs) H'' fun σ2 H2 => wipe σ2 vs = wipe σ vs ∧ tt σ2 H2 fun b H3 =>
        if b = true then te σ2 H3 fun y H4 => ∃ acc, H4 D = some (.lst acc) ∧ acc.length < sizeLine ∧ Nx (upd H4 D (.lst (acc ++ [y]))) else Nx H3) := by
  subst hg
  refine lc_list (xs := allPm.map pmV) (Evl.Cw H (fun i => f (allPm.getD i default)) (fun i => pmV (allPm.getD i default)) D) ⟨nD, Evl.Ex.new nD, upd_same⟩ (fun i H' _ p => Evl.ex_l p.2.1 hs) (fun i x H' hi p => ⟨?_, ?_⟩) fun H' p => ?_
  · exact hw x
  · have hlt : i < 10 := by
      have := (List.getElem?_eq_some_iff.mp hi).1
      rw [List.length_map] at this
      exact this
    rw [pm_at hi]
    exact Evl.cw_turn p (by omega) (ht _) (fun _ => he _)
  · obtain ⟨np, e1, hp⟩ := p
    have hl : (allPm.map pmV).length = allPm.length := List.length_map _
    rw [hl, given_map allPm f pmV] at hp
    exact hq H' e1 hp
end Ca

set_option Elab.async false
set_option linter.all false
set_option maxRecDepth 100000
set_option maxHeartbeats 4000000
namespace Ca
open PySem L2
/-! ### the law's own verdicts -/
def lH (c : Conf) (m : Pm) : Bool :=
  let by_v := ((decide (V.str c.guard = V.str "never")) && (!decide (V.str c.path = V.str "store set")))
  let climbs_v_v := ((decide (V.str c.path = V.str "store set")) && ((inV (V.str c.guard) [V.str "mark", V.str "newer"]) && (decide (V.str c.evict = V.str "keeps"))))
  let guards_v_v := ((Txt.endswith c.path "drop") && ((decide (V.str c.guard = V.str "token")) || ((decide (V.str c.guard = V.str "mark")) && (decide (V.str c.evict = V.str "keeps")))))
  let fresh_v := (climbs_v_v || ((decide (V.str c.source = V.str "primary")) && (by_v || (guards_v_v && (decide (V.str c.flight = V.str "alone"))))))
  let low_v := ((decide (V.str c.guard = V.str "mark")) || ((decide (V.str c.guard = V.str "newer")) && (inV (V.str c.path) [V.str "store", V.str "store set"])))
  let forward_v := (by_v || (((decide (V.str c.flight = V.str "shared")) && (!decide (V.str c.path = V.str "store set"))) || ((decide (V.str c.evict = V.str "keeps")) && low_v)))
  let late_v := ((decide (V.str c.guard = V.str "token")) && (decide (V.str c.source = V.str "replica")))
  let whole_v := (decide (V.str c.stop = V.str "finishes"))
  match m with
  | .ending => ((decide (V.str c.flight = V.str "alone")) || whole_v)
  | .fresh => fresh_v
  | .forward => forward_v
  | .linear => (fresh_v && forward_v)
  | .filled => ((!decide (V.str c.guard = V.str "never")) && (whole_v || (decide (V.str c.flight = V.str "alone")))) && (!((decide (V.str c.guard = V.str "mark")) && ((decide (V.str c.source = V.str "replica")) && (Txt.endswith c.path "drop"))))
  | .mended => ((!decide (V.str c.path = V.str "store")) || (decide (V.str c.guard = V.str "never")))
  | .moving => (decide (V.str c.flight = V.str "alone"))
  | .quiet => (cond by_v (decide (V.str c.source = V.str "primary")) (whole_v && fresh_v))
  | .rest => (by_v || (whole_v && (climbs_v_v || (guards_v_v && (!late_v)))))
  | .single => (decide (V.str c.flight = V.str "shared"))
theorem ev_go {te : TE} {σ : L2.St} {H H1 : Hp} {v : V} {Q : VK} (h : Evl.Ev te σ H v) (e : Evl.Ex H H1) (k : ∀ H2, Evl.Ex H1 H2 → Q v H2) : te σ H1 Q := h H1 e Q k
theorem q_asgE {D : Ends} {te : TE} {tz : TS} {i : Nat} {σ σ' : L2.St} {H : Hp} {v : V} (h : Evl.Ev te σ H v) (hs : σ.set i (some v) = σ') (k : ∀ H1, Evl.Ex H H1 → tz D σ' H1) : tSeq (tAsg te (gName i)) tz D σ H := by
  subst hs
  exact Evl.q_asg h k
theorem q_dput {D : Ends} {te : TE} {tz : TS} {i : Nat} {σ : L2.St} {H : Hp} {p : Addr} {kvs : List (Key × V)} {x : Str} {v : V} (h : Evl.Ev te σ H v) (hs : σ[i]? = some (some (.ref p))) (hp : H p = some (.dK kvs)) (hz : kvs.length ≤ 100) (k : ∀ H1, Evl.Ex H H1 → tz D σ (upd H1 p (.dK (putK kvs (Sum.inr x) v)))) :
    tSeq (sDPut (tVar i) (tC (.str x)) te) tz D σ H := h H (Evl.Ex.refl H) _ fun H1 e1 => ⟨_, hs, p, _, rfl, DPut.k (k := Sum.inr x) (e1 _ _ hp) (small9 hz), k H1 e1⟩
/-- the heap behind a store at a new object: what stood before stands, what is there -/
theorem put_new {H G G1 : Hp} {p : Addr} {o o' : HO} (g : Evl.Ex H G) (e : Evl.Ex G G1) (n : H p = none) (h : o = o') : Evl.Ex H (upd G1 p o) ∧ (upd G1 p o) p = some o' := ⟨Evl.Ex.mut (g.trans e) n, by rw [← h]; exact upd_same⟩
theorem q_asgP {K : PySem.W.Frag} {D : Ends} {ta tb : TE} {tz : TS} {i : Nat} {σ : L2.St} {H0 H : Hp} {p : Addr} {kvs kvs' : List (Key × V)} {k1 k2 : Str} {x y : V} (h1 : Evl.Ev ta σ H x) (h2 : Evl.Ev tb σ H y) (hs : σ[i]? = some (some (.ref p))) (hp : H p = some (.dK kvs)) (hz : kvs.length ≤ 99)
    (hk : putK (putK kvs (Sum.inr k1) x) (Sum.inr k2) y = kvs') (n0 : H0 p = none) (g : Evl.Ex H0 H) (k : ∀ G, Evl.Ex H0 G → G p = some (.dK kvs') → tz D σ G) :
    tSeq (tAsg (tTup (tCons ta (tCons tb tNil))) (gTup K 2 (gCons (gSub (tVar i) (tC (.str k1)) rSetD) (gCons (gSub (tVar i) (tC (.str k2)) rSetD) gNil)))) tz D σ H := h1 H (Evl.Ex.refl H) _ fun H1 e1 => h2 H1 e1 _ fun H2 e2 => by
  refine ⟨by show 2 ≤ sizeLine; decide, fun t nt => ?_⟩
  have hp2 := e2 _ _ (e1 _ _ hp)
  have tp : p ≠ t := fun z => by
    rw [← z, hp2] at nt
    cases nt
  have hp3 : (upd H2 t (.tup [x, y])) p = some (.dK kvs) := by
    rw [upd_ne tp]
    exact hp2
  have g3 : Evl.Ex H0 (upd H2 t (.tup [x, y])) := ((g.trans e1).trans e2).trans (Evl.Ex.new nt)
  refine ⟨t, _, rfl, SqT.of upd_same, rfl, _, _, rfl, ⟨_, hs, p, _, rfl, DPut.k (k := Sum.inr k1) hp3 (small9 (by omega)), _, _, rfl, ⟨_, hs, p, _, rfl, DPut.k (k := Sum.inr k2) upd_same (small9 ?_), rfl, ?_⟩⟩⟩
  · have h : ∀ (l : List (Key × V)) (k : Key) (v : V), (putK l k v).length ≤ l.length + 1 := fun l k v => by
      unfold putK
      split <;> simp
    have := h kvs (Sum.inr k1) x
    omega
  · rw [upd_upd, hk]
    exact k _ (Evl.Ex.mut g3 n0) upd_same
theorem ev_dg {i : Nat} {σ : L2.St} {H : Hp} {a : Addr} {kvs : List (Key × V)} {x : Str} {v : V} (hs : σ[i]? = some (some (.ref a))) (h : H a = some (.dK kvs)) (e : valV kvs (Sum.inr x) = some v) : Evl.Ev (tDGet (tVar i) (tC (.str x))) σ H v := fun H1 x1 Q q =>
  ⟨_, hs, a, v, rfl, dget (x1 _ _ h) e, q H1 (Evl.Ex.refl H1)⟩
section
variable {P : Program} {w : World} {K : PySem.W.Frag} {mg : Str → Option Value} {base : Heap}
theorem ok_Lholds (T : Txt K mg) : FnOk P w K mg base CX0 1 T.f_Lholds T.fd_Lholds ["design", "world", "promise"] (spDWP lH) := by
  refine T.F_Lholds.ok sc_Lholds (fun vs H Q E h => ?_) (fun cdv A outer s H vs Q E hr h => ?_)
  · unfold spDWP at h
    obtain ⟨c, d, w, m, rfl, _⟩ := h
    rfl
  · unfold spDWP at h
    obtain ⟨c, d, u, m, rfl, hd, hw, O, q⟩ := h
    have hu := hu_of hr
    refine ⟨_, (pss_cons (ps_asg (pv 0) (pg_tup rfl (pgs_cons (pg_name (i := 3) sc_Lholds.nd rfl (Or.inl rfl)) (pgs_cons (pg_name (i := 4) sc_Lholds.nd rfl (Or.inl rfl)) (pgs_cons (pg_name (i := 5) sc_Lholds.nd rfl (Or.inl rfl)) pgs_nil)))))
      (pss_cons (ps_set (i := 6) sc_Lholds.nd rfl (Or.inl rfl) (pe_and (pe_cmpR op_eq (pv 4) pe_str (nomark _)) (pe_one (pe_cmpR op_ne (pv 3) pe_str (nomark _)))))
      (pss_cons (ps_set (i := 7) sc_Lholds.nd rfl (Or.inl rfl) (pe_and (pe_cmpR op_eq (pv 3) pe_str (nomark _)) (pe_and (pe_cmpR op_in_seq (pv 4) (pe_lst (pa_cons pe_str (pa_cons pe_str pa_nil))) (by rfl)) (pe_one (pe_cmpR op_eq (pe_ix ix_tup (pv 1) pe_int (fun _ _ => rfl)) pe_str (nomark _))))))
      (pss_cons (ps_set (i := 8) sc_Lholds.nd rfl (Or.inl rfl) (pe_and (pe_bm PySem.F.plainAttrs_str PySem.F.slot_str_endswith PySem.F.type_str_endswith mt_endswith (pv 3) (pa_cons pe_str pa_nil)) (pe_one (pe_or (pe_cmpR op_eq (pv 4) pe_str (nomark _)) (pe_one (pe_and (pe_cmpR op_eq (pv 4) pe_str (nomark _)) (pe_one (pe_cmpR op_eq (pe_ix ix_tup (pv 1) pe_int (fun _ _ => rfl)) pe_str (nomark _)))))))))
      (pss_cons (ps_set (i := 9) sc_Lholds.nd rfl (Or.inl rfl) (pe_or (pv 7) (pe_one (pe_and (pe_cmpR op_eq (pe_ix ix_tup (pv 1) pe_int (fun _ _ => rfl)) pe_str (nomark _)) (pe_one (pe_or (pv 6) (pe_one (pe_and (pv 8) (pe_one (pe_cmpR op_eq (pv 5) pe_str (nomark _)))))))))))
      (pss_cons (ps_set (i := 10) sc_Lholds.nd rfl (Or.inl rfl) (pe_or (pe_cmpR op_eq (pv 4) pe_str (nomark _)) (pe_one (pe_and (pe_cmpR op_eq (pv 4) pe_str (nomark _)) (pe_one (pe_cmpR op_in_seq (pv 3) (pe_lst (pa_cons pe_str (pa_cons pe_str pa_nil))) (by rfl)))))))
      (pss_cons (ps_set (i := 11) sc_Lholds.nd rfl (Or.inl rfl) (pe_or (pv 6) (pe_or (pe_and (pe_cmpR op_eq (pv 5) pe_str (nomark _)) (pe_one (pe_cmpR op_ne (pv 3) pe_str (nomark _)))) (pe_one (pe_and (pe_cmpR op_eq (pe_ix ix_tup (pv 1) pe_int (fun _ _ => rfl)) pe_str (nomark _)) (pe_one (pv 10)))))))
      (pss_cons (ps_set (i := 12) sc_Lholds.nd rfl (Or.inl rfl) (pe_and (pe_cmpR op_eq (pv 4) pe_str (nomark _)) (pe_one (pe_cmpR op_eq (pe_ix ix_tup (pv 1) pe_int (fun _ _ => rfl)) pe_str (nomark _)))))
      (pss_cons (ps_set (i := 13) sc_Lholds.nd rfl (Or.inl rfl) (pe_cmpR op_eq (pe_ix ix_tup (pv 1) pe_int (fun _ _ => rfl)) pe_str (nomark _)))
      (pss_cons (ps_set (i := 14) sc_Lholds.nd rfl (Or.inl rfl) (pe_disp (pps_cons pe_str (pe_or (pe_cmpR op_eq (pv 5) pe_str (nomark _)) (pe_one (pv 13))) (pps_cons pe_str (pv 9) (pps_cons pe_str (pv 11) (pps_cons pe_str (pe_and (pv 9) (pe_one (pv 11))) pps_nil)))) rfl rfl (by simp) (by decide)))
      (pss_cons (ps_dput hu (pv 14) pe_str (pe_and (pe_cmpR op_ne (pv 4) pe_str (nomark _)) (pe_one (pe_or (pv 13) (pe_one (pe_cmpR op_eq (pv 5) pe_str (nomark _)))))) rfl)
      (pss_cons (ps_dput hu (pv 14) pe_str (pe_and (pe_dget hu (pv 14) pe_str (fun _ _ => rfl)) (pe_one (pe_not (pe_and (pe_cmpR op_eq (pv 4) pe_str (nomark _)) (pe_and (pe_cmpR op_eq (pe_ix ix_tup (pv 1) pe_int (fun _ _ => rfl)) pe_str (nomark _)) (pe_one (pe_bm PySem.F.plainAttrs_str PySem.F.slot_str_endswith PySem.F.type_str_endswith mt_endswith (pv 3) (pa_cons pe_str pa_nil)))))))) rfl)
      (pss_cons (ps_asg (pe_tup (pa_cons (pe_or (pe_cmpR op_ne (pv 3) pe_str (nomark _)) (pe_one (pe_cmpR op_eq (pv 4) pe_str (nomark _)))) (pa_cons (pe_cmpR op_eq (pv 5) pe_str (nomark _)) pa_nil))) (pg_tup rfl (pgs_cons (pg_sub (pv 14) pe_str (set_dict hu)) (pgs_cons (pg_sub (pv 14) pe_str (set_dict hu)) pgs_nil))))
      (pss_cons (ps_dput hu (pv 14) pe_str (pe_ifExp (pt_val (pv 6)) (pe_cmpR op_eq (pe_ix ix_tup (pv 1) pe_int (fun _ _ => rfl)) pe_str (nomark _)) (pe_and (pv 13) (pe_one (pv 9)))) rfl)
      (pss_cons (ps_dput hu (pv 14) pe_str (pe_or (pv 6) (pe_one (pe_and (pv 13) (pe_one (pe_or (pv 7) (pe_one (pe_and (pv 8) (pe_one (pe_not (pv 12)))))))))) rfl)
      (pss_cons (ps_dput hu (pv 14) pe_str (pe_cmpR op_eq (pv 5) pe_str (nomark _)) rfl)
      (pss_one (ps_ret (pe_dget hu (pv 14) (pv 2) (fun _ _ => rfl)))))))))))))))))))), ?_⟩
    refine ⟨_, rfl, _, _, rfl, SqT.of hd, rfl, _, _, rfl, _, _, rfl, _, _, rfl, rfl, ?_⟩
    have x0 : Evl.Ex H H := Evl.Ex.refl H
    have hd0 := hd
    have hw0 := hw
    show tSeq _ _ _ [some (.ref d), some (.ref u), some (pmV m), some (.str c.path), some (.str c.guard), some (.str c.flight), none, none, none, none, none, none, none, none, none] H
    refine q_asgE (v := .bl ((decide (V.str c.guard = V.str "never")) && (!decide (V.str c.path = V.str "store set")))) (Evl.ev_andV (Evl.ev_op (Evl.ev_var rfl) Evl.ev_c (Evl.rv_eq rfl)) (fun _ => (Evl.ev_op (Evl.ev_var rfl) Evl.ev_c (Evl.rv_ne rfl)))) rfl fun H1 e1 => ?_
    have x1 := x0.trans e1
    clear e1
    replace hd := x1 _ _ hd0
    replace hw := x1 _ _ hw0
    generalize hby_v : ((decide (V.str c.guard = V.str "never")) && (!decide (V.str c.path = V.str "store set"))) = by_v
    show tSeq _ _ _ [some (.ref d), some (.ref u), some (pmV m), some (.str c.path), some (.str c.guard), some (.str c.flight), some (.bl by_v), none, none, none, none, none, none, none, none] H1
    refine q_asgE (v := .bl ((decide (V.str c.path = V.str "store set")) && ((inV (V.str c.guard) [V.str "mark", V.str "newer"]) && (decide (V.str c.evict = V.str "keeps"))))) (Evl.ev_andV (Evl.ev_op (Evl.ev_var rfl) Evl.ev_c (Evl.rv_eq rfl)) (fun _ => (Evl.ev_andV (ev_inLN (Evl.ev_var rfl) (Evl.el_lst (Evl.ea_cons Evl.ev_c (Evl.ea_cons Evl.ev_c Evl.ea_nil)) (by simp)) rfl rfl) (fun _ => (Evl.ev_op (Evl.ev_op (Evl.ev_var rfl) Evl.ev_c (Evl.rv_ixT (SqT.of hw) rfl)) Evl.ev_c (Evl.rv_eq rfl)))))) rfl fun H2 e2 => ?_
    have x2 := x1.trans e2
    clear e2
    replace hd := x2 _ _ hd0
    replace hw := x2 _ _ hw0
    generalize hclimbs_v_v : ((decide (V.str c.path = V.str "store set")) && ((inV (V.str c.guard) [V.str "mark", V.str "newer"]) && (decide (V.str c.evict = V.str "keeps")))) = climbs_v_v
    show tSeq _ _ _ [some (.ref d), some (.ref u), some (pmV m), some (.str c.path), some (.str c.guard), some (.str c.flight), some (.bl by_v), some (.bl climbs_v_v), none, none, none, none, none, none, none] H2
    refine q_asgE (v := .bl ((Txt.endswith c.path "drop") && ((decide (V.str c.guard = V.str "token")) || ((decide (V.str c.guard = V.str "mark")) && (decide (V.str c.evict = V.str "keeps")))))) (Evl.ev_andV (ev_ends (Evl.ev_var rfl)) (fun _ => (Evl.ev_orV (Evl.ev_op (Evl.ev_var rfl) Evl.ev_c (Evl.rv_eq rfl)) (fun _ => (Evl.ev_andV (Evl.ev_op (Evl.ev_var rfl) Evl.ev_c (Evl.rv_eq rfl)) (fun _ => (Evl.ev_op (Evl.ev_op (Evl.ev_var rfl) Evl.ev_c (Evl.rv_ixT (SqT.of hw) rfl)) Evl.ev_c (Evl.rv_eq rfl)))))))) rfl fun H3 e3 => ?_
    have x3 := x2.trans e3
    clear e3
    replace hd := x3 _ _ hd0
    replace hw := x3 _ _ hw0
    generalize hguards_v_v : ((Txt.endswith c.path "drop") && ((decide (V.str c.guard = V.str "token")) || ((decide (V.str c.guard = V.str "mark")) && (decide (V.str c.evict = V.str "keeps"))))) = guards_v_v
    show tSeq _ _ _ [some (.ref d), some (.ref u), some (pmV m), some (.str c.path), some (.str c.guard), some (.str c.flight), some (.bl by_v), some (.bl climbs_v_v), some (.bl guards_v_v), none, none, none, none, none, none] H3
    refine q_asgE (v := .bl (climbs_v_v || ((decide (V.str c.source = V.str "primary")) && (by_v || (guards_v_v && (decide (V.str c.flight = V.str "alone"))))))) (Evl.ev_orV (Evl.ev_var rfl) (fun _ => (Evl.ev_andV (Evl.ev_op (Evl.ev_op (Evl.ev_var rfl) Evl.ev_c (Evl.rv_ixT (SqT.of hw) rfl)) Evl.ev_c (Evl.rv_eq rfl)) (fun _ => (Evl.ev_orV (Evl.ev_var rfl) (fun _ => (Evl.ev_andV (Evl.ev_var rfl) (fun _ => (Evl.ev_op (Evl.ev_var rfl) Evl.ev_c (Evl.rv_eq rfl)))))))))) rfl fun H4 e4 => ?_
    have x4 := x3.trans e4
    clear e4
    replace hd := x4 _ _ hd0
    replace hw := x4 _ _ hw0
    generalize hfresh_v : (climbs_v_v || ((decide (V.str c.source = V.str "primary")) && (by_v || (guards_v_v && (decide (V.str c.flight = V.str "alone")))))) = fresh_v
    show tSeq _ _ _ [some (.ref d), some (.ref u), some (pmV m), some (.str c.path), some (.str c.guard), some (.str c.flight), some (.bl by_v), some (.bl climbs_v_v), some (.bl guards_v_v), some (.bl fresh_v), none, none, none, none, none] H4
    refine q_asgE (v := .bl ((decide (V.str c.guard = V.str "mark")) || ((decide (V.str c.guard = V.str "newer")) && (inV (V.str c.path) [V.str "store", V.str "store set"])))) (Evl.ev_orV (Evl.ev_op (Evl.ev_var rfl) Evl.ev_c (Evl.rv_eq rfl)) (fun _ => (Evl.ev_andV (Evl.ev_op (Evl.ev_var rfl) Evl.ev_c (Evl.rv_eq rfl)) (fun _ => (ev_inLN (Evl.ev_var rfl) (Evl.el_lst (Evl.ea_cons Evl.ev_c (Evl.ea_cons Evl.ev_c Evl.ea_nil)) (by simp)) rfl rfl))))) rfl fun H5 e5 => ?_
    have x5 := x4.trans e5
    clear e5
    replace hd := x5 _ _ hd0
    replace hw := x5 _ _ hw0
    generalize hlow_v : ((decide (V.str c.guard = V.str "mark")) || ((decide (V.str c.guard = V.str "newer")) && (inV (V.str c.path) [V.str "store", V.str "store set"]))) = low_v
    show tSeq _ _ _ [some (.ref d), some (.ref u), some (pmV m), some (.str c.path), some (.str c.guard), some (.str c.flight), some (.bl by_v), some (.bl climbs_v_v), some (.bl guards_v_v), some (.bl fresh_v), some (.bl low_v), none, none, none, none] H5
    refine q_asgE (v := .bl (by_v || (((decide (V.str c.flight = V.str "shared")) && (!decide (V.str c.path = V.str "store set"))) || ((decide (V.str c.evict = V.str "keeps")) && low_v)))) (Evl.ev_orV (Evl.ev_var rfl) (fun _ => (Evl.ev_orV (Evl.ev_andV (Evl.ev_op (Evl.ev_var rfl) Evl.ev_c (Evl.rv_eq rfl)) (fun _ => (Evl.ev_op (Evl.ev_var rfl) Evl.ev_c (Evl.rv_ne rfl)))) (fun _ => (Evl.ev_andV (Evl.ev_op (Evl.ev_op (Evl.ev_var rfl) Evl.ev_c (Evl.rv_ixT (SqT.of hw) rfl)) Evl.ev_c (Evl.rv_eq rfl)) (fun _ => (Evl.ev_var rfl))))))) rfl fun H6 e6 => ?_
    have x6 := x5.trans e6
    clear e6
    replace hd := x6 _ _ hd0
    replace hw := x6 _ _ hw0
    generalize hforward_v : (by_v || (((decide (V.str c.flight = V.str "shared")) && (!decide (V.str c.path = V.str "store set"))) || ((decide (V.str c.evict = V.str "keeps")) && low_v))) = forward_v
    show tSeq _ _ _ [some (.ref d), some (.ref u), some (pmV m), some (.str c.path), some (.str c.guard), some (.str c.flight), some (.bl by_v), some (.bl climbs_v_v), some (.bl guards_v_v), some (.bl fresh_v), some (.bl low_v), some (.bl forward_v), none, none, none] H6
    refine q_asgE (v := .bl ((decide (V.str c.guard = V.str "token")) && (decide (V.str c.source = V.str "replica")))) (Evl.ev_andV (Evl.ev_op (Evl.ev_var rfl) Evl.ev_c (Evl.rv_eq rfl)) (fun _ => (Evl.ev_op (Evl.ev_op (Evl.ev_var rfl) Evl.ev_c (Evl.rv_ixT (SqT.of hw) rfl)) Evl.ev_c (Evl.rv_eq rfl)))) rfl fun H7 e7 => ?_
    have x7 := x6.trans e7
    clear e7
    replace hd := x7 _ _ hd0
    replace hw := x7 _ _ hw0
    generalize hlate_v : ((decide (V.str c.guard = V.str "token")) && (decide (V.str c.source = V.str "replica"))) = late_v
    show tSeq _ _ _ [some (.ref d), some (.ref u), some (pmV m), some (.str c.path), some (.str c.guard), some (.str c.flight), some (.bl by_v), some (.bl climbs_v_v), some (.bl guards_v_v), some (.bl fresh_v), some (.bl low_v), some (.bl forward_v), some (.bl late_v), none, none] H7
    refine q_asgE (v := .bl (decide (V.str c.stop = V.str "finishes"))) (Evl.ev_op (Evl.ev_op (Evl.ev_var rfl) Evl.ev_c (Evl.rv_ixT (SqT.of hw) rfl)) Evl.ev_c (Evl.rv_eq rfl)) rfl fun H8 e8 => ?_
    have x8 := x7.trans e8
    clear e8
    replace hd := x8 _ _ hd0
    replace hw := x8 _ _ hw0
    generalize hwhole_v : (decide (V.str c.stop = V.str "finishes")) = whole_v
    show tSeq _ _ _ [some (.ref d), some (.ref u), some (pmV m), some (.str c.path), some (.str c.guard), some (.str c.flight), some (.bl by_v), some (.bl climbs_v_v), some (.bl guards_v_v), some (.bl fresh_v), some (.bl low_v), some (.bl forward_v), some (.bl late_v), some (.bl whole_v), none] H8
    refine fun p np => ?_
    have x9 := x8.trans (Evl.Ex.new (o := .dK []) np)
    have hp : (upd H8 p (.dK [])) p = some (.dK []) := upd_same
    have np0 : H p = none := Evl.fresh_back x8 np
    generalize upd H8 p (.dK []) = H9 at x9 hp
    replace hd := x9 _ _ hd0
    replace hw := x9 _ _ hw0
    refine ev_go (te := tOrV _ _) (v := .bl ((decide (V.str c.flight = V.str "alone")) || whole_v)) (by exact (Evl.ev_orV (Evl.ev_op (Evl.ev_var rfl) Evl.ev_c (Evl.rv_eq rfl)) (fun _ => (Evl.ev_var rfl)))) (Evl.Ex.refl _) fun H10 e10 => ?_
    refine ⟨_, rfl, _, rfl, ?_⟩
    refine ev_go (te := tAndV _ _) (v := .bl (fresh_v && forward_v)) (by exact (Evl.ev_andV (Evl.ev_var rfl) (fun _ => (Evl.ev_var rfl)))) e10 fun H13 e13 => ?_
    have y13 := e10.trans e13
    generalize hv0 : ((decide (V.str c.flight = V.str "alone")) || whole_v) = v0
    generalize hv3 : (fresh_v && forward_v) = v3
    refine ⟨y13 _ _ hp, [(.inr "ending", .bl v0), (.inr "fresh", .bl fresh_v), (.inr "forward", .bl forward_v), (.inr "linear", .bl v3)], rfl, by simp, ?_⟩
    generalize eH : upd H13 p (.dK (mergeK [] [(.inr "ending", .bl v0), (.inr "fresh", .bl fresh_v), (.inr "forward", .bl forward_v), (.inr "linear", .bl v3)])) = G0
    have g0 : Evl.Ex H G0 := by
      rw [← eH]
      exact Evl.Ex.mut (x9.trans y13) np0
    have p0 : G0 p = some (.dK [(.inr "ending", .bl v0), (.inr "fresh", .bl fresh_v), (.inr "forward", .bl forward_v), (.inr "linear", .bl v3)]) := by
      rw [← eH]
      exact upd_same
    clear eH hp y13 e10 e13
    replace hd := g0 _ _ hd0
    replace hw := g0 _ _ hw0
    show tSeq _ _ _ [some (.ref d), some (.ref u), some (pmV m), some (.str c.path), some (.str c.guard), some (.str c.flight), some (.bl by_v), some (.bl climbs_v_v), some (.bl guards_v_v), some (.bl fresh_v), some (.bl low_v), some (.bl forward_v), some (.bl late_v), some (.bl whole_v), some (.ref p)] G0
    refine q_dput (v := .bl ((!decide (V.str c.guard = V.str "never")) && (whole_v || (decide (V.str c.flight = V.str "alone"))))) (Evl.ev_andV (Evl.ev_op (Evl.ev_var rfl) Evl.ev_c (Evl.rv_ne rfl)) (fun _ => (Evl.ev_orV (Evl.ev_var rfl) (fun _ => (Evl.ev_op (Evl.ev_var rfl) Evl.ev_c (Evl.rv_eq rfl)))))) rfl p0 (by simp) fun F1 f1 => ?_
    generalize hv10 : ((!decide (V.str c.guard = V.str "never")) && (whole_v || (decide (V.str c.flight = V.str "alone")))) = v10
    obtain ⟨g1, p1⟩ := put_new (o := .dK (putK [(.inr "ending", .bl v0), (.inr "fresh", .bl fresh_v), (.inr "forward", .bl forward_v), (.inr "linear", .bl v3)] (Sum.inr "filled") (.bl v10))) (o' := .dK [(.inr "ending", .bl v0), (.inr "fresh", .bl fresh_v), (.inr "forward", .bl forward_v), (.inr "linear", .bl v3), (.inr "filled", .bl v10)]) g0 f1 np0 rfl
    generalize upd F1 p (.dK (putK [(.inr "ending", .bl v0), (.inr "fresh", .bl fresh_v), (.inr "forward", .bl forward_v), (.inr "linear", .bl v3)] (Sum.inr "filled") (.bl v10))) = G1 at g1 p1
    clear f1
    replace hd := g1 _ _ hd0
    replace hw := g1 _ _ hw0
    refine q_dput (v := .bl (v10 && (!((decide (V.str c.guard = V.str "mark")) && ((decide (V.str c.source = V.str "replica")) && (Txt.endswith c.path "drop")))))) (Evl.ev_andV (ev_dg rfl p1 rfl) (fun _ => Evl.ev_notV (Evl.ev_andV (Evl.ev_op (Evl.ev_var rfl) Evl.ev_c (Evl.rv_eq rfl)) (fun _ => Evl.ev_andV (Evl.ev_op (Evl.ev_op (Evl.ev_var rfl) Evl.ev_c (Evl.rv_ixT (SqT.of hw) rfl)) Evl.ev_c (Evl.rv_eq rfl)) (fun _ => ev_ends (Evl.ev_var rfl)))))) rfl p1 (by simp) fun F2 f2 => ?_
    generalize hv11 : (v10 && (!((decide (V.str c.guard = V.str "mark")) && ((decide (V.str c.source = V.str "replica")) && (Txt.endswith c.path "drop"))))) = v11
    obtain ⟨g2, p2⟩ := put_new (o := .dK (putK [(.inr "ending", .bl v0), (.inr "fresh", .bl fresh_v), (.inr "forward", .bl forward_v), (.inr "linear", .bl v3), (.inr "filled", .bl v10)] (Sum.inr "filled") (.bl v11))) (o' := .dK [(.inr "ending", .bl v0), (.inr "fresh", .bl fresh_v), (.inr "forward", .bl forward_v), (.inr "linear", .bl v3), (.inr "filled", .bl v11)]) g1 f2 np0 rfl
    generalize upd F2 p (.dK (putK [(.inr "ending", .bl v0), (.inr "fresh", .bl fresh_v), (.inr "forward", .bl forward_v), (.inr "linear", .bl v3), (.inr "filled", .bl v10)] (Sum.inr "filled") (.bl v11))) = G2 at g2 p2
    clear f2
    replace hd := g2 _ _ hd0
    replace hw := g2 _ _ hw0
    refine q_asgP (x := .bl ((!decide (V.str c.path = V.str "store")) || (decide (V.str c.guard = V.str "never")))) (y := .bl (decide (V.str c.flight = V.str "alone"))) (kvs := [(.inr "ending", .bl v0), (.inr "fresh", .bl fresh_v), (.inr "forward", .bl forward_v), (.inr "linear", .bl v3), (.inr "filled", .bl v11)]) (kvs' := [(.inr "ending", .bl v0), (.inr "fresh", .bl fresh_v), (.inr "forward", .bl forward_v), (.inr "linear", .bl v3), (.inr "filled", .bl v11), (.inr "mended", .bl ((!decide (V.str c.path = V.str "store")) || (decide (V.str c.guard = V.str "never")))), (.inr "moving", .bl (decide (V.str c.flight = V.str "alone")))]) (Evl.ev_orV (Evl.ev_op (Evl.ev_var rfl) Evl.ev_c (Evl.rv_ne rfl)) (fun _ => (Evl.ev_op (Evl.ev_var rfl) Evl.ev_c (Evl.rv_eq rfl)))) (Evl.ev_op (Evl.ev_var rfl) Evl.ev_c (Evl.rv_eq rfl)) rfl p2 (by simp) rfl np0 g2 fun G4 g4 p4 => ?_
    generalize hv12 : ((!decide (V.str c.path = V.str "store")) || (decide (V.str c.guard = V.str "never"))) = v12 at p4
    generalize hv13 : (decide (V.str c.flight = V.str "alone")) = v13 at p4
    replace hd := g4 _ _ hd0
    replace hw := g4 _ _ hw0
    refine q_dput (v := .bl (cond by_v (decide (V.str c.source = V.str "primary")) (whole_v && fresh_v))) (Evl.ev_if (Evl.et_test (Evl.ev_var rfl)) (fun hb => Evl.ev_is (Evl.ev_op (Evl.ev_op (Evl.ev_var rfl) Evl.ev_c (Evl.rv_ixT (SqT.of hw) rfl)) Evl.ev_c (Evl.rv_eq rfl)) (by rw [hb] <;> rfl)) (fun hb => Evl.ev_is (Evl.ev_andV (Evl.ev_var rfl) (fun _ => (Evl.ev_var rfl))) (by rw [hb] <;> rfl))) rfl p4 (by simp) fun F5 f5 => ?_
    generalize hv14 : (cond by_v (decide (V.str c.source = V.str "primary")) (whole_v && fresh_v)) = v14
    obtain ⟨g5, p5⟩ := put_new (o := .dK (putK [(.inr "ending", .bl v0), (.inr "fresh", .bl fresh_v), (.inr "forward", .bl forward_v), (.inr "linear", .bl v3), (.inr "filled", .bl v11), (.inr "mended", .bl v12), (.inr "moving", .bl v13)] (Sum.inr "quiet") (.bl v14))) (o' := .dK [(.inr "ending", .bl v0), (.inr "fresh", .bl fresh_v), (.inr "forward", .bl forward_v), (.inr "linear", .bl v3), (.inr "filled", .bl v11), (.inr "mended", .bl v12), (.inr "moving", .bl v13), (.inr "quiet", .bl v14)]) g4 f5 np0 rfl
    generalize upd F5 p (.dK (putK [(.inr "ending", .bl v0), (.inr "fresh", .bl fresh_v), (.inr "forward", .bl forward_v), (.inr "linear", .bl v3), (.inr "filled", .bl v11), (.inr "mended", .bl v12), (.inr "moving", .bl v13)] (Sum.inr "quiet") (.bl v14))) = G5 at g5 p5
    clear f5
    replace hd := g5 _ _ hd0
    replace hw := g5 _ _ hw0
    refine q_dput (v := .bl (by_v || (whole_v && (climbs_v_v || (guards_v_v && (!late_v)))))) (Evl.ev_orV (Evl.ev_var rfl) (fun _ => (Evl.ev_andV (Evl.ev_var rfl) (fun _ => (Evl.ev_orV (Evl.ev_var rfl) (fun _ => (Evl.ev_andV (Evl.ev_var rfl) (fun _ => (Evl.ev_notV (Evl.ev_var rfl)))))))))) rfl p5 (by simp) fun F6 f6 => ?_
    generalize hv15 : (by_v || (whole_v && (climbs_v_v || (guards_v_v && (!late_v))))) = v15
    obtain ⟨g6, p6⟩ := put_new (o := .dK (putK [(.inr "ending", .bl v0), (.inr "fresh", .bl fresh_v), (.inr "forward", .bl forward_v), (.inr "linear", .bl v3), (.inr "filled", .bl v11), (.inr "mended", .bl v12), (.inr "moving", .bl v13), (.inr "quiet", .bl v14)] (Sum.inr "rest") (.bl v15))) (o' := .dK [(.inr "ending", .bl v0), (.inr "fresh", .bl fresh_v), (.inr "forward", .bl forward_v), (.inr "linear", .bl v3), (.inr "filled", .bl v11), (.inr "mended", .bl v12), (.inr "moving", .bl v13), (.inr "quiet", .bl v14), (.inr "rest", .bl v15)]) g5 f6 np0 rfl
    generalize upd F6 p (.dK (putK [(.inr "ending", .bl v0), (.inr "fresh", .bl fresh_v), (.inr "forward", .bl forward_v), (.inr "linear", .bl v3), (.inr "filled", .bl v11), (.inr "mended", .bl v12), (.inr "moving", .bl v13), (.inr "quiet", .bl v14)] (Sum.inr "rest") (.bl v15))) = G6 at g6 p6
    clear f6
    replace hd := g6 _ _ hd0
    replace hw := g6 _ _ hw0
    refine q_dput (v := .bl (decide (V.str c.flight = V.str "shared"))) (Evl.ev_op (Evl.ev_var rfl) Evl.ev_c (Evl.rv_eq rfl)) rfl p6 (by simp) fun F7 f7 => ?_
    generalize hv16 : (decide (V.str c.flight = V.str "shared")) = v16
    obtain ⟨g7, p7⟩ := put_new (o := .dK (putK [(.inr "ending", .bl v0), (.inr "fresh", .bl fresh_v), (.inr "forward", .bl forward_v), (.inr "linear", .bl v3), (.inr "filled", .bl v11), (.inr "mended", .bl v12), (.inr "moving", .bl v13), (.inr "quiet", .bl v14), (.inr "rest", .bl v15)] (Sum.inr "single") (.bl v16))) (o' := .dK [(.inr "ending", .bl v0), (.inr "fresh", .bl fresh_v), (.inr "forward", .bl forward_v), (.inr "linear", .bl v3), (.inr "filled", .bl v11), (.inr "mended", .bl v12), (.inr "moving", .bl v13), (.inr "quiet", .bl v14), (.inr "rest", .bl v15), (.inr "single", .bl v16)]) g6 f7 np0 rfl
    generalize upd F7 p (.dK (putK [(.inr "ending", .bl v0), (.inr "fresh", .bl fresh_v), (.inr "forward", .bl forward_v), (.inr "linear", .bl v3), (.inr "filled", .bl v11), (.inr "mended", .bl v12), (.inr "moving", .bl v13), (.inr "quiet", .bl v14), (.inr "rest", .bl v15)] (Sum.inr "single") (.bl v16))) = G7 at g7 p7
    clear f7
    replace hd := g7 _ _ hd0
    replace hw := g7 _ _ hw0
    subst hv16 hv15 hv14 hv13 hv12 hv11 hv10 hv3 hv0 hwhole_v hlate_v hforward_v hlow_v hfresh_v hguards_v_v hclimbs_v_v hby_v
    cases m
    all_goals
      refine ⟨_, rfl, _, rfl, _, _, rfl, dget p7 rfl, ?_⟩
      exact q _ g7
end
end Ca

set_option Elab.async false
set_option linter.all false
set_option maxRecDepth 100000
set_option maxHeartbeats 4000000
namespace Ca
open PySem L2
/-- the law's own promise: True for every script -/
@[irreducible] def spLaw (K : PySem.W.Frag) : Sp := fun vs H Q _ => ∃ (a : Addr) (ns : List Int), vs = [.ref a] ∧ SqL K H a (ns.map V.int) ∧ ∀ H', Q (.bl true) H'
end Ca

set_option Elab.async false
set_option linter.all false
set_option maxRecDepth 100000
set_option maxHeartbeats 4000000
namespace Ca
open PySem PySem.Spec PyProof.Rows L2
/-! ### comprehensions of three clauses without tests -/
/-- a turn: the next item, its store, what comes then -/
def turnOf (p : Pos) (tg : Expr) (it : Value) (env : Env) (rest : Sem PySem.Fin) : Sem PySem.Fin := do
  standAt p
  match ← pyNext it with
  | none => pure (.done .next)
  | some v =>
    letOwnedTupleGo tg it v
    assign tg env v
    rest
/-- what comes then where a further clause stands -/
def deeper (e : Expr) (iter : Expr) (k : Nat) (it acc : Value) (env : Env) : Sem PySem.Fin := do
  let x ← eval iter env
  standAt iter.pos
  let y ← foldedSetIterable iter env x
  let _ ← runOwn (.compStart e (k + 1) (← holding [y] (pyIter y)) acc env) env
  again (.compLoop e k it acc env)
/-- .. where none does -/
def laid (e elt : Expr) (k : Nat) (it acc : Value) (env : Env) : Sem PySem.Fin := do
  (do let _ ← call (.builtin "list.append") [acc, ← eval elt env])
  again (.compLoop e k it acc env)
abbrev lc3 (elt t0 i0 t1 i1 t2 i2 : Expr) (scope : Scope) (pos : Pos) : Expr := .ListComp elt [⟨t0, i0, [], 0⟩, ⟨t1, i1, [], 0⟩, ⟨t2, i2, [], 0⟩] scope pos
section
variable {elt t0 i0 t1 i1 t2 i2 : Expr} {scope : Scope} {pos : Pos} {it acc : Value} {env : Env}
theorem turn3_0 : compTurn (lc3 elt t0 i0 t1 i1 t2 i2 scope pos) 0 it acc env = turnOf i0.pos t0 it env (deeper (lc3 elt t0 i0 t1 i1 t2 i2 scope pos) i1 0 it acc env) := by rfl
theorem turn3_1 : compTurn (lc3 elt t0 i0 t1 i1 t2 i2 scope pos) 1 it acc env = turnOf i1.pos t1 it env (deeper (lc3 elt t0 i0 t1 i1 t2 i2 scope pos) i2 1 it acc env) := by rfl
theorem turn3_2 : compTurn (lc3 elt t0 i0 t1 i1 t2 i2 scope pos) 2 it acc env = turnOf i2.pos t2 it env (laid (lc3 elt t0 i0 t1 i1 t2 i2 scope pos) elt 2 it acc env) := by rfl
end
section
variable {prog : Program} {w : World} {A : Around} {R : Result → Shared → Prop} {s : Shared} {elt t0 i0 t1 i1 t2 i2 : Expr} {scope : Scope} {pos : Pos} {it acc : Value} {env : Env}
theorem start3_1 (h0 : codeAny (model prog w) A (.compLoop (lc3 elt t0 i0 t1 i1 t2 i2 scope pos) 1 it acc env) R s)
    (h : wpAny (model prog w) A (pyIter it) (fun j s1 => codeAny (model prog w) A (.compLoop (lc3 elt t0 i0 t1 i1 t2 i2 scope pos) 1 j acc env) R s1) (notedBy (model prog w) A env fun x s1 => R (.error x) s1) s) :
    codeAny (model prog w) A (.compStart (lc3 elt t0 i0 t1 i1 t2 i2 scope pos) 1 it acc env) R s := by
  refine codeAny_of_tree ?_
  show wpAny _ _ ((compStart (lc3 elt t0 i0 t1 i1 t2 i2 scope pos) 1 it acc env).onRaise fun x => do noteFrame x env; standAt theWindowsPlace) _ _ s
  refine wpAny_notedAt ?_
  unfold compStart
  show wpAny _ _ (ask >>= _) _ _ s
  refine wpAny_bind (wpAny_askSetting (wpAny_ite ?_))
  split
  · first | exact wpAny_bind (wpAny_pure (wpAny_pure ⟨rfl, h0⟩)) | exact wpAny_pure ⟨rfl, h0⟩
  · refine wpAny_bind (wpAny_rule ?_)
    show wpAny _ _ (standAt i1.pos >>= _) _ _ s
    exact wpAny_bind (wpAny_standAt (wpAny_bind (wpAny_mono h (fun j s1 q => wpAny_pure ⟨rfl, q⟩) fun _ _ q => q)))
theorem start3_2 (h0 : codeAny (model prog w) A (.compLoop (lc3 elt t0 i0 t1 i1 t2 i2 scope pos) 2 it acc env) R s)
    (h : wpAny (model prog w) A (pyIter it) (fun j s1 => codeAny (model prog w) A (.compLoop (lc3 elt t0 i0 t1 i1 t2 i2 scope pos) 2 j acc env) R s1) (notedBy (model prog w) A env fun x s1 => R (.error x) s1) s) :
    codeAny (model prog w) A (.compStart (lc3 elt t0 i0 t1 i1 t2 i2 scope pos) 2 it acc env) R s := by
  refine codeAny_of_tree ?_
  show wpAny _ _ ((compStart (lc3 elt t0 i0 t1 i1 t2 i2 scope pos) 2 it acc env).onRaise fun x => do noteFrame x env; standAt theWindowsPlace) _ _ s
  refine wpAny_notedAt ?_
  unfold compStart
  show wpAny _ _ (ask >>= _) _ _ s
  refine wpAny_bind (wpAny_askSetting (wpAny_ite ?_))
  split
  · first | exact wpAny_bind (wpAny_pure (wpAny_pure ⟨rfl, h0⟩)) | exact wpAny_pure ⟨rfl, h0⟩
  · refine wpAny_bind (wpAny_rule ?_)
    show wpAny _ _ (standAt i2.pos >>= _) _ _ s
    exact wpAny_bind (wpAny_standAt (wpAny_bind (wpAny_mono h (fun j s1 q => wpAny_pure ⟨rfl, q⟩) fun _ _ q => q)))
end
/-- what a further clause leaves: the block's slots but those of its own targets, and what was wished -/
def After (B : Cx) (pins : List (Addr × Obj)) (σ : L2.St) (vs : List Nat) (Nx : Hp → Prop) (s : Shared) : Prop :=
  ∃ (σ' : L2.St) (H' : Hp), Inv B pins σ' H' s ∧ σ'.length = σ.length ∧ (∀ (j : Nat) v, j ∉ vs → σ[j]? = some (some v) → σ'[j]? = some (some v)) ∧ Nx H'
/-- a clause's loop, by the reading of what a turn does -/
def tLoop (g : TG) (tb : L2.St → Hp → (Hp → Prop) → Prop) (vs : List Nat) (σ : L2.St) (J : It) (H : Hp) (Nx : Hp → Prop) : Prop :=
  ∃ W : Nat → Nat → Hp → Prop, (∃ m, W 0 m H) ∧ ∀ i m H, W i m H → (J.stop i H ∧ Nx H) ∨ (J.go i H ∧ ∃ N1 : Hp → Prop, (∀ H', N1 H' → ∃ m', m' < m ∧ W (i + 1) m' H') ∧
    ∀ x H', J.yld i H x H' → g x (wipe σ vs) H' fun σ2 H2 => wipe σ2 vs = wipe σ vs ∧ tb σ2 H2 N1)
section
variable {B : Cx} {pins : List (Addr × Obj)} {σ : L2.St} {H : Hp} {s : Shared} {R : Result → Shared → Prop} {Nx : Hp → Prop}
theorem loop_gen {e : Expr} {k : Nat} {p : Pos} {tg : Expr} {it : Addr} {acc : Value} {rest : Sem PySem.Fin} {g : TG} {tb : L2.St → Hp → (Hp → Prop) → Prop} {vs vi : List Nat} {fp : List Addr} {tn : Nat → Heap → Prop} {J : It}
    (hq : (Code.compLoop e k (.ref it) acc B.env).quiet = true) (hu : B.A.under (Code.compLoop e k (.ref it) acc B.env) = B.A) (hd : (model B.prog B.w).den (Code.compLoop e k (.ref it) acc B.env) = (compTurn e k (.ref it) acc B.env).onRaise fun x => do noteFrame x B.env; theTreesLotGoes x) (he : compTurn e k (.ref it) acc B.env = turnOf p tg (.ref it) B.env rest) (hx : B.xe = fun _ _ => False) (hc : B.calm = true) (T : Turn B.prog B.w B.K tg J fp it tn) (pg : PG B tg g) (hv : ∀ i ∈ vi, i ∈ vs)
    (body : ∀ (pins : List (Addr × Obj)) (s : Shared) (σ : L2.St) (H : Hp) (N1 : Hp → Prop), Inv B pins σ H s → tb σ H N1 → wpAny (model B.prog B.w) B.A rest (fun f s1 => f = .again (.compLoop e k (.ref it) acc B.env) ∧ After B pins σ vi N1 s1) (fun _ _ => False) s)
    (I : Inv B pins (wipe σ vs) H s) (st : tn 0 s.heap) (hf : ∀ b ∈ fp, FpOk B pins H b) (h : tLoop g tb vs σ J H Nx) (fin : ∀ s1 H1, Inv B pins (wipe σ vs) H1 s1 → Nx H1 → R (.ok .next) s1) :
    codeAny (model B.prog B.w) B.A (.compLoop e k (.ref it) acc B.env) R s := by
  obtain ⟨W, ⟨m0, w0⟩, turn⟩ := h
  have bot : ∀ {P : Prop}, False → P := fun z => z.elim
  refine codeAny_loop hq (fun n s1 => ∃ i H1, Inv B pins (wipe σ vs) H1 s1 ∧ tn i s1.heap ∧ (∀ b ∈ fp, H1 b = none) ∧ W i n H1) (fun n s1 hI => ?_) m0 ⟨0, H, I, st, fun b hb => (hf b hb).1, w0⟩
  rw [hu, hd]
  refine wpAny_noted ?_
  rw [he]
  unfold turnOf
  refine wpAny_bind (wpAny_standAt (wpAny_bind ?_))
  obtain ⟨i, H1, I1, st1, n1, w1⟩ := hI
  have ok1 : ∀ b ∈ fp, FpOk B pins H1 b := fun b hb => ⟨n1 b hb, (hf b hb).2⟩
  rcases turn i n H1 w1 with ⟨stop, nx⟩ | ⟨go, N1, hN, step⟩
  · refine wpAny_mono (T.done B rfl rfl rfl hc i pins s1 _ H1 (fun _ _ => False) I1 ok1 st1 stop) (fun r s2 q => ?_) fun _ _ z => bot z
    obtain ⟨rfl, I2⟩ := q
    exact wpAny_pure (fin s2 H1 I2 nx)
  · refine wpAny_mono (T.item B rfl rfl rfl hc i pins s1 _ H1 (fun _ _ => False) I1 ok1 st1 go) (fun r s2 q => ?_) fun _ _ z => bot z
    obtain ⟨u, rfl, q⟩ := q
    refine wpAny_bind (wpAny_mono q (fun _ s3 q3 => ?_) fun _ _ z => bot z)
    obtain ⟨x, H3, I3, r3, y3, st3, n3⟩ := q3
    have P3 := I3.pinned (fun b hb => ⟨n3 b hb, (hf b hb).2⟩) (T.obj _ _ st3)
    have z3 := pg.run _ s3 _ H3 x u _ P3 r3 (step x H3 y3)
    rw [hx] at z3
    refine wpAny_bind (wpAny_mono z3 (fun _ s4 q4 => ?_) fun _ _ z => bot z)
    obtain ⟨σ4, H4, I4, hw4, t4⟩ := q4
    refine wpAny_mono (body _ s4 σ4 H4 N1 I4 t4) (fun f s5 q5 => ?_) fun _ _ z => bot z
    obtain ⟨rfl, σ5, H5, I5, l5, k5, x5⟩ := q5
    obtain ⟨m, lt, w5⟩ := hN H5 x5
    have pin : ∀ b ∈ fp, ∀ o, s3.heap.get? b = some o → s5.heap.get? b = some o ∧ H5 b = none := fun b hb o eo =>
      let z := I5.pin (b, o) (List.mem_append_right _ (List.mem_append_right _ (mem_pinsAt hb eo)))
      ⟨z.1, z.2.1⟩
    refine ⟨rfl, m, lt, i + 1, H5, (I5.unpinned).weak ?_ (fun j v ej => ?_), T.keep _ _ _ st3 fun b hb o eo => (pin b hb o eo).1, fun b hb => ?_, w5⟩
    · rw [← hw4, wipe_length, l5]
    · rw [← hw4] at ej
      obtain ⟨a1, a2⟩ := wipe_some ej
      exact k5 j v (fun z => a2 (hv j z)) a1
    · obtain ⟨o, eo, _⟩ := T.obj _ _ st3 b hb
      exact (pin b hb o eo).2
/-- the last clause's body -/
theorem laid_ok {e elt : Expr} {k : Nat} {it : Value} {te : TE} {D : Addr} (hx : B.xe = fun _ _ => False) (pe : PE B elt te) (N1 : Hp → Prop) (I : Inv B pins σ H s)
    (h : te σ H fun y H1 => ∃ acc, H1 D = some (.lst acc) ∧ acc.length < sizeLine ∧ N1 (upd H1 D (.lst (acc ++ [y])))) :
    wpAny (model B.prog B.w) B.A (laid e elt k it (.ref D) B.env) (fun f s1 => f = .again (.compLoop e k it (.ref D) B.env) ∧ After B pins σ [] N1 s1) (fun _ _ => False) s := by
  unfold laid
  have z := pe.run pins s σ H _ I h
  rw [hx] at z
  refine wpAny_bind (wpAny_bind (wpAny_mono z (fun v s1 q => ?_) fun _ _ z => z))
  obtain ⟨y, H1, I1, r1, acc, hD, hl, nx⟩ := q
  refine wpAny_bind (wpAny_mono (app_ok (X := B) (E := fun _ _ => False) (Q := fun _ s2 => After B pins σ [] N1 s2) I1 hD hl r1 fun s2 I2 => ⟨σ, _, I2, rfl, fun _ _ _ a => a, nx⟩) (fun _ s2 q => ?_) fun _ _ z => z)
  exact wpAny_pure (wpAny_pure ⟨rfl, q⟩)
/-- a further clause's body -/
theorem deeper_ok {e iter tg : Expr} {k : Nat} {it acc : Value} {wi : TI} {vi : List Nat} {tl : L2.St → It → Hp → (Hp → Prop) → Prop} (hx : B.xe = fun _ _ => False) (hs : ∀ x, foldedSetIterable iter B.env x = pure x) (pi : PI B tg iter wi) (N1 : Hp → Prop) (I : Inv B pins σ H s)
    (h : wi σ H fun J H1 => tl σ J H1 N1)
    (go : ∀ (it1 : Addr) (fp : List Addr) (tn : Nat → Heap → Prop) (J : It) (H1 : Hp) (s1 : Shared), Inv B pins σ H1 s1 → Turn B.prog B.w B.K tg J fp it1 tn → tn 0 s1.heap → (∀ b ∈ fp, FpOk B pins H1 b) → tl σ J H1 N1 →
      codeAny (model B.prog B.w) B.A (.compStart e (k + 1) (.ref it1) acc B.env) (fun r s2 => match r with
        | .ok _ => After B pins σ vi N1 s2
        | .error _ => False) s1) :
    wpAny (model B.prog B.w) B.A (deeper e iter k it acc B.env) (fun f s1 => f = .again (.compLoop e k it acc B.env) ∧ After B pins σ vi N1 s1) (fun _ _ => False) s := by
  unfold deeper
  have z := pi.run pins s σ H _ I h
  rw [hx] at z
  refine wpAny_bind (wpAny_mono z (fun x s1 q => ?_) fun _ _ z => z)
  refine wpAny_bind (wpAny_standAt (wpAny_bind (wpAny_of_eq (hs x) (wpAny_bind (wpAny_holding (wpAny_mono q (fun j s2 q2 => ?_) fun _ _ z => z))))))
  obtain ⟨it1, fp, tn, J, H1, rfl, I1, T, st, f1, q1⟩ := q2
  refine wpAny_bind (wpAny_runOwn ?_)
  rw [Around.mark_none]
  refine codeAny_mono (go it1 fp tn J H1 s2 I1 T st f1 q1) fun r s3 hr => ?_
  cases r with
  | ok f => first | exact wpAny_pure ⟨rfl, hr⟩ | exact wpAny_bind (wpAny_pure (wpAny_pure ⟨rfl, hr⟩))
  | error x => exact hr.elim
end

def tLast (D : Addr) (te : TE) : L2.St → Hp → (Hp → Prop) → Prop := fun σ H N => te σ H fun y H1 => ∃ acc, H1 D = some (.lst acc) ∧ acc.length < sizeLine ∧ N (upd H1 D (.lst (acc ++ [y])))
def tDeep (wi : TI) (g : TG) (tb : L2.St → Hp → (Hp → Prop) → Prop) (vs : List Nat) : L2.St → Hp → (Hp → Prop) → Prop := fun σ H N => wi σ H fun J H1 => tLoop g tb vs σ J H1 N
/-- [elt for .. in .. for .. in .. for .. in ..]: each clause's loop within the one ahead of it -/
def tLc3 (w0 : TI) (g0 : TG) (w1 : TI) (g1 : TG) (w2 : TI) (g2 : TG) (te : TE) (vs vs1 vs2 : List Nat) : TE := fun σ H Q => w0 σ H fun J H1 => ∀ D, H1 D = none → tLoop g0 (tDeep w1 g1 (tDeep w2 g2 (tLast D te) vs2) vs1) vs σ J (upd H1 D (.lst [])) fun H2 => Q (.ref D) H2
abbrev BlkA (X : Cx) (scope : Scope) (P : Cx → Prop) : Prop := ∀ (s : Shared) (H : Hp) (C : Addr) (cl : List (Str × Addr)) (fp : List Addr), P (X.blk s H scope (compEnvC scope cl C X.env) fp)
theorem pe_lc3 {X : Cx} {elt t0 i0 t1 i1 t2 i2 : Expr} {scope : Scope} {own : List (Str × Nat)} {vs1 vs2 : List Nat} {pos : Pos} {w0 w1 w2 : TI} {g0 g1 g2 : TG} {te : TE} (hc : X.calm = true) (hN : X.N.Nodup) (p0 : PI X t0 i0 w0) (ok : BlkOk X.N X.env.scope scope own)
    (hv1 : ∀ i ∈ vs1, i ∈ own.map (·.2)) (hv2 : ∀ i ∈ vs2, i ∈ vs1) (q0 : BlkA X scope fun B => PG B t0 g0) (p1 : BlkA X scope fun B => PI B t1 i1 w1) (q1 : BlkA X scope fun B => PG B t1 g1) (p2 : BlkA X scope fun B => PI B t2 i2 w2) (q2 : BlkA X scope fun B => PG B t2 g2) (pe : BlkA X scope fun B => PE B elt te)
    (h0 : ∀ x, foldedSetIterable i0 X.env x = pure x := by intro _; rfl) (h1 : ∀ env x, foldedSetIterable i1 env x = pure x := by intro _ _; rfl) (h2 : ∀ env x, foldedSetIterable i2 env x = pure x := by intro _ _; rfl) :
    PE X (lc3 elt t0 i0 t1 i1 t2 i2 scope pos) (tLc3 w0 g0 w1 g1 w2 g2 te (own.map (·.2)) vs1 vs2) := by
  refine ⟨fun pins s σ H Q I h => ?_⟩
  rw [eval_ListComp]
  have free : ∀ y ∈ scope.names, y.2 = .free → ∃ c, X.env.cells.lookup y.1 = some c := fun y hy e => (ok.free y hy e).elim (fun k => I.ok.has _ (.inl k)) fun k => I.ok.has _ (.inr k)
  refine wpAny_comprehension_free rfl h0 (closure_ok free) ok.kind (fun y hy e => (ok.uniq y hy).trans (by rw [e])) (thn (p0.run pins s σ H _ I h) fun xv s1 z => thn z fun jv s2 z2 => ?_)
  obtain ⟨it, fp, tn, J, HA, rfl, IA, T, stA, fA, q⟩ := z2
  refine wpAny_newObj_type (newEnv_comp ?_) (Nat.zero_le _)
  generalize hD : s2.heap.objs.size = D
  have nD : HA D = none := IA.hok.fresh (Nat.le_of_eq hD)
  have rd := q D nD
  generalize hsB : ({ s2 with heap := s2.heap.push { cls := .type "list", data := .seq ([] : List Value).toArray } } : Shared) = sB
  have hB : sB.heap = s2.heap.push { cls := .type "list", data := .seq ([] : List Value).toArray } := by rw [← hsB]
  have IB : Inv X pins σ (upd HA D (.lst [])) sB := by
    subst hsB
    refine IA.laid (t' := s2.toks) (fun b o e => Heap.get?_push_of_some _ e) (Nat.le_of_eq hD) ⟨Nat.zero_le _, [], 0, .nil, ?_⟩
    subst hD
    exact Heap.get?_push_size _ rfl
  have lt : ∀ b ∈ fp, b < s2.heap.objs.size := fun b hb => let ⟨_, e, _⟩ := T.obj _ _ stA b hb; Heap.lt_size e
  have fB : ∀ b ∈ fp, FpOk X pins (upd HA D (.lst [])) b ∧ b < sB.heap.objs.size := fun b hb => by
    have l := lt b hb
    refine ⟨⟨?_, (fA b hb).2⟩, ?_⟩
    · rw [upd_ne (fun z => by rw [z, ← hD] at l; exact Nat.lt_irrefl _ l)]
      exact (fA b hb).1
    · rw [hB, Heap.size_push]
      exact Nat.lt_succ_of_lt l
  have stB : tn 0 sB.heap := T.keep _ _ _ stA fun b _ o e => by rw [hB]; exact Heap.get?_push_of_some _ e
  have IC := block_start IB ok hN fB
  generalize hHB : upd HA D (.lst []) = HB at IB IC rd fB
  show codeAny _ _ (.compStart (lc3 elt t0 i0 t1 i1 t2 i2 scope pos) 0 (.ref it) (.ref D) (compEnvC scope (cellsFrom (sB.heap.objs.size + 1) scope.names (cloFrom X.env.cells scope.names [])) sB.heap.objs.size X.env)) (compPost (model X.prog X.w) X.A X.xe none (EP X pins σ Q) (.ref D) sB.heap.objs.size) { sB with heap := pushCells (sB.heap.push { cls := .type "dict", data := .dict #[] }) scope.names }
  have P0 := q0 sB HB sB.heap.objs.size (cellsFrom (sB.heap.objs.size + 1) scope.names (cloFrom X.env.cells scope.names [])) fp
  have P1 := p1 sB HB sB.heap.objs.size (cellsFrom (sB.heap.objs.size + 1) scope.names (cloFrom X.env.cells scope.names [])) fp
  have Q1 := q1 sB HB sB.heap.objs.size (cellsFrom (sB.heap.objs.size + 1) scope.names (cloFrom X.env.cells scope.names [])) fp
  have P2 := p2 sB HB sB.heap.objs.size (cellsFrom (sB.heap.objs.size + 1) scope.names (cloFrom X.env.cells scope.names [])) fp
  have Q2 := q2 sB HB sB.heap.objs.size (cellsFrom (sB.heap.objs.size + 1) scope.names (cloFrom X.env.cells scope.names [])) fp
  have PL := pe sB HB sB.heap.objs.size (cellsFrom (sB.heap.objs.size + 1) scope.names (cloFrom X.env.cells scope.names [])) fp
  generalize hce : compEnvC scope (cellsFrom (sB.heap.objs.size + 1) scope.names (cloFrom X.env.cells scope.names [])) sB.heap.objs.size X.env = ce at IC P0 P1 Q1 P2 Q2 PL ⊢
  have cL : ce.locals = sB.heap.objs.size := by subst hce; rfl
  generalize hsC : ({ sB with heap := pushCells (sB.heap.push { cls := .type "dict", data := .dict #[] }) scope.names } : Shared) = sC at IC ⊢
  have stC : tn 0 sC.heap := T.keep _ _ _ stB fun b _ o e => by subst hsC; exact pushCells_keeps _ _ _ _ (Heap.get?_push_of_some _ e)
  have fC : ∀ b ∈ fp, FpOk (X.blk sB HB scope ce fp) [] HB b := fun b hb => ⟨(fB b hb).1.1, (IC.ok.exf b hb).1, IC.ok.exfs b hb, .inl hb, fun x c e => (IC.ok.exf b hb).2 x c e, fun p hp => absurd (show p ∈ ([] : List (Addr × Obj)) ++ [] from hp) (by simp)⟩
  -- the third clause, the second
  have lv2 : ∀ (pins : List (Addr × Obj)) (s : Shared) (σ : L2.St) (H : Hp) (N : Hp → Prop) (jt : Value), Inv (X.blk sB HB scope ce fp) pins σ H s → tDeep w2 g2 (tLast D te) vs2 σ H N →
      wpAny (model X.prog X.w) X.A (deeper (lc3 elt t0 i0 t1 i1 t2 i2 scope pos) i2 1 jt (.ref D) ce) (fun f s1 => f = .again (.compLoop (lc3 elt t0 i0 t1 i1 t2 i2 scope pos) 1 jt (.ref D) ce) ∧ After (X.blk sB HB scope ce fp) pins σ vs2 N s1) (fun _ _ => False) s := fun pins s σ H N jt I h =>
    deeper_ok (B := X.blk sB HB scope ce fp) (tl := fun σ J H1 N => tLoop g2 (tLast D te) vs2 σ J H1 N) rfl (h2 ce) P2 N I h fun it1 fp1 tn1 J1 H1 s1 I1 T1 st1 f1 rd1 => by
      have lp := loop_gen (e := lc3 elt t0 i0 t1 i1 t2 i2 scope pos) (B := X.blk sB HB scope ce fp) (acc := .ref D) (Nx := N) (R := fun r s2 => match r with
        | .ok _ => After (X.blk sB HB scope ce fp) pins σ vs2 N s2
        | .error _ => False) rfl rfl rfl turn3_2 rfl hc T1 Q2 (vi := []) (fun i hi => (nomatch hi)) (fun pins s σ H N1 I h => laid_ok (B := X.blk sB HB scope ce fp) rfl PL N1 I h) (I1.weak (wipe_length _ _) fun j v e => (wipe_some e).1) st1 f1 rd1 fun s2 H2 I2 nx => ⟨_, H2, I2, wipe_length _ _, fun j v hj e => (wipe_out hj).trans e, nx⟩
      exact start3_2 lp (T1.self X.A 0 _ _ _ st1 lp)
  have lv1 : ∀ (pins : List (Addr × Obj)) (s : Shared) (σ : L2.St) (H : Hp) (N : Hp → Prop) (jt : Value), Inv (X.blk sB HB scope ce fp) pins σ H s → tDeep w1 g1 (tDeep w2 g2 (tLast D te) vs2) vs1 σ H N →
      wpAny (model X.prog X.w) X.A (deeper (lc3 elt t0 i0 t1 i1 t2 i2 scope pos) i1 0 jt (.ref D) ce) (fun f s1 => f = .again (.compLoop (lc3 elt t0 i0 t1 i1 t2 i2 scope pos) 0 jt (.ref D) ce) ∧ After (X.blk sB HB scope ce fp) pins σ vs1 N s1) (fun _ _ => False) s := fun pins s σ H N jt I h =>
    deeper_ok (B := X.blk sB HB scope ce fp) (tl := fun σ J H1 N => tLoop g1 (tDeep w2 g2 (tLast D te) vs2) vs1 σ J H1 N) rfl (h1 ce) P1 N I h fun it1 fp1 tn1 J1 H1 s1 I1 T1 st1 f1 rd1 => by
      have lp := loop_gen (e := lc3 elt t0 i0 t1 i1 t2 i2 scope pos) (B := X.blk sB HB scope ce fp) (acc := .ref D) (Nx := N) (R := fun r s2 => match r with
        | .ok _ => After (X.blk sB HB scope ce fp) pins σ vs1 N s2
        | .error _ => False) rfl rfl rfl turn3_1 rfl hc T1 Q1 (vi := vs2) hv2 (fun pins s σ H N1 I h => lv2 pins s σ H N1 _ I h) (I1.weak (wipe_length _ _) fun j v e => (wipe_some e).1) st1 f1 rd1 fun s2 H2 I2 nx => ⟨_, H2, I2, wipe_length _ _, fun j v hj e => (wipe_out hj).trans e, nx⟩
      exact start3_1 lp (T1.self X.A 0 _ _ _ st1 lp)
  have lp := loop_gen (e := lc3 elt t0 i0 t1 i1 t2 i2 scope pos) (B := X.blk sB HB scope ce fp) (acc := .ref D) (Nx := fun H2 => Q (.ref D) H2) (R := compPost (model X.prog X.w) X.A X.xe none (EP X pins σ Q) (.ref D) sB.heap.objs.size) rfl rfl rfl turn3_0 rfl hc T P0 (vi := vs1) hv1 (fun pins s σ H N1 I h => lv1 pins s σ H N1 _ I h) IC stC fC rd fun s3 H3 I3 qq => by
    have IX : Inv X pins σ H3 s3 := IB.call' (ch := fp) I3.os I3.base I3.hok I3.bare fun b hb => ⟨(fB b hb).1.2.2.2.1, (fB b hb).1.2.1, (fB b hb).1.2.2.2.2.1, (fB b hb).1.2.2.2.2.2⟩
    have nC : H3 sB.heap.objs.size = none := by
      have z : H3 ce.locals = none := I3.free
      rw [cL] at z
      exact z
    obtain ⟨m, hn, _⟩ := I3.loc
    have hn : s3.heap.Ns ce.locals m := hn
    rw [cL] at hn
    obtain ⟨f0, f1, f2, f3, f4, f5⟩ := IB.fpOk (Nat.le_refl _) nC
    exact ⟨m, hn, fun h'' sb => ⟨.ref D, H3, IX.turned (t' := s3.toks) (fun b o hb e => (sb.2 b hb).trans e) f0 f1 f3 f4 f5, rfl, qq⟩⟩
  exact codeAny_compStart_list lp (T.self X.A 0 _ _ _ stC lp)
end Ca

set_option Elab.async false
set_option linter.all false
set_option maxRecDepth 100000
set_option maxHeartbeats 4000000
namespace Ca
open PySem L2
/-! ### the law's lists of all designs, all worlds -/
theorem prd_app {α β : Type} {R : α → β → Prop} : ∀ {xs ys : List α} {as bs : List β}, Paired R xs as → Paired R ys bs → Paired R (xs ++ ys) (as ++ bs)
  | _, _, _, _, .nil, h => h
  | _, _, _, _, .cons h t, r => .cons h (prd_app t r)
abbrev T3 := Str × Str × Str
abbrev tT (t : T3) : HO := .tup [.str t.1, .str t.2.1, .str t.2.2]
/-- the items are these triples, one after the other -/
abbrev TriX (H : Hp) (xs : List V) (l : List T3) : Prop := Paired (fun x t => ∃ a, x = V.ref a ∧ H a = some (tT t)) xs l
theorem TriX.ex {H H' : Hp} {xs : List V} {l : List T3} (h : TriX H xs l) (e : Evl.Ex H H') : TriX H' xs l := Paired.mapP h fun _ _ ⟨a, z, y⟩ => ⟨a, z, e _ _ y⟩
theorem TriX.app2 {H : Hp} {xs : List V} {l : List T3} {t1 t2 : Addr} {u v : T3} (h : TriX H xs l) (h1 : H t1 = some (tT u)) (h2 : H t2 = some (tT v)) : TriX H (xs ++ [.ref t1, .ref t2]) (l ++ [u, v]) := prd_app h (.cons ⟨_, rfl, h1⟩ (.cons ⟨_, rfl, h2⟩ .nil))
def tri2 (x : Str) (ys : List Str) (a b : Str) : List T3 := ys.flatMap fun y => [(x, y, a), (x, y, b)]
def tri3 (xs ys : List Str) (a b : Str) : List T3 := xs.flatMap fun x => tri2 x ys a b
theorem tri2_succ {x y a b : Str} {ys : List Str} {i : Nat} (h : ys[i]? = some y) : tri2 x (ys.take (i + 1)) a b = tri2 x (ys.take i) a b ++ [(x, y, a), (x, y, b)] := by
  unfold tri2
  rw [List.take_succ, h, List.flatMap_append]
  simp
theorem tri3_succ {x a b : Str} {xs ys : List Str} {i : Nat} (h : xs[i]? = some x) : tri3 (xs.take (i + 1)) ys a b = tri3 (xs.take i) ys a b ++ tri2 x ys a b := by
  unfold tri3
  rw [List.take_succ, h, List.flatMap_append]
  simp
theorem tri2_len {x a b : Str} : ∀ ys : List Str, (tri2 x ys a b).length = 2 * ys.length
  | [] => rfl
  | y :: ys => by
    have ih := tri2_len (x := x) (a := a) (b := b) ys
    unfold tri2 at ih ⊢
    rw [List.flatMap_cons, List.length_append, ih]
    show 2 + 2 * ys.length = 2 * (ys.length + 1)
    omega
theorem tri3_len {a b : Str} {ys : List Str} : ∀ xs : List Str, (tri3 xs ys a b).length = xs.length * (2 * ys.length)
  | [] => by simp [tri3]
  | x :: xs => by
    have ih := tri3_len (a := a) (b := b) (ys := ys) xs
    unfold tri3 at ih ⊢
    rw [List.flatMap_cons, List.length_append, ih, tri2_len]
    show _ = (xs.length + 1) * (2 * ys.length)
    rw [Nat.add_comm (2 * ys.length), Nat.add_mul, Nat.one_mul]
theorem map_at {l : List Str} {i : Nat} {x : V} (h : (l.map V.str)[i]? = some x) : ∃ s, l[i]? = some s ∧ x = .str s := by
  rw [List.getElem?_map, Option.map_eq_some_iff] at h
  obtain ⟨s, a, b⟩ := h
  exact ⟨s, a, b.symm⟩
def sourcesL : List Str := ["primary", "replica"]
def evictsL : List Str := ["evicts", "keeps"]
def stopsL : List Str := ["finishes", "stops"]
def designs3 : List T3 := tri3 pathsL guardsL "alone" "shared"
def worlds3 : List T3 := tri3 sourcesL evictsL "finishes" "stops"
@[irreducible] def spAllX (l : List T3) : Sp := fun vs H Q _ => vs = [] ∧ ∀ (p : Addr) (xs : List V) (H' : Hp), H p = none → Evl.Ex H H' → H' p = some (.lst xs) → TriX H' xs l → Q (.ref p) H'
theorem allX_i {l : List T3} {H : Hp} {Q : VK} {E : XK} (k : ∀ (p : Addr) (xs : List V) (H' : Hp), H p = none → Evl.Ex H H' → H' p = some (.lst xs) → TriX H' xs l → Q (.ref p) H') : spAllX l [] H Q E := by
  unfold spAllX
  exact ⟨rfl, k⟩
theorem at_mem {α : Type} {l : List α} {i : Nat} {x : α} (h : l[i]? = some x) : x ∈ l := List.mem_of_getElem? h
section
variable {P : Program} {w : World} {K : PySem.W.Frag} {mg : Str → Option Value} {base : Heap}
theorem ok_Ldesigns (T : Txt K mg) : FnOk P w K mg base CX0 2 T.f_Ldesigns T.fd_Ldesigns [] (spAllX designs3) := by
  refine T.F_Ldesigns.ok sc_Ldesigns (fun vs H Q E h => ?_) (fun cdv A outer s H vs Q E hr h => ?_)
  · unfold spAllX at h
    obtain ⟨rfl, _⟩ := h
    rfl
  · unfold spAllX at h
    obtain ⟨rfl, q⟩ := h
    refine ⟨_, (pss_cons (ps_set (i := 0) sc_Ldesigns.nd rfl (Or.inl rfl) (pe_lst pa_nil))
      (pss_cons (ps_for PassesOwn.never rfl (pi_list (pe_call0 (ok_Lpaths T) (hr.mono (by decide)) rfl T.m_Lpaths T.F_Lpaths.kp (b_Lpaths T) .nil pass0)) (pg_name (i := 1) sc_Ldesigns.nd rfl (Or.inl rfl)) (pss_one (ps_for PassesOwn.never rfl (pi_list (pe_lst (pa_cons pe_str (pa_cons pe_str (pa_cons pe_str (pa_cons pe_str (pa_cons pe_str (pa_cons pe_str pa_nil)))))))) (pg_name (i := 2) sc_Ldesigns.nd rfl (Or.inl rfl)) (pss_one (ps_set (i := 0) sc_Ldesigns.nd rfl (Or.inl rfl) (pe_op op_cat (pv 0) (pe_lst (pa_cons (pe_tup (pa_cons (pv 1) (pa_cons (pv 2) (pa_cons pe_str pa_nil)))) (pa_cons (pe_tup (pa_cons (pv 1) (pa_cons (pv 2) (pa_cons pe_str pa_nil)))) pa_nil)))))))))
      (pss_one (ps_ret (pv 0))))), ?_⟩
    refine ⟨by show 0 ≤ sizeLine; decide, fun f nf => ?_⟩
    refine paths_i fun l nl => ?_
    have x0 : Evl.Ex H (upd (upd H f (.lst [])) l (.lst [.str "drop store", .str "drop store drop", .str "store", .str "store drop", .str "store set"])) := (Evl.Ex.new nf).trans (Evl.Ex.new nl)
    have hl : (upd (upd H f (.lst [])) l (.lst [.str "drop store", .str "drop store drop", .str "store", .str "store drop", .str "store set"])) l = some (.lst (pathsL.map V.str)) := upd_same
    have hf : (upd (upd H f (.lst [])) l (.lst [.str "drop store", .str "drop store drop", .str "store", .str "store drop", .str "store set"])) f = some (.lst []) := by
      rw [upd_ne (ne_of_none upd_same nl)]
      exact upd_same
    generalize upd (upd H f (.lst [])) l (.lst [.str "drop store", .str "drop store drop", .str "store", .str "store drop", .str "store set"]) = G at x0 hl hf
    refine ⟨_, rfl, ⟨_, SqL.of hl⟩, for_list (xs := pathsL.map V.str) (fun i σ' H' => ∃ f xs y z, σ' = [some (.ref f), y, z] ∧ Evl.Ex G H' ∧ H f = none ∧ H' f = some (.lst xs) ∧ TriX H' xs (tri3 (pathsL.take i) guardsL "alone" "shared")) ⟨f, [], none, none, rfl, Evl.Ex.refl _, nf, hf, .nil⟩ ?_ ?_ ?_⟩
    · rintro i σ' H' hi ⟨f, xs, y, z, rfl, e, _⟩
      exact SqL.of (e _ _ hl)
    · rintro i x σ' H' hi ⟨f1, xs, y, z, rfl, e, n1, h1, t1⟩
      obtain ⟨pth, hp, rfl⟩ := map_at hi
      have ilt : i < 5 := (List.getElem?_eq_some_iff.mp hp).1
      refine ⟨by show 6 ≤ sizeLine; decide, fun l2 nl2 => ?_⟩
      have e2 : Evl.Ex H' (upd H' l2 (.lst [.str "always", .str "empty", .str "mark", .str "never", .str "newer", .str "token"])) := Evl.Ex.new nl2
      have hl2 : (upd H' l2 (.lst [.str "always", .str "empty", .str "mark", .str "never", .str "newer", .str "token"])) l2 = some (.lst (guardsL.map V.str)) := upd_same
      generalize upd H' l2 (.lst [.str "always", .str "empty", .str "mark", .str "never", .str "newer", .str "token"]) = G2 at e2 hl2
      refine ⟨_, rfl, ⟨_, SqL.of hl2⟩, for_list (xs := guardsL.map V.str) (fun j σ' H' => ∃ f xs z, σ' = [some (.ref f), some (.str pth), z] ∧ Evl.Ex G2 H' ∧ H f = none ∧ H' f = some (.lst xs) ∧ TriX H' xs (tri3 (pathsL.take i) guardsL "alone" "shared" ++ tri2 pth (guardsL.take j) "alone" "shared")) ⟨f1, xs, z, rfl, Evl.Ex.refl _, n1, e2 _ _ h1, ?_⟩ ?_ ?_ ?_⟩
      · show TriX G2 xs (_ ++ [])
        rw [List.append_nil]
        exact t1.ex e2
      · rintro j σ' H' hj ⟨f, xs, z, rfl, e, _⟩
        exact SqL.of (e _ _ hl2)
      · rintro j x σ' H3 hj ⟨f3, ys, z, rfl, e3, n3, h3, t3⟩
        obtain ⟨gd, hg, rfl⟩ := map_at hj
        have jlt : j < 6 := (List.getElem?_eq_some_iff.mp hg).1
        have yl : ys.length ≤ 100 := by
          rw [t3.length, List.length_append, tri3_len, tri2_len, List.length_take, List.length_take]
          show min i 5 * (2 * 6) + 2 * min j 6 ≤ 100
          omega
        refine ⟨_, rfl, _, rfl, _, rfl, by show 3 ≤ sizeLine; decide, fun ta na => ?_⟩
        refine ⟨_, rfl, _, rfl, by show 3 ≤ sizeLine; decide, fun tb nb => ?_⟩
        refine ⟨by show 2 ≤ sizeLine; decide, fun l4 nl4 => ?_⟩
        have ea := Evl.Ex.new (o := .tup [.str pth, .str gd, .str "alone"]) na
        have eb := Evl.Ex.new (o := .tup [.str pth, .str gd, .str "shared"]) nb
        have e4 := Evl.Ex.new (o := .lst [.ref ta, .ref tb]) nl4
        have ha : (upd H3 ta (.tup [.str pth, .str gd, .str "alone"])) ta = some (tT (pth, gd, "alone")) := upd_same
        have hb : (upd (upd H3 ta (.tup [.str pth, .str gd, .str "alone"])) tb (.tup [.str pth, .str gd, .str "shared"])) tb = some (tT (pth, gd, "shared")) := upd_same
        have hl4 : (upd (upd (upd H3 ta (.tup [.str pth, .str gd, .str "alone"])) tb (.tup [.str pth, .str gd, .str "shared"])) l4 (.lst [.ref ta, .ref tb])) l4 = some (.lst [.ref ta, .ref tb]) := upd_same
        have ha4 := e4 _ _ (eb _ _ ha)
        have hb4 := e4 _ _ hb
        have e34 := (ea.trans eb).trans e4
        have hf4 := e34 _ _ h3
        generalize upd (upd (upd H3 ta (.tup [.str pth, .str gd, .str "alone"])) tb (.tup [.str pth, .str gd, .str "shared"])) l4 (.lst [.ref ta, .ref tb]) = H4 at ha4 hb4 e34 hl4 hf4
        refine ⟨_, _, _, _, rfl, rfl, hf4, hl4, ?_, fun l5 nl5 => ?_⟩
        · show ys.length + 2 ≤ sizeLine
          exact Nat.le_trans (m := 1000) (by omega) (by decide)
        · have e5 := Evl.Ex.new (o := .lst (ys ++ [.ref ta, .ref tb])) nl5
          refine ⟨l5, ys ++ [.ref ta, .ref tb], _, rfl, (e3.trans e34).trans e5, ?_, upd_same, ?_⟩
          · exact Evl.fresh_back (((x0.trans e).trans e2).trans (e3.trans e34)) nl5
          · rw [tri2_succ hg, ← List.append_assoc]
            exact ((t3.ex e34).app2 ha4 hb4).ex e5
      · rintro σ' H3 ⟨f3, ys, z, rfl, e3, n3, h3, t3⟩
        refine ⟨f3, ys, _, _, rfl, (e.trans e2).trans e3, n3, h3, ?_⟩
        rw [tri3_succ hp]
        exact t3
    · rintro σ' H3 ⟨f3, ys, y, z, rfl, e3, n3, h3, t3⟩
      refine ⟨_, rfl, ?_⟩
      exact q f3 ys H3 n3 (x0.trans e3) h3 t3
theorem ok_Lworlds (T : Txt K mg) : FnOk P w K mg base CX0 1 T.f_Lworlds T.fd_Lworlds [] (spAllX worlds3) := by
  refine T.F_Lworlds.ok sc_Lworlds (fun vs H Q E h => ?_) (fun cdv A outer s H vs Q E hr h => ?_)
  · unfold spAllX at h
    obtain ⟨rfl, _⟩ := h
    rfl
  · unfold spAllX at h
    obtain ⟨rfl, q⟩ := h
    refine ⟨_, (pss_cons (ps_set (i := 0) sc_Lworlds.nd rfl (Or.inl rfl) (pe_lst pa_nil))
      (pss_cons (ps_for PassesOwn.never rfl (pi_list (pe_lst (pa_cons pe_str (pa_cons pe_str pa_nil)))) (pg_name (i := 1) sc_Lworlds.nd rfl (Or.inl rfl)) (pss_one (ps_for PassesOwn.never rfl (pi_list (pe_lst (pa_cons pe_str (pa_cons pe_str pa_nil)))) (pg_name (i := 2) sc_Lworlds.nd rfl (Or.inl rfl)) (pss_one (ps_set (i := 0) sc_Lworlds.nd rfl (Or.inl rfl) (pe_op op_cat (pv 0) (pe_lst (pa_cons (pe_tup (pa_cons (pv 1) (pa_cons (pv 2) (pa_cons pe_str pa_nil)))) (pa_cons (pe_tup (pa_cons (pv 1) (pa_cons (pv 2) (pa_cons pe_str pa_nil)))) pa_nil)))))))))
      (pss_one (ps_ret (pv 0))))), ?_⟩
    refine ⟨by show 0 ≤ sizeLine; decide, fun f nf => ?_⟩
    refine ⟨by show 2 ≤ sizeLine; decide, fun l nl => ?_⟩
    have x0 : Evl.Ex H (upd (upd H f (.lst [])) l (.lst [.str "primary", .str "replica"])) := (Evl.Ex.new nf).trans (Evl.Ex.new nl)
    have hl : (upd (upd H f (.lst [])) l (.lst [.str "primary", .str "replica"])) l = some (.lst (sourcesL.map V.str)) := upd_same
    have hf : (upd (upd H f (.lst [])) l (.lst [.str "primary", .str "replica"])) f = some (.lst []) := by
      rw [upd_ne (ne_of_none upd_same nl)]
      exact upd_same
    generalize upd (upd H f (.lst [])) l (.lst [.str "primary", .str "replica"]) = G at x0 hl hf
    refine ⟨_, rfl, ⟨_, SqL.of hl⟩, for_list (xs := sourcesL.map V.str) (fun i σ' H' => ∃ f xs y z, σ' = [some (.ref f), y, z] ∧ Evl.Ex G H' ∧ H f = none ∧ H' f = some (.lst xs) ∧ TriX H' xs (tri3 (sourcesL.take i) evictsL "finishes" "stops")) ⟨f, [], none, none, rfl, Evl.Ex.refl _, nf, hf, .nil⟩ ?_ ?_ ?_⟩
    · rintro i σ' H' hi ⟨f, xs, y, z, rfl, e, _⟩
      exact SqL.of (e _ _ hl)
    · rintro i x σ' H' hi ⟨f1, xs, y, z, rfl, e, n1, h1, t1⟩
      obtain ⟨pth, hp, rfl⟩ := map_at hi
      have ilt : i < 2 := (List.getElem?_eq_some_iff.mp hp).1
      refine ⟨by show 2 ≤ sizeLine; decide, fun l2 nl2 => ?_⟩
      have e2 : Evl.Ex H' (upd H' l2 (.lst [.str "evicts", .str "keeps"])) := Evl.Ex.new nl2
      have hl2 : (upd H' l2 (.lst [.str "evicts", .str "keeps"])) l2 = some (.lst (evictsL.map V.str)) := upd_same
      generalize upd H' l2 (.lst [.str "evicts", .str "keeps"]) = G2 at e2 hl2
      refine ⟨_, rfl, ⟨_, SqL.of hl2⟩, for_list (xs := evictsL.map V.str) (fun j σ' H' => ∃ f xs z, σ' = [some (.ref f), some (.str pth), z] ∧ Evl.Ex G2 H' ∧ H f = none ∧ H' f = some (.lst xs) ∧ TriX H' xs (tri3 (sourcesL.take i) evictsL "finishes" "stops" ++ tri2 pth (evictsL.take j) "finishes" "stops")) ⟨f1, xs, z, rfl, Evl.Ex.refl _, n1, e2 _ _ h1, ?_⟩ ?_ ?_ ?_⟩
      · show TriX G2 xs (_ ++ [])
        rw [List.append_nil]
        exact t1.ex e2
      · rintro j σ' H' hj ⟨f, xs, z, rfl, e, _⟩
        exact SqL.of (e _ _ hl2)
      · rintro j x σ' H3 hj ⟨f3, ys, z, rfl, e3, n3, h3, t3⟩
        obtain ⟨gd, hg, rfl⟩ := map_at hj
        have jlt : j < 2 := (List.getElem?_eq_some_iff.mp hg).1
        have yl : ys.length ≤ 100 := by
          rw [t3.length, List.length_append, tri3_len, tri2_len, List.length_take, List.length_take]
          show min i 2 * (2 * 2) + 2 * min j 2 ≤ 100
          omega
        refine ⟨_, rfl, _, rfl, _, rfl, by show 3 ≤ sizeLine; decide, fun ta na => ?_⟩
        refine ⟨_, rfl, _, rfl, by show 3 ≤ sizeLine; decide, fun tb nb => ?_⟩
        refine ⟨by show 2 ≤ sizeLine; decide, fun l4 nl4 => ?_⟩
        have ea := Evl.Ex.new (o := .tup [.str pth, .str gd, .str "finishes"]) na
        have eb := Evl.Ex.new (o := .tup [.str pth, .str gd, .str "stops"]) nb
        have e4 := Evl.Ex.new (o := .lst [.ref ta, .ref tb]) nl4
        have ha : (upd H3 ta (.tup [.str pth, .str gd, .str "finishes"])) ta = some (tT (pth, gd, "finishes")) := upd_same
        have hb : (upd (upd H3 ta (.tup [.str pth, .str gd, .str "finishes"])) tb (.tup [.str pth, .str gd, .str "stops"])) tb = some (tT (pth, gd, "stops")) := upd_same
        have hl4 : (upd (upd (upd H3 ta (.tup [.str pth, .str gd, .str "finishes"])) tb (.tup [.str pth, .str gd, .str "stops"])) l4 (.lst [.ref ta, .ref tb])) l4 = some (.lst [.ref ta, .ref tb]) := upd_same
        have ha4 := e4 _ _ (eb _ _ ha)
        have hb4 := e4 _ _ hb
        have e34 := (ea.trans eb).trans e4
        have hf4 := e34 _ _ h3
        generalize upd (upd (upd H3 ta (.tup [.str pth, .str gd, .str "finishes"])) tb (.tup [.str pth, .str gd, .str "stops"])) l4 (.lst [.ref ta, .ref tb]) = H4 at ha4 hb4 e34 hl4 hf4
        refine ⟨_, _, _, _, rfl, rfl, hf4, hl4, ?_, fun l5 nl5 => ?_⟩
        · show ys.length + 2 ≤ sizeLine
          exact Nat.le_trans (m := 1000) (by omega) (by decide)
        · have e5 := Evl.Ex.new (o := .lst (ys ++ [.ref ta, .ref tb])) nl5
          refine ⟨l5, ys ++ [.ref ta, .ref tb], _, rfl, (e3.trans e34).trans e5, ?_, upd_same, ?_⟩
          · exact Evl.fresh_back (((x0.trans e).trans e2).trans (e3.trans e34)) nl5
          · rw [tri2_succ hg, ← List.append_assoc]
            exact ((t3.ex e34).app2 ha4 hb4).ex e5
      · rintro σ' H3 ⟨f3, ys, z, rfl, e3, n3, h3, t3⟩
        refine ⟨f3, ys, _, _, rfl, (e.trans e2).trans e3, n3, h3, ?_⟩
        rw [tri3_succ hp]
        exact t3
    · rintro σ' H3 ⟨f3, ys, y, z, rfl, e3, n3, h3, t3⟩
      refine ⟨_, rfl, ?_⟩
      exact q f3 ys H3 n3 (x0.trans e3) h3 t3
end
end Ca

set_option Elab.async false
set_option linter.all false
set_option maxRecDepth 100000
set_option maxHeartbeats 4000000
namespace Ca
open PySem L2
/-! ### all triples of three tuples of words -/
theorem pi_tupK {X : Cx} {K : PySem.W.Frag} {tg l : Expr} {tl : TE} (h : X.K = K) (hl : PE X l tl) : PI X tg l (iTup K tl) := h ▸ pi_tup hl
theorem loop_tup {K : PySem.W.Frag} {a : Addr} {xs : List V} {g : TG} {tb : L2.St → Hp → (Hp → Prop) → Prop} {vs : List Nat} {σ : L2.St} {H : Hp} {Nx : Hp → Prop} (Pv : Nat → Hp → Prop) (h0 : Pv 0 H) (hl : ∀ i H, i ≤ xs.length → Pv i H → SqT K H a xs)
    (hs : ∀ i x H, xs[i]? = some x → Pv i H → g x (wipe σ vs) H fun σ2 H2 => wipe σ2 vs = wipe σ vs ∧ tb σ2 H2 (Pv (i + 1))) (hd : ∀ H, Pv xs.length H → Nx H) : tLoop g tb vs σ (Itt K a) H Nx := by
  refine ⟨fun i m H => m = xs.length - i ∧ i ≤ xs.length ∧ Pv i H, ⟨xs.length, by simp, Nat.zero_le _, h0⟩, ?_⟩
  rintro i m H ⟨rfl, hi, p⟩
  have q := hl i H hi p
  by_cases lt : i < xs.length
  · refine .inr ⟨⟨xs, xs[i], q, List.getElem?_eq_getElem lt⟩, Pv (i + 1), fun H' p' => ⟨xs.length - (i + 1), by omega, rfl, lt, p'⟩, fun x H' y => ?_⟩
    obtain ⟨rfl, y⟩ := y
    exact hs i x _ (y xs q) p
  · have e : i = xs.length := by omega
    subst e
    exact .inl ⟨⟨xs, q, Nat.le_refl _⟩, hd H p⟩
def all1 (x y : Str) (zs : List Str) : List T3 := zs.map fun z => (x, y, z)
def all2 (x : Str) (ys zs : List Str) : List T3 := ys.flatMap fun y => all1 x y zs
def all3 (xs ys zs : List Str) : List T3 := xs.flatMap fun x => all2 x ys zs
theorem all1_succ {x y z : Str} {zs : List Str} {i : Nat} (h : zs[i]? = some z) : all1 x y (zs.take (i + 1)) = all1 x y (zs.take i) ++ [(x, y, z)] := by
  unfold all1
  rw [List.take_succ, h, List.map_append]
  rfl
theorem all2_succ {x y : Str} {ys zs : List Str} {i : Nat} (h : ys[i]? = some y) : all2 x (ys.take (i + 1)) zs = all2 x (ys.take i) zs ++ all1 x y zs := by
  unfold all2
  rw [List.take_succ, h, List.flatMap_append]
  simp
theorem all3_succ {x : Str} {xs ys zs : List Str} {i : Nat} (h : xs[i]? = some x) : all3 (xs.take (i + 1)) ys zs = all3 (xs.take i) ys zs ++ all2 x ys zs := by
  unfold all3
  rw [List.take_succ, h, List.flatMap_append]
  simp
theorem all1_len {x y : Str} {zs : List Str} : (all1 x y zs).length = zs.length := List.length_map _
theorem all2_len {x : Str} {zs : List Str} : ∀ ys : List Str, (all2 x ys zs).length = ys.length * zs.length
  | [] => by simp [all2]
  | y :: ys => by
    have ih := all2_len (x := x) (zs := zs) ys
    unfold all2 at ih ⊢
    rw [List.flatMap_cons, List.length_append, ih, all1_len]
    show _ = (ys.length + 1) * zs.length
    rw [Nat.add_mul, Nat.one_mul, Nat.add_comm]
theorem all3_len {ys zs : List Str} : ∀ xs : List Str, (all3 xs ys zs).length = xs.length * (ys.length * zs.length)
  | [] => by simp [all3]
  | x :: xs => by
    have ih := all3_len (ys := ys) (zs := zs) xs
    unfold all3 at ih ⊢
    rw [List.flatMap_cons, List.length_append, ih, all2_len]
    show _ = (xs.length + 1) * (ys.length * zs.length)
    rw [Nat.add_mul, Nat.one_mul, Nat.add_comm]
theorem all_designs3 : all3 pathsL guardsL flightsL = designs3 := rfl
theorem all_worlds3 : all3 sourcesL evictsL stopsL = worlds3 := rfl
@[irreducible] def spAll3 (K : PySem.W.Frag) : Sp := fun vs H Q _ => ∃ (a b c : Addr) (l1 l2 l3 : List Str), vs = [.ref a, .ref b, .ref c] ∧ SqT K H a (l1.map V.str) ∧ SqT K H b (l2.map V.str) ∧ SqT K H c (l3.map V.str) ∧ l1.length ≤ 9 ∧ l2.length ≤ 9 ∧ l3.length ≤ 9 ∧
  ∀ (p : Addr) (xs : List V) (H' : Hp), H p = none → Evl.Ex H H' → H' p = some (.tup xs) → TriX H' xs (all3 l1 l2 l3) → Q (.ref p) H'
theorem all3_i {K : PySem.W.Frag} {a b c : Addr} {l1 l2 l3 : List Str} {H : Hp} {Q : VK} {E : XK} (h1 : SqT K H a (l1.map V.str)) (h2 : SqT K H b (l2.map V.str)) (h3 : SqT K H c (l3.map V.str)) (n1 : l1.length ≤ 9) (n2 : l2.length ≤ 9) (n3 : l3.length ≤ 9)
    (k : ∀ (p : Addr) (xs : List V) (H' : Hp), H p = none → Evl.Ex H H' → H' p = some (.tup xs) → TriX H' xs (all3 l1 l2 l3) → Q (.ref p) H') : spAll3 K [.ref a, .ref b, .ref c] H Q E := by
  unfold spAll3
  exact ⟨a, b, c, l1, l2, l3, rfl, h1, h2, h3, n1, n2, n3, k⟩
@[irreducible] def spAllU (l : List T3) : Sp := fun vs H Q _ => vs = [] ∧ ∀ (p : Addr) (xs : List V) (H' : Hp), H p = none → Evl.Ex H H' → H' p = some (.tup xs) → TriX H' xs l → Q (.ref p) H'
theorem allU_i {l : List T3} {H : Hp} {Q : VK} {E : XK} (k : ∀ (p : Addr) (xs : List V) (H' : Hp), H p = none → Evl.Ex H H' → H' p = some (.tup xs) → TriX H' xs l → Q (.ref p) H') : spAllU l [] H Q E := by
  unfold spAllU
  exact ⟨rfl, k⟩
section
variable {P : Program} {w : World} {K : PySem.W.Frag} {mg : Str → Option Value} {base : Heap}
theorem ok_all_triples (T : Txt K mg) : FnOk P w K mg base CX0 1 T.f_all_triples T.fd_all_triples ["firsts", "seconds", "thirds"] (spAll3 K) := by
  refine T.F_all_triples.ok sc_all_triples (fun vs H Q E h => ?_) (fun cdv A outer s H vs Q E hr h => ?_)
  · unfold spAll3 at h
    obtain ⟨a, b, c, l1, l2, l3, rfl, _⟩ := h
    rfl
  · unfold spAll3 at h
    obtain ⟨a, b, c, l1, l2, l3, rfl, h1, h2, h3, n1, n2, n3, q⟩ := h
    refine ⟨_, (pss_one (ps_ret (pe_callTy call_tuple_of (by rfl) T.n_tuple (by decide +kernel) (pa_cons (pe_lc3 (own := [("one", 3), ("two", 4), ("three", 5)]) (vs1 := [4, 5]) (vs2 := [5]) rfl sc_all_triples.nd (pi_tup (pv 0)) (blkOk_by (N := ["firsts", "seconds", "thirds", "one", "two", "three"]) (sc := defScope s_all_triples) (by decide +kernel)) (by decide) (by decide) (fun _ _ _ _ _ => (pg_name (i := 3) sc_all_triples.nd rfl (Or.inl rfl))) (fun _ _ _ _ _ => (pi_tupK (K := K) rfl (pv 1))) (fun _ _ _ _ _ => (pg_name (i := 4) sc_all_triples.nd rfl (Or.inl rfl))) (fun _ _ _ _ _ => (pi_tupK (K := K) rfl (pv 2))) (fun _ _ _ _ _ => (pg_name (i := 5) sc_all_triples.nd rfl (Or.inl rfl))) (fun _ _ _ _ _ => (pe_tup (pa_cons (pv 3) (pa_cons (pv 4) (pa_cons (pv 5) pa_nil)))))) pa_nil)))), ?_⟩
    refine ⟨_, rfl, a, rfl, ⟨_, h1⟩, fun D nD => ?_⟩
    refine loop_tup (xs := l1.map V.str) (fun i H' => ∃ acc, Evl.Ex H H' ∧ H' D = some (.lst acc) ∧ TriX H' acc (all3 (l1.take i) l2 l3)) ⟨[], Evl.Ex.new nD, upd_same, .nil⟩ (fun i H' _ ⟨_, e, _⟩ => Evl.ex_t e h1) ?_ ?_
    · rintro i x H1 hi ⟨acc1, e1, d1, t1⟩
      obtain ⟨x, hx, rfl⟩ := map_at hi
      refine ⟨rfl, ?_⟩
      refine ⟨_, rfl, b, rfl, ⟨_, Evl.ex_t e1 h2⟩, ?_⟩
      refine loop_tup (xs := l2.map V.str) (fun j H' => ∃ acc, Evl.Ex H H' ∧ H' D = some (.lst acc) ∧ TriX H' acc (all3 (l1.take i) l2 l3 ++ all2 x (l2.take j) l3)) ⟨acc1, e1, d1, ?_⟩ (fun j H' _ ⟨_, e, _⟩ => Evl.ex_t e h2) ?_ ?_
      · show TriX H1 acc1 (_ ++ [])
        rw [List.append_nil]
        exact t1
      · rintro j y H2 hj ⟨acc2, e2, d2, t2⟩
        obtain ⟨y, hy, rfl⟩ := map_at hj
        refine ⟨rfl, ?_⟩
        refine ⟨_, rfl, c, rfl, ⟨_, Evl.ex_t e2 h3⟩, ?_⟩
        refine loop_tup (xs := l3.map V.str) (fun k H' => ∃ acc, Evl.Ex H H' ∧ H' D = some (.lst acc) ∧ TriX H' acc (all3 (l1.take i) l2 l3 ++ all2 x (l2.take j) l3 ++ all1 x y (l3.take k))) ⟨acc2, e2, d2, ?_⟩ (fun k H' _ ⟨_, e, _⟩ => Evl.ex_t e h3) ?_ ?_
        · show TriX H2 acc2 (_ ++ [])
          rw [List.append_nil]
          exact t2
        · rintro k z H3 hk ⟨acc3, e3, d3, t3⟩
          obtain ⟨z, hz, rfl⟩ := map_at hk
          refine ⟨rfl, ?_⟩
          have al : acc3.length < sizeLine := by
            have z : acc3.length ≤ 9 * (9 * 9) + 9 * 9 + 9 := by
              rw [t3.length, List.length_append, List.length_append, all3_len, all2_len, all1_len, List.length_take, List.length_take, List.length_take]
              refine Nat.add_le_add (Nat.add_le_add (Nat.mul_le_mul (by omega) (Nat.mul_le_mul n2 n3)) (Nat.mul_le_mul (by omega) n3)) (by omega)
            exact Nat.lt_of_le_of_lt z (by decide)
          refine ⟨_, rfl, _, rfl, _, rfl, (by show 3 ≤ sizeLine; decide), fun t nt => ?_⟩
          have e4 := Evl.Ex.new (o := .tup [.str x, .str y, .str z]) nt
          refine ⟨acc3, e4 _ _ d3, al, acc3 ++ [.ref t], Evl.Ex.mut (e3.trans e4) nD, upd_same, ?_⟩
          rw [all1_succ hz, ← List.append_assoc]
          have ht : (upd H3 t (.tup [.str x, .str y, .str z])) t = some (tT (x, y, z)) := upd_same
          have keepD : ∀ {b : Addr} {u : T3}, (upd H3 t (.tup [.str x, .str y, .str z])) b = some (tT u) → (upd (upd H3 t (.tup [.str x, .str y, .str z])) D (.lst (acc3 ++ [.ref t]))) b = some (tT u) := fun {b u} hb => by
            rw [upd_ne fun z => ?_]
            · exact hb
            · rw [z, e4 _ _ d3] at hb
              cases hb
          exact prd_app (Paired.mapP (t3.ex e4) fun _ _ ⟨b, r, hb⟩ => ⟨b, r, keepD hb⟩) (.cons ⟨t, rfl, keepD ht⟩ .nil)
        · rintro H3 ⟨acc3, e3, d3, t3⟩
          rw [List.length_map, List.take_length] at t3
          refine ⟨acc3, e3, d3, ?_⟩
          rw [all2_succ hy, ← List.append_assoc]
          exact t3
      · rintro H3 ⟨acc3, e3, d3, t3⟩
        rw [List.length_map, List.take_length] at t3
        refine ⟨acc3, e3, d3, ?_⟩
        rw [all3_succ hx]
        exact t3
    · rintro H3 ⟨acc3, e3, d3, t3⟩
      rw [List.length_map, List.take_length] at t3
      refine ⟨_, _, rfl, .inl ⟨SqL.of d3, fun p np => ?_⟩⟩
      have e4 := Evl.Ex.new (o := .tup acc3) np
      exact q p acc3 _ (Evl.fresh_back e3 np) (e3.trans e4) upd_same (t3.ex e4)
theorem ok_all_designs (T : Txt K mg) (U : TxtC K mg) : FnOk P w K mg base CX0 2 T.f_all_designs T.fd_all_designs [] (spAllU designs3) := by
  refine T.F_all_designs.ok sc_all_designs (fun vs H Q E h => ?_) (fun cdv A outer s H vs Q E hr h => ?_)
  · unfold spAllU at h
    obtain ⟨rfl, _⟩ := h
    rfl
  · unfold spAllU at h
    obtain ⟨rfl, q⟩ := h
    refine ⟨_, (pss_one (ps_ret (pe_call (ok_all_triples T) (hr.mono (by decide)) rfl T.m_all_triples T.F_all_triples.kp (b_all_triples T) .nil pass0 (pa_cons (pe_glob (v := .ref U.v_PATHS) rfl U.m_PATHS rfl) (pa_cons (pe_glob (v := .ref U.v_GUARDS) rfl U.m_GUARDS rfl) (pa_cons (pe_glob (v := .ref U.v_FLIGHTS) rfl U.m_FLIGHTS rfl) pa_nil)))))), ?_⟩
    exact all3_i (U.s_PATHS H) (U.s_GUARDS H) (U.s_FLIGHTS H) (by decide) (by decide) (by decide) q
theorem ok_all_worlds (T : Txt K mg) (U : TxtC K mg) : FnOk P w K mg base CX0 2 T.f_all_worlds T.fd_all_worlds [] (spAllU worlds3) := by
  refine T.F_all_worlds.ok sc_all_worlds (fun vs H Q E h => ?_) (fun cdv A outer s H vs Q E hr h => ?_)
  · unfold spAllU at h
    obtain ⟨rfl, _⟩ := h
    rfl
  · unfold spAllU at h
    obtain ⟨rfl, q⟩ := h
    refine ⟨_, (pss_one (ps_ret (pe_call (ok_all_triples T) (hr.mono (by decide)) rfl T.m_all_triples T.F_all_triples.kp (b_all_triples T) .nil pass0 (pa_cons (pe_glob (v := .ref U.v_SOURCES) rfl U.m_SOURCES rfl) (pa_cons (pe_glob (v := .ref U.v_EVICTIONS) rfl U.m_EVICTIONS rfl) (pa_cons (pe_glob (v := .ref U.v_STOPS) rfl U.m_STOPS rfl) pa_nil)))))), ?_⟩
    exact all3_i (l1 := sourcesL) (l2 := evictsL) (l3 := stopsL) (U.s_SOURCES H) (U.s_EVICTIONS H) (U.s_STOPS H) (by decide) (by decide) (by decide) q
end
theorem tri_at {H : Hp} {xs : List V} {l : List T3} {i : Nat} {x : V} (T : TriX H xs l) (h : xs[i]? = some x) : ∃ t a, l[i]? = some t ∧ x = .ref a ∧ H a = some (tT t) := by
  obtain ⟨t, e, a, r, z⟩ := pget T h
  exact ⟨t, a, e, r, z⟩
/-- a design's and a world's three words -/
def cf3 (d w : T3) : Conf := ⟨d.1, d.2.1, d.2.2, w.1, w.2.1, w.2.2⟩
theorem cf3_ok {d w : T3} (hd : d ∈ designs3) (hw : w ∈ worlds3) : (cf3 d w).Ok := by
  have d3 : ∀ d ∈ designs3, d.1 ∈ pathsL ∧ d.2.1 ∈ guardsL ∧ d.2.2 ∈ flightsL := by
    intro d h
    unfold designs3 tri3 at h
    obtain ⟨x, hx, h⟩ := List.mem_flatMap.mp h
    unfold tri2 at h
    obtain ⟨y, hy, h⟩ := List.mem_flatMap.mp h
    simp only [List.mem_cons, List.not_mem_nil, or_false] at h
    rcases h with rfl | rfl <;> exact ⟨hx, hy, by simp [flightsL]⟩
  have w3 : ∀ d ∈ worlds3, d.1 ∈ sourcesL ∧ d.2.1 ∈ evictsL ∧ d.2.2 ∈ stopsL := by
    intro d h
    unfold worlds3 tri3 at h
    obtain ⟨x, hx, h⟩ := List.mem_flatMap.mp h
    unfold tri2 at h
    obtain ⟨y, hy, h⟩ := List.mem_flatMap.mp h
    simp only [List.mem_cons, List.not_mem_nil, or_false] at h
    rcases h with rfl | rfl <;> exact ⟨hx, hy, by simp [stopsL]⟩
  obtain ⟨a, b, c⟩ := d3 d hd
  obtain ⟨e, f, g⟩ := w3 w hw
  have e : w.1 = "primary" ∨ w.1 = "replica" := by simpa [sourcesL] using e
  have f : w.2.1 = "evicts" ∨ w.2.1 = "keeps" := by simpa [evictsL] using f
  have g : w.2.2 = "finishes" ∨ w.2.2 = "stops" := by simpa [stopsL] using g
  exact ⟨a, b, c, e, f, g⟩
theorem cf3_dT {d w : T3} : dT (cf3 d w) = tT d := rfl
theorem cf3_wT {d w : T3} : wT (cf3 d w) = tT w := rfl
end Ca

set_option Elab.async false
set_option linter.all false
set_option maxRecDepth 100000
set_option maxHeartbeats 4000000
namespace Ca
open PySem L2
/-! ### wanted promises -/
theorem strs_pm (l : List Pm) : PyData.canLayAll0 (l.map fun m => PyData.str m.str) = true ∧ PyData.depthAll (l.map fun m => PyData.str m.str) ≤ 1 := by
  induction l with
  | nil => exact ⟨rfl, by decide⟩
  | cons m l ih =>
    have z : PyData.canLay0 (PyData.str m.str) = true ∧ PyData.depth (PyData.str m.str) ≤ 1 := by cases m <;> exact ⟨by decide +kernel, by decide +kernel⟩
    refine ⟨?_, ?_⟩
    · show (PyData.canLay0 (PyData.str m.str) && PyData.canLayAll0 (l.map fun m => PyData.str m.str)) = true
      rw [z.1, ih.1]
      rfl
    · show max (PyData.depth (PyData.str m.str)) (PyData.depthAll (l.map fun m => PyData.str m.str)) ≤ 1
      omega
theorem strs_shaped (l : List Pm) : SeqAt.shaped (.tuple (l.map fun m => PyData.str m.str)) = true := by
  obtain ⟨a, b⟩ := strs_pm l
  unfold SeqAt.shaped
  have z1 : PyData.canLay0 (.tuple (l.map fun m => PyData.str m.str)) = true := a
  have z2 : PyData.depth (.tuple (l.map fun m => PyData.str m.str)) = PyData.depthAll (l.map fun m => PyData.str m.str) + 1 := rfl
  rw [z1, z2, Bool.true_and]
  exact decide_eq_true (by omega)
theorem strs_dp {K : PySem.W.Frag} {H : Hp} : ∀ l : List Pm, DpAll K H (l.map pmV) (l.map fun m => PyData.str m.str)
  | [] => .nil
  | m :: l => .cons (.str _) (strs_dp l)
theorem flat_pms (l : List Pm) : (l.map pmV).all flatV = true := by
  rw [List.all_eq_true]
  intro y hy
  obtain ⟨x, _, rfl⟩ := List.mem_map.mp hy
  rfl
theorem in_pms (f : Pm → Bool) (m : Pm) : inV (pmV m) ((allPm.filter f).map pmV) = f m := by
  unfold inV
  rw [List.any_map, List.any_filter]
  simp only [allPm, List.any_cons, List.any_nil, Function.comp]
  simp only [eqV_pm]
  cases m <;> simp
/-- the wanted promises, as a tuple -/
structure WantAt (H : Hp) (a : Addr) (ws : List Pm) : Prop where
  at_ : H a = some (.tup (ws.map pmV))
  asc : ∃ f, ws = allPm.filter f
theorem WantAt.ex {H H' : Hp} {a : Addr} {ws : List Pm} (h : WantAt H a ws) (e : Evl.Ex H H') : WantAt H' a ws := ⟨e _ _ h.at_, h.asc⟩
theorem WantAt.len {H : Hp} {a : Addr} {ws : List Pm} (h : WantAt H a ws) : ws.length ≤ 10 := by
  obtain ⟨f, rfl⟩ := h.asc
  exact List.length_filter_le _ _
@[irreducible] def spChPs : Sp := fun vs H Q _ => ∃ (a : Addr) (ws : List Pm), vs = [.ref a] ∧ WantAt H a ws ∧ ∀ H', Evl.Ex H H' → Q .non H'
theorem chps_i {a : Addr} {ws : List Pm} {H : Hp} {Q : VK} {E : XK} (h : WantAt H a ws) (q : ∀ H', Evl.Ex H H' → Q .non H') : spChPs [.ref a] H Q E := by
  unfold spChPs
  exact ⟨a, ws, rfl, h, q⟩
@[irreducible] def spKeepsAll (g : Conf → Pm → Bool) : Sp := fun vs H Q _ => ∃ (c : Conf) (d w a : Addr) (ws : List Pm), vs = [.ref d, .ref w, .ref a] ∧ H d = some (dT c) ∧ H w = some (wT c) ∧ c.Ok ∧ H a = some (.tup (ws.map pmV)) ∧ ∀ H', Evl.Ex H H' → Q (.bl (ws.all (g c))) H'
theorem keepsAll_i {g : Conf → Pm → Bool} {c : Conf} {d w a : Addr} {ws : List Pm} {H : Hp} {Q : VK} {E : XK} (hd : H d = some (dT c)) (hw : H w = some (wT c)) (O : c.Ok) (h : H a = some (.tup (ws.map pmV))) (q : ∀ H', Evl.Ex H H' → Q (.bl (ws.all (g c))) H') : spKeepsAll g [.ref d, .ref w, .ref a] H Q E := by
  unfold spKeepsAll
  exact ⟨c, d, w, a, ws, rfl, hd, hw, O, h, q⟩
theorem pms_at {ws : List Pm} {i : Nat} {x : V} (h : (ws.map pmV)[i]? = some x) : ∃ m, ws[i]? = some m ∧ x = pmV m := by
  rw [List.getElem?_map, Option.map_eq_some_iff] at h
  obtain ⟨m, e, r⟩ := h
  exact ⟨m, e, r.symm⟩
section
variable {P : Program} {w : World} {K : PySem.W.Frag} {mg : Str → Option Value} {base : Heap}
theorem ok_check_promises (T : Txt K mg) (U : TxtC K mg) : FnOk P w K mg base CX0 1 T.f_check_promises T.fd_check_promises ["value"] spChPs := by
  refine T.F_check_promises.ok sc_check_promises (fun vs H Q E h => ?_) (fun cdv A outer s H vs Q E hr h => ?_)
  · unfold spChPs at h
    obtain ⟨a, ws, rfl, _⟩ := h
    rfl
  · unfold spChPs at h
    obtain ⟨a, ws, rfl, W, q⟩ := h
    obtain ⟨f, ef⟩ := W.asc
    have ha := W.at_
    refine ⟨_, (pss_one (ps_if (PW.pt (pw_or (pt_not (pt_val (pe_callB call_isi (by rfl) T.n_isinstance (by decide +kernel) (pa_cons (pv 0) (pa_cons (pe_bltn (v := .ty "tuple") (by rfl) T.n_tuple (by decide +kernel) rfl) pa_nil))))) (pw_or1 (pt_cmpR (op_neD hr.units) (pv 0) (pe_callTy call_tuple_of (by rfl) T.n_tuple (by decide +kernel) (pa_cons (pe_lc (own := [("promise", 1)]) rfl sc_check_promises.nd (pi_tup (pe_glob (v := .ref U.v_PROMISES) rfl U.m_PROMISES rfl)) (blkOk_by (N := ["value", "promise"]) (sc := defScope s_check_promises) (by decide +kernel)) (fun _ _ _ _ _ => (pg_name (i := 1) sc_check_promises.nd rfl (Or.inl rfl))) (fun _ _ _ _ _ => (pts_one (pt_cmpR (op_inK (K := K) rfl) (pv 1) (pv 0) (by rfl)))) (fun _ _ _ _ _ => (pv 1))) pa_nil)) (nomark _))))) (pss_one ps_never) pss_nil)), ?_⟩
    refine ⟨_, rfl, _, _, _, _, true, rfl, .ty _, .base (.tup ha), kit_ty (by decide +kernel), _, rfl, ?_⟩
    refine iteF ?_
    have hs : SqT K H U.v_PROMISES (allPm.map pmV) := U.s_PROMISES H
    refine ⟨_, rfl, _, rfl, ⟨_, hs⟩, fun D nD => lc_tup (xs := allPm.map pmV) (Evl.Cw H (fun i => f (allPm.getD i default)) (fun i => pmV (allPm.getD i default)) D) ⟨nD, Evl.Ex.new nD, upd_same⟩ (fun i H' _ p => Evl.ex_t p.2.1 hs) (fun i x H' hi p => ⟨rfl, Evl.cw_turn p ?_ ?_ (fun hf => ?_)⟩) fun H' p => ?_⟩
    · have := (List.getElem?_eq_some_iff.mp hi).1
      rw [List.length_map] at this
      have z : allPm.length = 10 := rfl
      omega
    · rw [pm_at hi]
      intro H2 e2 Q2 q2
      refine ⟨_, rfl, _, rfl, a, _, rfl, .inr (SqT.of (e2 _ _ ha)), rfl, flat_pms ws, _, rfl, ?_⟩
      rw [ef, in_pms]
      exact q2 _ (Evl.Ex.refl _)
    · rw [pm_at hi]
      exact Evl.ev_var rfl
    · obtain ⟨np, e1, hp⟩ := p
      have hl : (allPm.map pmV).length = allPm.length := List.length_map _
      rw [hl, given_map allPm f pmV] at hp
      rw [← ef] at hp
      refine ⟨_, _, rfl, .inl ⟨SqL.of hp, fun t nt => ?_⟩⟩
      have e2 := Evl.Ex.new (o := .tup (ws.map pmV)) nt
      refine ⟨.tuple (ws.map fun m => .str m.str), .tuple (ws.map fun m => .str m.str), .tup (SqT.of (e2 _ _ (e1 _ _ ha))) (strs_dp ws), .tup (SqT.of upd_same) (strs_dp ws), strs_shaped ws, strs_shaped ws, ?_⟩
      rw [SeqAt.eqv_refl (.tuple (ws.map fun m : Pm => PyData.str m.str)) (show PyData.canLay0 (.tuple (ws.map fun m : Pm => PyData.str m.str)) = true from (strs_pm ws).1)]
      refine ⟨_, rfl, ?_⟩
      exact iteF (q _ (e1.trans e2))
theorem ok_keeps_all (T : Txt K mg) (U : TxtC K mg) (Y : TxtD_HOLDS K w mg T) : FnOk P w K mg base CX0 7 T.f_keeps_all T.fd_keeps_all ["design", "world", "wanted"] (spKeepsAll progH) := by
  refine T.F_keeps_all.ok sc_keeps_all (fun vs H Q E h => ?_) (fun cdv A outer s H vs Q E hr h => ?_)
  · unfold spKeepsAll at h
    obtain ⟨c, d, w, a, ws, rfl, _⟩ := h
    rfl
  · unfold spKeepsAll at h
    obtain ⟨c, d, u, a, ws, rfl, hd, hw, O, ha, q⟩ := h
    refine ⟨_, (pss_cons (ps_for PassesOwn.never rfl (pi_tup (pv 2)) (pg_name (i := 3) sc_keeps_all.nd rfl (Or.inl rfl)) (pss_one (ps_if (pt_not (pt_val (pe_call (ok_holds T U Y) (hr.mono (by decide)) rfl T.m_holds T.F_holds.kp (b_holds T) .nil pass0 (pa_cons (pv 0) (pa_cons (pv 1) (pa_cons (pv 3) pa_nil)))))) (pss_one (ps_ret pe_bl)) pss_nil)))
      (pss_one (ps_ret pe_bl))), ?_⟩
    refine ⟨_, rfl, a, rfl, ⟨_, SqT.of ha⟩, for_tup (xs := ws.map pmV) (fun i σ' H' => ∃ x, σ' = [some (.ref d), some (.ref u), some (.ref a), x] ∧ Evl.Ex H H' ∧ (ws.take i).all (progH c) = true) ⟨none, rfl, Evl.Ex.refl _, rfl⟩ (fun i σ' H' _ ⟨_, _, e, _⟩ => SqT.of (e _ _ ha)) ?_ ?_⟩
    · rintro i x σ' H1 hi ⟨y, rfl, e1, all1⟩
      obtain ⟨m, hm, rfl⟩ := pms_at hi
      refine ⟨_, rfl, _, rfl, _, rfl, ?_⟩
      refine dwp_i (e1 _ _ hd) (e1 _ _ hw) O fun H2 e2 => ⟨_, rfl, ?_⟩
      cases hp : progH c m with
      | false =>
        refine iteT ?_
        have z := q _ (e1.trans e2)
        have : ws.all (progH c) = false := by
          rw [List.all_eq_false]
          exact ⟨m, List.mem_of_getElem? hm, by rw [hp]; decide⟩
        rw [this] at z
        exact z
      | true =>
        refine iteF ⟨_, rfl, e1.trans e2, ?_⟩
        rw [List.take_succ, hm, List.all_append, all1]
        simp [hp]
    · rintro σ' H1 ⟨y, rfl, e1, all1⟩
      rw [List.length_map, List.take_length] at all1
      have z := q _ e1
      rw [all1] at z
      exact z
end
end Ca

set_option Elab.async false
set_option linter.all false
set_option maxRecDepth 100000
set_option maxHeartbeats 4000000
namespace Ca
open PySem L2
/-! ### a list, of anything, against the empty list -/
def rNil (K : PySem.W.Frag) (neg : Bool) : R2 := fun x y H Q => ∃ (a b : Addr) (xs : List V), x = .ref a ∧ y = .ref b ∧ SqL K H a xs ∧ SqL K H b [] ∧ Q (.bl (xs.isEmpty != neg)) H
theorem vals_nil {its : List Value} (r : Vals [] its) : its = [] := by
  cases r
  rfl
theorem vals_len : ∀ {xs : List V} {its : List Value}, Vals xs its → its.length = xs.length
  | _, _, .nil => rfl
  | _, _, .cons _ r => by rw [List.length_cons, List.length_cons, vals_len r]
section
variable {X : Cx}
theorem op_eqNil (hu : X.A.units < cLine) : OpR X (compareOp .Eq) (rNil X.K false) := by
  intro pins s σ H x y v u Q I rx ry h
  obtain ⟨a, b, xs, rfl, rfl, hx, hy, q⟩ := h
  obtain rfl : v = Value.ref a := rx
  obtain rfl : u = Value.ref b := ry
  obtain ⟨its, r1, ⟨o1, n1, e1, c1, _, d1⟩, _⟩ := I.list hx
  obtain ⟨its2, r2, ⟨o2, n2, e2, c2, _, d2⟩, _⟩ := I.list hy
  have z2 := vals_nil r2
  subst z2
  have l1 : s.heap.IsList a its.toArray := ⟨o1, e1, c1, n1, d1⟩
  have l2 : s.heap.IsList b ([] : List Value).toArray := ⟨o2, e2, c2, n2, d2⟩
  cases xs with
  | nil =>
    have z1 := vals_nil r1
    subst z1
    exact SeqAt.eq_listAt (e := fun _ => true) l1 l2 rfl hu (fun j h1 _ => absurd h1 (Nat.not_lt_zero _)) ⟨.bl true, H, I, rfl, q⟩
  | cons x xs =>
    have z1 := vals_len r1
    refine SeqAt.eq_list_lengthsAt l1 l2 ?_ hu ⟨.bl false, H, I, rfl, q⟩
    show (its.toArray.size != 0) = true
    rw [List.size_toArray, z1]
    rfl
theorem op_neNil (hu : X.A.units < cLine) : OpR X (compareOp .NotEq) (rNil X.K true) := by
  intro pins s σ H x y v u Q I rx ry h
  obtain ⟨a, b, xs, rfl, rfl, hx, hy, q⟩ := h
  obtain rfl : v = Value.ref a := rx
  obtain rfl : u = Value.ref b := ry
  obtain ⟨its, r1, ⟨o1, n1, e1, c1, _, d1⟩, _⟩ := I.list hx
  obtain ⟨its2, r2, ⟨o2, n2, e2, c2, _, d2⟩, _⟩ := I.list hy
  have z2 := vals_nil r2
  subst z2
  have l1 : s.heap.IsList a its.toArray := ⟨o1, e1, c1, n1, d1⟩
  have l2 : s.heap.IsList b ([] : List Value).toArray := ⟨o2, e2, c2, n2, d2⟩
  cases xs with
  | nil =>
    have z1 := vals_nil r1
    subst z1
    exact SeqAt.RcNeAt.lists (e := fun _ => true) l1 l2 rfl hu (fun j h1 _ => absurd h1 (Nat.not_lt_zero _)) _ _ _ _ ⟨.bl false, H, I, rfl, q⟩
  | cons x xs =>
    have z1 := vals_len r1
    refine SeqAt.RcNeAt.lists_lengths l1 l2 ?_ hu _ _ _ _ ⟨.bl true, H, I, rfl, q⟩
    show (its.toArray.size != 0) = true
    rw [List.size_toArray, z1]
    rfl
end
end Ca

set_option Elab.async false
set_option linter.all false
set_option maxRecDepth 100000
set_option maxHeartbeats 4000000
namespace Ca
open PySem L2
/-! ### the law's own draws of promises, and whether all of some hold -/
theorem iteW {b : Bool} {A B : Prop} (h1 : b = true → A) (h2 : b = false → B) : if b = true then A else B := by
  cases b with
  | true => exact iteT (h1 rfl)
  | false => exact iteF (h2 rfl)
theorem pms_all (g : Pm → Bool) : ∀ l : List Pm, (l.filter fun m => !g m).isEmpty = l.all g
  | [] => rfl
  | x :: l => by
    rw [List.filter_cons, List.all_cons]
    cases g x with
    | true => exact pms_all g l
    | false => rfl
theorem unA {k : Nat} {A : Around} (hr : Room k A) : A.units < cLine := by
  have := hu_of hr
  omega
/-- what is walked: a list or a tuple -/
def iLt (K : PySem.W.Frag) (tl : TE) : TI := fun σ H R => tl σ H fun x H1 => ∃ a, x = .ref a ∧ (((∃ xs, SqL K H1 a xs) ∧ R (Itl K a) H1) ∨ ((∃ xs, SqT K H1 a xs) ∧ R (Itt K a) H1))
theorem pi_lt {X : Cx} {tg l : Expr} {tl : TE} (hl : PE X l tl) : PI X tg l (iLt X.K tl) := by
  refine ⟨fun pins s σ H R I h => ?_⟩
  refine thn (hl.run pins s σ H _ I h) fun v s1 ⟨x, H1, I1, r1, a, e, alt⟩ => ?_
  subst e
  cases r1
  rcases alt with ⟨⟨xs, hx⟩, q⟩ | ⟨⟨xs, hx⟩, q⟩
  · obtain ⟨its, rv, p, hz⟩ := I1.list hx
    refine wpAny_pyIter_list p.isList ⟨s1.heap.objs.size, [s1.heap.objs.size], _, _, H1, rfl, I1.kept (t' := s1.toks) fun b o e => Heap.get?_push_of_some _ e, turn_list a _, ⟨_, Heap.get?_push_size _ rfl, rfl, rfl⟩, fun b hb => ?_, q⟩
    rw [List.mem_singleton] at hb
    subst hb
    exact I1.fpOk (Nat.le_refl _) (I1.hok.fresh (Nat.le_refl _))
  · obtain ⟨its, rv, p, hz⟩ := I1.tuple hx
    refine wpAny_pyIter_tuple (show s1.heap.IsTuple a its.toArray from p) ⟨s1.heap.objs.size, [s1.heap.objs.size], _, _, H1, rfl, I1.kept (t' := s1.toks) fun b o e => Heap.get?_push_of_some _ e, turn_tuple a _, ⟨_, Heap.get?_push_size _ rfl, rfl, rfl⟩, fun b hb => ?_, q⟩
    rw [List.mem_singleton] at hb
    subst hb
    exact I1.fpOk (Nat.le_refl _) (I1.hok.fresh (Nat.le_refl _))
theorem sub_filter : ∀ {l ws : List Pm}, ws.Sublist l → l.Nodup → ∃ f, ws = l.filter f
  | _, _, .slnil, _ => ⟨fun _ => true, rfl⟩
  | x :: l, _, .cons _ s, h => by
    obtain ⟨f, e⟩ := sub_filter s (List.nodup_cons.mp h).2
    have nx := (List.nodup_cons.mp h).1
    refine ⟨fun m => !decide (m = x) && f m, ?_⟩
    rw [List.filter_cons, if_neg (by simp), e]
    exact List.filter_congr fun m hm => by rw [decide_eq_false (fun z => nx (by rw [← z]; exact hm))]; rfl
  | x :: l, _, .cons₂ _ s, h => by
    obtain ⟨f, e⟩ := sub_filter s (List.nodup_cons.mp h).2
    have nx := (List.nodup_cons.mp h).1
    refine ⟨fun m => decide (m = x) || f m, ?_⟩
    rw [List.filter_cons, if_pos (by simp), e]
    congr 1
    exact List.filter_congr fun m hm => by rw [decide_eq_false (fun z => nx (by rw [← z]; exact hm))]; rfl
theorem allPm_nodup : allPm.Nodup := by decide
@[irreducible] def spWords (K : PySem.W.Frag) : Sp := fun vs H Q _ => ∃ (H0 : Hp) (a r : Addr) (m : Int), vs = [.ref r, .int m] ∧ RowAt K H0 a r H ∧ 0 < m ∧ m ≤ 1000 ∧ ∀ (p : Addr) (ws : List Pm) (H' : Hp), RowAt K H0 a r H' → Keep (fun b => b = r) H H' → H p = none → WantAt H' p ws → Q (.ref p) H'
theorem words_i {K : PySem.W.Frag} {H0 H : Hp} {a r : Addr} {m : Int} {Q : VK} {E : XK} (R : RowAt K H0 a r H) (m0 : 0 < m) (m1 : m ≤ 1000) (k : ∀ (p : Addr) (ws : List Pm) (H' : Hp), RowAt K H0 a r H' → Keep (fun b => b = r) H H' → H p = none → WantAt H' p ws → Q (.ref p) H') : spWords K [.ref r, .int m] H Q E := by
  unfold spWords
  exact ⟨H0, a, r, m, rfl, R, m0, m1, k⟩
@[irreducible] def spKeepsL (K : PySem.W.Frag) (g : Conf → Pm → Bool) : Sp := fun vs H Q _ => ∃ (c : Conf) (d w a : Addr) (ws : List Pm), vs = [.ref d, .ref w, .ref a] ∧ H d = some (dT c) ∧ H w = some (wT c) ∧ c.Ok ∧ (SqL K H a (ws.map pmV) ∨ SqT K H a (ws.map pmV)) ∧ ws.length ≤ 100 ∧ ∀ H', Evl.Ex H H' → Q (.bl (ws.all (g c))) H'
theorem keepsL_i {K : PySem.W.Frag} {g : Conf → Pm → Bool} {c : Conf} {d w a : Addr} {ws : List Pm} {H : Hp} {Q : VK} {E : XK} (hd : H d = some (dT c)) (hw : H w = some (wT c)) (O : c.Ok) (h : SqL K H a (ws.map pmV) ∨ SqT K H a (ws.map pmV)) (hl : ws.length ≤ 100) (q : ∀ H', Evl.Ex H H' → Q (.bl (ws.all (g c))) H') : spKeepsL K g [.ref d, .ref w, .ref a] H Q E := by
  unfold spKeepsL
  exact ⟨c, d, w, a, ws, rfl, hd, hw, O, h, hl, q⟩
theorem RowAt.newk {K : PySem.W.Frag} {H0 H : Hp} {a r p : Addr} {o : HO} (R : RowAt K H0 a r H) (n : H0 p = none) (nr : p ≠ r) : RowAt K H0 a r (upd H p o) :=
  R.keep (F := fun b => b = p) (Keep.refl.put rfl) (fun b e => by rw [e]; exact n) fun z => nr z.symm
section
variable {P : Program} {w : World} {K : PySem.W.Frag} {mg : Str → Option Value} {base : Heap}
theorem ok_Lwords (T : Txt K mg) : FnOk P w K mg base CX0 3 T.f_Lwords T.fd_Lwords ["row", "many"] (spWords K) := by
  refine T.F_Lwords.ok sc_Lwords (fun vs H Q E h => ?_) (fun cdv A outer s H vs Q E hr h => ?_)
  · unfold spWords at h
    obtain ⟨H0, a, r, m, rfl, _⟩ := h
    rfl
  · unfold spWords at h
    obtain ⟨H0, a, r, m, rfl, R, m0, m1, q⟩ := h
    refine ⟨_, (pss_cons (ps_setLc (i := 2) (own := [("one", 3)]) rfl sc_Lwords.nd rfl rfl (sw_true rfl rfl rfl (by decide +kernel)) (pi_list (pe_call0 (ok_Lpromises T) (hr.mono (by decide)) rfl T.m_Lpromises T.F_Lpromises.kp (b_Lpromises T) .nil pass0)) (blkOk_by (N := ["row", "many", "found", "one"]) (sc := defScope s_Lwords) (by decide +kernel)) (fun _ _ _ _ _ => (pg_name (i := 3) sc_Lwords.nd rfl (Or.inl rfl))) (fun _ _ _ _ _ => (pts_one (pt_cmpR op_eq (pe_call (ok_Ltaken T) (hr.mono (by decide)) rfl T.m_Ltaken T.F_Ltaken.kp (b_Ltaken T) .nil pass0 (pa_cons (pv 0) (pa_cons (pv 1) pa_nil))) pe_int (nomark _)))) (fun _ _ _ _ _ => (pv 3)))
      (pss_one (ps_ret (pe_callTy call_tuple_of (by rfl) T.n_tuple (by decide +kernel) (pa_cons (pv 2) pa_nil))))), ?_⟩
    refine proms_i fun p0 np0 => ?_
    have R1 := R.new (o := .lst (allPm.map pmV)) np0
    have K1 : Keep (fun b => b = r) H (upd H p0 (.lst (allPm.map pmV))) := Keep.refl.new np0
    have hp0 : (upd H p0 (.lst (allPm.map pmV))) p0 = some (.lst (allPm.map pmV)) := upd_same
    have ne0 := R.ne np0
    generalize upd H p0 (.lst (allPm.map pmV)) = H1 at R1 K1 hp0
    refine ⟨p0, rfl, ⟨_, SqL.of hp0⟩, fun D nD => ?_⟩
    have nDr := R1.ne nD
    have nD0 : H D = none := K1.free nD nDr
    have nD00 : H0 D = none := by
      cases z : H0 D with
      | none => rfl
      | some o => rw [R.sm _ _ z] at nD0; cases nD0
    have nDp : D ≠ p0 := fun z => by rw [z, hp0] at nD; cases nD
    refine lc_list (xs := allPm.map pmV) (fun i H' => ∃ ws, H' D = some (.lst (ws.map pmV)) ∧ List.Sublist ws (allPm.take i) ∧ RowAt K H0 a r H' ∧ Keep (fun b => b = r) H H' ∧ H' p0 = some (.lst (allPm.map pmV)))
      ⟨[], upd_same, List.nil_sublist _, R1.newk nD00 nDr, K1.new nD, by rw [upd_ne nDp.symm]; exact hp0⟩ (fun i H' _ ⟨_, _, _, _, _, z⟩ => SqL.of z) (fun i x H' hi ⟨ws, hD, sb, R', K', h0⟩ => ⟨rfl, ?_⟩) ?_
    · obtain ⟨m', hm, rfl⟩ := pms_at hi
      have tk : allPm.take (i + 1) = allPm.take i ++ [m'] := by
        rw [List.take_succ, hm]
        rfl
      have wl : (ws.map pmV).length ≤ 10 := by
        rw [List.length_map]
        exact Nat.le_trans sb.length_le (by rw [List.length_take]; exact Nat.min_le_right _ _)
      refine ⟨_, rfl, _, rfl, ?_⟩
      refine taken_i R' m0 m1 fun k H2 k0 k1 R2 K2 S2 => ⟨rfl, _, rfl, ?_⟩
      have hD2 : H2 D = some (.lst (ws.map pmV)) := by rw [S2 _ nDr]; exact hD
      have h02 : H2 p0 = some (.lst (allPm.map pmV)) := by rw [S2 _ ne0]; exact h0
      refine iteW (fun _ => ?_) (fun _ => ?_)
      · refine ⟨_, rfl, _, hD2, Nat.lt_of_le_of_lt wl (by decide), ws ++ [m'], ?_, ?_, R2.newk nD00 nDr, ?_, ?_⟩
        · rw [upd_same, List.map_append]
          rfl
        · rw [tk]
          exact sb.append (List.Sublist.refl _)
        · exact fun b o hb nf => by
            rw [upd_ne (fun z => by rw [z, nD0] at hb; cases hb)]
            exact (K'.trans K2) b o hb nf
        · rw [upd_ne nDp.symm]
          exact h02
      · refine ⟨ws, hD2, ?_, R2, K'.trans K2, h02⟩
        rw [tk]
        exact sb.trans (List.sublist_append_left _ _)
    · rintro H2 ⟨ws, hD, sb, R2, K2, _⟩
      rw [List.length_map, List.take_length] at sb
      refine ⟨_, rfl, _, _, rfl, .inl ⟨SqL.of hD, fun p np => ?_⟩⟩
      have npr := R2.ne np
      refine q p ws _ (R2.new np) (K2.new np) (K2.free np npr) ⟨upd_same, sub_filter sb allPm_nodup⟩
theorem ok_Lkeeps (T : Txt K mg) : FnOk P w K mg base CX0 2 T.f_Lkeeps T.fd_Lkeeps ["design", "world", "wanted"] (spKeepsL K lH) := by
  refine T.F_Lkeeps.ok sc_Lkeeps (fun vs H Q E h => ?_) (fun cdv A outer s H vs Q E hr h => ?_)
  · unfold spKeepsL at h
    obtain ⟨c, d, w, a, ws, rfl, _⟩ := h
    rfl
  · unfold spKeepsL at h
    obtain ⟨c, d, u, a, ws, rfl, hd, hw, O, ha, wl, q⟩ := h
    refine ⟨_, (pss_one (ps_ret (pe_cmpR (op_eqNil (unA hr)) (pe_lc (own := [("one", 3)]) rfl sc_Lkeeps.nd (pi_lt (pv 2)) (blkOk_by (N := ["design", "world", "wanted", "one"]) (sc := defScope s_Lkeeps) (by decide +kernel)) (fun _ _ _ _ _ => (pg_name (i := 3) sc_Lkeeps.nd rfl (Or.inl rfl))) (fun _ _ _ _ _ => (pts_one (pt_not (pt_val (pe_call (ok_Lholds T) (hr.mono (by decide)) rfl T.m_Lholds T.F_Lholds.kp (b_Lholds T) .nil pass0 (pa_cons (pv 0) (pa_cons (pv 1) (pa_cons (pv 3) pa_nil)))))))) (fun _ _ _ _ _ => (pv 3))) (pe_lst pa_nil) (nomark _)))), ?_⟩
    have turn : ∀ (D : Addr) (i : Nat) (x : V) (H1 : Hp), (ws.map pmV)[i]? = some x → Evl.Ex H H1 → H D = none → H1 D = some (.lst (((ws.take i).filter fun m => !lH c m).map pmV)) →
        (tNot (tB (tCall (spDWP lH) [] E0 (tCons (tVar 0) (tCons (tVar 1) (tCons (tVar 3) tNil))))) [some (.ref d), some (.ref u), some (.ref a), some x] H1 fun b H3 => if b = true then (tVar 3) [some (.ref d), some (.ref u), some (.ref a), some x] H3 fun y H4 => ∃ acc, H4 D = some (.lst acc) ∧ acc.length < sizeLine ∧ (Evl.Ex H (upd H4 D (.lst (acc ++ [y]))) ∧ (upd H4 D (.lst (acc ++ [y]))) D = some (.lst (((ws.take (i + 1)).filter fun m => !lH c m).map pmV))) else (Evl.Ex H H3 ∧ H3 D = some (.lst (((ws.take (i + 1)).filter fun m => !lH c m).map pmV)))) := fun D i x H1 hi e1 nD hD => by
      obtain ⟨m, hm, rfl⟩ := pms_at hi
      have tk : ws.take (i + 1) = ws.take i ++ [m] := by
        rw [List.take_succ, hm]
        rfl
      rw [tk, List.filter_append, List.map_append]
      refine ⟨_, rfl, _, rfl, _, rfl, ?_⟩
      refine dwp_i (e1 _ _ hd) (e1 _ _ hw) O fun H2 e2 => ⟨_, rfl, ?_⟩
      have al : (((ws.take i).filter fun m => !lH c m).map pmV).length < sizeLine := by
        rw [List.length_map]
        refine Nat.lt_of_le_of_lt (Nat.le_trans (List.length_filter_le _ _) (Nat.le_trans (List.length_take_le' ..) wl)) (by decide)
      cases hp : lH c m with
      | false =>
        refine iteT ⟨_, rfl, _, e2 _ _ hD, al, Evl.Ex.mut (e1.trans e2) nD, ?_⟩
        rw [upd_same, List.filter_cons, hp]
        rfl
      | true =>
        refine iteF ⟨e1.trans e2, ?_⟩
        rw [List.filter_cons, hp]
        show H2 D = some (.lst (_ ++ []))
        rw [List.append_nil]
        exact e2 _ _ hD
    have fin : ∀ (D : Addr) (H1 : Hp), Evl.Ex H H1 → H1 D = some (.lst (((ws.take ws.length).filter fun m => !lH c m).map pmV)) → ∀ l, H1 l = none → Q (.bl ((((ws.take ws.length).filter fun m => !lH c m).map pmV).isEmpty != false)) (upd H1 l (.lst [])) := fun D H1 e1 hD l nl => by
      have z := q _ (e1.trans (Evl.Ex.new (o := .lst []) nl))
      have e : ((((ws.take ws.length).filter fun m => !lH c m).map pmV).isEmpty != false) = ws.all (lH c) := by
        rw [List.take_length, Bool.bne_false, List.isEmpty_map]
        exact pms_all _ _
      rw [e]
      exact z
    rcases ha with ha | ha
    · refine ⟨_, rfl, a, rfl, .inl ⟨⟨_, ha⟩, fun D nD => lc_list (xs := ws.map pmV) (fun i H' => Evl.Ex H H' ∧ H' D = some (.lst (((ws.take i).filter fun m => !lH c m).map pmV))) ⟨Evl.Ex.new nD, upd_same⟩ (fun i H' _ ⟨e, _⟩ => Evl.ex_l e ha) (fun i x H' hi ⟨e, hD⟩ => ⟨rfl, turn D i x H' hi e nD hD⟩) fun H1 ⟨e1, hD⟩ => ?_⟩⟩
      rw [List.length_map] at hD
      refine ⟨by show 0 ≤ sizeLine; decide, fun l nl => ⟨_, _, _, rfl, rfl, SqL.of (same_new nl _ _ hD), SqL.of upd_same, fin D H1 e1 hD l nl⟩⟩
    · refine ⟨_, rfl, a, rfl, .inr ⟨⟨_, ha⟩, fun D nD => lc_tup (xs := ws.map pmV) (fun i H' => Evl.Ex H H' ∧ H' D = some (.lst (((ws.take i).filter fun m => !lH c m).map pmV))) ⟨Evl.Ex.new nD, upd_same⟩ (fun i H' _ ⟨e, _⟩ => Evl.ex_t e ha) (fun i x H' hi ⟨e, hD⟩ => ⟨rfl, turn D i x H' hi e nD hD⟩) fun H1 ⟨e1, hD⟩ => ?_⟩⟩
      rw [List.length_map] at hD
      refine ⟨by show 0 ≤ sizeLine; decide, fun l nl => ⟨_, _, _, rfl, rfl, SqL.of (same_new nl _ _ hD), SqL.of upd_same, fin D H1 e1 hD l nl⟩⟩
end
end Ca

set_option Elab.async false
set_option linter.all false
set_option maxRecDepth 100000
set_option maxHeartbeats 4000000
namespace Ca
open PySem L2
/-! ### the two verdicts are the same -/
theorem two_words {a b x : Str} (h : x = a ∨ x = b) (n : a ≠ b) : decide (V.str x = V.str b) = !decide (V.str x = V.str a) := by
  rcases h with e | e
  · subst e
    rw [decide_eq_true (rfl : V.str x = V.str x), decide_eq_false (fun z => n (by cases z; rfl))]
    rfl
  · subst e
    rw [decide_eq_true (rfl : V.str x = V.str x), decide_eq_false (fun z => n (by cases z; rfl))]
    rfl
theorem sb (a x : Str) : (a == x) = decide (V.str x = V.str a) := by
  by_cases h : x = a
  · subst h
    rw [decide_eq_true (rfl : V.str x = V.str x)]
    exact beq_self_eq_true x
  · rw [decide_eq_false (fun z => h (by cases z; rfl))]
    exact beq_false_of_ne fun z => h z.symm
theorem same_verdict {c : Conf} (O : c.Ok) (m : Pm) : lH c m = progH c m := by
  have f1 : decide (V.str c.flight = V.str "shared") = !decide (V.str c.flight = V.str "alone") := two_words (by have := O.f; simpa [flightsL] using this) (by decide)
  have f2 : decide (V.str c.source = V.str "replica") = !decide (V.str c.source = V.str "primary") := two_words O.s (by decide)
  have f3 : ∀ x : Str, inV (V.str x) [V.str "mark", V.str "newer"] = (decide (V.str x = V.str "mark") || decide (V.str x = V.str "newer")) := fun x => by
    simp only [inV, List.any_cons, List.any_nil, eqV, sb, Bool.or_false]
  have f4 : ∀ x : Str, inV (V.str x) [V.str "store", V.str "store set"] = (decide (V.str x = V.str "store") || decide (V.str x = V.str "store set")) := fun x => by
    simp only [inV, List.any_cons, List.any_nil, eqV, sb, Bool.or_false]
  cases m
  all_goals
    try simp only [lH, progH, m_holds_ending, m_holds_filled, m_holds_forward, m_holds_fresh, m_holds_linear, m_holds_mended, m_holds_moving, m_holds_quiet, m_holds_rest, m_holds_single, m_passes_by, m_climbs, m_guards, m_is_alone, m_is_primary, m_keeps, m_finishes, f1, f2, f3, f4]
    try generalize decide (V.str c.flight = V.str "alone") = b1
    try generalize decide (V.str c.source = V.str "primary") = b2
    try generalize decide (V.str c.guard = V.str "mark") = b3
    try generalize decide (V.str c.guard = V.str "newer") = b4
    try generalize decide (V.str c.guard = V.str "never") = b5
    try generalize decide (V.str c.guard = V.str "token") = b6
    try generalize decide (V.str c.path = V.str "store") = b7
    try generalize decide (V.str c.path = V.str "store set") = b8
    try generalize decide (V.str c.evict = V.str "keeps") = b9
    try generalize decide (V.str c.stop = V.str "finishes") = b10
    try generalize Txt.endswith c.path "drop" = b11
    try revert b1 b2 b3 b4 b5 b6 b7 b8 b9 b10 b11
    try decide +kernel
end Ca

set_option Elab.async false
set_option linter.all false
set_option maxRecDepth 100000
set_option maxHeartbeats 4000000
/-! lambdas with parameters: made in a def's body, called by what got them -/
namespace Ca
open PySem PySem.Spec PyProof.Rows L2 LamX NdefX
/-- the object at f is the lambda F, its body e (F.body says nothing) -/
def LamO (f : Addr) (F : NF) (e : Expr) : HO := .ext fun h => ∃ pm ctv : Value, h.get? f = some (PySem.W.kla_obj F.name F.qual F.params e F.scope F.cl pm F.c ctv)
theorem lamO_ne {f : Addr} {F : NF} {e : Expr} (ps : Array Value) : LamO f F e ≠ .tbl ps := fun z => by
  unfold LamO at z
  cases z
theorem lamO_at {P : Program} {w : World} {H : Hp} {h : Heap} {f : Addr} {F : NF} {e : Expr} (hok : HOk P w H h) (x : H f = some (LamO f F e)) : ∃ pm ctv : Value, h.get? f = some (PySem.W.kla_obj F.name F.qual F.params e F.scope F.cl pm F.c ctv) := by
  obtain ⟨z, _, _⟩ := hok f _ x
  exact z
section
variable {X : Cx} {pins : List (Addr × Obj)} {σ : L2.St} {H : Hp} {s : Shared}
theorem inv_lam {F : NF} {e : Expr} {t' : Nat} {pm ctv : Value} (I : Inv X pins σ H s) :
    Inv X pins σ (upd H s.heap.objs.size (LamO s.heap.objs.size F e)) { s with heap := s.heap.push (PySem.W.kla_obj F.name F.qual F.params e F.scope F.cl pm F.c ctv), toks := t' } := by
  refine I.laid (a := s.heap.objs.size) (fun b u e => Heap.get?_push_of_some _ e) (Nat.le_refl _) ?_
  have z : (s.heap.push (PySem.W.kla_obj F.name F.qual F.params e F.scope F.cl pm F.c ctv)).get? s.heap.objs.size = some (PySem.W.kla_obj F.name F.qual F.params e F.scope F.cl pm F.c ctv) := Heap.get?_push_size _ rfl
  exact ⟨⟨pm, ctv, z⟩, ⟨_, z⟩, fun h1 h2 ⟨p, t, z⟩ st => ⟨p, t, st _ z⟩⟩
/-- the lambda is made: its code object is new, or found in the table -/
theorem lam_makeP {T : List NTab} {nm : Nat → Nat → Str} {c P : Addr} {params : Arguments} {body : Expr} {scope : Scope} {pos : Pos} {E : Value → Shared → Prop} {Q : Value → Shared → Prop} (I : Inv X pins σ H s) (TB : TabB X.base X.mg c P) (hcode : X.env.code = .ref c)
    (hm : (P, nm) ∈ T) (hn : nm pos.line pos.col = X.env.qual ++ "<lambda>") (hu : ∀ p ∈ T, p.1 = P → p.2 = nm) (hT : TabsN T H) (hdef : defaultsOf params X.env = ([], [])) (hfree : ∀ y ∈ scope.names, y.2 = .free → ∃ c, X.env.cells.lookup y.1 = some c)
    (h : ∀ (f c' : Addr) (H1 : Hp) (s' : Shared), Inv X pins σ H1 s' → ExtN H H1 → (∀ b, H1 b = Option.none → H b = Option.none) → TabsN T H1 → H f = none → H1 f = some (LamO f ⟨"<lambda>", X.env.qual ++ "<lambda>", params, [], scope, cloFrom X.env.cells scope.names [], c'⟩ body) → H1 c' = some (CodeO c' (X.env.qual ++ "<lambda>")) → Q (.ref f) s') :
    wpAny (model X.prog X.w) X.A (eval (.Lambda params body scope pos) X.env) Q E s := by
  obtain ⟨ps, hP, ht, ha⟩ := (show TabN H P nm from hT _ hm)
  refine PySem.W.kla_eval hdef ?_
  have bP : s.heap.BuiltinsAt X.mg P := TB.bm.keeps I.bk
  have hP' : s.heap.get? P = some { cls := .none, data := .fields ps } := I.hok P _ hP
  cases hc : codeAmong pos ps.toList with
  | none =>
    refine PySem.W.kla_makeFunction (mg := X.mg) (c := c) (P := P) (ps := ps) (closure_ok hfree) I.ok.glob (I.mod.glob.keeps I.bk) hcode (TB.code.keeps I.bk) hP' ht hc TB.gP bP fun c' ctv h' tk hx hge hlt hrec htb => ?_
    obtain ⟨c2, oc, vs, t, e2, hoc, hd, hv⟩ := hrec
    cases e2
    have nC : H c' = none := I.hok.fresh hge
    have I1 := inv_table (t' := tk) (more := #[rawInt pos.line, rawInt pos.col, .ref c']) (h' := h') I hP (fun b o hb e => hx b o hb e) htb hge ⟨oc, vs, t, hoc, hd, hv⟩
    have hE : ExtN H (upd (upd H P (.tbl (ps ++ #[rawInt pos.line, rawInt pos.col, .ref c']))) c' (CodeO c' (X.env.qual ++ "<lambda>"))) := fun b o e n => by
      rw [upd_ne (ne_of_none e nC), upd_ne (fun z => n ps (Option.some.inj (e.symm.trans (by rw [z]; exact hP))))]
      exact e
    have eL : (ps ++ #[rawInt pos.line, rawInt pos.col, .ref c']).toList = ps.toList ++ [rawInt pos.line, rawInt pos.col, .ref c'] := by simp
    have T1 : TabsN T (upd (upd H P (.tbl (ps ++ #[rawInt pos.line, rawInt pos.col, .ref c']))) c' (CodeO c' (X.env.qual ++ "<lambda>"))) := fun p hp => by
      by_cases hb : p.1 = P
      · rw [hu p hp hb, hb]
        refine ⟨_, by rw [upd_ne (ne_of_none hP nC), upd_same], by rw [eL]; exact PySem.TriplesOk_snoc _ _ _ _ ht, fun p' cv hcv => ?_⟩
        rw [eL] at hcv
        rcases among_app2 _ ht hcv with z | ⟨z, z1, z2⟩
        · obtain ⟨c0, e1, e2⟩ := ha p' cv z
          exact ⟨c0, e1, hE _ _ e2 codeO_ne⟩
        · refine ⟨c', z, ?_⟩
          rw [← z1, ← z2, hn]
          exact upd_same
      · obtain ⟨ps', a1, a2, a3⟩ := hT p hp
        refine ⟨ps', by rw [upd_ne (ne_of_none a1 nC), upd_ne hb]; exact a1, a2, fun p' cv hcv => ?_⟩
        obtain ⟨c0, e1, e2⟩ := a3 p' cv hcv
        exact ⟨c0, e1, hE _ _ e2 codeO_ne⟩
    have nF := I1.hok.fresh (Nat.le_refl _)
    have I2 := inv_lam (F := ⟨"<lambda>", X.env.qual ++ "<lambda>", params, [], scope, cloFrom X.env.cells scope.names [], c'⟩) (e := body) (t' := tk) (pm := (X.mg "__name__").getD .none) (ctv := ctv) I1
    refine h h'.objs.size c' _ _ I2 (fun b o e n => ?_) (fun b e => upd_none (upd_none (upd_none e))) (T1.ext fun b o e => ?_) (I.hok.fresh (Nat.le_trans hge (Nat.le_of_lt hlt))) upd_same ?_
    · have e1 := hE b o e n
      exact (upd_ne (ne_of_none e1 nF)).trans e1
    · exact (upd_ne (ne_of_none e nF)).trans e
    · exact (upd_ne (Nat.ne_of_lt hlt)).trans upd_same
  | some cv =>
    obtain ⟨c', e, hco⟩ := ha pos cv hc
    subst e
    rw [hn] at hco
    refine PySem.W.kla_makeFunctionHit (mg := X.mg) (c := c) (P := P) (ps := ps) (closure_ok hfree) I.ok.glob (I.mod.glob.keeps I.bk) hcode (TB.code.keeps I.bk) hP' ht hc bP fun ctv h' tk hx hsz => ?_
    have I1 : Inv X pins σ H { s with heap := h', toks := tk } := I.kept hx
    have nF : H h'.objs.size = none := I1.hok.fresh (Nat.le_refl _)
    have I2 := inv_lam (F := ⟨"<lambda>", X.env.qual ++ "<lambda>", params, [], scope, cloFrom X.env.cells scope.names [], c'⟩) (e := body) (t' := tk) (pm := (X.mg "__name__").getD .none) (ctv := ctv) I1
    refine h h'.objs.size c' _ _ I2 (fun b o e n => ?_) (fun b e => upd_none e) (hT.ext fun b o e => ?_) nF upd_same ?_
    · exact (upd_ne (ne_of_none e nF)).trans e
    · exact (upd_ne (ne_of_none e nF)).trans e
    · exact (upd_ne (ne_of_none hco nF)).trans hco
end
/-- the reading of «lambda ..: e» in a def's body -/
def tLamE (T : List NTab) (mk : Addr → NF) (body : Expr) : TE := fun σ H Q => TabsN T H ∧ ∀ (f c' : Addr) (H1 : Hp), ExtN H H1 → (∀ b, H1 b = Option.none → H b = Option.none) → TabsN T H1 → H f = none → H1 f = some (LamO f (mk c') body) → H1 c' = some (CodeO c' (mk c').qual) → Q (.ref f) H1
section
variable {X : Cx}
theorem pe_lam {T : List NTab} {nm : Nat → Nat → Str} {c P : Addr} {params : Arguments} {body : Expr} {scope : Scope} {pos : Pos} (TB : TabB X.base X.mg c P) (hcode : X.env.code = .ref c) (hm : (P, nm) ∈ T) (hn : nm pos.line pos.col = X.env.qual ++ "<lambda>") (hu : ∀ p ∈ T, p.1 = P → p.2 = nm)
    (hfree : ∀ y ∈ scope.names, y.2 = .free → X.env.scope.names.lookup y.1 = some .cell ∨ X.env.scope.names.lookup y.1 = some .free) (hdef : defaultsOf params X.env = ([], []) := by rfl) :
    PE X (.Lambda params body scope pos) (tLamE T (fun c' => ⟨"<lambda>", X.env.qual ++ "<lambda>", params, [], scope, cloFrom X.env.cells scope.names [], c'⟩) body) := by
  refine ⟨fun pins s σ H Q I h => ?_⟩
  obtain ⟨hT, h⟩ := h
  have hfr : ∀ y ∈ scope.names, y.2 = .free → ∃ c, X.env.cells.lookup y.1 = some c := fun y hy e => (hfree y hy e).elim (fun z => I.ok.has _ (.inl z)) fun z => I.ok.has _ (.inr z)
  exact lam_makeP I TB hcode hm hn hu hT hdef hfr fun f c' H1 s' I1 eN nn T1 f0 f1 c1 => ⟨.ref f, H1, I1, rfl, h f c' H1 eN nn T1 f0 f1 c1⟩
end
/-! ### what it promises -/
abbrev CXn : CXT := fun _ _ _ _ _ _ => False
abbrev En : XK := fun _ _ _ => False
structure LOk (P : Program) (w : World) (K : PySem.W.Frag) (mg : Str → Option Value) (base : Heap) (CX : CXT) (k : Nat) (f : Addr) (F : NF) (e : Expr) (ps fr : List Str) (sp : List (Option V) → Sp) : Prop where
  len : ∀ ws vs H Q E, sp ws vs H Q E → vs.length = ps.length
  run : ∀ (A : Around) (outer : List Env) (s : Shared) (H : Hp) (us : List Value) (vs : List V) (ws : List (Option V)) (Q : VK) (E : XK), Room k A → Env0 P w K mg base A outer s H → H f = some (LamO f F e) → H F.c = some (CodeO F.c F.qual) →
    CellsAt F.cl fr ws s.heap H → Vals vs us → sp ws vs H Q E → codeAny (model P w) A (.call (.ref f) ⟨us, []⟩) (CR CX outer P w H s Q E) s
section
variable {CX : CXT} {P : Program} {w : World} {K : PySem.W.Frag} {mg : Str → Option Value} {base : Heap} {N ps fr : List Str} {F : NF} {e : Expr} {f : Addr} {k j : Nat} {sp sp' : List (Option V) → Sp}
theorem LOk.mono (o : LOk P w K mg base CX j f F e ps fr sp) (h : j ≤ k) : LOk P w K mg base CX k f F e ps fr sp := ⟨o.len, fun A outer s H us vs ws Q E hr => o.run A outer s H us vs ws Q E (hr.mono h)⟩
/-- THE RULE: a lambda by its body -/
theorem lok_of (S : NScope N ps fr F.scope) (hb : ∀ (pm ctv : Value) (us : List Value), us.length = ps.length → bindArgs (PySem.W.kla_fn F.name F.qual F.params e F.scope F.cl pm (.ref F.c) ctv) ⟨us, []⟩ = pure (ps.zip us)) (len : ∀ ws vs H Q E, sp ws vs H Q E → vs.length = ps.length)
    (hbody : ∀ (A : Around) (outer : List Env) (s : Shared) (H : Hp) (vs : List V) (ws : List (Option V)) (Q : VK) (E : XK), Room k (A.deeper (envF F f s.heap.objs.size)) → H f = some (LamO f F e) → H F.c = some (CodeO F.c F.qual) → ws.length = fr.length → sp ws vs H Q E →
      ∃ t, PE (ncx CX P w K mg base N F f A outer s H E) e t ∧ t (startF N vs ws) H Q) :
    LOk P w K mg base CX (k + 1) f F e ps fr sp := by
  refine ⟨len, fun A outer s H us vs ws Q E hr e0 hf hc C r hsp => ?_⟩
  have hl := len _ _ _ _ _ hsp
  have lim : s.heap.NoLimit := e0.mod.nolimit.keeps fun b o e => (e0.bs b o e).1
  obtain ⟨pm, ctv, ho⟩ := lamO_at e0.hok hf
  refine PySem.W.kla_callFunE hr.depth ho rfl S.co S.gen rfl (codeO_at e0.hok hc) ?_
  rw [hb pm ctv us (by rw [← r.length]; exact hl)]
  refine wpAny_pure (wpAny_newFunctionEnv S.nocell (fun ⟨n, _⟩ hy => S.par n (List.of_mem_zip hy).1) (fun h₁ hns hsb => ⟨lim.fresh _ hsb, ?_⟩) S.kind)
  show codeAny _ _ (.expr e (envF F f s.heap.objs.size)) _ _
  have kp : ∀ b o, s.heap.get? b = some o → h₁.get? b = some o := fun b o e => hsb.extBut b o (Nat.ne_of_lt (Heap.lt_size e)) (Heap.get?_push_of_some _ e)
  obtain ⟨t, ht, hq⟩ := hbody A outer s H vs ws Q E (hr.deeper _) hf hc C.len hsp
  have I : Inv (ncx CX P w K mg base N F f A outer s H E) [] (startF N vs ws) H { s with heap := h₁, toks := s.toks + (ps.zip us).length } := inv_startN S hr.hd e0 hl r C hns kp
  refine PySem.W.kla_codeExpr (wpAny_mono (ht.run [] _ (startF N vs ws) H Q I hq) (fun u s' hs => ?_) fun e s' hs => hs)
  obtain ⟨v, H', J, rv, q⟩ := hs
  exact ⟨v, H', J.os, J.bare, J.base, J.hok, rv, q⟩
end
section
variable {X : Cx} {CX : CXT} {F : NF} {e : Expr} {ps fr : List Str} {js : List Nat} {j k : Nat} {sp : List (Option V) → Sp} {E : XK}
/-- what is called within what runs: A, an around of the same frames -/
theorem run_l {pins : List (Addr × Obj)} {σ : L2.St} {H : Hp} {s : Shared} {Q : VK} {f : Addr} {us : List Value} {vs : List V} (Fn : LOk X.prog X.w X.K X.mg X.base CXn k f F e ps fr sp) (hr : Room k X.A.in1) (I : Inv X pins σ H s)
    (hf : H f = some (LamO f F e)) (hc : H F.c = some (CodeO F.c F.qual)) (C : CellsAt F.cl fr (js.map (slotAt σ)) s.heap H) (r : Vals vs us) (q : sp (js.map (slotAt σ)) vs H Q En) :
    wpAny (model X.prog X.w) X.A.in1 (call (.ref f) us) (EP X pins σ Q) (fun _ _ => False) s := by
  refine wpAny_call (codeAny_mono (Fn.run X.A.in1 X.stack s H us vs _ Q En hr I.env0.in1 hf hc C r q) fun r s' hq => ?_)
  cases r with
  | error e => exact (show False from hq).elim
  | ok fl =>
    cases fl with
    | ret u => exact I.after hq
    | next => exact False.elim hq
    | brk => exact False.elim hq
    | cont => exact False.elim hq
end
end Ca

set_option Elab.async false
set_option linter.all false
set_option maxRecDepth 100000
set_option maxHeartbeats 4000000
/-! a def whose code object is known; lambdas by their words in the def's text -/
namespace Ca
open PySem PySem.Spec PyProof.Rows L2 LamX NdefX
section
variable {P : Program} {w : World} {K : PySem.W.Frag} {mg : Str → Option Value} {base : Heap}
theorem fun_okc {x qual : Str} {st : Stmt} {f : Addr} {fd : FuncData} {N ps : List Str} {k : Nat} {sp : Sp} {c : Addr} (F : Fun K x qual st f fd) (hc : fd.code = .ref c) (S : FnScope N ps (defScope st)) (len : ∀ vs H Q E, sp vs H Q E → vs.length = ps.length)
    (hbody : ∀ (A : Around) (outer : List Env) (s : Shared) (H : Hp) (vs : List V) (Q : VK) (E : XK), Room k (A.deeper (envOfC qual (defScope st) s.heap.objs.size f (.ref c))) → sp vs H Q E →
      ∃ t, PSs (cxOf L2.CX0 P w K mg base N qual (defScope st) f (.ref c) A outer s H E).nox (defBody st) t ∧ t { nx := fun _ H' => Q .non H', rt := Q } (start N vs) H) : FnOk P w K mg base L2.CX0 (k + 1) f fd ps sp := by
  obtain ⟨oc, od, kV, doc, pm, an, cdv, ct, osl, rfl, lk, hcd⟩ := F.ex
  have hc : cdv = .ref c := hc
  subst hc
  refine fn_of lk hcd S len fun A outer s H vs Q E hr hsp => ?_
  obtain ⟨t, h, q⟩ := hbody A outer s H vs Q E hr hsp
  exact ⟨t, h.nox, q⟩
end
def lmArgs : Expr → Arguments
  | .Lambda p _ _ _ => p
  | _ => default
def lmBody : Expr → Expr
  | .Lambda _ b _ _ => b
  | e => e
def lmScope : Expr → Scope
  | .Lambda _ _ s _ => s
  | _ => default
def lmPos : Expr → Pos
  | .Lambda _ _ _ p => p
  | _ => default
abbrev lmNF (le : Expr) (qual : Str) (cl : List (Str × Addr)) (c' : Addr) : NF := ⟨"<lambda>", qual, lmArgs le, [], lmScope le, cl, c'⟩
theorem pe_lamS {X : Cx} {le : Expr} {T : List NTab} {nm : Nat → Nat → Str} {c P : Addr} (hle : le = .Lambda (lmArgs le) (lmBody le) (lmScope le) (lmPos le)) (TB : TabB X.base X.mg c P) (hcode : X.env.code = .ref c) (hm : (P, nm) ∈ T) (hn : nm (lmPos le).line (lmPos le).col = X.env.qual ++ "<lambda>") (hu : ∀ p ∈ T, p.1 = P → p.2 = nm)
    (hfree : ∀ y ∈ (lmScope le).names, y.2 = .free → X.env.scope.names.lookup y.1 = some .cell ∨ X.env.scope.names.lookup y.1 = some .free) (hdef : defaultsOf (lmArgs le) X.env = ([], [])) :
    PE X le (tLamE T (lmNF le (X.env.qual ++ "<lambda>") (cloFrom X.env.cells (lmScope le).names [])) (lmBody le)) := by
  have h := pe_lam (pos := lmPos le) (body := lmBody le) TB hcode hm hn hu hfree hdef
  rw [← hle] at h
  exact h
end Ca

set_option Elab.async false
set_option linter.all false
set_option maxRecDepth 100000
set_option maxHeartbeats 4000000
/-! min(a tuple, key=a lambda of the def, default=..) -/
namespace Ca
open PySem PySem.Spec PyProof.Rows L2 LamX NdefX
theorem args_minKD (a v d : Value) : argsOk "min" ⟨[a], [(Str.ofString "key", v), (Str.ofString "default", d)]⟩ := by unfold argsOk; kernel_rfl
/-- a built-in called with keywords, what it does told with the frame's values -/
def CallRKs (X : Cx) (f : Value) (ks : List Str) (r : L2.St → List V → List V → Hp → VK → Prop) : Prop :=
  ∀ (pins : List (Addr × Obj)) (s : Shared) (σ : L2.St) (H : Hp) (xs zs : List V) (us ws : List Value) (Q : VK), Inv X pins σ H s → Vals xs us → Vals zs ws → r σ xs zs H Q → wpAny (model X.prog X.w) X.A (call f us (ks.zip ws)) (EP X pins σ Q) X.xe s
def tCKs (r : L2.St → List V → List V → Hp → VK → Prop) (t tk : TA) : TE := fun σ H Q => t σ H fun vs H1 => tk σ H1 fun zs H2 => r σ vs zs H2 Q
theorem pe_callBKs {X : Cx} {x : Str} {p pos : Pos} {e : Expr} {es : List Expr} {kws : List Keyword} {t tk : TA} {id : String} {ks : List Str} {r : L2.St → List V → List V → Hp → VK → Prop} (hc : CallRKs X (.builtin id) ks r) (hg : Gl X x) (hm : X.mg x = none) (hv : bootBuiltins x = some (.builtin id)) (ha : PA X (e :: es) t) (hk : PK X kws tk) (hn : x ≠ "__name__" := by decide) (hdb : (x == ("__debug__" : Str)) = false := by decide)
    (he : backTo pos (starEach (e :: es) X.env) = (false, eval e X.env) :: backTo pos (starEach es X.env) := by rfl) (hpl : (backTo pos (starEach (e :: es) X.env)).any (·.1) = false := by rfl)
    (hall : (backToKw pos (keywordEach kws X.env)).all (·.1.isSome) = true := by rfl) (hnone : (backToKw pos (keywordEach kws X.env)).any (·.1.isNone) = false := by rfl) (hks : (backToKw pos (keywordEach kws X.env)).filterMap (·.1) = ks := by rfl) :
    PE X (.Call (.Name x p) (e :: es) kws pos) (tCKs r t tk) := by
  refine ⟨fun pins s σ H Q I h => ?_⟩
  refine wpAny_Call_Name_kw (ld_blt I hg hm hv ?_ hn hdb)
  refine PyProof.Rows.callWith_kw (thn (ha.run pos pins s σ H _ I h) fun us s1 ⟨vs, H1, I1, r1, q1⟩ => thn (hk.run pos pins s1 σ H1 _ I1 q1) fun ws s2 ⟨zs, H2, I2, r2, q2⟩ => ?_) he hpl hall hnone
  rw [hks]
  exact hc pins s2 σ H2 vs zs us ws Q I2 r1 r2 q2
def rMinKey (K : PySem.W.Frag) (mk : Addr → NF) (e : Expr) (js : List Nat) (sp : List (Option V) → Sp) : L2.St → List V → List V → Hp → VK → Prop := fun σ vs zs H Q =>
  ∃ (p f c' : Addr) (xs : List V) (kv : Nat → Int) (d : V), vs = [.ref p] ∧ zs = [.ref f, d] ∧ SqT K H p xs ∧ H f = some (LamO f (mk c') e) ∧ H (mk c').c = some (CodeO (mk c').c (mk c').qual) ∧
  (∀ i x, xs[i]? = some x → ∀ H1, Evl.Ex H H1 → ∀ Q' : VK, (∀ H2, Evl.Ex H1 H2 → Q' (.int (kv i)) H2) → sp (js.map (slotAt σ)) [x] H1 Q' En) ∧
  (xs = [] → ∀ H', Evl.Ex H H' → Q d H') ∧
  ∀ i x H', xs[i]? = some x → (∀ j, j < xs.length → kv i ≤ kv j ∧ (j < i → kv i < kv j)) → Evl.Ex H H' → Q x H'
theorem fp_h {X : Cx} {pins : List (Addr × Obj)} {H H' : Hp} {b : Addr} (f : FpOk X pins H b) (hn : H' b = none) : FpOk X pins H' b := ⟨hn, f.2⟩
section
variable {X : Cx} {pins : List (Addr × Obj)} {σ : L2.St} {H : Hp} {s : Shared} {k : Nat} {e : Expr} {a : Str} {fr : List Str} {js : List Nat} {mk : Addr → NF} {cl : List (Str × Addr)} {sp : List (Option V) → Sp}
theorem min_loop {p f c' I S : Addr} {xs : List V} {kv : Nat → Int} {d : V} {du : Value} {Q : VK} (Fn : ∀ f c', LOk X.prog X.w X.K X.mg X.base CXn k f (mk c') e [a] fr sp) (hcl : ∀ c', (mk c').cl = cl) (cp : X.Ok → Caps X cl fr js) (hr : Room k X.A.in1)
    (hIS : S ≠ I) (hpI : p ≠ I) (rd : RelV d du) (hs : SqT X.K H p xs) (hf : H f = some (LamO f (mk c') e)) (hc : H (mk c').c = some (CodeO (mk c').c (mk c').qual))
    (turn : ∀ i x, xs[i]? = some x → ∀ H1, Evl.Ex H H1 → ∀ Q' : VK, (∀ H2, Evl.Ex H1 H2 → Q' (.int (kv i)) H2) → sp (js.map (slotAt σ)) [x] H1 Q' En)
    (q0 : xs = [] → ∀ H', Evl.Ex H H' → Q d H') (q1 : ∀ i x H', xs[i]? = some x → (∀ j, j < xs.length → kv i ≤ kv j ∧ (j < i → kv i < kv j)) → Evl.Ex H H' → Q x H') :
    ∀ (r j : Nat) (H1 : Hp) (s : Shared) (arr : Array Value) (c : Nat), xs.length - j = r → j ≤ xs.length → Inv X pins σ H1 s → Evl.Ex H H1 → s.heap.IsTupleIter I p j → FpOk X pins H1 I → FpOk X pins H1 S → s.heap.get? S = some (seqObj "list" arr c) →
      ((j = 0 ∧ arr = #[]) ∨ ∃ (i : Nat) (x : V) (vb : Value) (tb : Tok), arr = #[vb, .int (kv i) tb] ∧ xs[i]? = some x ∧ RelV x vb ∧ i < j ∧ ∀ j', j' < j → kv i ≤ kv j' ∧ (j' < i → kv i < kv j')) →
      codeAny (model X.prog X.w) X.A (.builtin "min.loop" ⟨[.ref I, .ref f, .ref S], [(Str.ofString "default", du)]⟩) (fun r s' => match r with | .ok (.ret v) => EP X pins σ Q v s' | .ok _ => False | .error e => X.xe e s') s := by
  have hname : (toString "min" ++ toString ".loop" : String) = "min.loop" := by decide
  have hh : X.A.in1.handled = none := hr.hd
  intro r
  induction r with
  | zero =>
    intro j H1 s arr c hrj hj I0 ex hit fI fS hS best
    have hjl : j = xs.length := by omega
    obtain ⟨its, rv, hT, _⟩ := I0.tuple (Evl.ex_t ex hs)
    refine codeAny_builtin PySem.F.entry_min_loop ?_
    rw [Around.under_plainId PySem.F.plain_min_loop _]
    show wpAny _ X.A.in1 (seqItems? (.ref S) >>= _) _ _ _
    refine wpAny_bind (wpAny_seqItems hS rfl ?_)
    show wpAny _ X.A.in1 (tryCatch (pyNext (.ref I)) _ >>= _) _ _ _
    refine wpAny_bind (wpAny_tryCatch (wpAny_pyNext_tuple_end hh hit hT (by rw [hjl, rv.length]; simp) fun h' hk => ?_))
    have kp : ∀ b o, b ∉ [I] → s.heap.get? b = some o → h'.get? b = some o := fun b o hb e => hk b o (fun z => hb (by simp [z])) e
    have I1 : Inv X pins σ H1 { s with heap := h', toks := s.toks } := I0.turnedL kp (fun b hb => by rw [List.mem_singleton.mp hb]; exact fI)
    have hS' : h'.get? S = some (seqObj "list" arr c) := kp S _ (by simpa using hIS) hS
    rcases best with ⟨hj0, rfl⟩ | ⟨i, x, vb, tb, rfl, hx, rx, hij, hb⟩
    · show wpAny _ X.A.in1 (rule "min.default" >>= _) _ _ _
      refine wpAny_bind (wpAny_rule (wpAny_pure ?_))
      have z : xs = [] := List.length_eq_zero_iff.mp (by omega)
      exact ⟨d, H1, I1, rd, q0 z H1 ex⟩
    · have s1 := Heap.SameBut.update h' S (Obj.mapSeq fun _ => (#[] : Array Value))
      show wpAny _ X.A.in1 (updateSeq S (fun _ => #[]) >>= _) _ _ _
      refine wpAny_bind ?_
      refine wpAny_updateSeq hS' rfl (wpAny_bind (wpAny_letGo (wpAny_pure ?_)))
      have I2 : Inv X pins σ H1 { s with heap := h'.update S (Obj.mapSeq fun _ => (#[] : Array Value)), toks := s.toks } := Inv.turnedL (s := { s with heap := h', toks := s.toks }) I1 (ch := [S]) (fun b o hb e => (s1.2 b fun z => hb (by simp [z])).trans e) (fun b hb => by rw [List.mem_singleton.mp hb]; exact fS)
      exact ⟨x, H1, I2, rx, q1 i x H1 hx (fun j' hj' => hb j' (by omega)) ex⟩
  | succ r ih =>
    intro j H1 s arr c hrj hj I0 ex hit fI fS hS best
    have hjl : j < xs.length := by omega
    obtain ⟨its, rv, hT, _⟩ := I0.tuple (Evl.ex_t ex hs)
    obtain ⟨x, hx⟩ : ∃ x, xs[j]? = some x := ⟨_, List.getElem?_eq_getElem hjl⟩
    obtain ⟨v, hv, rx⟩ := rv.get hx
    refine codeAny_builtin PySem.F.entry_min_loop ?_
    rw [Around.under_plainId PySem.F.plain_min_loop _]
    show wpAny _ X.A.in1 (seqItems? (.ref S) >>= _) _ _ _
    refine wpAny_bind (wpAny_seqItems hS rfl ?_)
    show wpAny _ X.A.in1 (tryCatch (pyNext (.ref I)) _ >>= _) _ _ _
    refine wpAny_bind (wpAny_tryCatch (wpAny_pyNext_tuple_item hit hT (by simpa using hv) fun h' hit' hsb => ?_))
    have kp : ∀ b o, b ∉ [I] → s.heap.get? b = some o → h'.get? b = some o := fun b o hb e => (hsb.2 b fun z => hb (by simp [z])).trans e
    have I1 : Inv X pins σ H1 { s with heap := h', toks := s.toks } := I0.turnedL kp (fun b hb => by rw [List.mem_singleton.mp hb]; exact fI)
    have hS' : h'.get? S = some (seqObj "list" arr c) := kp S _ (by simpa using hIS) hS
    obtain ⟨oI, hoI, hocI, hodI⟩ := id hit'
    have pn : Inv X (pins ++ pinsAt [I, S] h') σ H1 { s with heap := h', toks := s.toks } := I1.pinned (fp := [I, S]) (fun b hb => by
      rcases List.mem_cons.mp hb with rfl | hb
      · exact fI
      · rw [List.mem_singleton.mp hb]
        exact fS) (fun b hb => by
      rcases List.mem_cons.mp hb with rfl | hb
      · exact ⟨oI, hoI, fun v z => by rw [hodI] at z; cases z⟩
      · rw [List.mem_singleton.mp hb]
        exact ⟨_, hS', fun v z => by cases z⟩)
    show wpAny _ X.A.in1 (tryCatch (holding [v] (call (.ref f) [v])) _ >>= _) _ _ _
    refine wpAny_bind (wpAny_tryCatch (wpAny_holding (wpAny_mono (run_l (js := js) (us := [v]) (vs := [x]) (Q := fun y H2 => y = .int (kv j) ∧ Evl.Ex H1 H2) (Fn f c') hr pn (ex _ _ hf) (ex _ _ hc) (by rw [hcl c']; exact cells_of pn (cp pn.ok)) (.cons rx .nil)
      (turn j x hx H1 ex _ fun H2 e2 => ⟨rfl, e2⟩)) (fun u s2 he => ?_) fun _ _ hF => hF.elim)))
    obtain ⟨y, H2, I2, ry, ey, e2⟩ := he
    subst ey
    obtain ⟨t2, rfl⟩ := (show ∃ t, u = Value.int (kv j) t from ry)
    have pI := I2.pin (I, oI) (List.mem_append_right _ (List.mem_append_right _ (mem_pinsAt (by simp) hoI)))
    have pS := I2.pin (S, seqObj "list" arr c) (List.mem_append_right _ (List.mem_append_right _ (mem_pinsAt (by simp) hS')))
    have I2 := I2.unpinned
    have fI2 := fp_h fI pI.2.1
    have fS2 := fp_h fS pS.2.1
    have hit2 : s2.heap.IsTupleIter I p (j + 1) := ⟨oI, pI.1, hocI, hodI⟩
    rcases best with ⟨hj0, rfl⟩ | ⟨i, xb, vb, tb, rfl, hxb, rxb, hij, hb⟩
    · have s1 := Heap.SameBut.update s2.heap S (Obj.mapSeq fun _ => #[v, .int (kv j) t2])
      obtain ⟨c2, hc2⟩ : ∃ c2, (s2.heap.update S (Obj.mapSeq fun _ => #[v, .int (kv j) t2])).get? S = some (seqObj "list" #[v, .int (kv j) t2] c2) := ⟨_, get?_update_seq pS.1 fun _ => #[v, .int (kv j) t2]⟩
      show wpAny _ X.A.in1 (updateSeq S (fun _ => #[v, .int (kv j) t2]) >>= _) _ _ _
      refine wpAny_bind ?_
      refine wpAny_updateSeq pS.1 rfl ?_
      rw [hname]
      have I3 : Inv X pins σ H2 { s2 with heap := s2.heap.update S (Obj.mapSeq fun _ => #[v, .int (kv j) t2]), toks := s2.toks } := I2.turnedL (ch := [S]) (fun b o hb e => (s1.2 b fun z => hb (by simp [z])).trans e) (fun b hb => by rw [List.mem_singleton.mp hb]; exact fS2)
      refine wpAny_pure ⟨plainId_quiet PySem.F.plain_min_loop _, ih (j + 1) H2 _ _ c2 (by omega) hjl I3 (ex.trans e2) ⟨oI, (s1.2 I hIS.symm).trans pI.1, hocI, hodI⟩ fI2 fS2 hc2 (.inr ⟨j, x, v, t2, rfl, hx, rx, Nat.lt_succ_self _, fun j' hj' => ?_⟩)⟩
      have z : j' = j := by omega
      subst z
      exact ⟨by omega, fun h => absurd h (Nat.lt_irrefl _)⟩
    · show wpAny _ X.A.in1 (tryCatch (holding [v, .int (kv j) t2] (richCompare .Lt (.int (kv j) t2) (.int (kv i) tb) >>= _)) _ >>= _) _ _ _
      refine wpAny_bind (wpAny_tryCatch (wpAny_holding (wpAny_bind (CmpOf.ints_lt (prog := X.prog) (w := X.w) (A := X.A.in1) (P := fun i v => ∃ t, v = .int (kv i) t) kv (fun i v h => h) j i _ _ _ _ _ ⟨t2, rfl⟩ ⟨tb, rfl⟩ ?_))))
      refine wpAny_bind (wpAny_holding (wpAny_truthy_bool ?_))
      refine wpAny_bind (wpAny_letGo (wpAny_pure ?_))
      by_cases hb' : kv j < kv i
      · have s1 := Heap.SameBut.update s2.heap S (Obj.mapSeq fun _ => #[v, .int (kv j) t2])
        obtain ⟨c2, hc2⟩ : ∃ c2, (s2.heap.update S (Obj.mapSeq fun _ => #[v, .int (kv j) t2])).get? S = some (seqObj "list" #[v, .int (kv j) t2] c2) := ⟨_, get?_update_seq pS.1 fun _ => #[v, .int (kv j) t2]⟩
        simp only [hb', decide_true, if_true]
        refine wpAny_bind ?_
        refine wpAny_updateSeq pS.1 rfl (wpAny_bind (wpAny_letGo ?_))
        rw [hname]
        have I3 : Inv X pins σ H2 { s2 with heap := s2.heap.update S (Obj.mapSeq fun _ => #[v, .int (kv j) t2]), toks := s2.toks } := I2.turnedL (ch := [S]) (fun b o hb e => (s1.2 b fun z => hb (by simp [z])).trans e) (fun b hb => by rw [List.mem_singleton.mp hb]; exact fS2)
        refine wpAny_pure ⟨plainId_quiet PySem.F.plain_min_loop _, ih (j + 1) H2 _ _ c2 (by omega) hjl I3 (ex.trans e2) ⟨oI, (s1.2 I hIS.symm).trans pI.1, hocI, hodI⟩ fI2 fS2 hc2 (.inr ⟨j, x, v, t2, rfl, hx, rx, Nat.lt_succ_self _, fun j' hj' => ?_⟩)⟩
        by_cases z : j' = j
        · subst z
          exact ⟨by omega, fun h => absurd h (Nat.lt_irrefl _)⟩
        · have h1 := hb j' (by omega)
          exact ⟨by omega, fun h => by omega⟩
      · simp only [hb', decide_false, Bool.false_eq_true, if_false]
        refine wpAny_bind (wpAny_letGo ?_)
        rw [hname]
        refine wpAny_pure ⟨plainId_quiet PySem.F.plain_min_loop _, ih (j + 1) H2 s2 _ c (by omega) hjl I2 (ex.trans e2) hit2 fI2 fS2 pS.1 (.inr ⟨i, xb, vb, tb, rfl, hxb, rxb, by omega, fun j' hj' => ?_⟩)⟩
        by_cases z : j' = j
        · subst z
          exact ⟨by omega, fun h => by omega⟩
        · exact hb j' (by omega)
theorem cr_minKey (Fn : ∀ f c', LOk X.prog X.w X.K X.mg X.base CXn k f (mk c') e [a] fr sp) (hcl : ∀ c', (mk c').cl = cl) (cp : X.Ok → Caps X cl fr js) (hr : Room k X.A.in1) : CallRKs X (.builtin "min") [Str.ofString "key", Str.ofString "default"] (rMinKey X.K mk e js sp) := by
  intro pins s σ H vs zs us ws Q I r rz h
  obtain ⟨p, f, c', xs, kv, d, rfl, rfl, hs, hf, hc, turn, q0, q1⟩ := h
  obtain rfl := Vals.ref1 r
  obtain ⟨w1, w2, rfl, e1, rd⟩ := vals2 rz
  obtain rfl : w1 = Value.ref f := e1
  have hname : (toString "min" ++ toString ".loop" : String) = "min.loop" := by decide
  obtain ⟨its, rv, hT, hz⟩ := I.tuple hs
  obtain ⟨op, hop, _⟩ := id hT
  have hpl : p < s.heap.objs.size := Heap.lt_size hop
  show wpAny _ _ (call (.builtin "min") [.ref p] [(Str.ofString "key", .ref f), (Str.ofString "default", w2)]) _ _ _
  refine kmk_tree PySem.F.kind_min PySem.F.plain_min PySem.F.entry_min (args_minKD _ _ _) ?_
  show wpAny _ X.A.in1 (Builtin.Builtins.bindParams "min" ["key", "default"] 0 ⟨[], [(Str.ofString "key", .ref f), (Str.ofString "default", w2)]⟩ >>= _) _ _ s
  refine wpAny_bind (wpAny_of_eq (show Builtin.Builtins.bindParams "min" ["key", "default"] 0 ⟨[], [(Str.ofString "key", .ref f), (Str.ofString "default", w2)]⟩ = pure [some (.ref f), some w2] from rfl) ?_)
  refine wpAny_bind (wpAny_pure ?_)
  refine wpAny_bind (wpAny_pyIter_tuple hT ?_)
  refine wpAny_bind (wpAny_newList ?_ (Nat.zero_le _))
  rw [hname]
  have kI : ∀ b o, s.heap.get? b = some o → (s.heap.push { cls := .type "tuple_iterator", data := .fields #[.ref p, .int 0 0] }).get? b = some o := fun b o e => Heap.get?_push_of_some _ e
  have I1 : Inv X pins σ H { s with heap := s.heap.push { cls := .type "tuple_iterator", data := .fields #[.ref p, .int 0 0] }, toks := s.toks } := I.kept kI
  have fI : FpOk X pins H s.heap.objs.size := I.fpOk (Nat.le_refl _) (I.hok.fresh (Nat.le_refl _))
  have fS : FpOk X pins H (s.heap.push { cls := .type "tuple_iterator", data := .fields #[.ref p, .int 0 0] }).objs.size := I1.fpOk (Nat.le_refl _) (I1.hok.fresh (Nat.le_refl _))
  have I2 : Inv X pins σ H { s with heap := (s.heap.push { cls := .type "tuple_iterator", data := .fields #[.ref p, .int 0 0] }).push { cls := .type "list", data := .seq ([] : List Value).toArray }, toks := s.toks } := I1.kept fun b o e => Heap.get?_push_of_some _ e
  have hSz : (s.heap.push { cls := .type "tuple_iterator", data := .fields #[.ref p, .int 0 0] }).objs.size = s.heap.objs.size + 1 := Heap.size_push ..
  refine wpAny_pure ⟨plainId_quiet PySem.F.plain_min_loop _, ?_⟩
  exact min_loop Fn hcl cp hr (by rw [hSz]; exact Nat.succ_ne_self _) (Nat.ne_of_lt hpl) rd hs hf hc turn q0 q1 _ 0 H _ #[] 0 rfl (Nat.zero_le _) I2 (Evl.Ex.refl _) ⟨_, Heap.get?_push_of_some _ (Heap.get?_push_size _ rfl), rfl, rfl⟩ fI fS (Heap.get?_push_size _ rfl) (.inl ⟨rfl, rfl⟩)
end
end Ca

set_option Elab.async false
set_option linter.all false
set_option maxRecDepth 100000
set_option maxHeartbeats 4000000
/-! zip of two, each a list or a tuple -/
namespace Ca
open PySem PySem.Spec PyProof.Rows L2
/-- a list (true) or a tuple (false) -/
def SqX (K : PySem.W.Frag) (t : Bool) (H : Hp) (a : Addr) (xs : List V) : Prop := if t = true then SqL K H a xs else SqT K H a xs
theorem SqX.ex {K : PySem.W.Frag} {t : Bool} {H H' : Hp} {a : Addr} {xs : List V} (h : SqX K t H a xs) (e : Evl.Ex H H') : SqX K t H' a xs := by
  cases t
  · exact Evl.ex_t e h
  · exact Evl.ex_l e h
def itX (t : Bool) (h : Heap) (it a : Addr) (i : Nat) : Prop := if t = true then h.IsListIter it a i else h.IsTupleIter it a i
def seX (t : Bool) (h : Heap) (a : Addr) (its : Array Value) : Prop := if t = true then h.IsList a its else h.IsTuple a its
def obX (t : Bool) (a : Addr) : Obj := if t = true then { cls := .type "list_iterator", data := .fields #[.ref a, .int 0 0] } else { cls := .type "tuple_iterator", data := .fields #[.ref a, .int 0 0] }
theorem dr_X {prog : Program} {w : World} {A : Around} (hh : A.handled = none) (t : Bool) (it l : Addr) (hne : l ≠ it) (items : Array Value) :
    Draws prog w A it [it, l] items.size (fun i v => items[i]? = some v) (fun i h => itX t h it l i ∧ seX t h l items) := by
  cases t
  · exact Draws.tuple hh it l hne items
  · exact Draws.list hh it l hne items
theorem be_X (t : Bool) (l : Addr) (items : Array Value) : Begins (.ref l) (obX t l) fun h => seX t h l items := by
  cases t
  · exact begins_tuple l items
  · exact begins_list l items
theorem itX_obj {t : Bool} {h : Heap} {it a : Addr} {i : Nat} (x : itX t h it a i) : ∃ o, h.get? it = some o ∧ ∀ v, o.data ≠ .cell v := by
  cases t
  · obtain ⟨o, e, _, d⟩ := (show h.IsTupleIter it a i from x)
    exact ⟨o, e, fun v q => by rw [d] at q; cases q⟩
  · obtain ⟨o, e, _, d⟩ := (show h.IsListIter it a i from x)
    exact ⟨o, e, fun v q => by rw [d] at q; cases q⟩
theorem itX.at' {t : Bool} {h h' : Heap} {it a : Addr} {i : Nat} (x : itX t h it a i) (k : ∀ o, h.get? it = some o → h'.get? it = some o) : itX t h' it a i := by
  cases t
  · exact (show h.IsTupleIter it a i from x).at k
  · exact (show h.IsListIter it a i from x).at k
theorem itX_new {t : Bool} {h : Heap} {it a : Addr} (e : h.get? it = some (obX t a)) : itX t h it a 0 := by
  cases t
  · exact ⟨_, e, rfl, rfl⟩
  · exact ⟨_, e, rfl, rfl⟩
theorem seX_lt {t : Bool} {h : Heap} {a : Addr} {its : Array Value} (x : seX t h a its) : a < h.objs.size := by
  cases t
  · obtain ⟨o, e, _⟩ := (show h.IsTuple a its from x)
    exact Heap.lt_size e
  · obtain ⟨o, e, _⟩ := (show h.IsList a its from x)
    exact Heap.lt_size e
section
variable {X : Cx} {pins : List (Addr × Obj)} {σ : L2.St} {H : Hp} {s : Shared}
theorem inv_X (I : Inv X pins σ H s) {t : Bool} {a : Addr} {xs : List V} (h : SqX X.K t H a xs) : ∃ its : List Value, Vals xs its ∧ seX t s.heap a its.toArray := by
  cases t
  · obtain ⟨its, r, p, _⟩ := I.tuple (show SqT X.K H a xs from h)
    exact ⟨its, r, p⟩
  · obtain ⟨its, r, p, _⟩ := I.list (show SqL X.K H a xs from h)
    exact ⟨its, r, p.isList⟩
theorem inv_X_inj (I : Inv X pins σ H s) {t : Bool} {a : Addr} {xs ys : List V} (h : SqX X.K t H a xs) (h' : SqX X.K t H a ys) : xs = ys := by
  cases t
  · exact I.tuple_inj h h'
  · exact I.list_inj h h'
end
/-- the two as they stand at each turn, the items in new pairs -/
def ItzX (K : PySem.W.Frag) (t u : Bool) (a b : Addr) : It :=
  ⟨fun i H => ∃ (xs ys : List V) (x y : V), SqX K t H a xs ∧ SqX K u H b ys ∧ xs[i]? = some x ∧ ys[i]? = some y,
    fun i H v H' => ∃ T x y, v = .ref T ∧ H T = none ∧ H' = upd H T (.tup [x, y]) ∧ (∀ xs, SqX K t H a xs → xs[i]? = some x) ∧ ∀ ys, SqX K u H b ys → ys[i]? = some y,
    fun i H => ∃ xs ys : List V, SqX K t H a xs ∧ SqX K u H b ys ∧ xs.length = i ∧ ys.length = i⟩
theorem sep_X {z TI TO i1 i2 a b : Addr} (h : TI ≠ z ∧ TO ≠ z ∧ TI ≠ TO ∧ TI ≠ i1 ∧ TI ≠ i2 ∧ i1 ≠ z ∧ i2 ≠ z ∧ TO ≠ i1 ∧ TO ≠ i2 ∧ i1 ≠ i2) (h2 : a ≠ z ∧ a ≠ TO ∧ a ≠ i1 ∧ a ≠ i2 ∧ b ≠ z ∧ b ≠ TO ∧ b ≠ i1 ∧ b ≠ i2) : ZipSep2 z TI TO i1 i2 [i1, a] [i2, b] := by
  obtain ⟨h1, h2', h3, h4, h5, h6, h7, h8, h9, h10⟩ := h
  obtain ⟨k1, k2, k3, k4, k5, k6, k7, k8⟩ := h2
  have nm : ∀ {x y w : Addr}, x ≠ y → x ≠ w → x ∉ [y, w] := fun p q r => by
    rcases List.mem_cons.mp r with e | e
    · exact p e
    · exact q (List.mem_singleton.mp e)
  exact ⟨h1, h2', h3, h4, List.mem_cons_self .., nm h6.symm k1.symm, nm h8 k2.symm, h5, List.mem_cons_self .., nm h7.symm k5.symm, nm h9 k6.symm, nm h10 k7.symm, nm h10.symm k4.symm⟩
structure ApX (z TI TO i1 i2 a b : Addr) : Prop where
  s : ZipSep2 z TI TO i1 i2 [i1, a] [i2, b]
  n1 : a ≠ i1
  n2 : b ≠ i2
theorem turn_zipX {P : Program} {w : World} {K : PySem.W.Frag} {elts : List Expr} {kk : Nat} {tpos : Pos} {t u : Bool} {a b z TI TO i1 i2 : Addr} (D : ApX z TI TO i1 i2 a b) :
    Turn P w K (.Tuple elts kk tpos) (ItzX K t u a b) [z, TI, TO, i1, i2] z (fun i h => IsZip h z TI TO .none ∧ IsPair h TI (.ref i1) (.ref i2) ∧ (∃ x y, IsPair h TO x y) ∧ itX t h i1 a i ∧ itX u h i2 b i) where
  mem := by simp
  obj := fun i h st c hc => by
    obtain ⟨hz, hTI, ⟨x, y, hTO⟩, h1, h2⟩ := st
    have e' : c = z ∨ c = TI ∨ c = TO ∨ c = i1 ∨ c = i2 := by simpa using hc
    rcases e' with q | q | q | q | q
    · rw [q]; exact ⟨_, hz, fun v q => nomatch q⟩
    · rw [q]; exact ⟨_, hTI, fun v q => nomatch q⟩
    · rw [q]; exact ⟨_, hTO, fun v q => nomatch q⟩
    · rw [q]; exact itX_obj h1
    · rw [q]; exact itX_obj h2
  keep := fun i h h' st k => by
    obtain ⟨hz, hTI, ⟨x, y, hTO⟩, h1, h2⟩ := st
    exact ⟨k z (by simp) _ hz, k TI (by simp) _ hTI, ⟨x, y, k TO (by simp) _ hTO⟩, h1.at' fun o q => k i1 (by simp) o q, h2.at' fun o q => k i2 (by simp) o q⟩
  item := by
    intro X hP hw hK hc i pins s σ H E I hf st hg
    subst hP hw hK
    obtain ⟨hz, hTI, ⟨x0, y0, hTO⟩, h1, h2⟩ := st
    obtain ⟨xs, ys, x, y, hqx, hqy, hx, hy⟩ := hg
    obtain ⟨its, rv, p⟩ := inv_X I hqx
    obtain ⟨its2, rv2, p2⟩ := inv_X I hqy
    obtain ⟨v1, hu, ru⟩ := rv.get hx
    obtain ⟨v2, hu2, ru2⟩ := rv2.get hy
    have hzl : z < s.heap.objs.size := Heap.lt_size hz
    have hh : X.A.in1.handled = none := I.ok.hd hc
    have l1 : i < its.toArray.size := by
      have := (List.getElem?_eq_some_iff.mp hu).1
      simpa using this
    have l2 : i < its2.toArray.size := by
      have := (List.getElem?_eq_some_iff.mp hu2).1
      simpa using this
    refine wpAny_pyNext_zipD2_item D.s (dr_X hh t i1 a D.n1 its.toArray) (dr_X hh u i2 b D.n2 its2.toArray) hz hTI hTO ⟨h1, p⟩ ⟨h2, p2⟩ l1 l2 fun x1 x2 h' tk e1 e2 z' TO' h1' h2' hT hsz hk => ?_
    obtain rfl : v1 = x1 := by
      have q : its.toArray[i]? = some v1 := by simpa using hu
      rw [q] at e1
      exact Option.some.inj e1
    obtain rfl : v2 = x2 := by
      have q : its2.toArray[i]? = some v2 := by simpa using hu2
      rw [q] at e2
      exact Option.some.inj e2
    refine ⟨_, rfl, wpAny_letOwnedTupleGo_zip (s := { s with heap := h', toks := tk }) z' fun h'' z'' sb => ?_⟩
    have hT2 : h''.get? s.heap.objs.size = some { cls := .type "tuple", data := .seq #[v1, v2] } := (sb.2 _ (Nat.ne_of_gt hzl)).trans hT
    have new : ObjOk X.prog X.w (upd H s.heap.objs.size (.tup [x, y])) h'' s.heap.objs.size (.tup [x, y]) :=
      ⟨by show 2 ≤ sizeLine; decide, [v1, v2], .cons ru (.cons ru2 .nil), ⟨_, hT2, rfl, _, rfl⟩⟩
    have I1 : Inv X pins σ (upd H s.heap.objs.size (.tup [x, y])) { s with heap := h'', toks := tk } :=
      I.turnedNew (t' := tk) (ch := [z, TI, TO, i1, i2]) (fun c o hb q => (sb.2 c (fun q' => hb (by simp [q']))).trans (hk c o (fun q' => hb (by simp [q'])) (fun q' => hb (by simp [q'])) (fun q' => hb (by simp [q'])) (fun q' => hb (by simp [q'])) q)) hf (Nat.le_refl _) new
    refine ⟨.ref s.heap.objs.size, _, I1, rfl, ⟨_, x, y, rfl, I.hok.fresh (Nat.le_refl _), rfl, fun l hl => by rw [inv_X_inj I hl hqx]; exact hx, fun l hl => by rw [inv_X_inj I hl hqy]; exact hy⟩, ⟨z'', ?_, ⟨v1, v2, ?_⟩, ?_, ?_⟩, fun c hcm => ?_⟩
    · exact (sb.2 _ D.s.TIz).trans (hk _ _ D.s.TIz D.s.TITO D.s.TIi1 D.s.TIi2 hTI)
    · exact (sb.2 _ D.s.TOz).trans TO'
    · exact h1'.1.at' fun o q => (sb.2 _ D.s.zi1.symm).trans q
    · exact h2'.1.at' fun o q => (sb.2 _ D.s.zi2.symm).trans q
    · have hlt : c < s.heap.objs.size := by
        have e' : c = z ∨ c = TI ∨ c = TO ∨ c = i1 ∨ c = i2 := by simpa using hcm
        rcases e' with q | q | q | q | q
        · rw [q]; exact hzl
        · rw [q]; exact Heap.lt_size hTI
        · rw [q]; exact Heap.lt_size hTO
        · rw [q]; obtain ⟨_, e1, _⟩ := itX_obj h1; exact Heap.lt_size e1
        · rw [q]; obtain ⟨_, e2, _⟩ := itX_obj h2; exact Heap.lt_size e2
      rw [upd_ne (Nat.ne_of_lt hlt)]
      exact (hf c hcm).1
  done := by
    intro X hP hw hK hc i pins s σ H E I hf st hg
    subst hP hw hK
    obtain ⟨hz, hTI, ⟨x0, y0, hTO⟩, h1, h2⟩ := st
    obtain ⟨xs, ys, hqx, hqy, n1, n2⟩ := hg
    obtain ⟨its, rv, p⟩ := inv_X I hqx
    obtain ⟨its2, rv2, p2⟩ := inv_X I hqy
    have l1 : its.toArray.size = i := by rw [List.size_toArray, ← rv.length, n1]
    have l2 : its2.toArray.size = i := by rw [List.size_toArray, ← rv2.length, n2]
    have hh : X.A.in1.handled = none := I.ok.hd hc
    exact wpAny_pyNext_zipD2_end D.s (dr_X hh t i1 a D.n1 its.toArray) (dr_X hh u i2 b D.n2 its2.toArray) hz hTI hTO ⟨h1, p⟩ ⟨h2, p2⟩ (by omega) (by omega) (.inl (by omega)) fun h' tk hk => ⟨rfl, I.turnedL (t' := tk) (ch := [z, TI, TO, i1, i2]) (fun c o hb q =>
      hk c o (fun q' => hb (by simp [q'])) (fun q' => hb (by simp [q'])) (fun q' => hb (by simp [q'])) (fun q' => hb (by simp [q'])) q) hf⟩
  self := fun A i s Q E st h => wpAny_pyIter_zip st.1 h
def iZipX (K : PySem.W.Frag) (ta : TA) : TI := fun σ H R => ta σ H fun vs H1 => ∃ t u a b xs ys, vs = [.ref a, .ref b] ∧ SqX K t H1 a xs ∧ SqX K u H1 b ys ∧ R (ItzX K t u a b) H1
theorem pi_zipX {X : Cx} {e e2 : Expr} {ta : TA} {p pos tpos : Pos} {elts : List Expr} {kk : Nat} (hg : Gl X "zip") (hm : X.mg "zip" = none) (ha : PA X [e, e2] ta)
    (hs : starEach [e, e2] X.env = (false, eval e X.env) :: starEach [e2] X.env := by rfl) (hpl : (backTo pos (starEach [e2] X.env)).any (·.1) = false := by rfl) :
    PI X (.Tuple elts kk tpos) (.Call (.Name "zip" p) [e, e2] [] pos) (iZipX X.K ta) := by
  refine ⟨fun pins s σ H R I h => ?_⟩
  refine Call_ (ld_blt I hg hm PyProof.Rows.boot_zip (PyProof.Rows.callWith_type1 (thn (ha.run pos pins s σ H _ I h) fun us s1 ⟨vs, H1, I1, r1, q1⟩ => ?_) hs hpl))
  obtain ⟨t, u, a, b, xs, ys, ex, hqx, hqy, q⟩ := q1
  subst ex
  obtain ⟨v1, v2, rfl, ra, rb⟩ := vals2 r1
  obtain rfl : v1 = Value.ref a := ra
  obtain rfl : v2 = Value.ref b := rb
  obtain ⟨its, rv, p1⟩ := inv_X I1 hqx
  obtain ⟨its2, rv2, p2⟩ := inv_X I1 hqy
  refine zip_begins2 (be_X t a its.toArray) (be_X u b its2.toArray) p1 p2 fun h' hz hTI hTO h1 h2 hsz hk => wpAny_pyIter_zip hz ?_
  have I2 : Inv X pins σ H1 { s1 with heap := h' } := I1.kept (t' := s1.toks) hk
  have la := seX_lt p1
  have lb := seX_lt p2
  refine ⟨s1.heap.objs.size + 4, [s1.heap.objs.size + 4, s1.heap.objs.size + 2, s1.heap.objs.size + 3, s1.heap.objs.size, s1.heap.objs.size + 1], _, _, H1, rfl, I2, turn_zipX (t := t) (u := u) (a := a) (b := b) ⟨sep_X ?_ ?_, Nat.ne_of_lt la, Nat.ne_of_lt (Nat.lt_succ_of_lt lb)⟩, ⟨hz, hTI, ⟨_, _, hTO⟩, itX_new h1, itX_new h2⟩, fun c hcm => ?_, q⟩
  · refine ⟨?_, ?_, ?_, ?_, ?_, ?_, ?_, ?_, ?_, ?_⟩ <;> exact fun z => by first | (have := congrArg (fun n : Nat => n) z; simp at this) | omega
  · refine ⟨?_, ?_, ?_, ?_, ?_, ?_, ?_, ?_⟩ <;> refine Nat.ne_of_lt ?_
    · exact Nat.lt_of_lt_of_le la (Nat.le_add_right _ _)
    · exact Nat.lt_of_lt_of_le la (Nat.le_add_right _ _)
    · exact la
    · exact Nat.lt_of_lt_of_le la (Nat.le_add_right _ _)
    · exact Nat.lt_of_lt_of_le lb (Nat.le_add_right _ _)
    · exact Nat.lt_of_lt_of_le lb (Nat.le_add_right _ _)
    · exact lb
    · exact Nat.lt_of_lt_of_le lb (Nat.le_add_right _ _)
  · have e' : c = s1.heap.objs.size + 4 ∨ c = s1.heap.objs.size + 2 ∨ c = s1.heap.objs.size + 3 ∨ c = s1.heap.objs.size ∨ c = s1.heap.objs.size + 1 := by simpa using hcm
    have hle : s1.heap.objs.size ≤ c := by
      rcases e' with z | z | z | z | z
      · rw [z]; exact Nat.le_add_right _ _
      · rw [z]; exact Nat.le_add_right _ _
      · rw [z]; exact Nat.le_add_right _ _
      · rw [z]; exact Nat.le_refl _
      · rw [z]; exact Nat.le_add_right _ _
    exact I1.fpOk hle (I1.hok.fresh hle)
theorem pi_listK {X : Cx} {K : PySem.W.Frag} {tg l : Expr} {tl : TE} (h : X.K = K) (hl : PE X l tl) : PI X tg l (iList K tl) := h ▸ pi_list hl
theorem any_K {X : Cx} {K : PySem.W.Frag} (h : X.K = K) (hc : X.calm = true) : CallR X (.builtin "any") (rAny K) := h ▸ cr_any hc
theorem all_K {X : Cx} {K : PySem.W.Frag} (h : X.K = K) (hc : X.calm = true) : CallR X (.builtin "all") (rAll K) := h ▸ cr_all hc
/-- a written tuple as a target, where the written part is told -/
theorem pg_tupK {X : Cx} {K : PySem.W.Frag} {es : List Expr} {k : Nat} {t : TGs} {pos : Pos} (n : Nat) (hK : X.K = K) (hc : X.calm = true) (h : PGs X es t)
    (hn : (assignEach es X.env).length = n := by rfl) (hst : (assignEach es X.env).findIdx? (·.1) = none := by rfl) : PG X (.Tuple es k pos) (gTup K n t) := hK ▸ pg_tup hc h hn hst
/-- a comprehension over zip of two of one length -/
theorem lc_zipX {K : PySem.W.Frag} {t u : Bool} {a b : Addr} {xs ys : List V} {g : TG} {tt : TT} {te : TE} {vs : List Nat} {σ : L2.St} {H1 : Hp} {D : Addr} {Qd : Hp → Prop} (hn : xs.length = ys.length) (Pv : Nat → Hp → Prop) (h0 : Pv 0 (upd H1 D (.lst []))) (hl : ∀ i H, i ≤ xs.length → Pv i H → SqX K t H a xs ∧ SqX K u H b ys)
    (hs : ∀ i x y T H, xs[i]? = some x → ys[i]? = some y → H T = none → Pv i H → g (.ref T) (wipe σ vs) (upd H T (.tup [x, y])) fun σ2 H2 => wipe σ2 vs = wipe σ vs ∧ tt σ2 H2 fun b H3 =>
      if b = true then te σ2 H3 fun y H4 => ∃ acc, H4 D = some (.lst acc) ∧ acc.length < sizeLine ∧ Pv (i + 1) (upd H4 D (.lst (acc ++ [y]))) else Pv (i + 1) H3) (hd : ∀ H, Pv xs.length H → Qd H) :
    ∃ W : Nat → Nat → Hp → Prop, (∃ m, W 0 m (upd H1 D (.lst []))) ∧ ∀ i m H, W i m H →
      ((ItzX K t u a b).stop i H ∧ Qd H) ∨ ((ItzX K t u a b).go i H ∧ ∃ Nx : Hp → Prop, (∀ H', Nx H' → ∃ m', m' < m ∧ W (i + 1) m' H') ∧ ∀ x H', (ItzX K t u a b).yld i H x H' → g x (wipe σ vs) H' fun σ2 H2 => wipe σ2 vs = wipe σ vs ∧ tt σ2 H2 fun b H3 =>
        if b = true then te σ2 H3 fun y H4 => ∃ acc, H4 D = some (.lst acc) ∧ acc.length < sizeLine ∧ Nx (upd H4 D (.lst (acc ++ [y]))) else Nx H3) := by
  refine ⟨fun i m H => m = xs.length - i ∧ i ≤ xs.length ∧ Pv i H, ⟨xs.length, by simp, Nat.zero_le _, h0⟩, ?_⟩
  rintro i m H ⟨rfl, hi, p⟩
  obtain ⟨q1, q2⟩ := hl i H hi p
  by_cases hlt : i < xs.length
  · refine .inr ⟨⟨xs, ys, xs[i], ys[i], q1, q2, List.getElem?_eq_getElem hlt, List.getElem?_eq_getElem (by omega)⟩, Pv (i + 1), fun H' p' => ⟨xs.length - (i + 1), by omega, rfl, hlt, p'⟩, fun x H' y => ?_⟩
    obtain ⟨T, x, y, rfl, nT, rfl, e1, e2⟩ := y
    exact hs i x y T H (e1 xs q1) (e2 ys q2) nT p
  · have e : i = xs.length := by omega
    subst e
    exact .inl ⟨⟨xs, ys, q1, q2, rfl, hn.symm⟩, hd H p⟩
end Ca

set_option Elab.async false
set_option linter.all false
set_option maxRecDepth 100000
set_option maxHeartbeats 4000000
/-! sorted of a list of anything that reads as data of one kind -/
namespace Ca
open PySem PySem.Spec PyProof.Rows L2
abbrev leD : V × PyData → V × PyData → Bool := PySem.W.dataLe false fun b => b.2
def rSortedD (K : PySem.W.Frag) : List V → Hp → VK → Prop := fun vs H Q => ∃ (a : Addr) (xs : List V) (ds : List PyData), vs = [V.ref a] ∧ SqL K H a xs ∧ DpAll K H xs ds ∧ PySem.W.AllAlike ds ∧ PySem.W.Sortable ds ∧ (∀ d ∈ ds, d.depth ≤ 60) ∧
  ∀ p, H p = none → Q (.ref p) (upd H p (.lst (((xs.zip ds).mergeSort leD).map fun b => b.1)))
theorem dpAll_len {K : PySem.W.Frag} {H : Hp} : ∀ {xs : List V} {ds : List PyData}, DpAll K H xs ds → xs.length = ds.length
  | _, _, .nil => rfl
  | _, _, .cons _ h => by rw [List.length_cons, List.length_cons, dpAll_len h]
theorem zip_snd : ∀ {xs : List V} {ds : List PyData}, xs.length = ds.length → (xs.zip ds).map (fun b => b.2) = ds
  | [], [], _ => rfl
  | x :: xs, d :: ds, h => by
    rw [List.zip_cons_cons, List.map_cons, zip_snd (by simpa using h)]
theorem each_zip {R : Value → V × PyData → Prop} {P : V → PyData → Prop} : ∀ {xs : List V} {ds : List PyData} {us : List Value}, xs.length = ds.length → Vals xs us → (∀ (v : V) (u : Value) (d : PyData), RelV v u → (v, d) ∈ xs.zip ds → R u (v, d)) → PySem.W.EachIs R us (xs.zip ds)
  | [], [], _, _, .nil, _ => .nil
  | x :: xs, d :: ds, _, hl, .cons r t, h => by
    rw [List.zip_cons_cons]
    exact .cons (h x _ d r (by rw [List.zip_cons_cons]; exact List.mem_cons_self ..)) (each_zip (P := P) (by simpa using hl) t fun v u e re me => h v u e re (by rw [List.zip_cons_cons]; exact List.mem_cons_of_mem _ me))
theorem dp_zip {K : PySem.W.Frag} {H : Hp} : ∀ {xs : List V} {ds : List PyData}, DpAll K H xs ds → ∀ p ∈ xs.zip ds, Dp K H p.1 p.2
  | _, _, .nil, p, hp => absurd hp (by simp)
  | _, _, .cons h t, p, hp => by
    rw [List.zip_cons_cons] at hp
    rcases List.mem_cons.mp hp with rfl | hp
    · exact h
    · exact dp_zip t p hp
theorem each_vals : ∀ {us : List Value} {bs : List (V × PyData)}, PySem.W.EachIs (fun u (b : V × PyData) => RelV b.1 u) us bs → Vals (bs.map fun b => b.1) us
  | _, _, .nil => .nil
  | _, _, .cons h t => .cons h (each_vals t)
section
variable {X : Cx}
theorem cr_sortedD (hu : X.A.units + 70 < cLine) : CallR X (.builtin "sorted") (rSortedD X.K) := by
  intro pins s σ H vs us Q I r h
  obtain ⟨a, xs, ds, rfl, hs, hd, hal, hk, dp, q⟩ := h
  obtain rfl := Vals.ref1 r
  obtain ⟨its, rv, hl, hz⟩ := I.list hs
  have len := dpAll_len hd
  have bl : (xs.zip ds).length = xs.length := by
    rw [List.length_zip, ← len, Nat.min_self]
  have sn := zip_snd len
  refine PySem.W.sorted_data (enc := fun b : V × PyData => b.2) (bs := xs.zip ds) (R := fun u b => RelV b.1 u) (vs := its) hl.isList ?_ ?_ (by rw [sn]; exact hal) (by rw [sn]; exact hk) (by rw [bl]; exact hz) (fun b hb => ?_) fun out e1 e2 => ?_
  · exact each_zip (P := fun _ _ => True) len rv fun v u d re _ => re
  · exact each_zip (P := fun _ _ => True) len rv fun v u d re me => Dp.reads I d v u (dp_zip hd _ me) re
  · have := dp b.2 (by rw [← sn]; exact List.mem_map.mpr ⟨b, hb, rfl⟩)
    omega
  · obtain ⟨ep, he'⟩ := PyProof.Rows.sortedAll_at s.heap its (List.toArray out)
    have rv2 := each_vals e2
    have lz : ((xs.zip ds).mergeSort leD).length ≤ sizeLine := by
      rw [List.length_mergeSort, bl]
      exact hz
    refine ⟨.ref (s.heap.objs.size + 1), upd H (s.heap.objs.size + 1) (.lst (((xs.zip ds).mergeSort leD).map fun b => b.1)), I.laid (t' := s.toks) (fun _ _ => PyProof.Rows.sortedAll_old) (Nat.le_succ _) ⟨by rw [List.length_map]; exact lz, out, ep, rv2, he'⟩, rfl, q _ (I.hok.fresh (Nat.le_succ _))⟩
end
/-- the first of them is the least -/
theorem leD_head {l : List (V × PyData)} {b : V × PyData} {r : List (V × PyData)} (e : l.mergeSort leD = b :: r) : b ∈ l ∧ ∀ c ∈ l, PySem.W.dataLt c.2 b.2 = false := by
  have tot := PySem.W.sortLe_total (listOrd itemOrd) false fun b : V × PyData => PySem.W.keyToks b.2
  have pw := PySem.W.sort_pairwise tot l
  have mem : ∀ c, c ∈ l.mergeSort leD ↔ c ∈ l := fun c => List.mem_mergeSort
  have pw : (l.mergeSort leD).Pairwise (fun a b => leD a b = true) := pw
  rw [e] at pw
  refine ⟨(mem b).mp (by rw [e]; exact List.mem_cons_self ..), fun c hc => ?_⟩
  have hc' := (mem c).mpr hc
  rw [e] at hc'
  rcases List.mem_cons.mp hc' with rfl | hc'
  · exact lex_irrefl _
  · have z : leD b c = true := (List.pairwise_cons.mp pw).1 c hc'
    have z : (!PySem.W.dataLt c.2 b.2) = true := z
    cases y : PySem.W.dataLt c.2 b.2 with
    | false => rfl
    | true =>
      rw [y] at z
      cases z
end Ca

set_option Elab.async false
set_option linter.all false
set_option maxRecDepth 100000
set_option maxHeartbeats 400000
/-! rules, the written part told (for blocks) -/
namespace Ca
open PySem L2
section
variable {X : Cx} {K : PySem.W.Frag}
theorem op_catA_K (h : X.K = K) : OpR X (binaryOp .Add) (rCatA K) := h ▸ op_catA
theorem sl_tupA_K (h : X.K = K) : SlR X (rSlA K) := h ▸ sl_tupA
theorem op_eqNil_K (h : X.K = K) (hu : X.A.units < cLine) : OpR X (compareOp .Eq) (rNil K false) := h ▸ op_eqNil hu
theorem op_neNil_K (h : X.K = K) (hu : X.A.units < cLine) : OpR X (compareOp .NotEq) (rNil K true) := h ▸ op_neNil hu
theorem op_eqD_K (h : X.K = K) (hu : X.A.units + 64 < cLine) : OpR X (compareOp .Eq) (rEqD K) := h ▸ op_eqD hu
end
theorem un70 {k : Nat} {A : Around} (hr : Room k A) : A.units + 70 < cLine := by
  have := hr.un
  omega
end Ca

set_option Elab.async false
set_option linter.all false
set_option maxRecDepth 100000
set_option maxHeartbeats 4000000
namespace Ca
open PySem L2
/-! ### a comprehension whose items stand for others -/
theorem given_prd {α : Type} [Inhabited α] {R S : V → α → Prop} {xs : List V} {l : List α} (T : Paired R xs l) (F : α → Bool) (v : Nat → V) (hv : ∀ i x y, xs[i]? = some x → l[i]? = some y → F y = true → S (v i) y) : ∀ n, n ≤ l.length → Paired S (Evl.given n (fun i => F (l.getD i default)) v) ((l.take n).filter F)
  | 0, _ => .nil
  | n + 1, h => by
    have ih := given_prd (S := S) T F v hv n (by omega)
    have hn : n < l.length := by omega
    have e : l[n]? = some l[n] := List.getElem?_eq_getElem hn
    have lx : n < xs.length := by
      rw [T.length]
      exact hn
    have e2 : xs[n]? = some xs[n] := List.getElem?_eq_getElem lx
    have ed : l.getD n default = l[n] := by simp [List.getD, e]
    have tk : l.take (n + 1) = l.take n ++ [l[n]] := by
      rw [List.take_succ, e]
      rfl
    rw [tk, List.filter_append]
    cases hf : F l[n] with
    | true =>
      rw [Evl.given_yes (by show F (l.getD n default) = true; rw [ed]; exact hf), List.filter_cons, if_pos hf]
      exact prd_app ih (.cons (hv n _ _ e2 e hf) .nil)
    | false =>
      rw [Evl.given_no (by show F (l.getD n default) = false; rw [ed]; exact hf), List.filter_cons, if_neg (by rw [hf]; decide)]
      show Paired S _ (_ ++ [])
      rw [List.append_nil]
      exact ih
section
variable {α : Type} [Inhabited α] {R S : V → α → Prop} {K : PySem.W.Frag} {a : Addr} {xs : List V} {l : List α} {tt : TT} {te : TE} {vs : List Nat} {σ : L2.St} {H : Hp} {D : Addr} {Qd : Hp → Prop} {j : Nat}
theorem lcF_tup (F : α → Bool) (v : Nat → V) (T : Paired R xs l) (hs : SqT K H a xs) (nD : H D = none) (hz : l.length ≤ 40000) (hw : ∀ x, wipe ((wipe σ vs).set j (some x)) vs = wipe σ vs)
    (ht : ∀ (i : Nat) (x : V) (y : α), xs[i]? = some x → l[i]? = some y → R x y → Evl.EvT tt ((wipe σ vs).set j (some x)) H (F y)) (he : ∀ (i : Nat) (x : V) (y : α), xs[i]? = some x → l[i]? = some y → R x y → F y = true → Evl.Ev te ((wipe σ vs).set j (some x)) H (v i)) (hv : ∀ (i : Nat) (x : V) (y : α), xs[i]? = some x → l[i]? = some y → R x y → S (v i) y)
    (hq : ∀ H' ys, Evl.Ex H H' → H' D = some (.lst ys) → Paired S ys (l.filter F) → Qd H') :
    ∃ W : Nat → Nat → Hp → Prop, (∃ m, W 0 m (upd H D (.lst []))) ∧ ∀ i m H', W i m H' →
      ((Itt K a).stop i H' ∧ Qd H') ∨ ((Itt K a).go i H' ∧ ∃ Nx : Hp → Prop, (∀ H', Nx H' → ∃ m', m' < m ∧ W (i + 1) m' H') ∧ ∀ x H'', (Itt K a).yld i H' x H'' → gName j x (wipe σ vs) H'' fun σ2 H2 => wipe σ2 vs = wipe σ vs ∧ tt σ2 H2 fun b H3 =>
        if b = true then te σ2 H3 fun y H4 => ∃ acc, H4 D = some (.lst acc) ∧ acc.length < sizeLine ∧ Nx (upd H4 D (.lst (acc ++ [y]))) else Nx H3) := by
  have at_ : ∀ {i : Nat} {x : V}, xs[i]? = some x → ∃ y, l[i]? = some y ∧ R x y ∧ l.getD i default = y := fun {i x} hi => by
    obtain ⟨y, e, r⟩ := pget T hi
    exact ⟨y, e, r, by simp [List.getD, e]⟩
  refine lc_tup (xs := xs) (Evl.Cw H (fun i => F (l.getD i default)) v D) ⟨nD, Evl.Ex.new nD, upd_same⟩ (fun i H' _ p => Evl.ex_t p.2.1 hs) (fun i x H' hi p => ⟨hw x, ?_⟩) fun H' p => ?_
  · obtain ⟨y, e, r, ed⟩ := at_ hi
    have hlt := (List.getElem?_eq_some_iff.mp e).1
    refine Evl.cw_turn p (by omega) ?_ (fun hf => ?_)
    · rw [ed]
      exact ht i x y hi e r
    · have hf : F (l.getD i default) = true := hf
      rw [ed] at hf
      exact he i x y hi e r hf
  · obtain ⟨np, e1, hp⟩ := p
    refine hq H' _ e1 hp ?_
    have z := given_prd (S := S) T F v (fun i x y hx hy _ => hv i x y hx hy (by obtain ⟨y', e, r⟩ := pget T hx; rw [hy] at e; cases e; exact r)) l.length (Nat.le_refl _)
    rw [List.take_length] at z
    rw [T.length]
    exact z
theorem lcF_lst (F : α → Bool) (v : Nat → V) (T : Paired R xs l) (hs : SqL K H a xs) (nD : H D = none) (hz : l.length ≤ 40000) (hw : ∀ x, wipe ((wipe σ vs).set j (some x)) vs = wipe σ vs)
    (ht : ∀ (i : Nat) (x : V) (y : α), xs[i]? = some x → l[i]? = some y → R x y → Evl.EvT tt ((wipe σ vs).set j (some x)) H (F y)) (he : ∀ (i : Nat) (x : V) (y : α), xs[i]? = some x → l[i]? = some y → R x y → F y = true → Evl.Ev te ((wipe σ vs).set j (some x)) H (v i)) (hv : ∀ (i : Nat) (x : V) (y : α), xs[i]? = some x → l[i]? = some y → R x y → S (v i) y)
    (hq : ∀ H' ys, Evl.Ex H H' → H' D = some (.lst ys) → Paired S ys (l.filter F) → Qd H') :
    ∃ W : Nat → Nat → Hp → Prop, (∃ m, W 0 m (upd H D (.lst []))) ∧ ∀ i m H', W i m H' →
      ((Itl K a).stop i H' ∧ Qd H') ∨ ((Itl K a).go i H' ∧ ∃ Nx : Hp → Prop, (∀ H', Nx H' → ∃ m', m' < m ∧ W (i + 1) m' H') ∧ ∀ x H'', (Itl K a).yld i H' x H'' → gName j x (wipe σ vs) H'' fun σ2 H2 => wipe σ2 vs = wipe σ vs ∧ tt σ2 H2 fun b H3 =>
        if b = true then te σ2 H3 fun y H4 => ∃ acc, H4 D = some (.lst acc) ∧ acc.length < sizeLine ∧ Nx (upd H4 D (.lst (acc ++ [y]))) else Nx H3) := by
  have at_ : ∀ {i : Nat} {x : V}, xs[i]? = some x → ∃ y, l[i]? = some y ∧ R x y ∧ l.getD i default = y := fun {i x} hi => by
    obtain ⟨y, e, r⟩ := pget T hi
    exact ⟨y, e, r, by simp [List.getD, e]⟩
  refine lc_list (xs := xs) (Evl.Cw H (fun i => F (l.getD i default)) v D) ⟨nD, Evl.Ex.new nD, upd_same⟩ (fun i H' _ p => Evl.ex_l p.2.1 hs) (fun i x H' hi p => ⟨hw x, ?_⟩) fun H' p => ?_
  · obtain ⟨y, e, r, ed⟩ := at_ hi
    have hlt := (List.getElem?_eq_some_iff.mp e).1
    refine Evl.cw_turn p (by omega) ?_ (fun hf => ?_)
    · rw [ed]
      exact ht i x y hi e r
    · have hf : F (l.getD i default) = true := hf
      rw [ed] at hf
      exact he i x y hi e r hf
  · obtain ⟨np, e1, hp⟩ := p
    refine hq H' _ e1 hp ?_
    have z := given_prd (S := S) T F v (fun i x y hx hy _ => hv i x y hx hy (by obtain ⟨y', e, r⟩ := pget T hx; rw [hy] at e; cases e; exact r)) l.length (Nat.le_refl _)
    rw [List.take_length] at z
    rw [T.length]
    exact z
end
theorem prd_refl {α : Type} {R : V → α → Prop} (f : α → V) (h : ∀ x, R (f x) x) : ∀ l : List α, Paired R (l.map f) l
  | [] => .nil
  | x :: l => .cons (h x) (prd_refl f h l)
theorem prd_map {α : Type} {f : α → V} : ∀ {xs : List V} {l : List α}, Paired (fun x y => x = f y) xs l → xs = l.map f
  | _, _, .nil => rfl
  | _, _, .cons e t => by rw [e, prd_map t, List.map_cons]
theorem xs_at {xs : List V} {i : Nat} {x : V} (h : xs[i]? = some x) : xs.getD i .non = x := by simp [List.getD, h]
/-! ### designs and worlds that keep promises -/
theorem d0_mem : (("drop store", "always", "alone") : T3) ∈ designs3 := List.mem_cons_self ..
theorem w0_mem : (("primary", "evicts", "finishes") : T3) ∈ worlds3 := List.mem_cons_self ..
def keepersF (g : Conf → Pm → Bool) (w : T3) (ws : List Pm) : List T3 := designs3.filter fun d => ws.all (g (cf3 d w))
def worldsF (g : Conf → Pm → Bool) (d : T3) (ws : List Pm) : List T3 := worlds3.filter fun w => ws.all (g (cf3 d w))
@[irreducible] def spKeepers (g : Conf → Pm → Bool) : Sp := fun vs H Q _ => ∃ (wv : T3) (w a : Addr) (ws : List Pm), vs = [.ref w, .ref a] ∧ wv ∈ worlds3 ∧ H w = some (tT wv) ∧ WantAt H a ws ∧ ∀ (p : Addr) (xs : List V) (H' : Hp), H p = none → Evl.Ex H H' → H' p = some (.tup xs) → TriX H' xs (keepersF g wv ws) → Q (.ref p) H'
theorem keepers_i {g : Conf → Pm → Bool} {wv : T3} {w a : Addr} {ws : List Pm} {H : Hp} {Q : VK} {E : XK} (m : wv ∈ worlds3) (hw : H w = some (tT wv)) (W : WantAt H a ws) (q : ∀ (p : Addr) (xs : List V) (H' : Hp), H p = none → Evl.Ex H H' → H' p = some (.tup xs) → TriX H' xs (keepersF g wv ws) → Q (.ref p) H') : spKeepers g [.ref w, .ref a] H Q E := by
  unfold spKeepers
  exact ⟨wv, w, a, ws, rfl, m, hw, W, q⟩
@[irreducible] def spWorldsF (g : Conf → Pm → Bool) : Sp := fun vs H Q _ => ∃ (dv : T3) (d a : Addr) (ws : List Pm), vs = [.ref d, .ref a] ∧ dv ∈ designs3 ∧ H d = some (tT dv) ∧ WantAt H a ws ∧ ∀ (p : Addr) (xs : List V) (H' : Hp), H p = none → Evl.Ex H H' → H' p = some (.tup xs) → TriX H' xs (worldsF g dv ws) → Q (.ref p) H'
theorem worldsF_i {g : Conf → Pm → Bool} {dv : T3} {d a : Addr} {ws : List Pm} {H : Hp} {Q : VK} {E : XK} (m : dv ∈ designs3) (hd : H d = some (tT dv)) (W : WantAt H a ws) (q : ∀ (p : Addr) (xs : List V) (H' : Hp), H p = none → Evl.Ex H H' → H' p = some (.tup xs) → TriX H' xs (worldsF g dv ws) → Q (.ref p) H') : spWorldsF g [.ref d, .ref a] H Q E := by
  unfold spWorldsF
  exact ⟨dv, d, a, ws, rfl, m, hd, W, q⟩
def wordsL : Nat → List Str
  | 0 => pathsL
  | 1 => guardsL
  | _ => flightsL
theorem wordsL_len : ∀ k, (wordsL k).length ≤ 10
  | 0 => by decide
  | 1 => by decide
  | _ + 2 => by show flightsL.length ≤ 10; decide
def setT (t : T3) : Nat → Str → T3
  | 0, x => (x, t.2.1, t.2.2)
  | 1, x => (t.1, x, t.2.2)
  | _, x => (t.1, t.2.1, x)
@[irreducible] def spWordsAt (K : PySem.W.Frag) : Sp := fun vs H Q _ => ∃ k : Nat, vs = [.int (k : Int)] ∧ k ≤ 2 ∧ ∀ p H', Evl.Ex H H' → SqT K H' p ((wordsL k).map V.str) → Q (.ref p) H'
theorem wordsAt_i {K : PySem.W.Frag} {k : Nat} {H : Hp} {Q : VK} {E : XK} (h : k ≤ 2) (q : ∀ p H', Evl.Ex H H' → SqT K H' p ((wordsL k).map V.str) → Q (.ref p) H') : spWordsAt K [.int (k : Int)] H Q E := by
  unfold spWordsAt
  exact ⟨k, rfl, h, q⟩
@[irreducible] def spChanged : Sp := fun vs H Q _ => ∃ (t : T3) (d : Addr) (k : Nat) (x : Str), vs = [.ref d, .int (k : Int), .str x] ∧ k ≤ 2 ∧ H d = some (tT t) ∧ ∀ p H', Evl.Ex H H' → H' p = some (tT (setT t k x)) → Q (.ref p) H'
theorem changed_i {t : T3} {d : Addr} {k : Nat} {x : Str} {H : Hp} {Q : VK} {E : XK} (h : k ≤ 2) (hd : H d = some (tT t)) (q : ∀ p H', Evl.Ex H H' → H' p = some (tT (setT t k x)) → Q (.ref p) H') : spChanged [.ref d, .int (k : Int), .str x] H Q E := by
  unfold spChanged
  exact ⟨t, d, k, x, rfl, h, hd, q⟩
@[irreducible] def spChNum : Sp := fun vs H Q _ => ∃ i lo hi : Int, vs = [.int i, .int lo, .int hi] ∧ lo ≤ i ∧ i ≤ hi ∧ Q .non H
theorem chnum_i {i lo hi : Int} {H : Hp} {Q : VK} {E : XK} (h1 : lo ≤ i) (h2 : i ≤ hi) (q : Q .non H) : spChNum [.int i, .int lo, .int hi] H Q E := by
  unfold spChNum
  exact ⟨i, lo, hi, rfl, h1, h2, q⟩
theorem setT_ok {d w : T3} {k : Nat} {x : Str} (O : (cf3 d w).Ok) (hx : x ∈ wordsL k) : (cf3 (setT d k x) w).Ok := by
  obtain ⟨a, b, c, e, f, g⟩ := O
  match k, hx with
  | 0, hx => exact ⟨hx, b, c, e, f, g⟩
  | 1, hx => exact ⟨a, hx, c, e, f, g⟩
  | k + 2, hx => exact ⟨a, b, hx, e, f, g⟩
def harmlessF (g : Conf → Pm → Bool) (d w : T3) (k : Nat) : List Str := (wordsL k).filter fun x => (allPm.filter (g (cf3 d w))).all (g (cf3 (setT d k x) w))
@[irreducible] def spHarm (g : Conf → Pm → Bool) : Sp := fun vs H Q _ => ∃ (dv wv : T3) (d w : Addr) (k : Nat), vs = [.ref d, .ref w, .int (k : Int)] ∧ k ≤ 2 ∧ dv ∈ designs3 ∧ wv ∈ worlds3 ∧ H d = some (tT dv) ∧ H w = some (tT wv) ∧ ∀ (p : Addr) (H' : Hp), H p = none → Evl.Ex H H' → H' p = some (.tup ((harmlessF g dv wv k).map V.str)) → Q (.ref p) H'
theorem harm_i {g : Conf → Pm → Bool} {dv wv : T3} {d w : Addr} {k : Nat} {H : Hp} {Q : VK} {E : XK} (h : k ≤ 2) (m1 : dv ∈ designs3) (m2 : wv ∈ worlds3) (hd : H d = some (tT dv)) (hw : H w = some (tT wv)) (q : ∀ (p : Addr) (H' : Hp), H p = none → Evl.Ex H H' → H' p = some (.tup ((harmlessF g dv wv k).map V.str)) → Q (.ref p) H') : spHarm g [.ref d, .ref w, .int (k : Int)] H Q E := by
  unfold spHarm
  exact ⟨dv, wv, d, w, k, rfl, h, m1, m2, hd, hw, q⟩
section
variable {P : Program} {w : World} {K : PySem.W.Frag} {mg : Str → Option Value} {base : Heap}
theorem ok_keepers (T : Txt K mg) (U : TxtC K mg) (Y : TxtD_HOLDS K w mg T) : FnOk P w K mg base CX0 8 T.f_keepers T.fd_keepers ["world", "wanted"] (spKeepers progH) := by
  refine T.F_keepers.ok sc_keepers (fun vs H Q E h => ?_) (fun cdv A outer s H vs Q E hr h => ?_)
  · unfold spKeepers at h
    obtain ⟨wv, w, a, ws, rfl, _⟩ := h
    rfl
  · unfold spKeepers at h
    obtain ⟨wv, u, a, ws, rfl, mw, hw, W, q⟩ := h
    refine ⟨_, (pss_cons (ps_expr (pe_call (ok_check_world T U) (hr.mono (by decide)) rfl T.m_check_world T.F_check_world.kp (b_check_world T) .nil pass0 (pa_cons (pv 0) pa_nil)))
      (pss_cons (ps_expr (pe_call (ok_check_promises T U) (hr.mono (by decide)) rfl T.m_check_promises T.F_check_promises.kp (b_check_promises T) .nil pass0 (pa_cons (pv 1) pa_nil)))
      (pss_one (ps_ret (pe_callTy call_tuple_of (by rfl) T.n_tuple (by decide +kernel) (pa_cons (pe_lc (own := [("design", 2)]) rfl sc_keepers.nd (pi_tup (pe_call0 (ok_all_designs T U) (hr.mono (by decide)) rfl T.m_all_designs T.F_all_designs.kp (b_all_designs T) .nil pass0)) (blkOk_by (N := ["world", "wanted", "design"]) (sc := defScope s_keepers) (by decide +kernel)) (fun _ _ _ _ _ => (pg_name (i := 2) sc_keepers.nd rfl (Or.inl rfl))) (fun _ _ _ _ _ => (pts_one (pt_val (pe_call (ok_keeps_all T U Y) (hr.mono (by decide)) rfl T.m_keeps_all T.F_keeps_all.kp (b_keeps_all T) .nil pass0 (pa_cons (pv 2) (pa_cons (pv 0) (pa_cons (pv 1) pa_nil))))))) (fun _ _ _ _ _ => (pv 2))) pa_nil)))))), ?_⟩
    refine ⟨_, rfl, ?_⟩
    refine chw_i (c := cf3 _ wv) hw (cf3_ok d0_mem mw) ⟨_, rfl, ?_⟩
    refine chps_i W fun H1 e1 => ?_
    refine allU_i fun ap xs H2 n2 e2 h2 t2 => ?_
    have e02 := e1.trans e2
    refine ⟨ap, rfl, ⟨_, SqT.of h2⟩, fun D nD => lcF_tup (R := fun x t => ∃ a, x = V.ref a ∧ H2 a = some (tT t)) (S := fun x t => ∃ a, x = V.ref a ∧ H2 a = some (tT t)) (fun d : T3 => ws.all (progH (cf3 d wv))) (fun i => xs.getD i .non) t2 (SqT.of h2) nD (by decide) (fun x => rfl) (fun i x y hi hl r => ?_) (fun i x y hi hl r _ => ?_) (fun i x y hi hl r => by rw [xs_at hi]; exact r) fun H3 ys e3 hD t3 => ?_⟩
    · obtain ⟨da, rfl, ad⟩ := r
      have O := cf3_ok (List.mem_of_getElem? hl) mw
      refine Evl.et_B (Evl.ev_call (Evl.ea_cons (Evl.ev_var rfl) (Evl.ea_cons (Evl.ev_var rfl) (Evl.ea_cons (Evl.ev_var rfl) Evl.ea_nil))) fun H4 e4 Q4 q4 E4 => ?_)
      exact keepsAll_i (c := cf3 y wv) (e4 _ _ ad) (e4 _ _ (e02 _ _ hw)) O (e4 _ _ (e02 _ _ W.at_)) q4
    · rw [xs_at hi]
      exact Evl.ev_var rfl
    · refine ⟨_, _, rfl, .inl ⟨SqL.of hD, fun p np => ?_⟩⟩
      have e4 := Evl.Ex.new (o := .tup ys) np
      have e34 := e3.trans e4
      exact q p ys _ (Evl.fresh_back (e02.trans e3) np) (e02.trans e34) upd_same (Paired.mapP t3 fun _ _ ⟨a, z, y⟩ => ⟨a, z, e34 _ _ y⟩)
theorem ok_worlds_for (T : Txt K mg) (U : TxtC K mg) (Y : TxtD_HOLDS K w mg T) : FnOk P w K mg base CX0 8 T.f_worlds_for T.fd_worlds_for ["design", "wanted"] (spWorldsF progH) := by
  refine T.F_worlds_for.ok sc_worlds_for (fun vs H Q E h => ?_) (fun cdv A outer s H vs Q E hr h => ?_)
  · unfold spWorldsF at h
    obtain ⟨dv, d, a, ws, rfl, _⟩ := h
    rfl
  · unfold spWorldsF at h
    obtain ⟨dv, d, a, ws, rfl, md, hd, W, q⟩ := h
    refine ⟨_, (pss_cons (ps_expr (pe_call (ok_check_design T U) (hr.mono (by decide)) rfl T.m_check_design T.F_check_design.kp (b_check_design T) .nil pass0 (pa_cons (pv 0) pa_nil)))
      (pss_cons (ps_expr (pe_call (ok_check_promises T U) (hr.mono (by decide)) rfl T.m_check_promises T.F_check_promises.kp (b_check_promises T) .nil pass0 (pa_cons (pv 1) pa_nil)))
      (pss_one (ps_ret (pe_callTy call_tuple_of (by rfl) T.n_tuple (by decide +kernel) (pa_cons (pe_lc (own := [("world", 2)]) rfl sc_worlds_for.nd (pi_tup (pe_call0 (ok_all_worlds T U) (hr.mono (by decide)) rfl T.m_all_worlds T.F_all_worlds.kp (b_all_worlds T) .nil pass0)) (blkOk_by (N := ["design", "wanted", "world"]) (sc := defScope s_worlds_for) (by decide +kernel)) (fun _ _ _ _ _ => (pg_name (i := 2) sc_worlds_for.nd rfl (Or.inl rfl))) (fun _ _ _ _ _ => (pts_one (pt_val (pe_call (ok_keeps_all T U Y) (hr.mono (by decide)) rfl T.m_keeps_all T.F_keeps_all.kp (b_keeps_all T) .nil pass0 (pa_cons (pv 0) (pa_cons (pv 2) (pa_cons (pv 1) pa_nil))))))) (fun _ _ _ _ _ => (pv 2))) pa_nil)))))), ?_⟩
    refine ⟨_, rfl, ?_⟩
    refine chd_i (c := cf3 dv _) hd (cf3_ok md w0_mem) ⟨_, rfl, ?_⟩
    refine chps_i W fun H1 e1 => ?_
    refine allU_i fun ap xs H2 n2 e2 h2 t2 => ?_
    have e02 := e1.trans e2
    refine ⟨ap, rfl, ⟨_, SqT.of h2⟩, fun D nD => lcF_tup (R := fun x t => ∃ a, x = V.ref a ∧ H2 a = some (tT t)) (S := fun x t => ∃ a, x = V.ref a ∧ H2 a = some (tT t)) (fun u : T3 => ws.all (progH (cf3 dv u))) (fun i => xs.getD i .non) t2 (SqT.of h2) nD (by decide) (fun x => rfl) (fun i x y hi hl r => ?_) (fun i x y hi hl r _ => ?_) (fun i x y hi hl r => by rw [xs_at hi]; exact r) fun H3 ys e3 hD t3 => ?_⟩
    · obtain ⟨ua, rfl, au⟩ := r
      have O := cf3_ok md (List.mem_of_getElem? hl)
      refine Evl.et_B (Evl.ev_call (Evl.ea_cons (Evl.ev_var rfl) (Evl.ea_cons (Evl.ev_var rfl) (Evl.ea_cons (Evl.ev_var rfl) Evl.ea_nil))) fun H4 e4 Q4 q4 E4 => ?_)
      exact keepsAll_i (c := cf3 dv y) (e4 _ _ (e02 _ _ hd)) (e4 _ _ au) O (e4 _ _ (e02 _ _ W.at_)) q4
    · rw [xs_at hi]
      exact Evl.ev_var rfl
    · refine ⟨_, _, rfl, .inl ⟨SqL.of hD, fun p np => ?_⟩⟩
      have e4 := Evl.Ex.new (o := .tup ys) np
      have e34 := e3.trans e4
      exact q p ys _ (Evl.fresh_back (e02.trans e3) np) (e02.trans e34) upd_same (Paired.mapP t3 fun _ _ ⟨a, z, y⟩ => ⟨a, z, e34 _ _ y⟩)
theorem ok_words_at (T : Txt K mg) (U : TxtC K mg) : FnOk P w K mg base CX0 1 T.f_words_at T.fd_words_at ["place"] (spWordsAt K) := by
  refine T.F_words_at.ok sc_words_at (fun vs H Q E h => ?_) (fun cdv A outer s H vs Q E hr h => ?_)
  · unfold spWordsAt at h
    obtain ⟨k, rfl, _⟩ := h
    rfl
  · unfold spWordsAt at h
    obtain ⟨k, rfl, hk, q⟩ := h
    refine ⟨_, (pss_one (ps_ret (pe_ix ix_tup (pe_tup (pa_cons (pe_glob (v := .ref U.v_PATHS) rfl U.m_PATHS rfl) (pa_cons (pe_glob (v := .ref U.v_GUARDS) rfl U.m_GUARDS rfl) (pa_cons (pe_glob (v := .ref U.v_FLIGHTS) rfl U.m_FLIGHTS rfl) pa_nil)))) (pv 0) (fun _ _ => rfl)))), ?_⟩
    refine ⟨by show 3 ≤ sizeLine; decide, fun p np => ⟨_, rfl, ?_⟩⟩
    have e := Evl.Ex.new (o := .tup [.ref U.v_PATHS, .ref U.v_GUARDS, .ref U.v_FLIGHTS]) np
    match k, hk with
    | 0, _ => exact ⟨p, _, 0, _, rfl, rfl, SqT.of upd_same, rfl, q _ _ e (U.s_PATHS _)⟩
    | 1, _ => exact ⟨p, _, 1, _, rfl, rfl, SqT.of upd_same, rfl, q _ _ e (U.s_GUARDS _)⟩
    | 2, _ => exact ⟨p, _, 2, _, rfl, rfl, SqT.of upd_same, rfl, q _ _ e (U.s_FLIGHTS _)⟩
theorem ok_check_number (T : Txt K mg) : FnOk P w K mg base CX0 1 T.f_check_number T.fd_check_number ["value", "lowest", "highest"] spChNum := by
  refine T.F_check_number.ok sc_check_number (fun vs H Q E h => ?_) (fun cdv A outer s H vs Q E hr h => ?_)
  · unfold spChNum at h
    obtain ⟨i, lo, hi, rfl, _⟩ := h
    rfl
  · unfold spChNum at h
    obtain ⟨i, lo, hi, rfl, h1, h2, q⟩ := h
    refine ⟨_, (pss_one (ps_if (PW.pt (pw_or (pt_val (pe_callB call_isi (by rfl) T.n_isinstance (by decide +kernel) (pa_cons (pv 0) (pa_cons (pe_bltn (v := .ty "bool") (by rfl) T.n_bool (by decide +kernel) rfl) pa_nil)))) (pw_or (pt_not (pt_val (pe_callB call_isi (by rfl) T.n_isinstance (by decide +kernel) (pa_cons (pv 0) (pa_cons (pe_bltn (v := .ty "int") (by rfl) T.n_int (by decide +kernel) rfl) pa_nil))))) (pw_or1 (pt_not (pt_chain op_le op_le (pv 1) (pv 0) (pv 2))))))) (pss_one ps_never) pss_nil)), ?_⟩
    refine ⟨_, rfl, _, _, _, _, false, rfl, .ty _, .base (.int i), kit_ty (by decide +kernel), _, rfl, ?_⟩
    refine iteF ⟨_, rfl, _, _, _, _, true, rfl, .ty _, .base (.int i), kit_ty (by decide +kernel), _, rfl, ?_⟩
    refine iteF ⟨_, rfl, _, rfl, lo, i, rfl, rfl, _, rfl, ?_⟩
    rw [decide_eq_true h1]
    refine iteT ⟨_, rfl, i, hi, rfl, rfl, _, rfl, ?_⟩
    rw [decide_eq_true h2]
    exact iteF q
theorem ok_changed (T : Txt K mg) : FnOk P w K mg base CX0 1 T.f_changed T.fd_changed ["design", "place", "word"] spChanged := by
  refine T.F_changed.ok sc_changed (fun vs H Q E h => ?_) (fun cdv A outer s H vs Q E hr h => ?_)
  · unfold spChanged at h
    obtain ⟨t, d, k, x, rfl, _⟩ := h
    rfl
  · unfold spChanged at h
    obtain ⟨t, d, k, x, rfl, hk, hd, q⟩ := h
    refine ⟨_, (pss_one (ps_ret (pe_op op_catA (pe_op op_catA (pe_slice sl_tupA (pv 0) po_none (po_some (pv 1))) (pe_tup (pa_cons (pv 2) pa_nil))) (pe_slice sl_tupA (pv 0) (po_some (pe_op op_add (pv 1) pe_int)) po_none)))), ?_⟩
    obtain ⟨t1, t2, t3⟩ := t
    have h3 : SqT K H d [.str t1, .str t2, .str t3] := SqT.of hd
    match k, hk with
    | 0, _ =>
      refine ⟨_, rfl, _, rfl, _, rfl, ?_⟩
      refine ⟨d, _, rfl, h3, fun z => absurd z (show ¬(HT.sIx 3 0 none = 0 ∧ HT.sIx 3 3 (some ((0 : Nat) : Int)) = 3) by decide), fun _ p1 n1 => ?_⟩
      refine ⟨_, rfl, (by show 1 ≤ sizeLine; decide), fun p2 n2 => ?_⟩
      have e1 := Evl.Ex.new (o := .tup (cutV [.str t1, .str t2, .str t3] none (some ((0 : Nat) : Int)))) n1
      have e2 := Evl.Ex.new (o := .tup [.str x]) n2
      refine ⟨p1, p2, [], [.str x], rfl, rfl, SqT.of (e2 _ _ upd_same), SqT.of upd_same, (show 0 + 1 ≤ sizeLine by decide), fun _ => ?_, fun z => absurd rfl z, fun z => absurd rfl z⟩
      refine ⟨_, rfl, _, rfl, _, _, rfl, rfl, _, rfl, ?_⟩
      refine ⟨d, _, rfl, Evl.ex_t (e1.trans e2) h3, fun z => absurd z (show ¬(HT.sIx 3 0 (some (((0 : Nat) : Int) + 1)) = 0 ∧ HT.sIx 3 3 none = 3) by decide), fun _ p3 n3 => ?_⟩
      have e3 := Evl.Ex.new (o := .tup (cutV [.str t1, .str t2, .str t3] (some (((0 : Nat) : Int) + 1)) none)) n3
      refine ⟨p2, p3, [.str x], [.str t2, .str t3], rfl, rfl, SqT.of (e3 _ _ upd_same), SqT.of upd_same, (show 1 + 2 ≤ sizeLine by decide), fun z => absurd z (by simp), fun _ z => absurd z (by simp), fun _ _ p4 n4 => ?_⟩
      exact q p4 _ (((e1.trans e2).trans e3).trans (Evl.Ex.new n4)) upd_same
    | 1, _ =>
      refine ⟨_, rfl, _, rfl, _, rfl, ?_⟩
      refine ⟨d, _, rfl, h3, fun z => absurd z (show ¬(HT.sIx 3 0 none = 0 ∧ HT.sIx 3 3 (some ((1 : Nat) : Int)) = 3) by decide), fun _ p1 n1 => ?_⟩
      refine ⟨_, rfl, (by show 1 ≤ sizeLine; decide), fun p2 n2 => ?_⟩
      have e1 := Evl.Ex.new (o := .tup (cutV [.str t1, .str t2, .str t3] none (some ((1 : Nat) : Int)))) n1
      have e2 := Evl.Ex.new (o := .tup [.str x]) n2
      refine ⟨p1, p2, [.str t1], [.str x], rfl, rfl, SqT.of (e2 _ _ upd_same), SqT.of upd_same, (show 1 + 1 ≤ sizeLine by decide), fun z => absurd z (by simp), fun _ z => absurd z (by simp), fun _ _ p5 n5 => ?_⟩
      have e5 := Evl.Ex.new (o := .tup ([.str t1] ++ [.str x])) n5
      refine ⟨_, rfl, _, rfl, _, _, rfl, rfl, _, rfl, ?_⟩
      refine ⟨d, _, rfl, Evl.ex_t ((e1.trans e2).trans e5) h3, fun z => absurd z (show ¬(HT.sIx 3 0 (some (((1 : Nat) : Int) + 1)) = 0 ∧ HT.sIx 3 3 none = 3) by decide), fun _ p3 n3 => ?_⟩
      have e3 := Evl.Ex.new (o := .tup (cutV [.str t1, .str t2, .str t3] (some (((1 : Nat) : Int) + 1)) none)) n3
      refine ⟨p5, p3, [.str t1, .str x], [.str t3], rfl, rfl, SqT.of (e3 _ _ upd_same), SqT.of upd_same, (show 2 + 1 ≤ sizeLine by decide), fun z => absurd z (by simp), fun _ z => absurd z (by simp), fun _ _ p4 n4 => ?_⟩
      exact q p4 _ ((((e1.trans e2).trans e5).trans e3).trans (Evl.Ex.new n4)) upd_same
    | 2, _ =>
      refine ⟨_, rfl, _, rfl, _, rfl, ?_⟩
      refine ⟨d, _, rfl, h3, fun z => absurd z (show ¬(HT.sIx 3 0 none = 0 ∧ HT.sIx 3 3 (some ((2 : Nat) : Int)) = 3) by decide), fun _ p1 n1 => ?_⟩
      refine ⟨_, rfl, (by show 1 ≤ sizeLine; decide), fun p2 n2 => ?_⟩
      have e1 := Evl.Ex.new (o := .tup (cutV [.str t1, .str t2, .str t3] none (some ((2 : Nat) : Int)))) n1
      have e2 := Evl.Ex.new (o := .tup [.str x]) n2
      refine ⟨p1, p2, [.str t1, .str t2], [.str x], rfl, rfl, SqT.of (e2 _ _ upd_same), SqT.of upd_same, (show 2 + 1 ≤ sizeLine by decide), fun z => absurd z (by simp), fun _ z => absurd z (by simp), fun _ _ p5 n5 => ?_⟩
      have e5 := Evl.Ex.new (o := .tup ([.str t1, .str t2] ++ [.str x])) n5
      refine ⟨_, rfl, _, rfl, _, _, rfl, rfl, _, rfl, ?_⟩
      refine ⟨d, _, rfl, Evl.ex_t ((e1.trans e2).trans e5) h3, fun z => absurd z (show ¬(HT.sIx 3 0 (some (((2 : Nat) : Int) + 1)) = 0 ∧ HT.sIx 3 3 none = 3) by decide), fun _ p3 n3 => ?_⟩
      have e3 := Evl.Ex.new (o := .tup (cutV [.str t1, .str t2, .str t3] (some (((2 : Nat) : Int) + 1)) none)) n3
      refine ⟨p5, p3, [.str t1, .str t2, .str x], [], rfl, rfl, SqT.of (e3 _ _ upd_same), SqT.of upd_same, (show 3 + 0 ≤ sizeLine by decide), fun z => absurd z (by simp), fun _ _ => ?_, fun _ z => absurd rfl z⟩
      exact q p5 _ (((e1.trans e2).trans e5).trans e3) (e3 _ _ upd_same)
theorem ok_harmless (T : Txt K mg) (U : TxtC K mg) (Y : TxtD_HOLDS K w mg T) : FnOk P w K mg base CX0 8 T.f_harmless T.fd_harmless ["design", "world", "place"] (spHarm progH) := by
  refine T.F_harmless.ok sc_harmless (fun vs H Q E h => ?_) (fun cdv A outer s H vs Q E hr h => ?_)
  · unfold spHarm at h
    obtain ⟨dv, wv, d, w, k, rfl, _⟩ := h
    rfl
  · unfold spHarm at h
    obtain ⟨dv, wv, d, u, k, rfl, hk, md, mw, hd, hw, q⟩ := h
    have O := cf3_ok md mw
    refine ⟨_, (pss_cons (ps_expr (pe_call (ok_check_design T U) (hr.mono (by decide)) rfl T.m_check_design T.F_check_design.kp (b_check_design T) .nil pass0 (pa_cons (pv 0) pa_nil)))
      (pss_cons (ps_expr (pe_call (ok_check_world T U) (hr.mono (by decide)) rfl T.m_check_world T.F_check_world.kp (b_check_world T) .nil pass0 (pa_cons (pv 1) pa_nil)))
      (pss_cons (ps_expr (pe_call (ok_check_number T) (hr.mono (by decide)) rfl T.m_check_number T.F_check_number.kp (b_check_number T) .nil pass0 (pa_cons (pv 2) (pa_cons pe_int (pa_cons pe_int pa_nil)))))
      (pss_cons (ps_set (i := 3) sc_harmless.nd rfl (Or.inr rfl) (pe_call (ok_profile T U Y) (hr.mono (by decide)) rfl T.m_profile T.F_profile.kp (b_profile T) .nil pass0 (pa_cons (pv 0) (pa_cons (pv 1) pa_nil))))
      (pss_one (ps_ret (pe_callTy call_tuple_of (by rfl) T.n_tuple (by decide +kernel) (pa_cons (pe_lc (own := [("word", 4)]) rfl sc_harmless.nd (pi_tup (pe_call (ok_words_at T U) (hr.mono (by decide)) rfl T.m_words_at T.F_words_at.kp (b_words_at T) .nil pass0 (pa_cons (pv 2) pa_nil))) (blkOk_by (N := ["design", "world", "place", "kept", "word"]) (sc := defScope s_harmless) (by decide +kernel)) (fun _ _ _ _ _ => (pg_name (i := 4) sc_harmless.nd rfl (Or.inl rfl))) (fun _ _ _ _ _ => (pts_one (pt_val (pe_call (ok_keeps_all T U Y) (hr.mono (by decide)) rfl T.m_keeps_all T.F_keeps_all.kp (b_keeps_all T) .nil pass0 (pa_cons (pe_call (ok_changed T) (hr.mono (by decide)) rfl T.m_changed T.F_changed.kp (b_changed T) .nil pass0 (pa_cons (pv 0) (pa_cons (pv 2) (pa_cons (pv 4) pa_nil)))) (pa_cons (pv 1) (pa_cons (pv 3) pa_nil))))))) (fun _ _ _ _ _ => (pv 4))) pa_nil)))))))), ?_⟩
    refine ⟨_, rfl, ?_⟩
    refine chd_i (c := cf3 dv wv) hd O ⟨_, rfl, ?_⟩
    refine chw_i (c := cf3 dv wv) hw O ⟨_, rfl, ?_⟩
    refine chnum_i (by omega) (by omega) ?_
    refine ⟨_, rfl, _, rfl, cf3 dv wv, d, u, rfl, hd, hw, O, fun kp H1 n1 e1 h1 => ?_⟩
    refine ⟨_, rfl, ?_⟩
    refine wordsAt_i hk fun wp H2 e2 h2 => ?_
    have e02 := e1.trans e2
    refine ⟨wp, rfl, ⟨_, h2⟩, fun D nD => lcF_tup (R := fun x t => x = V.str t) (S := fun x t => x = V.str t) (fun x : Str => (allPm.filter (progH (cf3 dv wv))).all (progH (cf3 (setT dv k x) wv))) (fun i => ((wordsL k).map V.str).getD i .non) (prd_refl V.str (fun _ => rfl) (wordsL k)) h2 nD ?_ (fun x => rfl) (fun i x y hi hl r => ?_) (fun i x y hi hl r _ => ?_) (fun i x y hi hl r => by rw [xs_at hi]; exact r) fun H3 ys e3 hD t3 => ?_⟩
    · exact Nat.le_trans (wordsL_len k) (by decide)
    · subst r
      have my := List.mem_of_getElem? hl
      refine Evl.et_B fun H4 e4 Q4 q4 => ⟨_, rfl, _, rfl, _, rfl, ?_⟩
      refine changed_i hk (e4 _ _ (e02 _ _ hd)) fun np H5 e5 h5 => ⟨_, rfl, _, rfl, ?_⟩
      exact keepsAll_i (c := cf3 (setT dv k y) wv) h5 (e5 _ _ (e4 _ _ (e02 _ _ hw))) (setT_ok O my) (e5 _ _ (e4 _ _ (e2 _ _ h1))) fun H6 e6 => q4 H6 (e5.trans e6)
    · rw [xs_at hi]
      exact Evl.ev_var rfl
    · refine ⟨_, _, rfl, .inl ⟨SqL.of hD, fun p np => ?_⟩⟩
      have e4 := Evl.Ex.new (o := .tup ys) np
      have e34 := e3.trans e4
      have ey := prd_map t3
      refine q p _ (Evl.fresh_back (e02.trans e3) np) (e02.trans e34) ?_
      rw [upd_same, ey]
      rfl
end
end Ca

set_option Elab.async false
set_option linter.all false
set_option maxRecDepth 100000
set_option maxHeartbeats 400000
namespace Ca
open PySem L2
/-! ### how many words differ -/
def l3 (t : T3) : List Str := [t.1, t.2.1, t.2.2]
def neP (p : Str × Str) : Bool := !decide (V.str p.1 = V.str p.2)
def chgN (d o : T3) : Nat := (((l3 d).zip (l3 o)).filter neP).length
@[irreducible] def spChg : Sp := fun vs H Q _ => ∃ (d o : T3) (a b : Addr), vs = [.ref a, .ref b] ∧ H a = some (tT d) ∧ H b = some (tT o) ∧ ∀ H', Evl.Ex H H' → Q (.int (chgN d o : Nat)) H'
theorem chg_i {d o : T3} {a b : Addr} {H : Hp} {Q : VK} {E : XK} (ha : H a = some (tT d)) (hb : H b = some (tT o)) (q : ∀ H', Evl.Ex H H' → Q (.int (chgN d o : Nat)) H') : spChg [.ref a, .ref b] H Q E := by
  unfold spChg
  exact ⟨d, o, a, b, rfl, ha, hb, q⟩
/-! ### parts -/
def prB (f g : Pm → Bool) : Bool := decide ((allPm.filter f).length < (allPm.filter g).length) && (allPm.filter f).all g
@[irreducible] def spProper : Sp := fun vs H Q _ => ∃ (f g : Pm → Bool) (a b : Addr), vs = [.ref a, .ref b] ∧ H a = some (.tup ((allPm.filter f).map pmV)) ∧ H b = some (.tup ((allPm.filter g).map pmV)) ∧ ∀ H', Evl.Ex H H' → Q (.bl (prB f g)) H'
theorem proper_i {f g : Pm → Bool} {a b : Addr} {H : Hp} {Q : VK} {E : XK} (ha : H a = some (.tup ((allPm.filter f).map pmV))) (hb : H b = some (.tup ((allPm.filter g).map pmV))) (q : ∀ H', Evl.Ex H H' → Q (.bl (prB f g)) H') : spProper [.ref a, .ref b] H Q E := by
  unfold spProper
  exact ⟨f, g, a, b, rfl, ha, hb, q⟩
def strongF (g : Conf → Pm → Bool) (w : T3) : List T3 := designs3.filter fun t => !designs3.any fun o => prB (g (cf3 t w)) (g (cf3 o w))
@[irreducible] def spStrong (g : Conf → Pm → Bool) : Sp := fun vs H Q _ => ∃ (wv : T3) (w : Addr), vs = [.ref w] ∧ wv ∈ worlds3 ∧ H w = some (tT wv) ∧ ∀ (p : Addr) (xs : List V) (H' : Hp), H p = none → Evl.Ex H H' → H' p = some (.tup xs) → TriX H' xs (strongF g wv) → Q (.ref p) H'
theorem strong_i {g : Conf → Pm → Bool} {wv : T3} {w : Addr} {H : Hp} {Q : VK} {E : XK} (m : wv ∈ worlds3) (hw : H w = some (tT wv)) (q : ∀ (p : Addr) (xs : List V) (H' : Hp), H p = none → Evl.Ex H H' → H' p = some (.tup xs) → TriX H' xs (strongF g wv) → Q (.ref p) H') : spStrong g [.ref w] H Q E := by
  unfold spStrong
  exact ⟨wv, w, rfl, m, hw, q⟩
theorem et_yes {σ : L2.St} {H : Hp} : Evl.EvT tYes σ H true := fun H1 _ _ q => q H1 (Evl.Ex.refl H1)
theorem filter_true {α : Type} (l : List α) : l.filter (fun _ => true) = l := List.filter_eq_self.mpr fun _ _ => rfl
theorem zip_at {xs ys : List Str} {i : Nat} {x y : Str} (h1 : xs[i]? = some x) (h2 : ys[i]? = some y) : (xs.zip ys)[i]? = some (x, y) := by
  rw [List.getElem?_zip_eq_some]
  exact ⟨h1, h2⟩
/-- the profiles of designs, each a tuple -/
abbrev PrX (g : Conf → Pm → Bool) (w : T3) (H : Hp) (xs : List V) (l : List T3) : Prop := Paired (fun x t => ∃ a, x = V.ref a ∧ H a = some (.tup ((allPm.filter (g (cf3 t w))).map pmV))) xs l
section
variable {P : Program} {w : World} {K : PySem.W.Frag} {mg : Str → Option Value} {base : Heap}
theorem ok_changes (T : Txt K mg) : FnOk P w K mg base CX0 1 T.f_changes T.fd_changes ["design", "other"] spChg := by
  refine T.F_changes.ok sc_changes (fun vs H Q E h => ?_) (fun cdv A outer s H vs Q E hr h => ?_)
  · unfold spChg at h
    obtain ⟨d, o, a, b, rfl, _⟩ := h
    rfl
  · unfold spChg at h
    obtain ⟨d, o, a, b, rfl, ha, hb, q⟩ := h
    refine ⟨_, (pss_one (ps_ret (pe_callB call_len_seq (by rfl) T.n_len (by decide +kernel) (pa_cons (pe_lc (own := [("one", 2), ("another", 3)]) rfl sc_changes.nd (pi_zipX (by rfl) T.n_zip (pa_cons (pv 0) (pa_cons (pv 1) pa_nil))) (blkOk_by (N := ["design", "other", "one", "another"]) (sc := defScope s_changes) (by decide +kernel)) (fun _ _ _ _ _ => (pg_tupK (K := K) 2 rfl rfl (pgs_cons (pg_name (i := 2) sc_changes.nd rfl (Or.inl rfl) (hf := Or.inr rfl)) (pgs_cons (pg_name (i := 3) sc_changes.nd rfl (Or.inl rfl) (hf := Or.inr rfl)) pgs_nil)))) (fun _ _ _ _ _ => (pts_one (pt_cmpR op_ne (pv 2) (pv 3) (nomark _)))) (fun _ _ _ _ _ => (pv 2))) pa_nil)))), ?_⟩
    have sa : SqT K H a ((l3 d).map V.str) := SqT.of ha
    have sb : SqT K H b ((l3 o).map V.str) := SqT.of hb
    refine ⟨_, rfl, _, rfl, false, false, a, b, _, _, rfl, sa, sb, fun D nD => ?_⟩
    refine lc_zipX (xs := (l3 d).map V.str) (ys := (l3 o).map V.str) rfl (fun i H' => Evl.Ex H H' ∧ H' D = some (.lst (((((l3 d).zip (l3 o)).take i).filter neP).map fun p => V.str p.1))) ⟨Evl.Ex.new nD, upd_same⟩ (fun i H' _ p => ⟨Evl.ex_t p.1 sa, Evl.ex_t p.1 sb⟩) (fun i x y T' H1 hx hy nT p => ?_) fun H1 p => ?_
    · obtain ⟨x, h1, rfl⟩ := map_at hx
      obtain ⟨y, h2, rfl⟩ := map_at hy
      obtain ⟨e1, hD⟩ := p
      have tk : ((l3 d).zip (l3 o)).take (i + 1) = ((l3 d).zip (l3 o)).take i ++ [(x, y)] := by
        rw [List.take_succ, zip_at h1 h2]
        rfl
      have e2 := Evl.Ex.new (o := .tup [V.str x, V.str y]) nT
      have al : (((((l3 d).zip (l3 o)).take i).filter neP).map fun p => V.str p.1).length < sizeLine := by
        rw [List.length_map]
        refine Nat.lt_of_le_of_lt (Nat.le_trans (List.length_filter_le _ _) (List.length_take_le' ..)) ?_
        show 3 < sizeLine
        decide
      refine ⟨T', _, rfl, SqT.of upd_same, rfl, _, _, rfl, _, _, rfl, rfl, rfl, ?_⟩
      refine ⟨_, rfl, _, rfl, rfl, _, rfl, ?_⟩
      refine iteW (fun hne => ?_) (fun hne => ?_)
      · refine ⟨_, rfl, _, e2 _ _ hD, al, Evl.Ex.mut (e1.trans e2) nD, ?_⟩
        rw [upd_same, tk, List.filter_append, List.filter_cons, if_pos (show neP (x, y) = true from hne), List.map_append]
        rfl
      · refine ⟨e1.trans e2, ?_⟩
        rw [tk, List.filter_append, List.filter_cons, if_neg (by rw [show neP (x, y) = false from hne]; decide)]
        show _ = some (HO.lst ((_ ++ []).map _))
        rw [List.append_nil]
        exact e2 _ _ hD
    · obtain ⟨e1, hD⟩ := p
      refine ⟨_, _, rfl, .inl (SqL.of hD), ?_⟩
      have z := q H1 e1
      have e : (((((l3 d).zip (l3 o)).take ((l3 d).map V.str).length).filter neP).map fun p => V.str p.1).length = chgN d o := by
        rw [List.length_map]
        rfl
      rw [e]
      exact z
theorem ok_is_proper_part (T : Txt K mg) : FnOk P w K mg base CX0 1 T.f_is_proper_part T.fd_is_proper_part ["part", "whole"] spProper := by
  refine T.F_is_proper_part.ok sc_is_proper_part (fun vs H Q E h => ?_) (fun cdv A outer s H vs Q E hr h => ?_)
  · unfold spProper at h
    obtain ⟨f, g, a, b, rfl, _⟩ := h
    rfl
  · unfold spProper at h
    obtain ⟨f, g, a, b, rfl, ha, hb, q⟩ := h
    refine ⟨_, (pss_one (ps_ret (pe_and (pe_cmpR op_lt (pe_callB call_len_seq (by rfl) T.n_len (by decide +kernel) (pa_cons (pv 0) pa_nil)) (pe_callB call_len_seq (by rfl) T.n_len (by decide +kernel) (pa_cons (pv 1) pa_nil)) (nomark _)) (pe_one (pe_callB (cr_all rfl) (by rfl) T.n_all (by decide +kernel) (pa_cons (pe_lc (own := [("promise", 2)]) rfl sc_is_proper_part.nd (pi_tup (pv 0)) (blkOk_by (N := ["part", "whole", "promise"]) (sc := defScope s_is_proper_part) (by decide +kernel)) (fun _ _ _ _ _ => (pg_name (i := 2) sc_is_proper_part.nd rfl (Or.inl rfl))) (fun _ _ _ _ _ => pts_nil) (fun _ _ _ _ _ => (pe_cmpR (op_inK (K := K) rfl) (pv 2) (pv 1) (by rfl)))) pa_nil)))))), ?_⟩
    refine ⟨_, rfl, _, _, rfl, .inr (SqT.of ha), _, rfl, _, _, rfl, .inr (SqT.of hb), _, _, rfl, rfl, _, rfl, ?_⟩
    have e0 : decide ((((allPm.filter f).map pmV).length : Int) < (((allPm.filter g).map pmV).length : Int)) = decide ((allPm.filter f).length < (allPm.filter g).length) := by
      rw [List.length_map, List.length_map]
      simp
    rw [e0]
    unfold prB at q
    cases hl : decide ((allPm.filter f).length < (allPm.filter g).length) with
    | false =>
      rw [hl] at q
      exact iteF (q H (Evl.Ex.refl _))
    | true =>
      rw [hl] at q
      refine iteT ⟨_, rfl, a, rfl, ⟨_, SqT.of ha⟩, fun D nD => lcF_tup (R := fun x m => x = pmV m) (S := fun x m => x = V.bl (g m)) (fun _ => true) (fun i => V.bl (g ((allPm.filter f).getD i default))) (prd_refl pmV (fun _ => rfl) (allPm.filter f)) (SqT.of ha) nD ?_ (fun x => rfl) (fun i x y hi hl r => et_yes) (fun i x y hi hl r _ => ?_) (fun i x y hi hl r => ?_) fun H3 ys e3 hD t3 => ?_⟩
      · exact Nat.le_trans (List.length_filter_le _ _) (by decide)
      · subst r
        have ed : (allPm.filter f).getD i default = y := by simp [List.getD, hl]
        rw [ed, ← in_pms g y]
        exact Evl.ev_op (Evl.ev_var rfl) (Evl.ev_var rfl) (Evl.rv_isT (SqT.of hb) rfl (flat_pms _))
      · have ed : (allPm.filter f).getD i default = y := by simp [List.getD, hl]
        rw [ed]
      · rw [filter_true] at t3
        have ey := prd_map t3
        have em : (allPm.filter f).map (fun m => V.bl (g m)) = ((allPm.filter f).map g).map V.bl := by rw [List.map_map]; rfl
        rw [ey, em] at hD
        refine ⟨_, _, rfl, SqL.of hD, ?_⟩
        have z := q H3 e3
        have e : ((allPm.filter f).map g).all id = (allPm.filter f).all g := by
          rw [List.all_map]
          rfl
        rw [e]
        exact z
end
end Ca

set_option Elab.async false
set_option linter.all false
set_option maxRecDepth 100000
set_option maxHeartbeats 400000
namespace Ca
open PySem L2
section
variable {P : Program} {w : World} {K : PySem.W.Frag} {mg : Str → Option Value} {base : Heap}
theorem tyes_if' {σ : L2.St} {H : Hp} {A B : Hp → Prop} (a : A H) : tYes σ H fun b H3 => if b = true then A H3 else B H3 := by
  show if true = true then A H else B H
  rw [if_pos rfl]
  exact a
theorem ok_strongest (T : Txt K mg) (U : TxtC K mg) (Y : TxtD_HOLDS K w mg T) : FnOk P w K mg base CX0 8 T.f_strongest T.fd_strongest ["world"] (spStrong progH) := by
  refine T.F_strongest.ok sc_strongest (fun vs H Q E h => ?_) (fun cdv A outer s H vs Q E hr h => ?_)
  · unfold spStrong at h
    obtain ⟨wv, w, rfl, _⟩ := h
    rfl
  · unfold spStrong at h
    obtain ⟨wv, u, rfl, mw, hw, q⟩ := h
    refine ⟨_, (pss_cons (ps_expr (pe_call (ok_check_world T U) (hr.mono (by decide)) rfl T.m_check_world T.F_check_world.kp (b_check_world T) .nil pass0 (pa_cons (pv 0) pa_nil)))
      (pss_cons (ps_set (i := 1) sc_strongest.nd rfl (Or.inl rfl) (pe_call0 (ok_all_designs T U) (hr.mono (by decide)) rfl T.m_all_designs T.F_all_designs.kp (b_all_designs T) .nil pass0))
      (pss_cons (ps_set (i := 2) sc_strongest.nd rfl (Or.inr rfl) (pe_lc (own := [("design", 3)]) rfl sc_strongest.nd (pi_tup (pv 1)) (blkOk_by (N := ["world", "designs", "profiles", "design", "kept", "other"]) (sc := defScope s_strongest) (by decide +kernel)) (fun _ _ _ _ _ => (pg_name (i := 3) sc_strongest.nd rfl (Or.inl rfl))) (fun _ _ _ _ _ => pts_nil) (fun _ _ _ _ _ => (pe_call (ok_profile T U Y) (hr.mono (by decide)) rfl T.m_profile T.F_profile.kp (b_profile T) .nil pass0 (pa_cons (pv 3) (pa_cons (pv 0) pa_nil))))))
      (pss_one (ps_ret (pe_callTy call_tuple_of (by rfl) T.n_tuple (by decide +kernel) (pa_cons (pe_lc (own := [("design", 3), ("kept", 4)]) rfl sc_strongest.nd (pi_zipX (by rfl) T.n_zip (pa_cons (pv 1) (pa_cons (pv 2) pa_nil))) (blkOk_by (N := ["world", "designs", "profiles", "design", "kept", "other"]) (sc := defScope s_strongest) (by decide +kernel)) (fun _ _ _ _ _ => (pg_tupK (K := K) 2 rfl rfl (pgs_cons (pg_name (i := 3) sc_strongest.nd rfl (Or.inl rfl) (hf := Or.inr rfl)) (pgs_cons (pg_name (i := 4) sc_strongest.nd rfl (Or.inr rfl) (hf := Or.inl rfl)) pgs_nil)))) (fun _ _ _ _ _ => (pts_one (pt_not (pt_val (pe_callB (any_K (K := K) rfl rfl) (by rfl) T.n_any (by decide +kernel) (pa_cons (pe_lc (own := [("other", 5)]) rfl sc_strongest.nd (pi_listK (K := K) rfl (pv 2)) (blkOk_by (by kernel_rfl)) (fun _ _ _ _ _ => (pg_name (i := 5) sc_strongest.nd rfl (Or.inl rfl))) (fun _ _ _ _ _ => pts_nil) (fun _ _ _ _ _ => (pe_call (ok_is_proper_part T) (hr.mono (by decide)) rfl T.m_is_proper_part T.F_is_proper_part.kp (b_is_proper_part T) .nil pass0 (pa_cons (pv 4) (pa_cons (pv 5) pa_nil))))) pa_nil)))))) (fun _ _ _ _ _ => (pv 3))) pa_nil))))))), ?_⟩
    refine ⟨_, rfl, ?_⟩
    refine chw_i (c := cf3 _ wv) hw (cf3_ok d0_mem mw) ?_
    refine allU_i fun ap xs H1 n1 e1 h1 t1 => ?_
    -- the profiles
    refine ⟨_, rfl, ap, rfl, ⟨_, SqT.of h1⟩, fun D nD => ?_⟩
    refine lc_tup (xs := xs) (fun i H' => Evl.Ex H1 H' ∧ ∃ acc, H' D = some (.lst acc) ∧ PrX progH wv H' acc (designs3.take i)) ⟨Evl.Ex.new nD, [], upd_same, .nil⟩ (fun i H' _ p => Evl.ex_t p.1 (SqT.of h1)) (fun i x H2 hi p => ⟨rfl, ?_⟩) fun H2 p => ?_
    · obtain ⟨e2, acc, hD, pr⟩ := p
      obtain ⟨t, da, ht, rfl, hda⟩ := tri_at t1 hi
      have tk : designs3.take (i + 1) = designs3.take i ++ [t] := by
        rw [List.take_succ, ht]
        rfl
      have al : acc.length < sizeLine := by
        rw [pr.length]
        exact Nat.lt_of_le_of_lt (List.length_take_le' ..) (by decide)
      refine tyes_if' ⟨_, rfl, _, rfl, cf3 t wv, da, u, rfl, e2 _ _ hda, e2 _ _ (e1 _ _ hw), cf3_ok (List.mem_of_getElem? ht) mw, fun kp H3 n3 e3 h3 => ?_⟩
      have nD3 : ∀ {b : Addr} {o : HO}, H2 b = some o → H3 b = some o := fun z => e3 _ _ z
      refine ⟨acc, e3 _ _ hD, al, Evl.Ex.mut (e2.trans e3) nD, _, upd_same, ?_⟩
      rw [tk]
      have kD : kp ≠ D := fun z => by rw [z, hD] at n3; cases n3
      refine prd_app (Paired.mapP pr fun _ _ ⟨a, z, y⟩ => ⟨a, z, ?_⟩) (.cons ⟨kp, rfl, ?_⟩ .nil)
      · rw [upd_ne (fun z => by rw [z, hD] at y; cases y)]
        exact e3 _ _ y
      · rw [upd_ne kD]
        exact h3
    · obtain ⟨e2, ps, hD, pr⟩ := p
      rw [t1.length, List.take_length] at pr
      have e12 := e1.trans e2
      have h2 := e2 _ _ h1
      have t2 : TriX H2 xs designs3 := Paired.mapP t1 fun _ _ ⟨a, z, y⟩ => ⟨a, z, e2 _ _ y⟩
      -- those that are no proper part
      refine ⟨_, rfl, _, rfl, false, true, ap, D, xs, ps, rfl, SqT.of h2, SqL.of hD, fun D2 nD2 => ?_⟩
      refine lc_zipX (xs := xs) (ys := ps) (by rw [t2.length, pr.length]) (Evl.Cw H2 (fun i => !designs3.any fun o => prB (progH (cf3 (designs3.getD i default) wv)) (progH (cf3 o wv))) (fun i => xs.getD i .non) D2) ⟨nD2, Evl.Ex.new nD2, upd_same⟩ (fun i H' _ p => ⟨Evl.ex_t p.2.1 (SqT.of h2), Evl.ex_l p.2.1 (SqL.of hD)⟩) (fun i x y T' H3 hx hy nT p => ?_) fun H3 p => ?_
      · obtain ⟨t, da, ht, rfl, hda⟩ := tri_at t2 hx
        obtain ⟨t', ht', ka, rfl, hka⟩ := pget pr hy
        rw [ht] at ht'
        cases ht'
        have ed : designs3.getD i default = t := by simp [List.getD, ht]
        have lt := (List.getElem?_eq_some_iff.mp ht).1
        refine ⟨T', _, rfl, SqT.of upd_same, rfl, _, _, rfl, _, _, rfl, rfl, rfl, ?_⟩
        have p' : Evl.Cw H2 (fun i => !designs3.any fun o => prB (progH (cf3 (designs3.getD i default) wv)) (progH (cf3 o wv))) (fun i => xs.getD i .non) D2 i (upd H3 T' (.tup [.ref da, .ref ka])) := by
          obtain ⟨a, b, c⟩ := p
          have e4 := Evl.Ex.new (o := .tup [.ref da, .ref ka]) nT
          exact ⟨a, b.trans e4, e4 _ _ c⟩
        refine Evl.cw_turn p' (Nat.lt_of_lt_of_le lt (by decide)) ?_ (fun _ => by rw [xs_at hx]; exact Evl.ev_var rfl)
        rw [ed]
        refine Evl.et_not fun H4 e4 Q4 q4 => ?_
        refine ⟨_, rfl, D, rfl, ⟨_, Evl.ex_l e4 (SqL.of hD)⟩, fun D3 nD3 => lcF_lst (R := fun x t => ∃ a, x = V.ref a ∧ H2 a = some (.tup ((allPm.filter (progH (cf3 t wv))).map pmV))) (S := fun x o => x = V.bl (prB (progH (cf3 t wv)) (progH (cf3 o wv)))) (fun _ => true) (fun i => V.bl (prB (progH (cf3 t wv)) (progH (cf3 (designs3.getD i default) wv)))) pr (Evl.ex_l e4 (SqL.of hD)) nD3 (by decide) (fun x => rfl) (fun i x y hi hl r => et_yes) (fun i x y hi hl r _ => ?_) (fun i x y hi hl r => ?_) fun H5 ys e5 hD3 t5 => ?_⟩
        · obtain ⟨oa, rfl, hoa⟩ := r
          have eo : designs3.getD i default = y := by simp [List.getD, hl]
          rw [eo]
          refine Evl.ev_call (Evl.ea_cons (Evl.ev_var rfl) (Evl.ea_cons (Evl.ev_var rfl) Evl.ea_nil)) fun H6 e6 Q6 q6 E6 => ?_
          exact proper_i (e6 _ _ (e4 _ _ hka)) (e6 _ _ (e4 _ _ hoa)) q6
        · have eo : designs3.getD i default = y := by simp [List.getD, hl]
          rw [eo]
        · rw [filter_true] at t5
          have ey := prd_map t5
          have em : designs3.map (fun o => V.bl (prB (progH (cf3 t wv)) (progH (cf3 o wv)))) = (designs3.map fun o => prB (progH (cf3 t wv)) (progH (cf3 o wv))).map V.bl := by rw [List.map_map]; rfl
          rw [ey, em] at hD3
          refine ⟨_, _, rfl, SqL.of hD3, _, rfl, ?_⟩
          have z := q4 H5 e5
          have e : (designs3.map fun o => prB (progH (cf3 t wv)) (progH (cf3 o wv))).any id = designs3.any fun o => prB (progH (cf3 t wv)) (progH (cf3 o wv)) := by
            rw [List.any_map]
            rfl
          rw [e]
          exact z
      · obtain ⟨np, e3, hp⟩ := p
        have z := given_prd (S := fun x t => ∃ a, x = V.ref a ∧ H2 a = some (tT t)) t2 (fun t => !designs3.any fun o => prB (progH (cf3 t wv)) (progH (cf3 o wv))) (fun i => xs.getD i .non) (fun i x y hx hy _ => by
          obtain ⟨y', e, r⟩ := pget t2 hx
          rw [hy] at e
          cases e
          rw [xs_at hx]
          exact r) designs3.length (Nat.le_refl _)
        rw [List.take_length] at z
        rw [t2.length] at hp
        refine ⟨_, _, rfl, .inl ⟨SqL.of hp, fun p np => ?_⟩⟩
        have e4 := Evl.Ex.new (o := .tup (Evl.given designs3.length (fun i => !designs3.any fun o => prB (progH (cf3 (designs3.getD i default) wv)) (progH (cf3 o wv))) (fun i => xs.getD i .non))) np
        have e34 := e3.trans e4
        exact q p _ _ (Evl.fresh_back (e12.trans e3) np) (e12.trans e34) upd_same (Paired.mapP z fun _ _ ⟨a, z, y⟩ => ⟨a, z, e34 _ _ y⟩)
end
end Ca

set_option Elab.async false
set_option linter.all false
set_option maxRecDepth 100000
set_option maxHeartbeats 400000
namespace Ca
open PySem L2 LamX NdefX
/-! ### the nearest design: min by a lambda of the def -/
def lamNear : Expr := match defBody s_nearest with
  | [_, .Return (some (.Call _ _ [⟨_, l, _⟩, _] _)) _] => l
  | _ => .Constant .none 0 default
def nmNear : Nat → Nat → Str := fun _ _ => (envF ⟨"nearest", "nearest", lmArgs lamNear, [], defScope s_nearest, [], 0⟩ 0 0).qual ++ "<lambda>"
def spLam : List (Option V) → Sp := fun ws vs H Q _ => ∃ (d o : T3) (a b : Addr), ws = [some (.ref a)] ∧ vs = [.ref b] ∧ H a = some (tT d) ∧ H b = some (tT o) ∧ ∀ H', Evl.Ex H H' → Q (.int (chgN d o : Nat)) H'
/-- all that was there is there, the tables may have grown -/
def NX (H H' : Hp) : Prop := ExtN H H' ∧ ∀ b, H' b = none → H b = none
theorem NX.ex {H H1 H2 : Hp} (n : NX H H1) (e : Evl.Ex H1 H2) : NX H H2 := ⟨n.1.trans (ExtN.of e), fun b z => n.2 b (Evl.fresh_back e z)⟩
theorem NX.tup {H H' : Hp} {a : Addr} {xs : List V} (n : NX H H') (h : H a = some (.tup xs)) : H' a = some (.tup xs) := n.1 _ _ h fun ps z => by cases z
theorem NX.lst {H H' : Hp} {a : Addr} {xs : List V} (n : NX H H') (h : H a = some (.lst xs)) : H' a = some (.lst xs) := n.1 _ _ h fun ps z => by cases z
/-- the first of those that differ least -/
def IsNear (dv : T3) (ks : List T3) (i : Nat) (t : T3) : Prop := ks[i]? = some t ∧ ∀ j t', ks[j]? = some t' → chgN dv t ≤ chgN dv t' ∧ (j < i → chgN dv t < chgN dv t')
@[irreducible] def spNear (P : Addr) (g : Conf → Pm → Bool) : Sp := fun vs H Q _ => ∃ (dv wv : T3) (d w a : Addr) (ws : List Pm), vs = [.ref d, .ref w, .ref a] ∧ dv ∈ designs3 ∧ wv ∈ worlds3 ∧ H d = some (tT dv) ∧ H w = some (tT wv) ∧ WantAt H a ws ∧ TabsN [(P, nmNear)] H ∧
  (keepersF g wv ws = [] → ∀ H', NX H H' → Q .non H') ∧ ∀ (i : Nat) (t : T3) (x : Addr) (H' : Hp), IsNear dv (keepersF g wv ws) i t → NX H H' → H' x = some (tT t) → Q (.ref x) H'
theorem near_i {P : Addr} {g : Conf → Pm → Bool} {dv wv : T3} {d w a : Addr} {ws : List Pm} {H : Hp} {Q : VK} {E : XK} (md : dv ∈ designs3) (mw : wv ∈ worlds3) (hd : H d = some (tT dv)) (hw : H w = some (tT wv)) (W : WantAt H a ws) (hT : TabsN [(P, nmNear)] H)
    (q0 : keepersF g wv ws = [] → ∀ H', NX H H' → Q .non H') (q1 : ∀ (i : Nat) (t : T3) (x : Addr) (H' : Hp), IsNear dv (keepersF g wv ws) i t → NX H H' → H' x = some (tT t) → Q (.ref x) H') : spNear P g [.ref d, .ref w, .ref a] H Q E := by
  unfold spNear
  exact ⟨dv, wv, d, w, a, ws, rfl, md, mw, hd, hw, W, hT, q0, q1⟩
section
variable {P : Program} {w : World} {K : PySem.W.Frag} {mg : Str → Option Value} {base : Heap}
theorem ok_lam (T : Txt K mg) (q : Str) (cl : List (Str × Addr)) (f c' : Addr) : LOk P w K mg base CXn 2 f (lmNF lamNear q cl c') (lmBody lamNear) ["other"] ["design"] spLam := by
  refine lok_of (N := ["other", "design"]) (nscope_by (show nscB ["other", "design"] ["other"] ["design"] (lmScope lamNear) = true by decide +kernel)) (fun pm ctv us hl => match us, hl with | [_], _ => rfl) (fun ws vs H Q E h => ?_) (fun A outer s H vs ws Q E hr hf hc hl h => ?_)
  · obtain ⟨d, o, a, b, _, rfl, _⟩ := h
    rfl
  · obtain ⟨d, o, a, b, rfl, rfl, ha, hb, q⟩ := h
    refine ⟨_, pe_call (ok_changes T) (hr.mono (by decide)) rfl T.m_changes T.F_changes.kp (b_changes T) .nil pass0 (pa_cons (pv 1) (pa_cons (pv 0) pa_nil)), ?_⟩
    exact ⟨_, rfl, _, rfl, chg_i ha hb q⟩
theorem ok_nearest (T : Txt K mg) (U : TxtC K mg) (Y : TxtD_HOLDS K w mg T) {c Pt : Addr} (TB : TabB base mg c Pt) (hcd : T.fd_nearest.code = .ref c) : FnOk P w K mg base CX0 9 T.f_nearest T.fd_nearest ["design", "world", "wanted"] (spNear Pt progH) := by
  refine fun_okc T.F_nearest hcd sc_nearest (fun vs H Q E h => ?_) (fun A outer s H vs Q E hr h => ?_)
  · unfold spNear at h
    obtain ⟨dv, wv, d, w, a, ws, rfl, _⟩ := h
    rfl
  · unfold spNear at h
    obtain ⟨dv, wv, d, u, a, ws, rfl, md, mw, hd, hw, W, hT, q0, q1⟩ := h
    have hfree := ndef_free (sc := defScope s_nearest) (nsc := lmScope lamNear) (fr := ["design"]) (by decide +kernel)
    have hfr := ndef_fr (sc := defScope s_nearest) (nsc := lmScope lamNear) (fr := ["design"]) (by decide +kernel)
    refine ⟨_, pss_cons (ps_expr (pe_call (ok_check_design T U) (hr.mono (by decide)) rfl T.m_check_design T.F_check_design.kp (b_check_design T) .nil pass0 (pa_cons (pv 0) pa_nil)))
      (pss_one (ps_ret (pe_callBKs (cr_minKey (k := 2) (fr := ["design"]) (js := [0]) (sp := spLam) (fun f c' => ok_lam T (nmNear 0 0) _ f c') (fun _ => rfl) (fun ok => Caps.made ok hfree hfr rfl) (hr.mono (by decide : 3 ≤ 8)).in1) (by rfl) T.n_min (by decide +kernel)
        (pa_cons (pe_call (ok_keepers T U Y) (hr.mono (by decide)) rfl T.m_keepers T.F_keepers.kp (b_keepers T) .nil pass0 (pa_cons (pv 1) (pa_cons (pv 2) pa_nil))) pa_nil)
        (pk_cons (pe_lamS (le := lamNear) (T := [(Pt, nmNear)]) (nm := nmNear) rfl TB rfl (List.mem_singleton.mpr rfl) rfl (fun p hp _ => by rw [List.mem_singleton.mp hp]) hfree rfl) (pk_cons pe_non pk_nil))))), ?_⟩
    refine ⟨_, rfl, ?_⟩
    refine chd_i (c := cf3 dv wv) hd (cf3_ok md mw) ⟨_, rfl, _, rfl, ?_⟩
    refine keepers_i mw hw W fun p xs H1 n1 e1 h1 t1 => ?_
    refine ⟨hT.ext e1, fun f c' H2 e2 b2 T2 n2 f2 c2 => ?_⟩
    have N2 : NX H H2 := ⟨(ExtN.of e1).trans e2, fun b z => Evl.fresh_back e1 (b2 b z)⟩
    have kx : ∀ {b : Addr} {xs : List V}, H1 b = some (.tup xs) → H2 b = some (.tup xs) := fun z => e2 _ _ z fun ps y => by cases y
    have t2 : TriX H2 xs (keepersF progH wv ws) := Paired.mapP t1 fun _ _ ⟨a, z, y⟩ => ⟨a, z, kx y⟩
    refine ⟨p, f, c', xs, fun i => (chgN dv ((keepersF progH wv ws).getD i default) : Nat), .non, rfl, rfl, SqT.of (kx h1), f2, c2, ?_, ?_, ?_⟩
    · intro i x hx H3 e3 Q' q'
      obtain ⟨t, ta, ht, rfl, hta⟩ := tri_at t2 hx
      have et : (keepersF progH wv ws).getD i default = t := by simp [List.getD, ht]
      refine ⟨dv, t, d, ta, rfl, rfl, e3 _ _ (kx (e1 _ _ hd)), e3 _ _ hta, fun H4 e4 => ?_⟩
      have z := q' H4 e4
      dsimp only at z
      rw [et] at z
      exact z
    · intro hxs H3 e3
      refine q0 ?_ H3 (N2.ex e3)
      have z := t2.length
      rw [hxs] at z
      exact List.length_eq_zero_iff.mp z.symm
    · intro i x H3 hx best e3
      obtain ⟨t, ta, ht, rfl, hta⟩ := tri_at t2 hx
      have et : (keepersF progH wv ws).getD i default = t := by simp [List.getD, ht]
      refine q1 i t ta H3 ⟨ht, fun j t' hj => ?_⟩ (N2.ex e3) (e3 _ _ hta)
      have ej : (keepersF progH wv ws).getD j default = t' := by simp [List.getD, hj]
      have lj : j < xs.length := by
        rw [t2.length]
        exact (List.getElem?_eq_some_iff.mp hj).1
      have z := best j lj
      dsimp only at z
      rw [et, ej] at z
      exact ⟨by omega, fun y => by have := z.2 y; omega⟩
end
end Ca

set_option Elab.async false
set_option linter.all false
set_option maxRecDepth 100000
set_option maxHeartbeats 1000000
namespace Ca
open PySem L2
/-! ### the law's own reckoning and the program's, the same -/
theorem all_same {c : Conf} (O : c.Ok) : ∀ ws : List Pm, ws.all (lH c) = ws.all (progH c)
  | [] => rfl
  | x :: l => by rw [List.all_cons, List.all_cons, same_verdict O x, all_same O l]
theorem keepers_same {w : T3} (mw : w ∈ worlds3) (ws : List Pm) : keepersF lH w ws = keepersF progH w ws :=
  List.filter_congr fun d hd => all_same (cf3_ok hd mw) ws
theorem worlds_same {d : T3} (md : d ∈ designs3) (ws : List Pm) : worldsF lH d ws = worldsF progH d ws :=
  List.filter_congr fun w hw => all_same (cf3_ok md hw) ws
theorem kept_same {c : Conf} (O : c.Ok) : allPm.filter (lH c) = allPm.filter (progH c) :=
  List.filter_congr fun m _ => same_verdict O m
def t3D (t : T3) : PyData := .tuple [.str t.1, .str t.2.1, .str t.2.2]
theorem dt_tri {H : Hp} {n : Nat} {a : Addr} {t : T3} (h : H a = some (tT t)) : Dt H (n + 1) (.ref a) (t3D t) := by
  refine ⟨_, h, (by show 3 ≤ 1000; decide), ?_⟩
  have z : ∀ s : Str, Dt H n (.str s) (.str s) := fun s => by cases n <;> exact rfl
  exact .cons (z _) (.cons (z _) (.cons (z _) .nil))
theorem dt_tris {H : Hp} {p : Addr} {xs : List V} {l : List T3} (h : H p = some (.tup xs)) (n : l.length ≤ 1000) (T : TriX H xs l) : Dt H 2 (.ref p) (.tuple (l.map t3D)) := by
  refine ⟨xs, h, by rw [T.length]; exact n, ?_⟩
  clear h n
  induction T with
  | nil => exact .nil
  | cons r _ ih =>
    obtain ⟨a, rfl, ha⟩ := r
    exact .cons (dt_tri ha) ih
theorem dt_strl {H : Hp} {p : Addr} {l : List Str} (h : H p = some (.tup (l.map V.str))) (n : l.length ≤ 1000) : Dt H 2 (.ref p) (.tuple (l.map PyData.str)) := by
  refine ⟨_, h, by rw [List.length_map]; exact n, ?_⟩
  clear h n
  induction l with
  | nil => exact .nil
  | cons x l ih => exact .cons rfl ih
/-! ### the same words but at one place -/
def rest (t : T3) : Nat → List Str
  | 0 => [t.2.1, t.2.2]
  | 1 => [t.1, t.2.2]
  | _ => [t.1, t.2.1]
def word (t : T3) : Nat → Str
  | 0 => t.1
  | 1 => t.2.1
  | _ => t.2.2
set_option maxHeartbeats 0 in
theorem near_fact : ∀ d ∈ designs3, ∀ k ∈ [0, 1, 2], (designs3.filter fun t => decide (rest t k = rest d k)) = (wordsL k).map (setT d k) := by decide +kernel
theorem word_set {d : T3} {x : Str} : ∀ {k : Nat}, word (setT d k x) k = x
  | 0 => rfl
  | 1 => rfl
  | _ + 2 => rfl
theorem harm_fact {d w : T3} (md : d ∈ designs3) (mw : w ∈ worlds3) {k : Nat} (hk : k ≤ 2) :
    ((designs3.filter fun t => decide (rest t k = rest d k)).filter fun t => (allPm.filter (lH (cf3 d w))).all (lH (cf3 t w))).map (fun t => word t k) = harmlessF progH d w k := by
  have m : k ∈ [0, 1, 2] := by
    simp only [List.mem_cons, List.not_mem_nil, or_false]
    omega
  rw [near_fact d md k m, List.filter_map, List.map_map]
  unfold harmlessF
  have e : ((fun t => word t k) ∘ setT d k) = id := funext fun x => word_set
  rw [e, List.map_id]
  refine List.filter_congr fun x hx => ?_
  show (allPm.filter (lH (cf3 d w))).all (lH (cf3 (setT d k x) w)) = _
  rw [kept_same (cf3_ok md mw), all_same (setT_ok (cf3_ok md mw) hx)]
/-! ### the strongest -/
def lpr (f g : Pm → Bool) : Bool := decide ((allPm.filter g).length > (allPm.filter f).length) && ((allPm.filter f).filter fun m => !g m).isEmpty
theorem lpr_eq (f g : Pm → Bool) : lpr f g = prB f g := by
  unfold lpr prB
  rw [pms_all]
def bestF (w : T3) : List T3 := designs3.filter fun t => !designs3.any fun o => lpr (lH (cf3 t w)) (lH (cf3 o w))
theorem lpr_same {c c' : Conf} (O : c.Ok) (O' : c'.Ok) : lpr (lH c) (lH c') = prB (progH c) (progH c') := by
  have e : ∀ {c : Conf}, c.Ok → lH c = progH c := fun O => funext fun m => same_verdict O m
  rw [e O, e O', lpr_eq]
theorem best_same {w : T3} (mw : w ∈ worlds3) : bestF w = strongF progH w := by
  unfold bestF strongF
  refine List.filter_congr fun t ht => ?_
  congr 1
  rw [Bool.eq_iff_iff, List.any_eq_true, List.any_eq_true]
  refine ⟨fun ⟨o, ho, h⟩ => ⟨o, ho, ?_⟩, fun ⟨o, ho, h⟩ => ⟨o, ho, ?_⟩⟩
  · rw [← lpr_same (cf3_ok ht mw) (cf3_ok ho mw)]
    exact h
  · rw [lpr_same (cf3_ok ht mw) (cf3_ok ho mw)]
    exact h
/-! ### the nearest -/
set_option maxHeartbeats 0 in
theorem designs_asc : designs3.Pairwise fun x y => PySem.W.dataLt (t3D x) (t3D y) = true := by decide +kernel
def rkD (dv t : T3) : PyData := .tuple [.int (chgN dv t : Nat), t3D t]
theorem alike_t3 (x y : T3) : PySem.W.alike (t3D x) (t3D y) = true := by
  simp [t3D, PySem.W.alike, PySem.W.alikeAll]
theorem rk_lt (dv x y : T3) : PySem.W.dataLt (rkD dv x) (rkD dv y) = if chgN dv x = chgN dv y then (if PyData.eqv (t3D x) (t3D y) = true then false else PySem.W.dataLt (t3D x) (t3D y)) else decide (chgN dv x < chgN dv y) := by
  unfold rkD
  rw [PySem.W.dataLt_pair (by simp [PySem.W.alike]) (alike_t3 x y)]
  have e : PyData.eqv (.int (chgN dv x : Nat)) (.int (chgN dv y : Nat)) = decide (chgN dv x = chgN dv y) := by
    simp [PyData.eqv]
    rw [Bool.eq_iff_iff]
    simp
    omega
  rw [e, PySem.W.dataLt_int]
  by_cases h : chgN dv x = chgN dv y
  · rw [if_pos (decide_eq_true h), if_pos h]
  · rw [if_neg (by rw [decide_eq_false h]; decide), if_neg h]
    simp
theorem keepers_pw (g : Conf → Pm → Bool) (w : T3) (ws : List Pm) : (keepersF g w ws).Pairwise fun x y => PySem.W.dataLt (t3D x) (t3D y) = true :=
  designs_asc.sublist List.filter_sublist
theorem eqv_t3 {x y : T3} (h : PyData.eqv (t3D x) (t3D y) = true) : x = y := by
  obtain ⟨a, b, c⟩ := x
  obtain ⟨d, e, f⟩ := y
  simp [t3D, PyData.eqv, PyData.eqvAll] at h
  obtain ⟨h1, h2, h3⟩ := h
  rw [h1, h2, h3]
/-- what min finds is what is first in the sorted list -/
theorem near_first {dv : T3} {ks : List T3} (pw : ks.Pairwise fun x y => PySem.W.dataLt (t3D x) (t3D y) = true) {i j : Nat} {t u : T3} (h : IsNear dv ks i t) (hu : ks[j]? = some u) (first : ∀ (k : Nat) (c : T3), ks[k]? = some c → PySem.W.dataLt (rkD dv c) (rkD dv u) = false) : u = t := by
  obtain ⟨ht, best⟩ := h
  obtain ⟨le, lt⟩ := best j u hu
  have f := first i t ht
  rw [rk_lt] at f
  by_cases ec : chgN dv t = chgN dv u
  · rw [if_pos ec] at f
    by_cases hji : j < i
    · have := lt hji
      omega
    · by_cases e : i = j
      · subst e
        rw [ht] at hu
        exact (Option.some.inj hu).symm
      · have hij : i < j := by omega
        have hj := (List.getElem?_eq_some_iff.mp hu)
        have hi := (List.getElem?_eq_some_iff.mp ht)
        have z := List.pairwise_iff_getElem.mp pw i j hi.1 hj.1 hij
        rw [hi.2, hj.2] at z
        by_cases ee : PyData.eqv (t3D t) (t3D u) = true
        · exact (eqv_t3 ee).symm
        · rw [if_neg ee, z] at f
          cases f
  · rw [if_neg ec] at f
    have f := of_decide_eq_false f
    omega
end Ca
namespace Ca
open PySem L2
/-! ### words, by their places -/
theorem atI_word {t : T3} {k : Nat} (h : k ≤ 2) : atI [V.str t.1, V.str t.2.1, V.str t.2.2] (k : Int) = some (V.str (word t k)) :=
  match k, h with
  | 0, _ => rfl
  | 1, _ => rfl
  | 2, _ => rfl
theorem decS (a b : Str) : decide (V.str a = V.str b) = decide (V.str b = V.str a) := decide_eq_decide.mpr eq_comm
theorem cnt3 (dv t : T3) (v : Nat → V) : (Evl.given 3 (fun i => !decide (V.str (word t i) = V.str (word dv i))) v).length = chgN dv t := by
  unfold Evl.given chgN l3
  rw [List.length_map]
  show ((([0, 1, 2] : List Nat).filter _).length) = (([(dv.1, t.1), (dv.2.1, t.2.1), (dv.2.2, t.2.2)] : List (Str × Str)).filter neP).length
  unfold neP
  simp only [List.filter_cons, List.filter_nil, word]
  rw [decS dv.1, decS dv.2.1, decS dv.2.2]
  cases decide (V.str t.1 = V.str dv.1) <;> cases decide (V.str t.2.1 = V.str dv.2.1) <;> cases decide (V.str t.2.2 = V.str dv.2.2) <;> rfl
theorem rest_shaped : ∀ t ∈ designs3, ∀ k ∈ [0, 1, 2], SeqAt.shaped (.tuple ((rest t k).map PyData.str)) = true := by decide +kernel
theorem rest_eqv (t u : T3) (k : Nat) : PyData.eqv (.tuple ((rest t k).map PyData.str)) (.tuple ((rest u k).map PyData.str)) = decide (rest t k = rest u k) := by
  rw [Bool.eq_iff_iff]
  match k with
  | 0 => simp [rest, PyData.eqv, PyData.eqvAll]
  | 1 => simp [rest, PyData.eqv, PyData.eqvAll]
  | k + 2 => simp [rest, PyData.eqv, PyData.eqvAll]
theorem rest_dp {K : PySem.W.Frag} {H : Hp} (t : T3) (k : Nat) : DpAll K H ((rest t k).map V.str) ((rest t k).map PyData.str) :=
  match k with
  | 0 => .cons (.str _) (.cons (.str _) .nil)
  | 1 => .cons (.str _) (.cons (.str _) .nil)
  | _ + 2 => .cons (.str _) (.cons (.str _) .nil)
theorem in012 {k : Nat} (h : k ≤ 2) : k ∈ [0, 1, 2] := by
  simp only [List.mem_cons, List.not_mem_nil, or_false]
  omega
/-- all but the word at a place, as a new tuple -/
theorem eu_rest {K : PySem.W.Frag} {σ : L2.St} {H : Hp} {i j : Nat} {d : Addr} {t : T3} {k : Nat} (hi : σ[i]? = some (some (.ref d))) (hj : σ[j]? = some (some (.int (k : Int)))) (hk : k ≤ 2) (hd : H d = some (tT t)) :
    Evl.EvU (tOp (rCatA K) (tSl (rSlA K) (tVar i) tNoPart (tPart (tVar j))) (tSl (rSlA K) (tVar i) (tPart (tOp (rI0 fun i j => V.int (i + j)) (tVar j) (tC (.int 1)))) tNoPart)) σ H ((rest t k).map V.str) := by
  intro H1 e1 Q q
  obtain ⟨t1, t2, t3⟩ := t
  have h3 : SqT K H1 d [.str t1, .str t2, .str t3] := SqT.of (e1 _ _ hd)
  match k, hk, hj with
  | 0, _, hj =>
    refine ⟨_, hi, _, hj, _, rfl, ?_⟩
    refine ⟨d, _, rfl, h3, fun z => absurd z (show ¬(HT.sIx 3 0 none = 0 ∧ HT.sIx 3 3 (some ((0 : Nat) : Int)) = 3) by decide), fun _ p1 n1 => ?_⟩
    have f1 := Evl.Ex.new (o := .tup (cutV [.str t1, .str t2, .str t3] none (some ((0 : Nat) : Int)))) n1
    refine ⟨_, hi, _, hj, _, _, rfl, rfl, _, rfl, ?_⟩
    refine ⟨d, _, rfl, Evl.ex_t f1 h3, fun z => absurd z (show ¬(HT.sIx 3 0 (some (((0 : Nat) : Int) + 1)) = 0 ∧ HT.sIx 3 3 none = 3) by decide), fun _ p2 n2 => ?_⟩
    have f2 := Evl.Ex.new (o := .tup (cutV [.str t1, .str t2, .str t3] (some (((0 : Nat) : Int) + 1)) none)) n2
    exact ⟨p1, p2, [], [.str t2, .str t3], rfl, rfl, SqT.of (f2 _ _ upd_same), SqT.of upd_same, (show 0 + 2 ≤ sizeLine by decide), (fun _ => q p2 _ (Evl.fresh_back f1 n2) (f1.trans f2) upd_same), (fun z => absurd rfl z), (fun z => absurd rfl z)⟩
  | 1, _, hj =>
    refine ⟨_, hi, _, hj, _, rfl, ?_⟩
    refine ⟨d, _, rfl, h3, fun z => absurd z (show ¬(HT.sIx 3 0 none = 0 ∧ HT.sIx 3 3 (some ((1 : Nat) : Int)) = 3) by decide), fun _ p1 n1 => ?_⟩
    have f1 := Evl.Ex.new (o := .tup (cutV [.str t1, .str t2, .str t3] none (some ((1 : Nat) : Int)))) n1
    refine ⟨_, hi, _, hj, _, _, rfl, rfl, _, rfl, ?_⟩
    refine ⟨d, _, rfl, Evl.ex_t f1 h3, fun z => absurd z (show ¬(HT.sIx 3 0 (some (((1 : Nat) : Int) + 1)) = 0 ∧ HT.sIx 3 3 none = 3) by decide), fun _ p2 n2 => ?_⟩
    have f2 := Evl.Ex.new (o := .tup (cutV [.str t1, .str t2, .str t3] (some (((1 : Nat) : Int) + 1)) none)) n2
    refine ⟨p1, p2, [.str t1], [.str t3], rfl, rfl, SqT.of (f2 _ _ upd_same), SqT.of upd_same, (show 1 + 1 ≤ sizeLine by decide), (fun z => absurd z (by simp)), (fun _ z => absurd z (by simp)), fun _ _ p4 n4 => ?_⟩
    have f4 := Evl.Ex.new (o := .tup ([.str t1] ++ [.str t3])) n4
    exact q p4 _ (Evl.fresh_back (f1.trans f2) n4) ((f1.trans f2).trans f4) upd_same
  | 2, _, hj =>
    refine ⟨_, hi, _, hj, _, rfl, ?_⟩
    refine ⟨d, _, rfl, h3, fun z => absurd z (show ¬(HT.sIx 3 0 none = 0 ∧ HT.sIx 3 3 (some ((2 : Nat) : Int)) = 3) by decide), fun _ p1 n1 => ?_⟩
    have f1 := Evl.Ex.new (o := .tup (cutV [.str t1, .str t2, .str t3] none (some ((2 : Nat) : Int)))) n1
    refine ⟨_, hi, _, hj, _, _, rfl, rfl, _, rfl, ?_⟩
    refine ⟨d, _, rfl, Evl.ex_t f1 h3, fun z => absurd z (show ¬(HT.sIx 3 0 (some (((2 : Nat) : Int) + 1)) = 0 ∧ HT.sIx 3 3 none = 3) by decide), fun _ p2 n2 => ?_⟩
    have f2 := Evl.Ex.new (o := .tup (cutV [.str t1, .str t2, .str t3] (some (((2 : Nat) : Int) + 1)) none)) n2
    refine ⟨p1, p2, [.str t1, .str t2], [], rfl, rfl, SqT.of (f2 _ _ upd_same), SqT.of upd_same, (show 2 + 0 ≤ sizeLine by decide), (fun z => absurd z (by simp)), (fun _ _ => q p1 _ n1 (f1.trans f2) (f2 _ _ upd_same)), (fun _ z => absurd rfl z)⟩
/-- the law's pairs, how much a design differs and the design -/
abbrev RkX (dv : T3) (H : Hp) (xs : List V) (l : List T3) : Prop := Paired (fun x t => ∃ a da, x = V.ref a ∧ H a = some (.tup [.int (chgN dv t : Nat), .ref da]) ∧ H da = some (tT t)) xs l
theorem RkX.ex {dv : T3} {H H' : Hp} {xs : List V} {l : List T3} (h : RkX dv H xs l) (e : ∀ b o, H b = some (.tup o) → H' b = some (.tup o)) : RkX dv H' xs l := Paired.mapP h fun _ _ ⟨a, d, z, y, w⟩ => ⟨a, d, z, e _ _ y, e _ _ w⟩
theorem rk_dp {K : PySem.W.Frag} {dv : T3} {H : Hp} {xs : List V} {l : List T3} (h : RkX dv H xs l) : DpAll K H xs (l.map (rkD dv)) := by
  induction h with
  | nil => exact .nil
  | cons r _ ih =>
    obtain ⟨a, da, rfl, h1, h2⟩ := r
    exact .cons (.tup (SqT.of h1) (.cons (.int _) (.cons (.tup (SqT.of h2) (.cons (.str _) (.cons (.str _) (.cons (.str _) .nil)))) .nil))) ih
theorem rk_alike (dv : T3) (l : List T3) : PySem.W.AllAlike (l.map (rkD dv)) := PySem.W.AllAlike.of fun x y => by
  unfold rkD
  simp [PySem.W.alike, PySem.W.alikeAll, alike_t3]
theorem rk_sortable (dv : T3) (l : List T3) : PySem.W.Sortable (l.map (rkD dv)) := PySem.W.Sortable.tuples fun x => ⟨_, _, rfl⟩
theorem rk_depth (dv : T3) (l : List T3) : ∀ d ∈ l.map (rkD dv), d.depth ≤ 60 := fun d hd => by
  obtain ⟨t, _, rfl⟩ := List.mem_map.mp hd
  show 2 ≤ 60
  decide
/-- what stands first in the sorted list -/
theorem rk_head {dv : T3} {H : Hp} {xs : List V} {l : List T3} (h : RkX dv H xs l) {b : V × PyData} {r : List (V × PyData)} (e : (xs.zip (l.map (rkD dv))).mergeSort leD = b :: r) :
    ∃ (k : Nat) (u : T3) (a da : Addr), l[k]? = some u ∧ b.1 = .ref a ∧ H a = some (.tup [.int (chgN dv u : Nat), .ref da]) ∧ H da = some (tT u) ∧ ∀ (k : Nat) (c : T3), l[k]? = some c → PySem.W.dataLt (rkD dv c) (rkD dv u) = false := by
  obtain ⟨mb, least⟩ := leD_head e
  obtain ⟨k, hk⟩ := List.mem_iff_getElem?.mp mb
  rw [List.getElem?_zip_eq_some] at hk
  obtain ⟨h1, h2⟩ := hk
  obtain ⟨u, hu, a, da, ea, ha, hda⟩ := pget h h1
  rw [List.getElem?_map, hu] at h2
  have e2 : rkD dv u = b.2 := Option.some.inj h2
  refine ⟨k, u, a, da, hu, ea, ha, hda, fun k' c hc => ?_⟩
  have lt : k' < xs.length := by
    rw [h.length]
    exact (List.getElem?_eq_some_iff.mp hc).1
  have m : (xs[k'], rkD dv c) ∈ xs.zip (l.map (rkD dv)) := by
    refine List.mem_iff_getElem?.mpr ⟨k', ?_⟩
    rw [List.getElem?_zip_eq_some]
    refine ⟨List.getElem?_eq_getElem lt, ?_⟩
    rw [List.getElem?_map, hc]
    rfl
  have z := least _ m
  rw [← e2] at z
  exact z
end Ca
namespace Ca
open PySem L2
/-! ### the law's pairs of a design and what it keeps -/
abbrev SmX (wv : T3) (H : Hp) (xs : List V) (l : List T3) : Prop := Paired (fun x t => ∃ a da ka, x = V.ref a ∧ H a = some (.tup [.ref da, .ref ka]) ∧ H da = some (tT t) ∧ H ka = some (.lst ((allPm.filter (lH (cf3 t wv))).map pmV))) xs l
theorem SmX.ex {wv : T3} {H H' : Hp} {xs : List V} {l : List T3} (h : SmX wv H xs l) (e : Evl.Ex H H') : SmX wv H' xs l := Paired.mapP h fun _ _ ⟨a, d, k, z, y, w, u⟩ => ⟨a, d, k, z, e _ _ y, e _ _ w, e _ _ u⟩
theorem ev_lenK {K : PySem.W.Frag} {ta : TE} {σ : L2.St} {H : Hp} {p : Addr} {xs : List V} (ha : Evl.Ev ta σ H (.ref p)) (h : SqL K H p xs) : Evl.Ev (tCB (lenK K) (tCons ta tNil)) σ H (.int (xs.length : Int)) := fun H1 e Q q =>
  ha H1 e _ fun H2 e2 => ⟨p, xs, rfl, Or.inl (Evl.ex_l (e.trans e2) h), q H2 e2⟩
theorem filter_isEmpty {α : Type} (F : α → Bool) : ∀ l : List α, (l.filter F).isEmpty = !l.any F
  | [] => rfl
  | x :: l => by
    rw [List.filter_cons, List.any_cons]
    cases F x with
    | true => rfl
    | false => exact filter_isEmpty F l
theorem given_isEmpty {α : Type} [Inhabited α] (l : List α) (F : α → Bool) (c : V) : (Evl.given l.length (fun i => F (l.getD i default)) (fun _ => c)).isEmpty = !l.any F := by
  have z := given_map l F (fun _ => c)
  have z : Evl.given l.length (fun i => F (l.getD i default)) (fun _ => c) = (l.filter F).map fun _ => c := z
  rw [z, List.isEmpty_map, filter_isEmpty]
/-- len(more) > len(own) and [word for word in own if word not in more] == [] -/
theorem et_lpr {K : PySem.W.Frag} {σ : L2.St} {H : Hp} {oa ma : Addr} {f g : Pm → Bool} (h13 : σ[13]? = some (some (.ref oa))) (h16 : σ[16]? = some (some (.ref ma))) (w13 : ∀ x : V, ((wipe σ [17]).set 17 (some x))[16]? = some (some (.ref ma))) (w17 : ∀ x : V, ((wipe σ [17]).set 17 (some x))[17]? = some (some x)) (hw : ∀ x : V, wipe ((wipe σ [17]).set 17 (some x)) [17] = wipe σ [17])
    (ho : H oa = some (.lst ((allPm.filter f).map pmV))) (hm : H ma = some (.lst ((allPm.filter g).map pmV))) :
    Evl.EvT (tAnd (tTest (tOp (rI0 fun i j => .bl (decide (j < i))) (tCB (lenK K) (tCons (tVar 16) tNil)) (tCB (lenK K) (tCons (tVar 13) tNil)))) (tTest (tOp (rNil K false) (tLc (iList K (tVar 13)) (gName 17) (tTest (tOp (rIn K true) (tVar 17) (tVar 16))) (tVar 17) [17]) (tLst tNil)))) σ H (lpr f g) := by
  refine Evl.et_is (Evl.et_and (b := ((allPm.filter f).filter fun m => !g m).isEmpty) (Evl.et_test (Evl.ev_op (ev_lenK (Evl.ev_var h16) (SqL.of hm)) (ev_lenK (Evl.ev_var h13) (SqL.of ho)) Evl.rv_I0)) (fun _ => Evl.et_test ?_)) ?_
  · have L := Evl.el_lcL (K := K) (t := tTest (tOp (rIn K true) (tVar 17) (tVar 16))) (te := tVar 17) (j := 17) (vs := [17]) (σ := σ) (H := H) (fun i => !g ((allPm.filter f).getD i default)) (fun i => pmV ((allPm.filter f).getD i default)) (Evl.ev_var h13) (SqL.of ho) (by rw [List.length_map]; exact Nat.le_trans (List.length_filter_le _ _) (by decide)) hw (fun i x H1 e1 hi => by
      obtain ⟨m, hm', rfl⟩ := pms_at hi
      have ed : (allPm.filter f).getD i default = m := by simp only [List.getD, hm', Option.getD_some]
      rw [ed]
      refine Evl.et_is (Evl.et_test (Evl.ev_op (Evl.ev_var (w17 _)) (Evl.ev_var (w13 _)) (Evl.rv_niL (SqL.of (e1 _ _ hm)) rfl (flat_pms _)))) ?_
      rw [in_pms]) (fun i x H1 e1 hi _ => by
      obtain ⟨m, hm', rfl⟩ := pms_at hi
      have ed : (allPm.filter f).getD i default = m := by simp only [List.getD, hm', Option.getD_some]
      rw [ed]
      exact Evl.ev_var (w17 _))
    have gm := given_map (allPm.filter f) (fun m => !g m) pmV
    rw [List.length_map, gm] at L
    refine Evl.ev_is (Evl.ev_opLL (z := V.bl ((((allPm.filter f).filter fun m => !g m).map pmV).isEmpty != false)) L (Evl.el_lst Evl.ea_nil (by decide)) fun p q H1 hp hq e1 H2 e2 Q qq => ?_) ?_
    · exact ⟨p, q, _, rfl, rfl, SqL.of (e2 _ _ hp), SqL.of (e2 _ _ hq), qq _ (Evl.Ex.refl _)⟩
    · rw [Bool.bne_false, List.isEmpty_map]
  · unfold lpr
    congr 1
    rw [List.length_map, List.length_map]
    simp
end Ca

set_option Elab.async false
set_option linter.all false
set_option maxRecDepth 100000
set_option maxHeartbeats 4000000
namespace Ca
open PySem L2 LamX NdefX
theorem Keep.tup {K : PySem.W.Frag} {H0 H H' : Hp} {a r t : Addr} {xs : List V} (R : RowAt K H0 a r H) (k : Keep (fun b => b = r) H H') (h : H t = some (.tup xs)) : H' t = some (.tup xs) := k _ _ h fun z => by
  obtain ⟨o, e, i, x, y, eo, _⟩ := R.at_
  rw [z, e, eo] at h
  cases h
theorem RowAt.ex' {K : PySem.W.Frag} {H0 H H' : Hp} {a r : Addr} (R : RowAt K H0 a r H) (S : Evl.Ex H H') : RowAt K H0 a r H' := R.keep (F := fun _ => False) (fun b o e _ => S b o e) (fun _ z => z.elim) id
theorem atI_head {x : V} {xs : List V} : atI (x :: xs) 0 = some x := by
  simp [atI, ixN]
theorem len_at {K : PySem.W.Frag} {σ : L2.St} {H : Hp} {t dv : T3} {da d : Addr} (h12 : ∀ x : V, ((wipe σ [14]).set 14 (some x))[12]? = some (some (.ref da))) (h2 : ∀ x : V, ((wipe σ [14]).set 14 (some x))[2]? = some (some (.ref d))) (h14 : ∀ x : V, ((wipe σ [14]).set 14 (some x))[14]? = some (some x)) (hw : ∀ x : V, wipe ((wipe σ [14]).set 14 (some x)) [14] = wipe σ [14]) (hda : H da = some (tT t)) (hd : H d = some (tT dv)) :
    Evl.Ev (tCB (lenK K) (tCons (tLc (iRng1 (tCons (tC (V.int 3)) tNil)) (gName 14) (tTest (tOp rNe (tOp (rIxT K) (tVar 12) (tVar 14)) (tOp (rIxT K) (tVar 2) (tVar 14)))) (tVar 14) [14]) tNil)) σ H (.int (chgN dv t : Nat)) := by
  intro H1 e1 Q q
  show tLc (iRng1 (tCons (tC (V.int 3)) tNil)) (gName 14) (tTest (tOp rNe (tOp (rIxT K) (tVar 12) (tVar 14)) (tOp (rIxT K) (tVar 2) (tVar 14)))) (tVar 14) [14] σ H1 (fun x H2 => lenK K [x] H2 Q)
  refine (Evl.el_lcR1 (n := 3) (fun i => !decide (V.str (word t i) = V.str (word dv i))) (fun i => .int (i : Int)) (Evl.ea_cons Evl.ev_c Evl.ea_nil) (by decide) hw (fun i H2 e2 hi => ?_) (fun i H2 e2 hi _ => Evl.ev_var (h14 _))) H1 (Evl.Ex.refl _) _ fun lp' H19 nlp e19 hlp => ⟨_, _, rfl, .inl (SqL.of hlp), ?_⟩
  · have hk : i ≤ 2 := by omega
    exact Evl.et_test (Evl.ev_op (Evl.ev_op (Evl.ev_var (h12 _)) (Evl.ev_var (h14 _)) (Evl.rv_ixT (SqT.of (e2 _ _ (e1 _ _ hda))) (atI_word hk))) (Evl.ev_op (Evl.ev_var (h2 _)) (Evl.ev_var (h14 _)) (Evl.rv_ixT (SqT.of (e2 _ _ (e1 _ _ hd))) (atI_word hk))) (Evl.rv_ne rfl))
  · rw [show (3 : Int).toNat = 3 from rfl, cnt3]
    exact q H19 e19
/-- the script alone, without the tables -/
theorem law_ground {K : PySem.W.Frag} {H : Hp} {a : Addr} {xs : List V} (h : SqL K H a xs) : ∃ H0, Evl.Ex H0 H ∧ SqL K H0 a xs ∧ ∀ b ps, H0 b ≠ some (.tbl ps) := by
  rcases h with (h | ⟨o, h⟩) | h
  · refine ⟨fun b => if b = a then some (.lst xs) else none, fun b o e => ?_, .inl (.inl (if_pos rfl)), fun b ps e => ?_⟩
    · by_cases z : b = a
      · have e : (if b = a then some (HO.lst xs) else none) = some o := e
        rw [if_pos z] at e
        rw [z, h, ← e]
      · have e : (if b = a then some (HO.lst xs) else none) = some o := e
        rw [if_neg z] at e
        cases e
    · have e : (if b = a then some (HO.lst xs) else none) = some (.tbl ps) := e
      by_cases z : b = a
      · rw [if_pos z] at e
        cases e
      · rw [if_neg z] at e
        cases e
  · refine ⟨fun b => if b = a then some (.frz o (.lst xs)) else none, fun b u e => ?_, .inl (.inr ⟨o, if_pos rfl⟩), fun b ps e => ?_⟩
    · by_cases z : b = a
      · have e : (if b = a then some (HO.frz o (.lst xs)) else none) = some u := e
        rw [if_pos z] at e
        rw [z, h, ← e]
      · have e : (if b = a then some (HO.frz o (.lst xs)) else none) = some u := e
        rw [if_neg z] at e
        cases e
    · have e : (if b = a then some (HO.frz o (.lst xs)) else none) = some (.tbl ps) := e
      by_cases z : b = a
      · rw [if_pos z] at e
        cases e
      · rw [if_neg z] at e
        cases e
  · exact ⟨fun _ => none, (fun b o e => nomatch e), .inr h, (fun b ps e => nomatch e)⟩
theorem RowAt.nx {K : PySem.W.Frag} {H0 H H' : Hp} {a r : Addr} (R : RowAt K H0 a r H) (n0 : ∀ b ps, H0 b ≠ some (.tbl ps)) (n : NX H H') : RowAt K H0 a r H' := by
  obtain ⟨o, e, i, x, y, eo, z⟩ := R.at_
  refine ⟨R.ex, R.no, fun b u hb => n.1 _ _ (R.sm _ _ hb) fun ps q => n0 b ps (by rw [hb, q]), o, ?_, i, x, y, eo, z⟩
  exact n.1 _ _ e fun ps q => by rw [eo] at q; cases q
@[irreducible] def spLawT (K : PySem.W.Frag) (Pt : Addr) : Sp := fun vs H Q _ => ∃ (a : Addr) (ns : List Int), vs = [.ref a] ∧ SqL K H a (ns.map V.int) ∧ H Pt = some (.tbl #[]) ∧ ∀ H', Q (.bl true) H'
@[irreducible] def spKept (g : Conf → Pm → Bool) : Sp := fun vs H Q _ => ∃ (c : Conf) (d w : Addr), vs = [.ref d, .ref w] ∧ H d = some (dT c) ∧ H w = some (wT c) ∧ c.Ok ∧ ∀ p H', H p = none → Evl.Ex H H' → H' p = some (.lst ((allPm.filter (g c)).map pmV)) → Q (.ref p) H'
theorem kept_i {g : Conf → Pm → Bool} {c : Conf} {d w : Addr} {H : Hp} {Q : VK} {E : XK} (hd : H d = some (dT c)) (hw : H w = some (wT c)) (O : c.Ok) (q : ∀ p H', H p = none → Evl.Ex H H' → H' p = some (.lst ((allPm.filter (g c)).map pmV)) → Q (.ref p) H') : spKept g [.ref d, .ref w] H Q E := by
  unfold spKept
  exact ⟨c, d, w, rfl, hd, hw, O, q⟩
section
variable {P : Program} {w : World} {K : PySem.W.Frag} {mg : Str → Option Value} {base : Heap}
theorem ok_Lkept (T : Txt K mg) : FnOk P w K mg base CX0 2 T.f_Lkept T.fd_Lkept ["design", "world"] (spKept lH) := by
  refine T.F_Lkept.ok sc_Lkept (fun vs H Q E h => ?_) (fun cdv A outer s H vs Q E hr h => ?_)
  · unfold spKept at h
    obtain ⟨c, d, w, rfl, _⟩ := h
    rfl
  · unfold spKept at h
    obtain ⟨c, d, u, rfl, hd, hw, O, q⟩ := h
    refine ⟨_, (pss_one (ps_ret (pe_lc (own := [("one", 2)]) rfl sc_Lkept.nd (pi_list (pe_call0 (ok_Lpromises T) (hr.mono (by decide)) rfl T.m_Lpromises T.F_Lpromises.kp (b_Lpromises T) .nil pass0)) (blkOk_by (N := ["design", "world", "one"]) (sc := defScope s_Lkept) (by decide +kernel)) (fun _ _ _ _ _ => (pg_name (i := 2) sc_Lkept.nd rfl (Or.inl rfl))) (fun _ _ _ _ _ => (pts_one (pt_val (pe_call (ok_Lholds T) (hr.mono (by decide)) rfl T.m_Lholds T.F_Lholds.kp (b_Lholds T) .nil pass0 (pa_cons (pv 0) (pa_cons (pv 1) (pa_cons (pv 2) pa_nil))))))) (fun _ _ _ _ _ => (pv 2))))), ?_⟩
    refine proms_i fun p0 np0 => ?_
    have e0 := Evl.Ex.new (o := .lst (allPm.map pmV)) np0
    have hp0 : (upd H p0 (.lst (allPm.map pmV))) p0 = some (.lst (allPm.map pmV)) := upd_same
    refine ⟨p0, rfl, ⟨_, SqL.of hp0⟩, fun D nD => lcP (lH c) nD (SqL.of hp0) rfl (fun x => rfl) (fun m => ?_) (fun m => Evl.ev_var rfl) fun H' e' hD => q D H' (Evl.fresh_back e0 nD) (e0.trans e') hD⟩
    refine Evl.et_B (Evl.ev_call (Evl.ea_cons (Evl.ev_var rfl) (Evl.ea_cons (Evl.ev_var rfl) (Evl.ea_cons (Evl.ev_var rfl) Evl.ea_nil))) fun H2 e2 Q2 q2 E2 => ?_)
    exact dwp_i (e2 _ _ (e0 _ _ hd)) (e2 _ _ (e0 _ _ hw)) O q2
theorem ok_law (T : Txt K mg) (U : TxtC K mg) (Y : TxtD_HOLDS K w mg T) {c Pt : Addr} (TB : TabB base mg c Pt) (hcd : T.fd_nearest.code = .ref c) : FnOk P w K mg base CX0 10 T.f_law T.fd_law ["script"] (spLawT K Pt) := by
  refine T.F_law.ok sc_law (fun vs H Q E h => ?_) (fun cdv A outer s H vs Q E hr h => ?_)
  · unfold spLawT at h
    obtain ⟨a, ns, rfl, _⟩ := h
    rfl
  · unfold spLawT at h
    obtain ⟨a, ns, rfl, hs0, hPt, q⟩ := h
    obtain ⟨H0, x0, hs, n0⟩ := law_ground hs0
    have hu := hu_of hr
    refine ⟨_, (pss_cons (ps_set (i := 1) sc_law.nd rfl (Or.inl rfl) (pe_lst (pa_cons (pv 0) (pa_cons pe_int (pa_cons pe_int (pa_cons pe_int pa_nil))))))
      (pss_cons (ps_asg (pe_tup (pa_cons (pe_call (ok_Lpick T) (hr.mono (by decide)) rfl T.m_Lpick T.F_Lpick.kp (b_Lpick T) .nil pass0 (pa_cons (pv 1) (pa_cons (pe_call0 (ok_Ldesigns T) (hr.mono (by decide)) rfl T.m_Ldesigns T.F_Ldesigns.kp (b_Ldesigns T) .nil pass0) pa_nil))) (pa_cons (pe_call (ok_Lpick T) (hr.mono (by decide)) rfl T.m_Lpick T.F_Lpick.kp (b_Lpick T) .nil pass0 (pa_cons (pv 1) (pa_cons (pe_call0 (ok_Lworlds T) (hr.mono (by decide)) rfl T.m_Lworlds T.F_Lworlds.kp (b_Lworlds T) .nil pass0) pa_nil))) (pa_cons (pe_call (ok_Lwords T) (hr.mono (by decide)) rfl T.m_Lwords T.F_Lwords.kp (b_Lwords T) .nil pass0 (pa_cons (pv 1) (pa_cons pe_int pa_nil))) pa_nil)))) (pg_tup rfl (pgs_cons (pg_name (i := 2) sc_law.nd rfl (Or.inr rfl)) (pgs_cons (pg_name (i := 3) sc_law.nd rfl (Or.inr rfl)) (pgs_cons (pg_name (i := 4) sc_law.nd rfl (Or.inr rfl)) pgs_nil)))))
      (pss_cons (ps_setLc (i := 5) (own := [("one", 12)]) rfl sc_law.nd rfl rfl (sw_true rfl rfl rfl (by decide +kernel)) (pi_list (pe_call0 (ok_Ldesigns T) (hr.mono (by decide)) rfl T.m_Ldesigns T.F_Ldesigns.kp (b_Ldesigns T) .nil pass0)) (blkOk_by (N := ["script", "row", "design", "world", "wanted", "due", "ranked", "place", "kept", "near", "some", "best", "one", "own", "at", "other", "more", "word"]) (sc := defScope s_law) (by decide +kernel)) (fun _ _ _ _ _ => (pg_name (i := 12) sc_law.nd rfl (Or.inl rfl))) (fun _ _ _ _ _ => (pts_one (pt_val (pe_call (ok_Lkeeps T) (hr.mono (by decide)) rfl T.m_Lkeeps T.F_Lkeeps.kp (b_Lkeeps T) .nil pass0 (pa_cons (pv 12) (pa_cons (pv 3) (pa_cons (pv 4) pa_nil))))))) (fun _ _ _ _ _ => (pv 12)))
      (pss_cons (ps_if (pt_not (pt_val (pe_call (ok_alike 2 T) (hr.mono (by decide)) rfl T.m_Lalike T.F_Lalike.kp (b_Lalike T) .nil pass0 (pa_cons (pe_call (ok_keepers T U Y) (hr.mono (by decide)) rfl T.m_keepers T.F_keepers.kp (b_keepers T) .nil pass0 (pa_cons (pv 3) (pa_cons (pv 4) pa_nil))) (pa_cons (pe_callTy call_tuple_of (by rfl) T.n_tuple (by decide +kernel) (pa_cons (pv 5) pa_nil)) pa_nil))))) (pss_one (ps_ret pe_bl)) pss_nil)
      (pss_cons (ps_if (pt_not (pt_val (pe_call (ok_alike 2 T) (hr.mono (by decide)) rfl T.m_Lalike T.F_Lalike.kp (b_Lalike T) .nil pass0 (pa_cons (pe_call (ok_worlds_for T U Y) (hr.mono (by decide)) rfl T.m_worlds_for T.F_worlds_for.kp (b_worlds_for T) .nil pass0 (pa_cons (pv 2) (pa_cons (pv 4) pa_nil))) (pa_cons (pe_callTy call_tuple_of (by rfl) T.n_tuple (by decide +kernel) (pa_cons (pe_lc (own := [("one", 12)]) rfl sc_law.nd (pi_list (pe_call0 (ok_Lworlds T) (hr.mono (by decide)) rfl T.m_Lworlds T.F_Lworlds.kp (b_Lworlds T) .nil pass0)) (blkOk_by (N := ["script", "row", "design", "world", "wanted", "due", "ranked", "place", "kept", "near", "some", "best", "one", "own", "at", "other", "more", "word"]) (sc := defScope s_law) (by decide +kernel)) (fun _ _ _ _ _ => (pg_name (i := 12) sc_law.nd rfl (Or.inl rfl))) (fun _ _ _ _ _ => (pts_one (pt_val (pe_call (ok_Lkeeps T) (hr.mono (by decide)) rfl T.m_Lkeeps T.F_Lkeeps.kp (b_Lkeeps T) .nil pass0 (pa_cons (pv 2) (pa_cons (pv 12) (pa_cons (pv 4) pa_nil))))))) (fun _ _ _ _ _ => (pv 12))) pa_nil)) pa_nil))))) (pss_one (ps_ret pe_bl)) pss_nil)
      (pss_cons (ps_set (i := 6) sc_law.nd rfl (Or.inl rfl) (pe_callB (cr_sortedD (un70 hr)) (by rfl) T.n_sorted (by decide +kernel) (pa_cons (pe_lc (own := [("one", 12)]) rfl sc_law.nd (pi_list (pv 5)) (blkOk_by (N := ["script", "row", "design", "world", "wanted", "due", "ranked", "place", "kept", "near", "some", "best", "one", "own", "at", "other", "more", "word"]) (sc := defScope s_law) (by decide +kernel)) (fun _ _ _ _ _ => (pg_name (i := 12) sc_law.nd rfl (Or.inr rfl))) (fun _ _ _ _ _ => pts_nil) (fun _ _ _ _ _ => (pe_tup (pa_cons (pe_callB (len_seqK (K := K) rfl) (by rfl) T.n_len (by decide +kernel) (pa_cons (pe_lc (own := [("at", 14)]) rfl sc_law.nd (pi_range1 rfl T.n_range (pa_cons pe_int pa_nil)) (blkOk_by (by kernel_rfl)) (fun _ _ _ _ _ => (pg_name (i := 14) sc_law.nd rfl (Or.inl rfl))) (fun _ _ _ _ _ => (pts_one (pt_cmpR op_ne (pe_ix (ix_tupK (K := K) rfl) (pv 12) (pv 14) (fun _ _ => rfl)) (pe_ix (ix_tupK (K := K) rfl) (pv 2) (pv 14) (fun _ _ => rfl)) (nomark _)))) (fun _ _ _ _ _ => (pv 14))) pa_nil)) (pa_cons (pv 12) pa_nil))))) pa_nil)))
      (Evl.pss_cut (ps_if (pt_not (pt_val (pe_call (ok_alike 2 T) (hr.mono (by decide)) rfl T.m_Lalike T.F_Lalike.kp (b_Lalike T) .nil pass0 (pa_cons (pe_call (ok_nearest T U Y TB hcd) (hr.mono (by decide)) rfl T.m_nearest T.F_nearest.kp (b_nearest T) .nil pass0 (pa_cons (pv 2) (pa_cons (pv 3) (pa_cons (pv 4) pa_nil)))) (pa_cons (pe_ifExp (pt_cmpR (op_neNil (unA hr)) (pv 6) (pe_lst pa_nil) (nomark _)) (pe_ix ix_tup (pe_ix ix_list (pv 6) pe_int (fun _ _ => rfl)) pe_int (fun _ _ => rfl)) pe_non) pa_nil))))) (pss_one (ps_ret pe_bl)) pss_nil)
      (pss_cons (ps_set (i := 7) sc_law.nd rfl (Or.inr rfl) (pe_call (ok_Ltaken T) (hr.mono (by decide)) rfl T.m_Ltaken T.F_Ltaken.kp (b_Ltaken T) .nil pass0 (pa_cons (pv 1) (pa_cons pe_int pa_nil))))
      (pss_cons (ps_set (i := 8) sc_law.nd rfl (Or.inr rfl) (pe_call (ok_Lkept T) (hr.mono (by decide)) rfl T.m_Lkept T.F_Lkept.kp (b_Lkept T) .nil pass0 (pa_cons (pv 2) (pa_cons (pv 3) pa_nil))))
      (pss_cons (ps_setLc (i := 9) (own := [("one", 12)]) rfl sc_law.nd rfl rfl (sw_true rfl rfl rfl (by decide +kernel)) (pi_list (pe_call0 (ok_Ldesigns T) (hr.mono (by decide)) rfl T.m_Ldesigns T.F_Ldesigns.kp (b_Ldesigns T) .nil pass0)) (blkOk_by (N := ["script", "row", "design", "world", "wanted", "due", "ranked", "place", "kept", "near", "some", "best", "one", "own", "at", "other", "more", "word"]) (sc := defScope s_law) (by decide +kernel)) (fun _ _ _ _ _ => (pg_name (i := 12) sc_law.nd rfl (Or.inl rfl))) (fun _ _ _ _ _ => (pts_one (pt_cmpR (op_eqD_K (K := K) rfl hr.units) (pe_op (op_catA_K (K := K) rfl) (pe_slice (sl_tupA_K (K := K) rfl) (pv 12) po_none (po_some (pv 7))) (pe_slice (sl_tupA_K (K := K) rfl) (pv 12) (po_some (pe_op op_add (pv 7) pe_int)) po_none)) (pe_op (op_catA_K (K := K) rfl) (pe_slice (sl_tupA_K (K := K) rfl) (pv 2) po_none (po_some (pv 7))) (pe_slice (sl_tupA_K (K := K) rfl) (pv 2) (po_some (pe_op op_add (pv 7) pe_int)) po_none)) (nomark _)))) (fun _ _ _ _ _ => (pv 12)))
      (Evl.pss_cut (ps_if (pt_not (pt_val (pe_call (ok_alike 2 T) (hr.mono (by decide)) rfl T.m_Lalike T.F_Lalike.kp (b_Lalike T) .nil pass0 (pa_cons (pe_call (ok_harmless T U Y) (hr.mono (by decide)) rfl T.m_harmless T.F_harmless.kp (b_harmless T) .nil pass0 (pa_cons (pv 2) (pa_cons (pv 3) (pa_cons (pv 7) pa_nil)))) (pa_cons (pe_callTy call_tuple_of (by rfl) T.n_tuple (by decide +kernel) (pa_cons (pe_lc (own := [("one", 12)]) rfl sc_law.nd (pi_list (pv 9)) (blkOk_by (N := ["script", "row", "design", "world", "wanted", "due", "ranked", "place", "kept", "near", "some", "best", "one", "own", "at", "other", "more", "word"]) (sc := defScope s_law) (by decide +kernel)) (fun _ _ _ _ _ => (pg_name (i := 12) sc_law.nd rfl (Or.inl rfl))) (fun _ _ _ _ _ => (pts_one (pt_val (pe_call (ok_Lkeeps T) (hr.mono (by decide)) rfl T.m_Lkeeps T.F_Lkeeps.kp (b_Lkeeps T) .nil pass0 (pa_cons (pv 12) (pa_cons (pv 3) (pa_cons (pv 8) pa_nil))))))) (fun _ _ _ _ _ => (pe_ix (ix_tupK (K := K) rfl) (pv 12) (pv 7) (fun _ _ => rfl)))) pa_nil)) pa_nil))))) (pss_one (ps_ret pe_bl)) pss_nil)
      (pss_cons (ps_setLc (i := 10) (own := [("one", 12)]) rfl sc_law.nd rfl rfl (sw_true rfl rfl rfl (by decide +kernel)) (pi_list (pe_call0 (ok_Ldesigns T) (hr.mono (by decide)) rfl T.m_Ldesigns T.F_Ldesigns.kp (b_Ldesigns T) .nil pass0)) (blkOk_by (N := ["script", "row", "design", "world", "wanted", "due", "ranked", "place", "kept", "near", "some", "best", "one", "own", "at", "other", "more", "word"]) (sc := defScope s_law) (by decide +kernel)) (fun _ _ _ _ _ => (pg_name (i := 12) sc_law.nd rfl (Or.inl rfl))) (fun _ _ _ _ _ => pts_nil) (fun _ _ _ _ _ => (pe_tup (pa_cons (pv 12) (pa_cons (pe_call (ok_Lkept T) (hr.mono (by decide)) rfl T.m_Lkept T.F_Lkept.kp (b_Lkept T) .nil pass0 (pa_cons (pv 12) (pa_cons (pv 3) pa_nil))) pa_nil)))))
      (pss_cons (ps_set (i := 11) sc_law.nd rfl (Or.inl rfl) (pe_lst pa_nil))
      (pss_cons (ps_for PassesOwn.never rfl (pi_list (pv 10)) (pg_tup rfl (pgs_cons (pg_name (i := 12) sc_law.nd rfl (Or.inl rfl)) (pgs_cons (pg_name (i := 13) sc_law.nd rfl (Or.inr rfl)) pgs_nil))) (pss_one (ps_if (pt_cmpR (op_eqNil (unA hr)) (pe_lc (own := [("other", 15), ("more", 16)]) rfl sc_law.nd (pi_list (pv 10)) (blkOk_by (N := ["script", "row", "design", "world", "wanted", "due", "ranked", "place", "kept", "near", "some", "best", "one", "own", "at", "other", "more", "word"]) (sc := defScope s_law) (by decide +kernel)) (fun _ _ _ _ _ => (pg_tupK (K := K) 2 rfl rfl (pgs_cons (pg_name (i := 15) sc_law.nd rfl (Or.inl rfl) (hf := Or.inr rfl)) (pgs_cons (pg_name (i := 16) sc_law.nd rfl (Or.inr rfl) (hf := Or.inl rfl)) pgs_nil)))) (fun _ _ _ _ _ => (pts_one (PW.pt (pw_and (pt_cmpR op_gt (pe_callB (len_seqK (K := K) rfl) (by rfl) T.n_len (by decide +kernel) (pa_cons (pv 16) pa_nil)) (pe_callB (len_seqK (K := K) rfl) (by rfl) T.n_len (by decide +kernel) (pa_cons (pv 13) pa_nil)) (nomark _)) (pw_and1 (pt_cmpR (op_eqNil_K (K := K) rfl (unA hr)) (pe_lc (own := [("word", 17)]) rfl sc_law.nd (pi_listK (K := K) rfl (pv 13)) (blkOk_by (by kernel_rfl)) (fun _ _ _ _ _ => (pg_name (i := 17) sc_law.nd rfl (Or.inl rfl))) (fun _ _ _ _ _ => (pts_one (pt_cmpR (op_notInK (K := K) rfl) (pv 17) (pv 16) (by rfl)))) (fun _ _ _ _ _ => (pv 17))) (pe_lst pa_nil) (nomark _))))))) (fun _ _ _ _ _ => pe_int)) (pe_lst pa_nil) (nomark _)) (pss_one (ps_expr (pe_bm PySem.F.plainAttrs_list PySem.F.slot_list_append PySem.F.type_list_append mt_append (pv 11) (pa_cons (pv 12) pa_nil)))) pss_nil)))
      (pss_one (ps_ret (pe_call (ok_alike 2 T) (hr.mono (by decide)) rfl T.m_Lalike T.F_Lalike.kp (b_Lalike T) .nil pass0 (pa_cons (pe_call (ok_strongest T U Y) (hr.mono (by decide)) rfl T.m_strongest T.F_strongest.kp (b_strongest T) .nil pass0 (pa_cons (pv 3) pa_nil)) (pa_cons (pe_callTy call_tuple_of (by rfl) T.n_tuple (by decide +kernel) (pa_cons (pv 11) pa_nil)) pa_nil))))))))))))))))))), ?_⟩
    refine ⟨_, rfl, (by show 4 ≤ sizeLine; decide), fun r nr => ?_⟩
    have R0 : RowAt K H0 a r (upd H r (.lst [.ref a, .int 0, .int 15554, .int 0])) := ⟨⟨ns, hs⟩, Evl.fresh_back x0 nr, x0.trans (Evl.Ex.new nr), _, upd_same, _, _, _, rfl, by decide, by decide, by decide⟩
    have hP1 : (upd H r (.lst [.ref a, .int 0, .int 15554, .int 0])) Pt = some (.tbl #[]) := Evl.Ex.new nr _ _ hPt
    generalize upd H r (.lst [.ref a, .int 0, .int 15554, .int 0]) = H1 at R0 hP1
    have ktb : ∀ {H1 H2 : Hp}, RowAt K H0 a r H1 → Keep (fun b => b = r) H1 H2 → H1 Pt = some (.tbl #[]) → H2 Pt = some (.tbl #[]) := fun R k h => k _ _ h fun z => by
      obtain ⟨o, e, i, x, y, eo, _⟩ := R.at_
      rw [z, e, eo] at h
      cases h
    -- a design, a world, wanted promises
    refine ⟨_, rfl, ?_⟩
    refine allX_i fun lp xs H2 n2 e2 h2 t2 => ?_
    have R2 := R0.ex' e2
    refine pick_i xs R2 h2 (R0.ne n2) (fun z => by rw [z] at t2; exact absurd t2.length (by decide)) (by rw [t2.length]; decide) fun x H3 mx R3 K3 => ?_
    obtain ⟨j, hj, ex⟩ := List.getElem_of_mem mx
    obtain ⟨dv, d, hdv, rfl, hd⟩ := tri_at t2 (show xs[j]? = some x by rw [List.getElem?_eq_getElem hj, ex])
    have md := List.mem_of_getElem? hdv
    have hd3 := Keep.tup R2 K3 hd
    have hP3 := ktb R2 K3 (e2 _ _ hP1)
    refine ⟨_, rfl, ?_⟩
    refine allX_i fun lp' xs' H4 n4 e4 h4 t4 => ?_
    have R4 := R3.ex' e4
    refine pick_i xs' R4 h4 (R3.ne n4) (fun z => by rw [z] at t4; exact absurd t4.length (by decide)) (by rw [t4.length]; decide) fun x H5 mx' R5 K5 => ?_
    obtain ⟨j', hj', ex'⟩ := List.getElem_of_mem mx'
    obtain ⟨wv, u, hwv, rfl, hw⟩ := tri_at t4 (show xs'[j']? = some x by rw [List.getElem?_eq_getElem hj', ex'])
    have mw := List.mem_of_getElem? hwv
    have hw5 := Keep.tup R4 K5 hw
    have hd5 := Keep.tup R4 K5 (e4 _ _ hd3)
    have hP5 := ktb R4 K5 (e4 _ _ hP3)
    clear t2 t4 mx mx' hdv hwv
    refine ⟨_, rfl, ?_⟩
    refine words_i R5 (by decide) (by decide) fun wp ws H6 R6 K6 nwp W6 => ?_
    have hd6 := Keep.tup R5 K6 hd5
    have hw6 := Keep.tup R5 K6 hw5
    have hP6 := ktb R5 K6 hP5
    refine ⟨(by show 3 ≤ sizeLine; decide), fun t nt => ?_⟩
    have e7 := Evl.Ex.new (o := .tup [.ref d, .ref u, .ref wp]) nt
    refine ⟨t, _, rfl, SqT.of upd_same, rfl, _, _, rfl, _, _, rfl, _, _, rfl, rfl, ?_⟩
    have R7 := R6.ex' e7
    have hd7 := e7 _ _ hd6
    have hw7 := e7 _ _ hw6
    have hP7 := e7 _ _ hP6
    have W7 := W6.ex e7
    generalize upd H6 t (.tup [.ref d, .ref u, .ref wp]) = H7 at R7 hd7 hw7 hP7 W7
    clear R0 R2 R3 R4 R5 R6 K3 K5 K6 W6 hd hd3 hd5 hd6 hw hw5 hw6 hP1 hP3 hP5 hP6
    have O : ∀ {d w : T3}, d ∈ designs3 → w ∈ worlds3 → (cf3 d w).Ok := fun a b => cf3_ok a b
    -- due
    refine allX_i fun lp xs H8 n8 e8 h8 t8 => ?_
    refine ⟨lp, rfl, ⟨_, SqL.of h8⟩, fun D nD => lcF_lst (R := fun x t => ∃ a, x = V.ref a ∧ H8 a = some (tT t)) (S := fun x t => ∃ a, x = V.ref a ∧ H8 a = some (tT t)) (fun d : T3 => ws.all (lH (cf3 d wv))) (fun i => xs.getD i .non) t8 (SqL.of h8) nD (by decide) (fun x => rfl) (fun i x y hi hl r => ?_) (fun i x y hi hl r _ => ?_) (fun i x y hi hl r => by rw [xs_at hi]; exact r) fun H9 ds e9 hD9 t9 => ?_⟩
    · obtain ⟨da, rfl, ad⟩ := r
      refine Evl.et_B (Evl.ev_call (Evl.ea_cons (Evl.ev_var rfl) (Evl.ea_cons (Evl.ev_var rfl) (Evl.ea_cons (Evl.ev_var rfl) Evl.ea_nil))) fun H4 e4 Q4 q4 E4 => ?_)
      exact keepsL_i (c := cf3 y wv) (e4 _ _ ad) (e4 _ _ (e8 _ _ hw7)) (O (List.mem_of_getElem? hl) mw) (.inr (SqT.of (e4 _ _ (e8 _ _ W7.at_)))) (by have := W7.len; omega) q4
    · rw [xs_at hi]
      exact Evl.ev_var rfl
    have TP : ∀ {H H' : Hp} {xs : List V} {l : List T3}, (Paired (fun x t => ∃ a, x = V.ref a ∧ H a = some (tT t)) xs l) → Evl.Ex H H' → TriX H' xs l := fun T e => Paired.mapP T fun _ _ ⟨a, z, y⟩ => ⟨a, z, e _ _ y⟩
    have e79 := e8.trans e9
    replace R7 := R7.ex' e79
    replace hd7 := e79 _ _ hd7
    replace hw7 := e79 _ _ hw7
    replace W7 := W7.ex e79
    replace hP7 := e79 _ _ hP7
    have td : TriX H9 ds (keepersF progH wv ws) := by
      have z := TP t9 e9
      rw [show (designs3.filter fun d : T3 => ws.all (lH (cf3 d wv))) = keepersF progH wv ws from keepers_same mw ws] at z
      exact z
    have kl : (keepersF progH wv ws).length ≤ 60 := Nat.le_trans (List.length_filter_le _ _) (by decide)
    clear t8 t9 h8 n8 nD e8 e9 e79
    -- the keepers
    refine ⟨_, rfl, _, rfl, ?_⟩
    refine keepers_i mw hw7 W7 fun p1 ys1 H10 n10 e10 h10 t10 => ⟨_, rfl, _, _, rfl, .inl ⟨SqL.of (e10 _ _ hD9), fun p2 np2 => ?_⟩⟩
    have e11 := Evl.Ex.new (o := .tup ds) np2
    refine alike_i (d := .tuple ((keepersF progH wv ws).map t3D)) (dt_tris (e11 _ _ h10) (by omega) (TP t10 e11)) (dt_tris upd_same (by omega) (TP td (e10.trans e11))) fun H12 S12 => ⟨_, rfl, iteF ?_⟩
    have x9 : Evl.Ex H9 H12 := (e10.trans e11).trans S12
    clear n10 e10 h10 t10 np2 e11 S12
    -- the worlds
    refine ⟨_, rfl, _, rfl, ?_⟩
    refine worldsF_i md (x9 _ _ hd7) (W7.ex x9) fun p1 ys1 H13 n13 e13 h13 t13 => ?_
    have x13 := x9.trans e13
    refine allX_i fun lp' us H14 n14 e14 h14 t14 => ?_
    have x14 := x13.trans e14
    refine ⟨lp', rfl, ⟨_, SqL.of h14⟩, fun D2 nD2 => lcF_lst (R := fun x t => ∃ a, x = V.ref a ∧ H14 a = some (tT t)) (S := fun x t => ∃ a, x = V.ref a ∧ H14 a = some (tT t)) (fun u : T3 => ws.all (lH (cf3 dv u))) (fun i => us.getD i .non) t14 (SqL.of h14) nD2 (by decide) (fun x => rfl) (fun i x y hi hl r => ?_) (fun i x y hi hl r _ => ?_) (fun i x y hi hl r => by rw [xs_at hi]; exact r) fun H15 vs15 e15 hD15 t15 => ?_⟩
    · obtain ⟨ua, rfl, au⟩ := r
      refine Evl.et_B (Evl.ev_call (Evl.ea_cons (Evl.ev_var rfl) (Evl.ea_cons (Evl.ev_var rfl) (Evl.ea_cons (Evl.ev_var rfl) Evl.ea_nil))) fun H4 e4 Q4 q4 E4 => ?_)
      exact keepsL_i (c := cf3 dv y) (e4 _ _ (x14 _ _ hd7)) (e4 _ _ au) (O md (List.mem_of_getElem? hl)) (.inr (SqT.of (e4 _ _ (x14 _ _ W7.at_)))) (by have := W7.len; omega) q4
    · rw [xs_at hi]
      exact Evl.ev_var rfl
    refine ⟨_, _, rfl, .inl ⟨SqL.of hD15, fun p2 np2 => ?_⟩⟩
    have e16 := Evl.Ex.new (o := .tup vs15) np2
    have wl : (worldsF progH dv ws).length ≤ 8 := Nat.le_trans (List.length_filter_le _ _) (by decide)
    have tw := TP t15 (e15.trans e16)
    rw [show (worlds3.filter fun u : T3 => ws.all (lH (cf3 dv u))) = worldsF progH dv ws from worlds_same md ws] at tw
    refine alike_i (d := .tuple ((worldsF progH dv ws).map t3D)) (dt_tris (e16 _ _ (e15 _ _ (e14 _ _ h13))) (by omega) (TP t13 ((e14.trans e15).trans e16))) (dt_tris upd_same (by omega) tw) fun H17 S17 => ⟨_, rfl, iteF ?_⟩
    have x17 : Evl.Ex H9 H17 := ((x14.trans e15).trans e16).trans S17
    clear n13 e13 h13 t13 x13 n14 e14 h14 t14 x14 e15 hD15 t15 e16 tw S17 np2 nD2 x9
    -- ranked
    have hD17 := x17 _ _ hD9
    have td17 := TP td x17
    refine ⟨_, rfl, D, rfl, ⟨_, SqL.of hD17⟩, fun Dr nDr => lc_list (xs := ds) (fun i H' => Evl.Ex H17 H' ∧ ∃ acc, H' Dr = some (.lst acc) ∧ RkX dv H' acc ((keepersF progH wv ws).take i)) ⟨Evl.Ex.new nDr, [], upd_same, .nil⟩ (fun i H' _ p => Evl.ex_l p.1 (SqL.of hD17)) (fun i x H18 hi p => ⟨rfl, ?_⟩) fun H18 p => ?_⟩
    · obtain ⟨e18, acc, hDr, rk⟩ := p
      obtain ⟨t, da, ht, rfl, hda⟩ := tri_at td17 hi
      have tk : (keepersF progH wv ws).take (i + 1) = (keepersF progH wv ws).take i ++ [t] := by
        rw [List.take_succ, ht]
        rfl
      have al : acc.length < sizeLine := by
        rw [rk.length]
        exact Nat.lt_of_le_of_lt (Nat.le_trans (List.length_take_le' ..) kl) (by decide)
      refine tyes_if' ?_
      refine (Evl.eu_tup (Evl.ea_cons (len_at (K := K) (t := t) (dv := dv) (da := da) (d := d) (fun x => rfl) (fun x => rfl) (fun x => rfl) (fun x => rfl) (e18 _ _ hda) (e18 _ _ (x17 _ _ hd7))) (Evl.ea_cons (Evl.ev_var rfl) Evl.ea_nil)) (by show 2 ≤ 100000; decide)) H18 (Evl.Ex.refl _) _ fun q2 H20 nq2 e20 hq2 => ?_
      have hDr20 := e20 _ _ hDr
      refine ⟨acc, hDr20, al, Evl.Ex.mut (e18.trans e20) nDr, _, upd_same, ?_⟩
      rw [tk]
      have kp : ∀ {b : Addr} {o : List V}, H20 b = some (.tup o) → (upd H20 Dr (.lst (acc ++ [.ref q2]))) b = some (.tup o) := fun {b o} hb => by
        rw [upd_ne fun z => by rw [z, hDr20] at hb; cases hb]
        exact hb
      exact prd_app (RkX.ex (RkX.ex rk fun b o y => e20 _ _ y) fun b o y => kp y) (.cons ⟨q2, da, rfl, kp hq2, kp (e20 _ _ (e18 _ _ hda))⟩ .nil)
    obtain ⟨e18, acc, hDr, rk⟩ := p
    rw [td17.length, List.take_length] at rk
    refine ⟨Dr, acc, (keepersF progH wv ws).map (rkD dv), rfl, SqL.of hDr, rk_dp rk, rk_alike dv _, rk_sortable dv _, rk_depth dv _, fun rp nrp => ?_⟩
    have e19 := Evl.Ex.new (o := .lst (((acc.zip ((keepersF progH wv ws).map (rkD dv))).mergeSort leD).map fun b => b.1)) nrp
    have x19 : Evl.Ex H9 _ := (x17.trans e18).trans e19
    have hrp : (upd H18 rp (.lst (((acc.zip ((keepersF progH wv ws).map (rkD dv))).mergeSort leD).map fun b => b.1))) rp = some (.lst (((acc.zip ((keepersF progH wv ws).map (rkD dv))).mergeSort leD).map fun b => b.1)) := upd_same
    have rk19 := RkX.ex rk fun b o y => e19 _ _ y
    generalize upd H18 rp (.lst (((acc.zip ((keepersF progH wv ws).map (rkD dv))).mergeSort leD).map fun b => b.1)) = H19 at e19 x19 hrp rk19
    replace R7 := R7.ex' x19
    replace hd7 := x19 _ _ hd7
    replace hw7 := x19 _ _ hw7
    replace W7 := W7.ex x19
    replace hP7 := x19 _ _ hP7
    clear e19 x19 e18 rk hDr td td17 hD17 x17 nrp hD9
    -- the nearest
    refine ⟨fun σ' H' => σ' = [some (.ref a), some (.ref r), some (.ref d), some (.ref u), some (.ref wp), some (.ref D), some (.ref rp), none, none, none, none, none, none, none, none, none, none, none] ∧ RowAt K H0 a r H' ∧ H' d = some (tT dv) ∧ H' u = some (tT wv), ?_, ?_⟩
    · refine ⟨_, rfl, _, rfl, _, rfl, ?_⟩
      refine near_i md mw hd7 hw7 W7 (fun p hp => by rw [List.mem_singleton.mp hp]; exact TabN.nil hP7) (fun hk0 H20 N => ?_) (fun i t x H20 IN N hx => ?_)
      · have z := rk19.length
        rw [hk0] at z
        have ea : acc = [] := List.length_eq_zero_iff.mp z
        subst ea
        have hrp' : H20 rp = some (.lst []) := by
          have y := N.lst hrp
          rw [List.zip_nil_left, List.mergeSort_nil] at y
          exact y
        refine ⟨_, rfl, (by show 0 ≤ sizeLine; decide), fun l nl => ⟨rp, l, [], rfl, rfl, SqL.of (Evl.Ex.new nl _ _ hrp'), SqL.of upd_same, _, rfl, ?_⟩⟩
        refine iteF ?_
        have e21 := Evl.Ex.new (o := .lst ([] : List V)) nl
        refine alike_i (d := .none) trivial trivial fun H22 S22 => ⟨_, rfl, iteF ⟨rfl, ?_, ?_, ?_⟩⟩
        · exact ((R7.nx n0 N).ex' e21).ex' S22
        · exact S22 _ _ (e21 _ _ (N.tup hd7))
        · exact S22 _ _ (e21 _ _ (N.tup hw7))
      · have hrp' := N.lst hrp
        have rk20 := RkX.ex rk19 fun b o y => N.tup y
        obtain ⟨ht, _⟩ := id IN
        have lk := (List.getElem?_eq_some_iff.mp ht).1
        have lz : ((acc.zip ((keepersF progH wv ws).map (rkD dv))).mergeSort leD).length = (keepersF progH wv ws).length := by
          rw [List.length_mergeSort, List.length_zip, List.length_map, rk19.length, Nat.min_self]
        cases es : (acc.zip ((keepersF progH wv ws).map (rkD dv))).mergeSort leD with
        | nil =>
          rw [es] at lz
          have lz : 0 = (keepersF progH wv ws).length := lz
          omega
        | cons b rr =>
          rw [es] at hrp'
          obtain ⟨k, v, a0, da0, hv, eb, ha0, hda0, least⟩ := rk_head rk20 es
          have evt := near_first (keepers_pw progH wv ws) IN hv least
          subst evt
          rw [List.map_cons, eb] at hrp'
          refine ⟨_, rfl, (by show 0 ≤ sizeLine; decide), fun l nl => ⟨rp, l, _, rfl, rfl, SqL.of (Evl.Ex.new nl _ _ hrp'), SqL.of upd_same, _, rfl, ?_⟩⟩
          refine iteT ?_
          have e21 := Evl.Ex.new (o := .lst ([] : List V)) nl
          refine ⟨_, rfl, _, _, _, _, rfl, rfl, SqL.of (e21 _ _ hrp'), atI_head, ?_⟩
          refine ⟨_, _, _, _, rfl, rfl, SqT.of (e21 _ _ ha0), rfl, ?_⟩
          refine alike_i (d := t3D v) (dt_tri (e21 _ _ hx)) (dt_tri (e21 _ _ hda0)) fun H22 S22 => ⟨_, rfl, iteF ⟨rfl, ?_, ?_, ?_⟩⟩
          · exact ((R7.nx n0 N).ex' e21).ex' S22
          · exact S22 _ _ (e21 _ _ (N.tup hd7))
          · exact S22 _ _ (e21 _ _ (N.tup hw7))
    rintro σ' H20 ⟨rfl, R, hd, hw⟩
    clear rk19 hrp hP7 W7 hd7 hw7 R7 acc kl
    -- a place
    refine ⟨_, rfl, ?_⟩
    refine taken_i R (by decide) (by decide) fun kz H21 k0 k1 R1 K1 S1 => ?_
    obtain ⟨k, rfl⟩ := Int.eq_ofNat_of_zero_le k0
    have hk : k ≤ 2 := by omega
    have hd1 := Keep.tup R K1 hd
    have hw1 := Keep.tup R K1 hw
    clear R K1 S1 hd hw k0 k1
    -- what is kept
    refine ⟨_, rfl, _, rfl, ?_⟩
    refine kept_i (c := cf3 dv wv) hd1 hw1 (O md mw) fun kp H22 nkp e22 hkp => ?_
    -- those near
    refine allX_i fun lp xs H23 n23 e23 h23 t23 => ?_
    have x23 := e22.trans e23
    refine ⟨lp, rfl, ⟨_, SqL.of h23⟩, fun D1 nD1 => lcF_lst (R := fun x t => ∃ a, x = V.ref a ∧ H23 a = some (tT t)) (S := fun x t => ∃ a, x = V.ref a ∧ H23 a = some (tT t)) (fun t : T3 => decide (rest t k = rest dv k)) (fun i => xs.getD i .non) t23 (SqL.of h23) nD1 (by decide) (fun x => rfl) (fun i x y hi hl r => ?_) (fun i x y hi hl r _ => ?_) (fun i x y hi hl r => by rw [xs_at hi]; exact r) fun H24 nl e24 hD24 t24 => ?_⟩
    · obtain ⟨ya, rfl, hya⟩ := r
      rw [← rest_eqv]
      refine Evl.et_test (Evl.ev_opUU (eu_rest rfl rfl hk hya) (eu_rest rfl rfl hk (x23 _ _ hd1)) fun p1 p2 H2 hp1 hp2 e2 H3 e3 Q3 q3 => ?_)
      exact ⟨_, _, .tup (SqT.of (e3 _ _ hp1)) (rest_dp y k), .tup (SqT.of (e3 _ _ hp2)) (rest_dp dv k), rest_shaped y (List.mem_of_getElem? hl) k (in012 hk), rest_shaped dv md k (in012 hk), q3 _ (Evl.Ex.refl _)⟩
    · rw [xs_at hi]
      exact Evl.ev_var rfl
    have x24 := x23.trans e24
    have t24' := TP t24 e24
    -- harmless
    refine ⟨fun σ' H' => σ' = [some (.ref a), some (.ref r), some (.ref d), some (.ref u), some (.ref wp), some (.ref D), some (.ref rp), some (.int (k : Int)), some (.ref kp), some (.ref D1), none, none, none, none, none, none, none, none] ∧ Evl.Ex H24 H', ?_, ?_⟩
    · refine ⟨_, rfl, _, rfl, _, rfl, ?_⟩
      refine harm_i hk md mw (x24 _ _ hd1) (x24 _ _ hw1) fun p1 H25 n25 e25 h25 => ?_
      have x25 := x24.trans e25
      have nlen : (designs3.filter fun t : T3 => decide (rest t k = rest dv k)).length ≤ 60 := Nat.le_trans (List.length_filter_le _ _) (by decide)
      refine ⟨_, rfl, D1, rfl, ⟨_, SqL.of (e25 _ _ hD24)⟩, fun D2 nD2 => lcF_lst (R := fun x t => ∃ a, x = V.ref a ∧ H25 a = some (tT t)) (S := fun x t => x = V.str (word t k)) (fun t : T3 => (allPm.filter (lH (cf3 dv wv))).all (lH (cf3 t wv))) (fun i => V.str (word ((designs3.filter fun t : T3 => decide (rest t k = rest dv k)).getD i default) k)) (TP t24' e25) (SqL.of (e25 _ _ hD24)) nD2 (by omega) (fun x => rfl) (fun i x y hi hl r => ?_) (fun i x y hi hl r _ => ?_) (fun i x y hi hl r => ?_) fun H26 ys e26 hD26 t26 => ?_⟩
      · obtain ⟨ya, rfl, hya⟩ := r
        have my := (List.mem_filter.mp (List.mem_of_getElem? hl)).1
        refine Evl.et_B (Evl.ev_call (Evl.ea_cons (Evl.ev_var rfl) (Evl.ea_cons (Evl.ev_var rfl) (Evl.ea_cons (Evl.ev_var rfl) Evl.ea_nil))) fun H4 e4 Q4 q4 E4 => ?_)
        exact keepsL_i (c := cf3 y wv) (e4 _ _ hya) (e4 _ _ (x25 _ _ hw1)) (O my mw) (.inl (SqL.of (e4 _ _ (e25 _ _ (e24 _ _ (e23 _ _ hkp)))))) (Nat.le_trans (List.length_filter_le _ _) (by decide)) q4
      · obtain ⟨ya, rfl, hya⟩ := r
        have ed : (designs3.filter fun t : T3 => decide (rest t k = rest dv k)).getD i default = y := by simp only [List.getD, hl, Option.getD_some]
        rw [ed]
        exact Evl.ev_op (Evl.ev_var rfl) (Evl.ev_var rfl) (Evl.rv_ixT (SqT.of hya) (atI_word hk))
      · have ed : (designs3.filter fun t : T3 => decide (rest t k = rest dv k)).getD i default = y := by simp only [List.getD, hl, Option.getD_some]
        rw [ed]
      · have ey := prd_map t26
        rw [show (((designs3.filter fun t : T3 => decide (rest t k = rest dv k)).filter fun t : T3 => (allPm.filter (lH (cf3 dv wv))).all (lH (cf3 t wv))).map fun t => V.str (word t k)) = (harmlessF progH dv wv k).map V.str from by rw [← harm_fact md mw hk, List.map_map]; rfl] at ey
        refine ⟨_, _, rfl, .inl ⟨SqL.of hD26, fun p2 np2 => ?_⟩⟩
        have e27 := Evl.Ex.new (o := .tup ys) np2
        have hl : (harmlessF progH dv wv k).length ≤ 1000 := Nat.le_trans (List.length_filter_le _ _) (Nat.le_trans (wordsL_len k) (by decide))
        refine alike_i (d := .tuple ((harmlessF progH dv wv k).map PyData.str)) (dt_strl (e27 _ _ (e26 _ _ h25)) hl) (dt_strl (by rw [upd_same, ey]) hl) fun H28 S28 => ⟨_, rfl, iteF ⟨rfl, ?_⟩⟩
        exact ((e25.trans e26).trans e27).trans S28
    rintro σ' H25 ⟨rfl, e25⟩
    have hd2 := e25 _ _ (x24 _ _ hd1)
    have hw2 := e25 _ _ (x24 _ _ hw1)
    clear t24 t24' x24 e24 hD24 nD1 x23 t23 h23 e23 n23 hkp e22 nkp hd1 hw1 R1 e25
    -- all designs and what they keep
    refine allX_i fun lp xs H26 n26 e26 h26 t26 => ?_
    replace hw2 := e26 _ _ hw2
    refine ⟨lp, rfl, ⟨_, SqL.of h26⟩, fun D2 nD2 => lc_list (xs := xs) (fun i H' => Evl.Ex H26 H' ∧ ∃ acc, H' D2 = some (.lst acc) ∧ Paired (fun x t => ∃ a da ka, x = V.ref a ∧ H' a = some (.tup [.ref da, .ref ka]) ∧ H' da = some (tT t) ∧ H' ka = some (.lst ((allPm.filter (lH (cf3 t wv))).map pmV)) ∧ ka ≠ D2) acc (designs3.take i)) ⟨Evl.Ex.new nD2, [], upd_same, .nil⟩ (fun i H' _ p => Evl.ex_l p.1 (SqL.of h26)) (fun i x H27 hi p => ⟨rfl, ?_⟩) fun H27 p => ?_⟩
    · obtain ⟨e27, acc, hD2, sm⟩ := p
      obtain ⟨t, da, ht, rfl, hda⟩ := tri_at t26 hi
      have tk : designs3.take (i + 1) = designs3.take i ++ [t] := by
        rw [List.take_succ, ht]
        rfl
      have al : acc.length < sizeLine := by
        rw [sm.length]
        exact Nat.lt_of_le_of_lt (List.length_take_le' ..) (by decide)
      refine tyes_if' ⟨_, rfl, _, rfl, _, rfl, ?_⟩
      refine kept_i (c := cf3 t wv) (e27 _ _ hda) (e27 _ _ hw2) (O (List.mem_of_getElem? ht) mw) fun ka H28 n28 e28 h28 => ⟨(by show 2 ≤ sizeLine; decide), fun q2 nq2 => ?_⟩
      have e29 := Evl.Ex.new (o := .tup [.ref da, .ref ka]) nq2
      have e2829 := e28.trans e29
      have hD29 := e2829 _ _ hD2
      have nk : ka ≠ D2 := fun z => by rw [z, hD2] at n28; cases n28
      have nda : H26 da ≠ none := fun z => by rw [hda] at z; cases z
      have kp : ∀ {b : Addr} {o : HO}, b ≠ D2 → (upd H28 q2 (.tup [.ref da, .ref ka])) b = some o → (upd (upd H28 q2 (.tup [.ref da, .ref ka])) D2 (.lst (acc ++ [.ref q2]))) b = some o := fun {b o} hb ho => by
        rw [upd_ne hb]
        exact ho
      have nt : ∀ {b : Addr} {o : List V}, H27 b = some (.tup o) → b ≠ D2 := fun hb z => by rw [z, hD2] at hb; cases hb
      refine ⟨acc, hD29, al, Evl.Ex.mut (e27.trans e2829) nD2, _, upd_same, ?_⟩
      rw [tk]
      exact prd_app (Paired.mapP sm fun x y ⟨a, d', k', z, y1, y2, y3, y4⟩ => ⟨a, d', k', z, kp (nt y1) (e2829 _ _ y1), kp (nt y2) (e2829 _ _ y2), kp y4 (e2829 _ _ y3), y4⟩) (.cons ⟨q2, da, ka, rfl, kp (fun z => by rw [z, e28 _ _ hD2] at nq2; cases nq2) upd_same, kp (nt (e27 _ _ hda)) (e2829 _ _ (e27 _ _ hda)), kp nk (e29 _ _ h28), nk⟩ .nil)
    obtain ⟨e27, sl, hD2, sm0⟩ := p
    rw [t26.length, List.take_length] at sm0
    have sm : SmX wv H27 sl designs3 := Paired.mapP sm0 fun _ _ ⟨a, d', k', z, y1, y2, y3, _⟩ => ⟨a, d', k', z, y1, y2, y3⟩
    clear sm0
    have hw3 := e27 _ _ hw2
    have sll := sm.length
    clear t26 h26 e26 n26 nD2 hw2 e27
    -- the best
    refine ⟨(by show 0 ≤ sizeLine; decide), fun bl nbl => ?_⟩
    have ebl := Evl.Ex.new (o := .lst ([] : List V)) nbl
    refine ⟨_, rfl, D2, rfl, ⟨_, SqL.of (ebl _ _ hD2)⟩, for_list (xs := sl) (fun i σ' H' => ∃ x12 x13, σ' = [some (.ref a), some (.ref r), some (.ref d), some (.ref u), some (.ref wp), some (.ref D), some (.ref rp), some (.int (k : Int)), some (.ref kp), some (.ref D1), some (.ref D2), some (.ref bl), x12, x13, none, none, none, none] ∧ Evl.Ex H27 H' ∧ ∃ acc, H' bl = some (.lst acc) ∧ TriX H' acc ((designs3.take i).filter fun t => !designs3.any fun o => lpr (lH (cf3 t wv)) (lH (cf3 o wv)))) ⟨none, none, rfl, ebl, [], upd_same, .nil⟩ (fun i σ' H' _ ⟨_, _, _, e, _⟩ => SqL.of (e _ _ hD2)) ?_ ?_⟩
    · rintro i x σ' H28 hi ⟨x12, x13, rfl, e28, acc, hbl, tb⟩
      obtain ⟨t, ht, pa, da, ka, rfl, hpa, hda, hka⟩ := pget sm hi
      have tk : designs3.take (i + 1) = designs3.take i ++ [t] := by
        rw [List.take_succ, ht]
        rfl
      have al : acc.length < sizeLine := by
        rw [tb.length]
        exact Nat.lt_of_le_of_lt (Nat.le_trans (List.length_filter_le _ _) (List.length_take_le' ..)) (by decide)
      refine ⟨pa, _, rfl, SqT.of (e28 _ _ hpa), rfl, _, _, rfl, _, _, rfl, rfl, ?_⟩
      have sm28 := SmX.ex sm e28
      refine ⟨_, rfl, D2, rfl, ⟨_, SqL.of (e28 _ _ hD2)⟩, fun D3 nD3 => lc_list (xs := sl) (Evl.Cw H28 (fun i => lpr (lH (cf3 t wv)) (lH (cf3 (designs3.getD i default) wv))) (fun _ => V.int 1) D3) ⟨nD3, Evl.Ex.new nD3, upd_same⟩ (fun i H' _ p => SqL.of (p.2.1 _ _ (e28 _ _ hD2))) (fun i' x H29 hi' p => ?_) fun H29 p => ?_⟩
      · obtain ⟨o, ho, qa, ea, ma, rfl, hqa, hea, hma⟩ := pget sm28 hi'
        have ed : designs3.getD i' default = o := by simp only [List.getD, ho, Option.getD_some]
        have lt := (List.getElem?_eq_some_iff.mp ho).1
        refine ⟨qa, _, rfl, SqT.of (p.2.1 _ _ hqa), rfl, _, _, rfl, _, _, rfl, rfl, rfl, ?_⟩
        refine Evl.cw_turn p (Nat.lt_of_lt_of_le lt (by decide)) ?_ (fun _ => Evl.ev_c)
        rw [ed]
        exact et_lpr rfl rfl (fun x => rfl) (fun x => rfl) (fun x => rfl) (e28 _ _ hka) hma
      · obtain ⟨np, e29, hp⟩ := p
        rw [sll] at hp
        refine ⟨(by show 0 ≤ sizeLine; decide), fun l nl => ?_⟩
        have e30 := Evl.Ex.new (o := .lst ([] : List V)) nl
        refine ⟨D3, l, _, rfl, rfl, SqL.of (e30 _ _ hp), SqL.of upd_same, _, rfl, ?_⟩
        rw [Bool.bne_false, given_isEmpty designs3 (fun o => lpr (lH (cf3 t wv)) (lH (cf3 o wv))) (V.int 1)]
        have e2830 := e29.trans e30
        have hbl30 := e2830 _ _ hbl
        rw [tk, List.filter_append, List.filter_cons]
        cases hb : designs3.any fun o => lpr (lH (cf3 t wv)) (lH (cf3 o wv)) with
        | false =>
          refine iteT ⟨_, rfl, .inl ⟨rfl, _, SqL.of hbl30⟩, _, rfl, bl, acc, _, rfl, rfl, hbl30, al, ?_⟩
          refine ⟨_, _, rfl, Evl.Ex.mut (e28.trans e2830) nbl, _, upd_same, ?_⟩
          have kp : ∀ {b : Addr} {o : List V}, (upd H29 l (.lst [])) b = some (.tup o) → (upd (upd H29 l (.lst [])) bl (.lst (acc ++ [.ref da]))) b = some (.tup o) := fun {b o} hb => by
            rw [upd_ne fun z => by rw [z, hbl30] at hb; cases hb]
            exact hb
          exact prd_app (Paired.mapP tb fun _ _ ⟨a, z, y⟩ => ⟨a, z, kp (e2830 _ _ y)⟩) (.cons ⟨da, rfl, kp (e2830 _ _ (e28 _ _ hda))⟩ .nil)
        | true =>
          refine iteF ⟨_, _, rfl, e28.trans e2830, acc, hbl30, ?_⟩
          show TriX _ acc (_ ++ [])
          rw [List.append_nil]
          exact Paired.mapP tb fun _ _ ⟨a, z, y⟩ => ⟨a, z, e2830 _ _ y⟩
    · rintro σ' H28 ⟨x12, x13, rfl, e28, acc, hbl, tb⟩
      rw [sll, List.take_length] at tb
      rw [show (designs3.filter fun t => !designs3.any fun o => lpr (lH (cf3 t wv)) (lH (cf3 o wv))) = strongF progH wv from best_same mw] at tb
      have sl1 : (strongF progH wv).length ≤ 60 := Nat.le_trans (List.length_filter_le _ _) (by decide)
      refine ⟨_, rfl, ?_⟩
      refine strong_i mw (e28 _ _ hw3) fun p1 xs1 H29 n29 e29 h29 t29 => ⟨_, rfl, _, _, rfl, .inl ⟨SqL.of (e29 _ _ hbl), fun p2 np2 => ?_⟩⟩
      have e30 := Evl.Ex.new (o := .tup acc) np2
      exact alike_i (d := .tuple ((strongF progH wv).map t3D)) (dt_tris (e30 _ _ h29) (by omega) (TP t29 e30)) (dt_tris upd_same (by omega) (TP tb (e29.trans e30))) fun H31 _ => q H31
end
end Ca

set_option Elab.async false
set_option linter.all false
set_option maxRecDepth 100000
set_option maxHeartbeats 4000000
namespace Ca
open PySem L2
/-! ### the facts of the head, piece by piece -/
def DefP (K : PySem.W.Frag) (mg : Str → Option Value) (x : Str) (st : Stmt) : Prop := ∃ f fd, Fun K x x st f fd ∧ mg x = some (.ref f)
theorem def_mk {K : PySem.W.Frag} {h : Heap} {mg : Str → Option Value} {x : Str} {st : Stmt} {f : Addr} {od an : Option Addr} {sl : Array (Option Value)} {oc kV dc pm cd ct : Value} (X : K.In h) (G : h.Ns mainGlobals mg)
    (a : PySem.W.nsIn K mainGlobals x = some (some (.ref f))) (l : K.lookup f = some ⟨oc, od, .func (PySem.W.fnOf x x (defArgs st) (defBody st) (defScope st) .none kV dc pm an cd ct), sl⟩) (c : PySem.W.codeIn K cd x = true) (k : PySem.W.keepIn K (.ref f) = true) : DefP K mg x st :=
  ⟨f, _, fun_mk (st := st) l c k, PySem.W.mg_of X G a⟩
def ConP (K : PySem.W.Frag) (mg : Str → Option Value) (x : Str) (xs : List V) : Prop := ∃ v, mg x = some (.ref v) ∧ ∀ H, SqT K H v xs
theorem con_mk {K : PySem.W.Frag} {h : Heap} {mg : Str → Option Value} {x : Str} {xs : List V} {v : Addr} {dd : Option Addr} {its : Array Value} {n : Nat} {sl : Array (Option Value)} (X : K.In h) (G : h.Ns mainGlobals mg) (a : PySem.W.nsIn K mainGlobals x = some (some (.ref v))) (l : K.lookup v = some ⟨.type "tuple", dd, .seq its n, sl⟩) (hz : its.size ≤ sizeLine) (r : Vals xs its.toList) : ConP K mg x xs :=
  ⟨v, PySem.W.mg_of X G a, fun _ => .inr ⟨_, its, n, l, rfl, rfl, hz, r⟩⟩
def IntP (mg : Str → Option Value) (x : Str) (i : Int) : Prop := ∃ tk, mg x = some (.int i tk)
theorem int_mk {K : PySem.W.Frag} {h : Heap} {mg : Str → Option Value} {x : Str} {i : Int} {tk : Tok} (X : K.In h) (G : h.Ns mainGlobals mg) (a : PySem.W.nsIn K mainGlobals x = some (some (.int i tk))) : IntP mg x i := ⟨tk, PySem.W.mg_of X G a⟩
def DctP_HOLDS (K : PySem.W.Frag) (w : World) (mg : Str → Option Value) : Prop := ∃ v, mg "HOLDS" = some (.ref v) ∧ (∃ f, mg "holds_ending" = some (.ref f) ∧ KDct K w v "ending" (.ref f)) ∧ (∃ f, mg "holds_filled" = some (.ref f) ∧ KDct K w v "filled" (.ref f)) ∧ (∃ f, mg "holds_forward" = some (.ref f) ∧ KDct K w v "forward" (.ref f)) ∧ (∃ f, mg "holds_fresh" = some (.ref f) ∧ KDct K w v "fresh" (.ref f)) ∧ (∃ f, mg "holds_linear" = some (.ref f) ∧ KDct K w v "linear" (.ref f)) ∧ (∃ f, mg "holds_mended" = some (.ref f) ∧ KDct K w v "mended" (.ref f)) ∧ (∃ f, mg "holds_moving" = some (.ref f) ∧ KDct K w v "moving" (.ref f)) ∧ (∃ f, mg "holds_quiet" = some (.ref f) ∧ KDct K w v "quiet" (.ref f)) ∧ (∃ f, mg "holds_rest" = some (.ref f) ∧ KDct K w v "rest" (.ref f)) ∧ (∃ f, mg "holds_single" = some (.ref f) ∧ KDct K w v "single" (.ref f))
theorem dct_HOLDS_mk {K : PySem.W.Frag} {w : World} {h : Heap} {mg : Str → Option Value} {v : Addr} {es : Array DictEntry} {n : Nat} {f0 : Addr} {f1 : Addr} {f2 : Addr} {f3 : Addr} {f4 : Addr} {f5 : Addr} {f6 : Addr} {f7 : Addr} {f8 : Addr} {f9 : Addr} (X : K.In h) (G : h.Ns mainGlobals mg) (a : PySem.W.nsIn K mainGlobals "HOLDS" = some (some (.ref v))) (l : K.lookup v = some ⟨.type "dict", none, .dict es n, #[]⟩) (kl : PySem.W.KeysLit w.params es.toList)
    (a0 : PySem.W.nsIn K mainGlobals "holds_ending" = some (some (.ref f0))) (e0 : PySem.W.nsIn K v "ending" = some (some (.ref f0)))
    (a1 : PySem.W.nsIn K mainGlobals "holds_filled" = some (some (.ref f1))) (e1 : PySem.W.nsIn K v "filled" = some (some (.ref f1)))
    (a2 : PySem.W.nsIn K mainGlobals "holds_forward" = some (some (.ref f2))) (e2 : PySem.W.nsIn K v "forward" = some (some (.ref f2)))
    (a3 : PySem.W.nsIn K mainGlobals "holds_fresh" = some (some (.ref f3))) (e3 : PySem.W.nsIn K v "fresh" = some (some (.ref f3)))
    (a4 : PySem.W.nsIn K mainGlobals "holds_linear" = some (some (.ref f4))) (e4 : PySem.W.nsIn K v "linear" = some (some (.ref f4)))
    (a5 : PySem.W.nsIn K mainGlobals "holds_mended" = some (some (.ref f5))) (e5 : PySem.W.nsIn K v "mended" = some (some (.ref f5)))
    (a6 : PySem.W.nsIn K mainGlobals "holds_moving" = some (some (.ref f6))) (e6 : PySem.W.nsIn K v "moving" = some (some (.ref f6)))
    (a7 : PySem.W.nsIn K mainGlobals "holds_quiet" = some (some (.ref f7))) (e7 : PySem.W.nsIn K v "quiet" = some (some (.ref f7)))
    (a8 : PySem.W.nsIn K mainGlobals "holds_rest" = some (some (.ref f8))) (e8 : PySem.W.nsIn K v "rest" = some (some (.ref f8)))
    (a9 : PySem.W.nsIn K mainGlobals "holds_single" = some (some (.ref f9))) (e9 : PySem.W.nsIn K v "single" = some (some (.ref f9)))
    : DctP_HOLDS K w mg :=
  ⟨v, PySem.W.mg_of X G a, ⟨f0, PySem.W.mg_of X G a0, es, n, _, l, kl, e0, rfl⟩, ⟨f1, PySem.W.mg_of X G a1, es, n, _, l, kl, e1, rfl⟩, ⟨f2, PySem.W.mg_of X G a2, es, n, _, l, kl, e2, rfl⟩, ⟨f3, PySem.W.mg_of X G a3, es, n, _, l, kl, e3, rfl⟩, ⟨f4, PySem.W.mg_of X G a4, es, n, _, l, kl, e4, rfl⟩, ⟨f5, PySem.W.mg_of X G a5, es, n, _, l, kl, e5, rfl⟩, ⟨f6, PySem.W.mg_of X G a6, es, n, _, l, kl, e6, rfl⟩, ⟨f7, PySem.W.mg_of X G a7, es, n, _, l, kl, e7, rfl⟩, ⟨f8, PySem.W.mg_of X G a8, es, n, _, l, kl, e8, rfl⟩, ⟨f9, PySem.W.mg_of X G a9, es, n, _, l, kl, e9, rfl⟩⟩
/-- a def that makes a lambda: its code object, the table, empty and out of the written part -/
def MkP (K : PySem.W.Frag) (mg : Str → Option Value) (h : Heap) (x : Str) (st : Stmt) : Prop := ∃ (f : Addr) (fd : FuncData) (c P : Addr), Fun K x x st f fd ∧ mg x = some (.ref f) ∧ fd.code = .ref c ∧ PySem.W.codeHdIn K c P = true ∧ K.lookup P = none ∧ h.get? P = some { cls := .none, data := .fields #[] }
theorem mk_mk {K : PySem.W.Frag} {h : Heap} {mg : Str → Option Value} {x : Str} {st : Stmt} {f c P : Addr} {od an : Option Addr} {sl : Array (Option Value)} {oc kV dc pm ct : Value} (X : K.In h) (G : h.Ns mainGlobals mg)
    (a : PySem.W.nsIn K mainGlobals x = some (some (.ref f))) (l : K.lookup f = some ⟨oc, od, .func (PySem.W.fnOf x x (defArgs st) (defBody st) (defScope st) .none kV dc pm an (.ref c) ct), sl⟩) (c1 : PySem.W.codeIn K (.ref c) x = true) (k : PySem.W.keepIn K (.ref f) = true)
    (tb : h.get? P = some { cls := .none, data := .fields #[] }) (hd : PySem.W.codeHdIn K c P = true) (out : K.lookup P = none) : MkP K mg h x st :=
  ⟨f, _, c, P, fun_mk (st := st) l c1 k, PySem.W.mg_of X G a, rfl, hd, out, tb⟩
theorem fin {l : PySem.W.OpenLaw} {w : World} {K : PySem.W.Frag} {mg : Str → Option Value} {fa : Addr} {h : Heap} (X : K.In h) (hmg : mg "law" = some (.ref fa))
    (D_check_number : DefP K mg "check_number" s_check_number)
    (D_is_design : DefP K mg "is_design" s_is_design)
    (D_is_world : DefP K mg "is_world" s_is_world)
    (D_is_triple : DefP K mg "is_triple" s_is_triple)
    (D_all_designs : DefP K mg "all_designs" s_all_designs)
    (D_all_worlds : DefP K mg "all_worlds" s_all_worlds)
    (D_all_triples : DefP K mg "all_triples" s_all_triples)
    (D_words_at : DefP K mg "words_at" s_words_at)
    (D_check_design : DefP K mg "check_design" s_check_design)
    (D_check_world : DefP K mg "check_world" s_check_world)
    (D_check_question : DefP K mg "check_question" s_check_question)
    (D_check_promise : DefP K mg "check_promise" s_check_promise)
    (D_check_promises : DefP K mg "check_promises" s_check_promises)
    (D_holds : DefP K mg "holds" s_holds)
    (D_profile : DefP K mg "profile" s_profile)
    (D_passes_by : DefP K mg "passes_by" s_passes_by)
    (D_climbs : DefP K mg "climbs" s_climbs)
    (D_guards : DefP K mg "guards" s_guards)
    (D_is_alone : DefP K mg "is_alone" s_is_alone)
    (D_is_primary : DefP K mg "is_primary" s_is_primary)
    (D_keeps : DefP K mg "keeps" s_keeps)
    (D_finishes : DefP K mg "finishes" s_finishes)
    (D_holds_ending : DefP K mg "holds_ending" s_holds_ending)
    (D_holds_filled : DefP K mg "holds_filled" s_holds_filled)
    (D_holds_forward : DefP K mg "holds_forward" s_holds_forward)
    (D_holds_fresh : DefP K mg "holds_fresh" s_holds_fresh)
    (D_holds_linear : DefP K mg "holds_linear" s_holds_linear)
    (D_holds_mended : DefP K mg "holds_mended" s_holds_mended)
    (D_holds_moving : DefP K mg "holds_moving" s_holds_moving)
    (D_holds_quiet : DefP K mg "holds_quiet" s_holds_quiet)
    (D_holds_rest : DefP K mg "holds_rest" s_holds_rest)
    (D_holds_single : DefP K mg "holds_single" s_holds_single)
    (D_keepers : DefP K mg "keepers" s_keepers)
    (D_worlds_for : DefP K mg "worlds_for" s_worlds_for)
    (D_nearest : MkP K mg h "nearest" s_nearest)
    (D_strongest : DefP K mg "strongest" s_strongest)
    (D_harmless : DefP K mg "harmless" s_harmless)
    (D_keeps_all : DefP K mg "keeps_all" s_keeps_all)
    (D_changes : DefP K mg "changes" s_changes)
    (D_is_proper_part : DefP K mg "is_proper_part" s_is_proper_part)
    (D_changed : DefP K mg "changed" s_changed)
    (D_Ltaken : DefP K mg "_law_taken" s_Ltaken)
    (D_Lpick : DefP K mg "_law_pick" s_Lpick)
    (D_Lalike : DefP K mg "_law_alike" s_Lalike)
    (D_Lpaths : DefP K mg "_law_paths" s_Lpaths)
    (D_Lpromises : DefP K mg "_law_promises" s_Lpromises)
    (D_Lholds : DefP K mg "_law_holds" s_Lholds)
    (D_Lwords : DefP K mg "_law_words" s_Lwords)
    (D_Ldesigns : DefP K mg "_law_designs" s_Ldesigns)
    (D_Lworlds : DefP K mg "_law_worlds" s_Lworlds)
    (D_Lkept : DefP K mg "_law_kept" s_Lkept)
    (D_Lkeeps : DefP K mg "_law_keeps" s_Lkeeps)
    (D_law : DefP K mg "law" s_law)
    (K_PATHS : ConP K mg "PATHS" (pathsL.map V.str))
    (K_GUARDS : ConP K mg "GUARDS" (guardsL.map V.str))
    (K_FLIGHTS : ConP K mg "FLIGHTS" (flightsL.map V.str))
    (K_SOURCES : ConP K mg "SOURCES" ((["primary", "replica"] : List Str).map V.str))
    (K_EVICTIONS : ConP K mg "EVICTIONS" ((["evicts", "keeps"] : List Str).map V.str))
    (K_STOPS : ConP K mg "STOPS" ((["finishes", "stops"] : List Str).map V.str))
    (K_PROMISES : ConP K mg "PROMISES" ((["ending", "filled", "forward", "fresh", "linear", "mended", "moving", "quiet", "rest", "single"] : List Str).map V.str))
    (n_len : mg "len" = none)
    (n_isinstance : mg "isinstance" = none)
    (n_range : mg "range" = none)
    (n_int : mg "int" = none)
    (n_str : mg "str" = none)
    (n_bool : mg "bool" = none)
    (n_tuple : mg "tuple" = none)
    (n_list : mg "list" = none)
    (n_min : mg "min" = none)
    (n_any : mg "any" = none)
    (n_all : mg "all" = none)
    (n_zip : mg "zip" = none)
    (n_sorted : mg "sorted" = none)
    (d_HOLDS : DctP_HOLDS K w mg)
    :
    LamX.LawAtS l w K CX0 10 63 "script" mg fa h := by
  obtain ⟨f_check_number, fd_check_number, F_check_number, m_check_number⟩ := D_check_number
  obtain ⟨f_is_design, fd_is_design, F_is_design, m_is_design⟩ := D_is_design
  obtain ⟨f_is_world, fd_is_world, F_is_world, m_is_world⟩ := D_is_world
  obtain ⟨f_is_triple, fd_is_triple, F_is_triple, m_is_triple⟩ := D_is_triple
  obtain ⟨f_all_designs, fd_all_designs, F_all_designs, m_all_designs⟩ := D_all_designs
  obtain ⟨f_all_worlds, fd_all_worlds, F_all_worlds, m_all_worlds⟩ := D_all_worlds
  obtain ⟨f_all_triples, fd_all_triples, F_all_triples, m_all_triples⟩ := D_all_triples
  obtain ⟨f_words_at, fd_words_at, F_words_at, m_words_at⟩ := D_words_at
  obtain ⟨f_check_design, fd_check_design, F_check_design, m_check_design⟩ := D_check_design
  obtain ⟨f_check_world, fd_check_world, F_check_world, m_check_world⟩ := D_check_world
  obtain ⟨f_check_question, fd_check_question, F_check_question, m_check_question⟩ := D_check_question
  obtain ⟨f_check_promise, fd_check_promise, F_check_promise, m_check_promise⟩ := D_check_promise
  obtain ⟨f_check_promises, fd_check_promises, F_check_promises, m_check_promises⟩ := D_check_promises
  obtain ⟨f_holds, fd_holds, F_holds, m_holds⟩ := D_holds
  obtain ⟨f_profile, fd_profile, F_profile, m_profile⟩ := D_profile
  obtain ⟨f_passes_by, fd_passes_by, F_passes_by, m_passes_by⟩ := D_passes_by
  obtain ⟨f_climbs, fd_climbs, F_climbs, m_climbs⟩ := D_climbs
  obtain ⟨f_guards, fd_guards, F_guards, m_guards⟩ := D_guards
  obtain ⟨f_is_alone, fd_is_alone, F_is_alone, m_is_alone⟩ := D_is_alone
  obtain ⟨f_is_primary, fd_is_primary, F_is_primary, m_is_primary⟩ := D_is_primary
  obtain ⟨f_keeps, fd_keeps, F_keeps, m_keeps⟩ := D_keeps
  obtain ⟨f_finishes, fd_finishes, F_finishes, m_finishes⟩ := D_finishes
  obtain ⟨f_holds_ending, fd_holds_ending, F_holds_ending, m_holds_ending⟩ := D_holds_ending
  obtain ⟨f_holds_filled, fd_holds_filled, F_holds_filled, m_holds_filled⟩ := D_holds_filled
  obtain ⟨f_holds_forward, fd_holds_forward, F_holds_forward, m_holds_forward⟩ := D_holds_forward
  obtain ⟨f_holds_fresh, fd_holds_fresh, F_holds_fresh, m_holds_fresh⟩ := D_holds_fresh
  obtain ⟨f_holds_linear, fd_holds_linear, F_holds_linear, m_holds_linear⟩ := D_holds_linear
  obtain ⟨f_holds_mended, fd_holds_mended, F_holds_mended, m_holds_mended⟩ := D_holds_mended
  obtain ⟨f_holds_moving, fd_holds_moving, F_holds_moving, m_holds_moving⟩ := D_holds_moving
  obtain ⟨f_holds_quiet, fd_holds_quiet, F_holds_quiet, m_holds_quiet⟩ := D_holds_quiet
  obtain ⟨f_holds_rest, fd_holds_rest, F_holds_rest, m_holds_rest⟩ := D_holds_rest
  obtain ⟨f_holds_single, fd_holds_single, F_holds_single, m_holds_single⟩ := D_holds_single
  obtain ⟨f_keepers, fd_keepers, F_keepers, m_keepers⟩ := D_keepers
  obtain ⟨f_worlds_for, fd_worlds_for, F_worlds_for, m_worlds_for⟩ := D_worlds_for
  obtain ⟨f_nearest, fd_nearest, c_nearest, P_nearest, F_nearest, m_nearest, hc_nearest, hd_nearest, out_nearest, tb_nearest⟩ := D_nearest
  obtain ⟨f_strongest, fd_strongest, F_strongest, m_strongest⟩ := D_strongest
  obtain ⟨f_harmless, fd_harmless, F_harmless, m_harmless⟩ := D_harmless
  obtain ⟨f_keeps_all, fd_keeps_all, F_keeps_all, m_keeps_all⟩ := D_keeps_all
  obtain ⟨f_changes, fd_changes, F_changes, m_changes⟩ := D_changes
  obtain ⟨f_is_proper_part, fd_is_proper_part, F_is_proper_part, m_is_proper_part⟩ := D_is_proper_part
  obtain ⟨f_changed, fd_changed, F_changed, m_changed⟩ := D_changed
  obtain ⟨f_Ltaken, fd_Ltaken, F_Ltaken, m_Ltaken⟩ := D_Ltaken
  obtain ⟨f_Lpick, fd_Lpick, F_Lpick, m_Lpick⟩ := D_Lpick
  obtain ⟨f_Lalike, fd_Lalike, F_Lalike, m_Lalike⟩ := D_Lalike
  obtain ⟨f_Lpaths, fd_Lpaths, F_Lpaths, m_Lpaths⟩ := D_Lpaths
  obtain ⟨f_Lpromises, fd_Lpromises, F_Lpromises, m_Lpromises⟩ := D_Lpromises
  obtain ⟨f_Lholds, fd_Lholds, F_Lholds, m_Lholds⟩ := D_Lholds
  obtain ⟨f_Lwords, fd_Lwords, F_Lwords, m_Lwords⟩ := D_Lwords
  obtain ⟨f_Ldesigns, fd_Ldesigns, F_Ldesigns, m_Ldesigns⟩ := D_Ldesigns
  obtain ⟨f_Lworlds, fd_Lworlds, F_Lworlds, m_Lworlds⟩ := D_Lworlds
  obtain ⟨f_Lkept, fd_Lkept, F_Lkept, m_Lkept⟩ := D_Lkept
  obtain ⟨f_Lkeeps, fd_Lkeeps, F_Lkeeps, m_Lkeeps⟩ := D_Lkeeps
  obtain ⟨f_law, fd_law, F_law, m_law⟩ := D_law
  obtain ⟨v_PATHS, m_PATHS, s_PATHS⟩ := K_PATHS
  obtain ⟨v_GUARDS, m_GUARDS, s_GUARDS⟩ := K_GUARDS
  obtain ⟨v_FLIGHTS, m_FLIGHTS, s_FLIGHTS⟩ := K_FLIGHTS
  obtain ⟨v_SOURCES, m_SOURCES, s_SOURCES⟩ := K_SOURCES
  obtain ⟨v_EVICTIONS, m_EVICTIONS, s_EVICTIONS⟩ := K_EVICTIONS
  obtain ⟨v_STOPS, m_STOPS, s_STOPS⟩ := K_STOPS
  obtain ⟨v_PROMISES, m_PROMISES, s_PROMISES⟩ := K_PROMISES
  let T : Txt K mg := {
    f_check_number := f_check_number, fd_check_number := fd_check_number, F_check_number := F_check_number, m_check_number := m_check_number, f_is_design := f_is_design, fd_is_design := fd_is_design, F_is_design := F_is_design, m_is_design := m_is_design, f_is_world := f_is_world, fd_is_world := fd_is_world, F_is_world := F_is_world, m_is_world := m_is_world, f_is_triple := f_is_triple, fd_is_triple := fd_is_triple, F_is_triple := F_is_triple, m_is_triple := m_is_triple, f_all_designs := f_all_designs, fd_all_designs := fd_all_designs, F_all_designs := F_all_designs, m_all_designs := m_all_designs, f_all_worlds := f_all_worlds, fd_all_worlds := fd_all_worlds, F_all_worlds := F_all_worlds, m_all_worlds := m_all_worlds, f_all_triples := f_all_triples, fd_all_triples := fd_all_triples, F_all_triples := F_all_triples, m_all_triples := m_all_triples, f_words_at := f_words_at, fd_words_at := fd_words_at, F_words_at := F_words_at, m_words_at := m_words_at, f_check_design := f_check_design, fd_check_design := fd_check_design, F_check_design := F_check_design, m_check_design := m_check_design, f_check_world := f_check_world, fd_check_world := fd_check_world, F_check_world := F_check_world, m_check_world := m_check_world, f_check_question := f_check_question, fd_check_question := fd_check_question, F_check_question := F_check_question, m_check_question := m_check_question, f_check_promise := f_check_promise, fd_check_promise := fd_check_promise, F_check_promise := F_check_promise, m_check_promise := m_check_promise, f_check_promises := f_check_promises, fd_check_promises := fd_check_promises, F_check_promises := F_check_promises, m_check_promises := m_check_promises, f_holds := f_holds, fd_holds := fd_holds, F_holds := F_holds, m_holds := m_holds, f_profile := f_profile, fd_profile := fd_profile, F_profile := F_profile, m_profile := m_profile, f_passes_by := f_passes_by, fd_passes_by := fd_passes_by, F_passes_by := F_passes_by, m_passes_by := m_passes_by, f_climbs := f_climbs, fd_climbs := fd_climbs, F_climbs := F_climbs, m_climbs := m_climbs, f_guards := f_guards, fd_guards := fd_guards, F_guards := F_guards, m_guards := m_guards, f_is_alone := f_is_alone, fd_is_alone := fd_is_alone, F_is_alone := F_is_alone, m_is_alone := m_is_alone, f_is_primary := f_is_primary, fd_is_primary := fd_is_primary, F_is_primary := F_is_primary, m_is_primary := m_is_primary, f_keeps := f_keeps, fd_keeps := fd_keeps, F_keeps := F_keeps, m_keeps := m_keeps, f_finishes := f_finishes, fd_finishes := fd_finishes, F_finishes := F_finishes, m_finishes := m_finishes, f_holds_ending := f_holds_ending, fd_holds_ending := fd_holds_ending, F_holds_ending := F_holds_ending, m_holds_ending := m_holds_ending, f_holds_filled := f_holds_filled, fd_holds_filled := fd_holds_filled, F_holds_filled := F_holds_filled, m_holds_filled := m_holds_filled, f_holds_forward := f_holds_forward, fd_holds_forward := fd_holds_forward, F_holds_forward := F_holds_forward, m_holds_forward := m_holds_forward, f_holds_fresh := f_holds_fresh, fd_holds_fresh := fd_holds_fresh, F_holds_fresh := F_holds_fresh, m_holds_fresh := m_holds_fresh, f_holds_linear := f_holds_linear, fd_holds_linear := fd_holds_linear, F_holds_linear := F_holds_linear, m_holds_linear := m_holds_linear, f_holds_mended := f_holds_mended, fd_holds_mended := fd_holds_mended, F_holds_mended := F_holds_mended, m_holds_mended := m_holds_mended, f_holds_moving := f_holds_moving, fd_holds_moving := fd_holds_moving, F_holds_moving := F_holds_moving, m_holds_moving := m_holds_moving, f_holds_quiet := f_holds_quiet, fd_holds_quiet := fd_holds_quiet, F_holds_quiet := F_holds_quiet, m_holds_quiet := m_holds_quiet, f_holds_rest := f_holds_rest, fd_holds_rest := fd_holds_rest, F_holds_rest := F_holds_rest, m_holds_rest := m_holds_rest, f_holds_single := f_holds_single, fd_holds_single := fd_holds_single, F_holds_single := F_holds_single, m_holds_single := m_holds_single, f_keepers := f_keepers, fd_keepers := fd_keepers, F_keepers := F_keepers, m_keepers := m_keepers, f_worlds_for := f_worlds_for, fd_worlds_for := fd_worlds_for, F_worlds_for := F_worlds_for, m_worlds_for := m_worlds_for, f_nearest := f_nearest, fd_nearest := fd_nearest, F_nearest := F_nearest, m_nearest := m_nearest, f_strongest := f_strongest, fd_strongest := fd_strongest, F_strongest := F_strongest, m_strongest := m_strongest, f_harmless := f_harmless, fd_harmless := fd_harmless, F_harmless := F_harmless, m_harmless := m_harmless, f_keeps_all := f_keeps_all, fd_keeps_all := fd_keeps_all, F_keeps_all := F_keeps_all, m_keeps_all := m_keeps_all, f_changes := f_changes, fd_changes := fd_changes, F_changes := F_changes, m_changes := m_changes, f_is_proper_part := f_is_proper_part, fd_is_proper_part := fd_is_proper_part, F_is_proper_part := F_is_proper_part, m_is_proper_part := m_is_proper_part, f_changed := f_changed, fd_changed := fd_changed, F_changed := F_changed, m_changed := m_changed, f_Ltaken := f_Ltaken, fd_Ltaken := fd_Ltaken, F_Ltaken := F_Ltaken, m_Ltaken := m_Ltaken, f_Lpick := f_Lpick, fd_Lpick := fd_Lpick, F_Lpick := F_Lpick, m_Lpick := m_Lpick, f_Lalike := f_Lalike, fd_Lalike := fd_Lalike, F_Lalike := F_Lalike, m_Lalike := m_Lalike, f_Lpaths := f_Lpaths, fd_Lpaths := fd_Lpaths, F_Lpaths := F_Lpaths, m_Lpaths := m_Lpaths, f_Lpromises := f_Lpromises, fd_Lpromises := fd_Lpromises, F_Lpromises := F_Lpromises, m_Lpromises := m_Lpromises, f_Lholds := f_Lholds, fd_Lholds := fd_Lholds, F_Lholds := F_Lholds, m_Lholds := m_Lholds, f_Lwords := f_Lwords, fd_Lwords := fd_Lwords, F_Lwords := F_Lwords, m_Lwords := m_Lwords, f_Ldesigns := f_Ldesigns, fd_Ldesigns := fd_Ldesigns, F_Ldesigns := F_Ldesigns, m_Ldesigns := m_Ldesigns, f_Lworlds := f_Lworlds, fd_Lworlds := fd_Lworlds, F_Lworlds := F_Lworlds, m_Lworlds := m_Lworlds, f_Lkept := f_Lkept, fd_Lkept := fd_Lkept, F_Lkept := F_Lkept, m_Lkept := m_Lkept, f_Lkeeps := f_Lkeeps, fd_Lkeeps := fd_Lkeeps, F_Lkeeps := F_Lkeeps, m_Lkeeps := m_Lkeeps, f_law := f_law, fd_law := fd_law, F_law := F_law, m_law := m_law, n_len := n_len, n_isinstance := n_isinstance, n_range := n_range, n_int := n_int, n_str := n_str, n_bool := n_bool, n_tuple := n_tuple, n_list := n_list, n_min := n_min, n_any := n_any, n_all := n_all, n_zip := n_zip, n_sorted := n_sorted }
  let U : TxtC K mg := { v_PATHS := v_PATHS, m_PATHS := m_PATHS, s_PATHS := s_PATHS, v_GUARDS := v_GUARDS, m_GUARDS := m_GUARDS, s_GUARDS := s_GUARDS, v_FLIGHTS := v_FLIGHTS, m_FLIGHTS := m_FLIGHTS, s_FLIGHTS := s_FLIGHTS, v_SOURCES := v_SOURCES, m_SOURCES := m_SOURCES, s_SOURCES := s_SOURCES, v_EVICTIONS := v_EVICTIONS, m_EVICTIONS := m_EVICTIONS, s_EVICTIONS := s_EVICTIONS, v_STOPS := v_STOPS, m_STOPS := m_STOPS, s_STOPS := s_STOPS, v_PROMISES := v_PROMISES, m_PROMISES := m_PROMISES, s_PROMISES := s_PROMISES }
  obtain ⟨v_HOLDS, m_HOLDS, ⟨q0, r0, p0⟩, ⟨q1, r1, p1⟩, ⟨q2, r2, p2⟩, ⟨q3, r3, p3⟩, ⟨q4, r4, p4⟩, ⟨q5, r5, p5⟩, ⟨q6, r6, p6⟩, ⟨q7, r7, p7⟩, ⟨q8, r8, p8⟩, ⟨q9, r9, p9⟩⟩ := d_HOLDS
  have p0 : KDct K w v_HOLDS "ending" (.ref f_holds_ending) := by
    have z := m_holds_ending.symm.trans r0
    cases z
    exact p0
  have p1 : KDct K w v_HOLDS "filled" (.ref f_holds_filled) := by
    have z := m_holds_filled.symm.trans r1
    cases z
    exact p1
  have p2 : KDct K w v_HOLDS "forward" (.ref f_holds_forward) := by
    have z := m_holds_forward.symm.trans r2
    cases z
    exact p2
  have p3 : KDct K w v_HOLDS "fresh" (.ref f_holds_fresh) := by
    have z := m_holds_fresh.symm.trans r3
    cases z
    exact p3
  have p4 : KDct K w v_HOLDS "linear" (.ref f_holds_linear) := by
    have z := m_holds_linear.symm.trans r4
    cases z
    exact p4
  have p5 : KDct K w v_HOLDS "mended" (.ref f_holds_mended) := by
    have z := m_holds_mended.symm.trans r5
    cases z
    exact p5
  have p6 : KDct K w v_HOLDS "moving" (.ref f_holds_moving) := by
    have z := m_holds_moving.symm.trans r6
    cases z
    exact p6
  have p7 : KDct K w v_HOLDS "quiet" (.ref f_holds_quiet) := by
    have z := m_holds_quiet.symm.trans r7
    cases z
    exact p7
  have p8 : KDct K w v_HOLDS "rest" (.ref f_holds_rest) := by
    have z := m_holds_rest.symm.trans r8
    cases z
    exact p8
  have p9 : KDct K w v_HOLDS "single" (.ref f_holds_single) := by
    have z := m_holds_single.symm.trans r9
    cases z
    exact p9
  let Y : TxtD_HOLDS K w mg T := { v_ := v_HOLDS, m_ := m_HOLDS, k_ending := p0, k_filled := p1, k_forward := p2, k_fresh := p3, k_linear := p4, k_mended := p5, k_moving := p6, k_quiet := p7, k_rest := p8, k_single := p9 }
  have e : f_law = fa := by
    have z := m_law.symm.trans hmg
    cases z
    rfl
  subst e
  refine ⟨fd_law, [(c_nearest, P_nearest)], (spLawT K P_nearest), (List.forall_mem_cons.mpr ⟨tb_nearest, (fun _ h => nomatch h)⟩), (List.forall_mem_cons.mpr ⟨out_nearest, (fun _ h => nomatch h)⟩), (List.forall_mem_cons.mpr ⟨(PySem.W.codeHd_of_K X hd_nearest), (fun _ h => nomatch h)⟩), fun s u => ?_, fun H a ns hl hb hT hS => ?_, fun base KB GB hTB => ok_law T U Y (hTB (c_nearest, P_nearest) (by simp)) hc_nearest⟩
  · obtain ⟨oc, od, kV, doc, pm, an, cdv, ct, osl, ef, _, _⟩ := F_law.ex
    rw [ef]
    exact .of_eq rfl
  · unfold spLawT
    exact ⟨a, ns, rfl, hS, hT (c_nearest, P_nearest) (by simp), fun _ => rfl⟩
theorem walk {l : PySem.W.OpenLaw} {q : Program} {loose : List Str} {XP : (Str → Option Value) → Heap → Prop} {YP : World → Heap → Prop} {d : DefRec} {K : Params → PySem.W.Frag} (hn : l.most = some 63) (hdf : d.params.defaults = [])
    (hY : ∀ (w : World) (h : Heap), YP w h → (K w.params).In h)
    (F : ∀ (w : World) (mg : Str → Option Value) (fa : Addr) (h : Heap), YP w h → (K w.params).In h → h.Ns mainGlobals mg → mg d.name = some (.ref fa) → LamX.LawAtS l w (K w.params) CX0 10 63 "script" mg fa h) :
    PySem.W.WalkO q loose XP YP l.row.toRowW d [] (fun f vs => PySem.call f vs) :=
  LamX.walk_ofTs (n := 63) (k := 10) (x := "script") (CX := fun _ => CX0) hn (by decide) hdf ⟨rfl, by decide, by decide⟩ hY F fun _ _ _ _ _ z => z
end Ca

open PySem PySem.W PyProof.Rows
set_option Elab.async false
set_option maxRecDepth 100000 in
set_option maxHeartbeats 0 in
theorem PySem.Challenge.cw_cacheheld_k07_whole_choices_holds : PySem.Challenge.rw_cacheheld_k07_whole_choices.Holds := by
  w_on; o_law; k_head; (case hw => w_witness2)
  k_fill
  refine Ca.walk (l := PySem.Challenge.rw_cacheheld_k07_whole_choices) rfl rfl (fun w h Y => PySem.W.km_in_of Y) ?F
  case F =>
    intro w mg fa h Y KX G hmg
    refine' Ca.fin KX hmg ?D_check_number ?D_is_design ?D_is_world ?D_is_triple ?D_all_designs ?D_all_worlds ?D_all_triples ?D_words_at ?D_check_design ?D_check_world ?D_check_question ?D_check_promise ?D_check_promises ?D_holds ?D_profile ?D_passes_by ?D_climbs ?D_guards ?D_is_alone ?D_is_primary ?D_keeps ?D_finishes ?D_holds_ending ?D_holds_filled ?D_holds_forward ?D_holds_fresh ?D_holds_linear ?D_holds_mended ?D_holds_moving ?D_holds_quiet ?D_holds_rest ?D_holds_single ?D_keepers ?D_worlds_for ?D_nearest ?D_strongest ?D_harmless ?D_keeps_all ?D_changes ?D_is_proper_part ?D_changed ?D_Ltaken ?D_Lpick ?D_Lalike ?D_Lpaths ?D_Lpromises ?D_Lholds ?D_Lwords ?D_Ldesigns ?D_Lworlds ?D_Lkept ?D_Lkeeps ?D_law ?K_PATHS ?K_GUARDS ?K_FLIGHTS ?K_SOURCES ?K_EVICTIONS ?K_STOPS ?K_PROMISES ?n_len ?n_isinstance ?n_range ?n_int ?n_str ?n_bool ?n_tuple ?n_list ?n_min ?n_any ?n_all ?n_zip ?n_sorted ?d_HOLDS
    case D_check_number =>
      refine' Ca.def_mk KX G ?z1_a ?z1_l ?z1_c ?z1_k
      (case z1_a => k_is)
      (case z1_l => k_is)
      (case z1_c => k_is)
      (case z1_k => k_is)
    case D_is_design =>
      refine' Ca.def_mk KX G ?z2_a ?z2_l ?z2_c ?z2_k
      (case z2_a => k_is)
      (case z2_l => k_is)
      (case z2_c => k_is)
      (case z2_k => k_is)
    case D_is_world =>
      refine' Ca.def_mk KX G ?z3_a ?z3_l ?z3_c ?z3_k
      (case z3_a => k_is)
      (case z3_l => k_is)
      (case z3_c => k_is)
      (case z3_k => k_is)
    case D_is_triple =>
      refine' Ca.def_mk KX G ?z4_a ?z4_l ?z4_c ?z4_k
      (case z4_a => k_is)
      (case z4_l => k_is)
      (case z4_c => k_is)
      (case z4_k => k_is)
    case D_all_designs =>
      refine' Ca.def_mk KX G ?z5_a ?z5_l ?z5_c ?z5_k
      (case z5_a => k_is)
      (case z5_l => k_is)
      (case z5_c => k_is)
      (case z5_k => k_is)
    case D_all_worlds =>
      refine' Ca.def_mk KX G ?z6_a ?z6_l ?z6_c ?z6_k
      (case z6_a => k_is)
      (case z6_l => k_is)
      (case z6_c => k_is)
      (case z6_k => k_is)
    case D_all_triples =>
      refine' Ca.def_mk KX G ?z7_a ?z7_l ?z7_c ?z7_k
      (case z7_a => k_is)
      (case z7_l => k_is)
      (case z7_c => k_is)
      (case z7_k => k_is)
    case D_words_at =>
      refine' Ca.def_mk KX G ?z8_a ?z8_l ?z8_c ?z8_k
      (case z8_a => k_is)
      (case z8_l => k_is)
      (case z8_c => k_is)
      (case z8_k => k_is)
    case D_check_design =>
      refine' Ca.def_mk KX G ?z9_a ?z9_l ?z9_c ?z9_k
      (case z9_a => k_is)
      (case z9_l => k_is)
      (case z9_c => k_is)
      (case z9_k => k_is)
    case D_check_world =>
      refine' Ca.def_mk KX G ?z10_a ?z10_l ?z10_c ?z10_k
      (case z10_a => k_is)
      (case z10_l => k_is)
      (case z10_c => k_is)
      (case z10_k => k_is)
    case D_check_question =>
      refine' Ca.def_mk KX G ?z11_a ?z11_l ?z11_c ?z11_k
      (case z11_a => k_is)
      (case z11_l => k_is)
      (case z11_c => k_is)
      (case z11_k => k_is)
    case D_check_promise =>
      refine' Ca.def_mk KX G ?z12_a ?z12_l ?z12_c ?z12_k
      (case z12_a => k_is)
      (case z12_l => k_is)
      (case z12_c => k_is)
      (case z12_k => k_is)
    case D_check_promises =>
      refine' Ca.def_mk KX G ?z13_a ?z13_l ?z13_c ?z13_k
      (case z13_a => k_is)
      (case z13_l => k_is)
      (case z13_c => k_is)
      (case z13_k => k_is)
    case D_holds =>
      refine' Ca.def_mk KX G ?z14_a ?z14_l ?z14_c ?z14_k
      (case z14_a => k_is)
      (case z14_l => k_is)
      (case z14_c => k_is)
      (case z14_k => k_is)
    case D_profile =>
      refine' Ca.def_mk KX G ?z15_a ?z15_l ?z15_c ?z15_k
      (case z15_a => k_is)
      (case z15_l => k_is)
      (case z15_c => k_is)
      (case z15_k => k_is)
    case D_passes_by =>
      refine' Ca.def_mk KX G ?z16_a ?z16_l ?z16_c ?z16_k
      (case z16_a => k_is)
      (case z16_l => k_is)
      (case z16_c => k_is)
      (case z16_k => k_is)
    case D_climbs =>
      refine' Ca.def_mk KX G ?z17_a ?z17_l ?z17_c ?z17_k
      (case z17_a => k_is)
      (case z17_l => k_is)
      (case z17_c => k_is)
      (case z17_k => k_is)
    case D_guards =>
      refine' Ca.def_mk KX G ?z18_a ?z18_l ?z18_c ?z18_k
      (case z18_a => k_is)
      (case z18_l => k_is)
      (case z18_c => k_is)
      (case z18_k => k_is)
    case D_is_alone =>
      refine' Ca.def_mk KX G ?z19_a ?z19_l ?z19_c ?z19_k
      (case z19_a => k_is)
      (case z19_l => k_is)
      (case z19_c => k_is)
      (case z19_k => k_is)
    case D_is_primary =>
      refine' Ca.def_mk KX G ?z20_a ?z20_l ?z20_c ?z20_k
      (case z20_a => k_is)
      (case z20_l => k_is)
      (case z20_c => k_is)
      (case z20_k => k_is)
    case D_keeps =>
      refine' Ca.def_mk KX G ?z21_a ?z21_l ?z21_c ?z21_k
      (case z21_a => k_is)
      (case z21_l => k_is)
      (case z21_c => k_is)
      (case z21_k => k_is)
    case D_finishes =>
      refine' Ca.def_mk KX G ?z22_a ?z22_l ?z22_c ?z22_k
      (case z22_a => k_is)
      (case z22_l => k_is)
      (case z22_c => k_is)
      (case z22_k => k_is)
    case D_holds_ending =>
      refine' Ca.def_mk KX G ?z23_a ?z23_l ?z23_c ?z23_k
      (case z23_a => k_is)
      (case z23_l => k_is)
      (case z23_c => k_is)
      (case z23_k => k_is)
    case D_holds_filled =>
      refine' Ca.def_mk KX G ?z24_a ?z24_l ?z24_c ?z24_k
      (case z24_a => k_is)
      (case z24_l => k_is)
      (case z24_c => k_is)
      (case z24_k => k_is)
    case D_holds_forward =>
      refine' Ca.def_mk KX G ?z25_a ?z25_l ?z25_c ?z25_k
      (case z25_a => k_is)
      (case z25_l => k_is)
      (case z25_c => k_is)
      (case z25_k => k_is)
    case D_holds_fresh =>
      refine' Ca.def_mk KX G ?z26_a ?z26_l ?z26_c ?z26_k
      (case z26_a => k_is)
      (case z26_l => k_is)
      (case z26_c => k_is)
      (case z26_k => k_is)
    case D_holds_linear =>
      refine' Ca.def_mk KX G ?z27_a ?z27_l ?z27_c ?z27_k
      (case z27_a => k_is)
      (case z27_l => k_is)
      (case z27_c => k_is)
      (case z27_k => k_is)
    case D_holds_mended =>
      refine' Ca.def_mk KX G ?z28_a ?z28_l ?z28_c ?z28_k
      (case z28_a => k_is)
      (case z28_l => k_is)
      (case z28_c => k_is)
      (case z28_k => k_is)
    case D_holds_moving =>
      refine' Ca.def_mk KX G ?z29_a ?z29_l ?z29_c ?z29_k
      (case z29_a => k_is)
      (case z29_l => k_is)
      (case z29_c => k_is)
      (case z29_k => k_is)
    case D_holds_quiet =>
      refine' Ca.def_mk KX G ?z30_a ?z30_l ?z30_c ?z30_k
      (case z30_a => k_is)
      (case z30_l => k_is)
      (case z30_c => k_is)
      (case z30_k => k_is)
    case D_holds_rest =>
      refine' Ca.def_mk KX G ?z31_a ?z31_l ?z31_c ?z31_k
      (case z31_a => k_is)
      (case z31_l => k_is)
      (case z31_c => k_is)
      (case z31_k => k_is)
    case D_holds_single =>
      refine' Ca.def_mk KX G ?z32_a ?z32_l ?z32_c ?z32_k
      (case z32_a => k_is)
      (case z32_l => k_is)
      (case z32_c => k_is)
      (case z32_k => k_is)
    case D_keepers =>
      refine' Ca.def_mk KX G ?z33_a ?z33_l ?z33_c ?z33_k
      (case z33_a => k_is)
      (case z33_l => k_is)
      (case z33_c => k_is)
      (case z33_k => k_is)
    case D_worlds_for =>
      refine' Ca.def_mk KX G ?z34_a ?z34_l ?z34_c ?z34_k
      (case z34_a => k_is)
      (case z34_l => k_is)
      (case z34_c => k_is)
      (case z34_k => k_is)
    case D_nearest =>
      refine' Ca.mk_mk KX G ?z35_a ?z35_l ?z35_c1 ?z35_k ?z35_tb ?z35_hd ?z35_out
      (case z35_a => k_is)
      (case z35_l => k_is)
      (case z35_c1 => k_is)
      (case z35_k => k_is)
      (case z35_tb => exact PySem.W.km_tabs_of Y _ (List.mem_cons_self ..))
      (case z35_hd => kernel_rfl)
      (case z35_out => kernel_rfl)
    case D_strongest =>
      refine' Ca.def_mk KX G ?z36_a ?z36_l ?z36_c ?z36_k
      (case z36_a => k_is)
      (case z36_l => k_is)
      (case z36_c => k_is)
      (case z36_k => k_is)
    case D_harmless =>
      refine' Ca.def_mk KX G ?z37_a ?z37_l ?z37_c ?z37_k
      (case z37_a => k_is)
      (case z37_l => k_is)
      (case z37_c => k_is)
      (case z37_k => k_is)
    case D_keeps_all =>
      refine' Ca.def_mk KX G ?z38_a ?z38_l ?z38_c ?z38_k
      (case z38_a => k_is)
      (case z38_l => k_is)
      (case z38_c => k_is)
      (case z38_k => k_is)
    case D_changes =>
      refine' Ca.def_mk KX G ?z39_a ?z39_l ?z39_c ?z39_k
      (case z39_a => k_is)
      (case z39_l => k_is)
      (case z39_c => k_is)
      (case z39_k => k_is)
    case D_is_proper_part =>
      refine' Ca.def_mk KX G ?z40_a ?z40_l ?z40_c ?z40_k
      (case z40_a => k_is)
      (case z40_l => k_is)
      (case z40_c => k_is)
      (case z40_k => k_is)
    case D_changed =>
      refine' Ca.def_mk KX G ?z41_a ?z41_l ?z41_c ?z41_k
      (case z41_a => k_is)
      (case z41_l => k_is)
      (case z41_c => k_is)
      (case z41_k => k_is)
    case D_Ltaken =>
      refine' Ca.def_mk KX G ?z42_a ?z42_l ?z42_c ?z42_k
      (case z42_a => k_is)
      (case z42_l => k_is)
      (case z42_c => k_is)
      (case z42_k => k_is)
    case D_Lpick =>
      refine' Ca.def_mk KX G ?z43_a ?z43_l ?z43_c ?z43_k
      (case z43_a => k_is)
      (case z43_l => k_is)
      (case z43_c => k_is)
      (case z43_k => k_is)
    case D_Lalike =>
      refine' Ca.def_mk KX G ?z44_a ?z44_l ?z44_c ?z44_k
      (case z44_a => k_is)
      (case z44_l => k_is)
      (case z44_c => k_is)
      (case z44_k => k_is)
    case D_Lpaths =>
      refine' Ca.def_mk KX G ?z45_a ?z45_l ?z45_c ?z45_k
      (case z45_a => k_is)
      (case z45_l => k_is)
      (case z45_c => k_is)
      (case z45_k => k_is)
    case D_Lpromises =>
      refine' Ca.def_mk KX G ?z46_a ?z46_l ?z46_c ?z46_k
      (case z46_a => k_is)
      (case z46_l => k_is)
      (case z46_c => k_is)
      (case z46_k => k_is)
    case D_Lholds =>
      refine' Ca.def_mk KX G ?z47_a ?z47_l ?z47_c ?z47_k
      (case z47_a => k_is)
      (case z47_l => k_is)
      (case z47_c => k_is)
      (case z47_k => k_is)
    case D_Lwords =>
      refine' Ca.def_mk KX G ?z48_a ?z48_l ?z48_c ?z48_k
      (case z48_a => k_is)
      (case z48_l => k_is)
      (case z48_c => k_is)
      (case z48_k => k_is)
    case D_Ldesigns =>
      refine' Ca.def_mk KX G ?z49_a ?z49_l ?z49_c ?z49_k
      (case z49_a => k_is)
      (case z49_l => k_is)
      (case z49_c => k_is)
      (case z49_k => k_is)
    case D_Lworlds =>
      refine' Ca.def_mk KX G ?z50_a ?z50_l ?z50_c ?z50_k
      (case z50_a => k_is)
      (case z50_l => k_is)
      (case z50_c => k_is)
      (case z50_k => k_is)
    case D_Lkept =>
      refine' Ca.def_mk KX G ?z51_a ?z51_l ?z51_c ?z51_k
      (case z51_a => k_is)
      (case z51_l => k_is)
      (case z51_c => k_is)
      (case z51_k => k_is)
    case D_Lkeeps =>
      refine' Ca.def_mk KX G ?z52_a ?z52_l ?z52_c ?z52_k
      (case z52_a => k_is)
      (case z52_l => k_is)
      (case z52_c => k_is)
      (case z52_k => k_is)
    case D_law =>
      refine' Ca.def_mk KX G ?z53_a ?z53_l ?z53_c ?z53_k
      (case z53_a => k_is)
      (case z53_l => k_is)
      (case z53_c => k_is)
      (case z53_k => k_is)
    case K_PATHS =>
      refine' Ca.con_mk KX G ?z54_a ?z54_l ?z54_z ?z54_r
      (case z54_a => k_is)
      (case z54_l => k_is)
      (case z54_z => first | decide +kernel | decide)
      (case z54_r => exact (.cons ⟨_, rfl⟩ (.cons ⟨_, rfl⟩ (.cons ⟨_, rfl⟩ (.cons ⟨_, rfl⟩ (.cons ⟨_, rfl⟩ .nil))))))
    case K_GUARDS =>
      refine' Ca.con_mk KX G ?z55_a ?z55_l ?z55_z ?z55_r
      (case z55_a => k_is)
      (case z55_l => k_is)
      (case z55_z => first | decide +kernel | decide)
      (case z55_r => exact (.cons ⟨_, rfl⟩ (.cons ⟨_, rfl⟩ (.cons ⟨_, rfl⟩ (.cons ⟨_, rfl⟩ (.cons ⟨_, rfl⟩ (.cons ⟨_, rfl⟩ .nil)))))))
    case K_FLIGHTS =>
      refine' Ca.con_mk KX G ?z56_a ?z56_l ?z56_z ?z56_r
      (case z56_a => k_is)
      (case z56_l => k_is)
      (case z56_z => first | decide +kernel | decide)
      (case z56_r => exact (.cons ⟨_, rfl⟩ (.cons ⟨_, rfl⟩ .nil)))
    case K_SOURCES =>
      refine' Ca.con_mk KX G ?z57_a ?z57_l ?z57_z ?z57_r
      (case z57_a => k_is)
      (case z57_l => k_is)
      (case z57_z => first | decide +kernel | decide)
      (case z57_r => exact (.cons ⟨_, rfl⟩ (.cons ⟨_, rfl⟩ .nil)))
    case K_EVICTIONS =>
      refine' Ca.con_mk KX G ?z58_a ?z58_l ?z58_z ?z58_r
      (case z58_a => k_is)
      (case z58_l => k_is)
      (case z58_z => first | decide +kernel | decide)
      (case z58_r => exact (.cons ⟨_, rfl⟩ (.cons ⟨_, rfl⟩ .nil)))
    case K_STOPS =>
      refine' Ca.con_mk KX G ?z59_a ?z59_l ?z59_z ?z59_r
      (case z59_a => k_is)
      (case z59_l => k_is)
      (case z59_z => first | decide +kernel | decide)
      (case z59_r => exact (.cons ⟨_, rfl⟩ (.cons ⟨_, rfl⟩ .nil)))
    case K_PROMISES =>
      refine' Ca.con_mk KX G ?z60_a ?z60_l ?z60_z ?z60_r
      (case z60_a => k_is)
      (case z60_l => k_is)
      (case z60_z => first | decide +kernel | decide)
      (case z60_r => exact (.cons ⟨_, rfl⟩ (.cons ⟨_, rfl⟩ (.cons ⟨_, rfl⟩ (.cons ⟨_, rfl⟩ (.cons ⟨_, rfl⟩ (.cons ⟨_, rfl⟩ (.cons ⟨_, rfl⟩ (.cons ⟨_, rfl⟩ (.cons ⟨_, rfl⟩ (.cons ⟨_, rfl⟩ .nil)))))))))))
    case n_len =>
      refine' PySem.W.mg_none_of KX G ?z61_a
      (case z61_a => k_is)
    case n_isinstance =>
      refine' PySem.W.mg_none_of KX G ?z62_a
      (case z62_a => k_is)
    case n_range =>
      refine' PySem.W.mg_none_of KX G ?z63_a
      (case z63_a => k_is)
    case n_int =>
      refine' PySem.W.mg_none_of KX G ?z64_a
      (case z64_a => k_is)
    case n_str =>
      refine' PySem.W.mg_none_of KX G ?z65_a
      (case z65_a => k_is)
    case n_bool =>
      refine' PySem.W.mg_none_of KX G ?z66_a
      (case z66_a => k_is)
    case n_tuple =>
      refine' PySem.W.mg_none_of KX G ?z67_a
      (case z67_a => k_is)
    case n_list =>
      refine' PySem.W.mg_none_of KX G ?z68_a
      (case z68_a => k_is)
    case n_min =>
      refine' PySem.W.mg_none_of KX G ?z69_a
      (case z69_a => k_is)
    case n_any =>
      refine' PySem.W.mg_none_of KX G ?z70_a
      (case z70_a => k_is)
    case n_all =>
      refine' PySem.W.mg_none_of KX G ?z71_a
      (case z71_a => k_is)
    case n_zip =>
      refine' PySem.W.mg_none_of KX G ?z72_a
      (case z72_a => k_is)
    case n_sorted =>
      refine' PySem.W.mg_none_of KX G ?z73_a
      (case z73_a => k_is)
    case d_HOLDS =>
      refine' Ca.dct_HOLDS_mk KX G ?z74_a ?z74_l ?z74_kl ?z74_a0 ?z74_e0 ?z74_a1 ?z74_e1 ?z74_a2 ?z74_e2 ?z74_a3 ?z74_e3 ?z74_a4 ?z74_e4 ?z74_a5 ?z74_e5 ?z74_a6 ?z74_e6 ?z74_a7 ?z74_e7 ?z74_a8 ?z74_e8 ?z74_a9 ?z74_e9
      (case z74_a => k_is)
      (case z74_l => k_is)
      (case z74_kl => exact ⟨⟨_, _, rfl, rfl⟩, ⟨_, _, rfl, rfl⟩, ⟨_, _, rfl, rfl⟩, ⟨_, _, rfl, rfl⟩, ⟨_, _, rfl, rfl⟩, ⟨_, _, rfl, rfl⟩, ⟨_, _, rfl, rfl⟩, ⟨_, _, rfl, rfl⟩, ⟨_, _, rfl, rfl⟩, ⟨_, _, rfl, rfl⟩, trivial⟩)
      (case z74_a0 => k_is)
      (case z74_e0 => k_is)
      (case z74_a1 => k_is)
      (case z74_e1 => k_is)
      (case z74_a2 => k_is)
      (case z74_e2 => k_is)
      (case z74_a3 => k_is)
      (case z74_e3 => k_is)
      (case z74_a4 => k_is)
      (case z74_e4 => k_is)
      (case z74_a5 => k_is)
      (case z74_e5 => k_is)
      (case z74_a6 => k_is)
      (case z74_e6 => k_is)
      (case z74_a7 => k_is)
      (case z74_e7 => k_is)
      (case z74_a8 => k_is)
      (case z74_e8 => k_is)
      (case z74_a9 => k_is)
      (case z74_e9 => k_is)


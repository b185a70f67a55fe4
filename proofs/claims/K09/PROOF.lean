import PyProof.Rows.All
import Wide.All
import OpenK.AllK
import Wide.FinOn
import KE.KSortTup
import KE.KSortTupAny
import HandS.ForMost
import HandS.Sort
import HandS.SortOrd
import HandS.SortRule
import HandS.ForExc
import HandS.More
import HandS.Small
import HandS.Flow
import HandS.Style
import HandS.IsInst
import HandS.Deep
import HandS.ListItems
import HandS.TupAny
import HandS.NoneIn
import HandS.Evl
import HandS.CallLocal
import PySem.Challenge.RW_cacheheld_k09_whole_texts
import KE.GoesEnum
import KE.KExcSuper
import HandS.ExcInit
import HandS.FStr
import HandS.HeadWalk
import HandS.ExcSuper
import PyProof.FString2
import HandS.RaiseMore
import HandS.DictComp
import HandS.ExcIs
import HandS.TryOnly
import PyProof.StrLawsTight
import PyProof.StrLawsChain
import KE.GoesEnumKw
import PyProof.Rows.CallKwBuiltin
import HandS.ExcField
import KE.KExcIs
import HandS.Lambda
import HandS.ExcOwn
import KE.KDflt
import HandS.CallSlots
import KE.KLam
import KE.KNestM
import HandS.Base
import HandS.Call
import HandS.List
import HandS.Nested
import HandS.EndTab
import HandS.Iter
import HandS.Words
set_option Elab.async false
set_option linter.all false
set_option maxRecDepth 100000
set_option maxHeartbeats 4000000
/-! events (a word, maybe a number), tuples of them in the heap, and sorted of a list of such -/
namespace Ca
open PySem L2
abbrev Ev := Str × Option Int
def evV (e : Ev) : List V := match e.2 with
  | none => [.str e.1]
  | some k => [.str e.1, .int k]
def evK (e : Ev) : List (Int ⊕ List Nat) := match e.2 with
  | none => [.inr e.1.cps.toList]
  | some k => [.inr e.1.cps.toList, .inl k]
def evLt (e f : Ev) : Bool := (PyProof.Rows.listOrd PyProof.Rows.itemOrd).blt (evK e) (evK f)
theorem evK_inj {e f : Ev} (h : evK e = evK f) : e = f := by
  obtain ⟨w, k⟩ := e
  obtain ⟨v, j⟩ := f
  cases k <;> cases j <;> simp [evK] at h
  · have : w = v := by cases w; cases v; simp_all
    rw [this]
  · obtain ⟨h1, h2⟩ := h
    have : w = v := by cases w; cases v; simp_all
    rw [this, h2]
theorem evLt_swo {α : Type} (k : α → Ev) : SrtO.Swo fun x y => evLt (k x) (k y) := by
  refine ⟨fun x y h => ?_, fun x y z h1 h2 => ?_⟩
  · cases q : evLt (k y) (k x) with
    | false => rfl
    | true =>
      have t := (PyProof.Rows.listOrd PyProof.Rows.itemOrd).trans _ _ _ h q
      rw [(PyProof.Rows.listOrd PyProof.Rows.itemOrd).irrefl] at t
      cases t
  · cases q : evLt (k z) (k x) with
    | false => rfl
    | true =>
      rcases (PyProof.Rows.listOrd PyProof.Rows.itemOrd).negTrans _ (evK (k y)) _ q with t | t
      · have e : evLt (k z) (k y) = true := t
        rw [h2] at e
        cases e
      · have e : evLt (k y) (k x) = true := t
        rw [h1] at e
        cases e
theorem evLt_total {e f : Ev} (h1 : evLt e f = false) (h2 : evLt f e = false) : e = f :=
  evK_inj ((PyProof.Rows.listOrd PyProof.Rows.itemOrd).total _ _ h1 h2)
abbrev Srt (l : List Ev) : Prop := SrtO.Srtd evLt l
theorem srt_uniq : ∀ {l m : List Ev}, Srt l → Srt m → l.Perm m → l = m
  | [], m, _, _, h => (List.Perm.eq_nil h.symm).symm
  | x :: l, [], _, _, h => absurd h.length_eq (by simp)
  | x :: l, y :: m, hl, hm, h => by
    have h1 : evLt x y = false := by
      rcases List.mem_cons.mp (h.mem_iff.mp (List.mem_cons_self (a := x) (l := l))) with e | hx
      · rw [e]
        exact (evLt_swo id).refl y
      · exact (List.pairwise_cons.mp hm).1 x hx
    have h2 : evLt y x = false := by
      rcases List.mem_cons.mp (h.mem_iff.mpr (List.mem_cons_self (a := y) (l := m))) with e | hy
      · rw [e]
        exact (evLt_swo id).refl x
      · exact (List.pairwise_cons.mp hl).1 y hy
    have e := evLt_total h1 h2
    subst e
    rw [srt_uniq (List.pairwise_cons.mp hl).2 (List.pairwise_cons.mp hm).2 h.cons_inv]

section
open PyProof.Rows
variable {prog : Program} {w : World} {A : Around} {E : Value → Shared → Prop} {s : Shared}
abbrev evSh : Nat → Bool := fun i => i == 0
/-- a tuple of the heap that holds an event -/
def IsEv (h : Heap) (v : Value) (e : Ev) : Prop := ∃ (a : Addr) (its : List Value), v = .ref a ∧ Vals (evV e) its ∧ IsTup h a its.toArray
theorem IsEv.keeps {h h' : Heap} {v : Value} {e : Ev} (x : IsEv h v e) (k : ∀ b o, h.get? b = some o → o.cls = .type "tuple" → h'.get? b = some o) : IsEv h' v e := by
  obtain ⟨a, its, rfl, r, o, ho, hc, hd⟩ := x
  exact ⟨a, its, rfl, r, o, k _ _ ho hc, hc, hd⟩
theorem IsEv.key {h : Heap} {v : Value} {e : Ev} (x : IsEv h v e) : tupKey h evSh v = some (evK e) := by
  obtain ⟨a, its, rfl, r, o, ho, hc, n, hd⟩ := x
  simp only [tupKey, ho, hd]
  obtain ⟨w, k⟩ := e
  cases k with
  | none =>
    cases r with
    | cons r1 r2 =>
      cases r2
      obtain ⟨t, rfl⟩ := r1
      simp [tupItems, evK]
  | some k =>
    cases r with
    | cons r1 r2 =>
      cases r2 with
      | cons r2 r3 =>
        cases r3
        obtain ⟨t, rfl⟩ := r1
        obtain ⟨u, rfl⟩ := r2
        simp [tupItems, evK]
theorem IsEv.first {h : Heap} {v : Value} {e : Ev} (x : IsEv h v e) : ∃ f, TupOf h evSh v f := by
  obtain ⟨a, its, rfl, r, o, ho, hc, n, hd⟩ := x
  obtain ⟨w, k⟩ := e
  cases k with
  | none =>
    cases r with
    | cons r1 r2 =>
      cases r2
      obtain ⟨t, rfl⟩ := r1
      exact ⟨_, a, o, _, n, rfl, ho, hc, hd, rfl, fun h => by simp at h, fun _ => ⟨_, _, rfl⟩⟩
  | some k =>
    cases r with
    | cons r1 r2 =>
      cases r2 with
      | cons r2 r3 =>
        cases r3
        obtain ⟨t, rfl⟩ := r1
        exact ⟨_, a, o, _, n, rfl, ho, hc, hd, rfl, fun h => by simp at h, fun _ => ⟨_, _, rfl⟩⟩
theorem evs_first {h : Heap} : ∀ {vs : List Value}, (∀ v ∈ vs, ∃ e, IsEv h v e) → ∃ fs, TupsOf h evSh vs fs ∧ fs.length = vs.length
  | [], _ => ⟨[], .nil, rfl⟩
  | v :: vs, x => by
    obtain ⟨fs, a, b⟩ := evs_first (vs := vs) fun u hu => x u (List.mem_cons_of_mem _ hu)
    obtain ⟨e, he⟩ := x v (List.mem_cons_self ..)
    obtain ⟨f, hf⟩ := he.first
    exact ⟨f :: fs, .cons hf a, by simp [b]⟩
theorem sorted_evs {l : Addr} {vs : List Value} {k : Value → Ev} {Q : Value → Shared → Prop} (hl : s.heap.IsList l vs.toArray) (hz : vs.length ≤ sizeLine) (hp : ∀ v ∈ vs, IsEv s.heap v (k v))
    (h : ∀ (h' : Heap) (d : Addr) (out : List Value), SrtO.Srtd (fun v u => evLt (k v) (k u)) out → SrtO.Stb (fun v u => evLt (k v) (k u)) out vs → (∀ b o, s.heap.get? b = some o → h'.get? b = some o) → s.heap.objs.size ≤ d → (∃ n, h'.get? d = some (seqObj "list" out.toArray n)) → Q (.ref d) { s with heap := h' }) :
    wpAny (model prog w) A (call (.builtin "sorted") [.ref l]) Q E s := by
  refine SrtO.sorted_ord (evLt_swo k) hl hz (fun h2 h₁ a ha kk => ?_) fun out hs hb => h _ _ out hs hb (fun b o e => sortedAll_old e) (Nat.le_succ _) (sortedAll_at s.heap vs out.toArray)
  intro h' keep
  have hp' : ∀ v ∈ vs, IsEv h' v (k v) := fun v hm => (hp v hm).keeps fun b o e c => keep b o (fun z => by
    subst z
    exact (kk b o e).1 rfl) (kk b o e).2
  obtain ⟨fs, h1, h3⟩ := evs_first fun v hm => ⟨_, hp' v hm⟩
  refine ⟨tuples' true, fun Q E hq => tup_kind (s := { s with heap := h' }) (by omega) h1 hq, ?_⟩
  intro p q hm hm'
  exact tup_ltAt (s := { s with heap := h' }) (shape := evSh) true _ _ p.1 q.1 (evK (k p.1)) (evK (k q.1)) (hp' _ hm).key (hp' _ hm').key ⟨rfl, rfl⟩
end
end Ca
namespace L2
open PySem PySem.Spec PyProof.Rows Ca
/-- sorted(xs), xs a list of tuples that hold events: a new list of the same tuples, ascending -/
def rSortedE (K : PySem.W.Frag) : List V → Hp → VK → Prop := fun vs H Q => ∃ (a : Addr) (xs : List V) (k : V → Ev), vs = [V.ref a] ∧ SqL K H a xs ∧ (∀ x ∈ xs, ∃ t, x = V.ref t ∧ H t = some (.tup (evV (k x)))) ∧
  ∀ ys p, SrtO.Srtd (fun x y => evLt (k x) (k y)) ys → ys.Perm xs → H p = none → Q (.ref p) (upd H p (.lst ys))
section
variable {X : Cx}
theorem cr_sortedE : CallR X (.builtin "sorted") (rSortedE X.K) := by
  intro pins s σ H vs us Q I r h
  obtain ⟨a, xs, k, rfl, hs, hx, q⟩ := h
  obtain ⟨its, rv, hl, hz⟩ := I.list hs
  obtain ⟨u, rfl, ru⟩ := vals1 r
  obtain rfl : u = Value.ref a := ru
  obtain ⟨e1, e2⟩ := refs_back rv fun x m => by
    obtain ⟨t, e, _⟩ := hx x m
    exact ⟨t, e⟩
  refine sorted_evs (k := fun u => k (backV u)) hl.isList (by rw [← rv.length]; exact hz) (fun v hv => ?_) fun h' d out h1 h2 kp hd hn => ?_
  · obtain ⟨t, rfl⟩ := e2 v hv
    have hm : V.ref t ∈ xs := by rw [e1]; exact List.mem_map.mpr ⟨_, hv, rfl⟩
    obtain ⟨t', e, ht⟩ := hx _ hm
    cases e
    obtain ⟨_, its2, r2, tp⟩ := I.hok _ _ ht
    exact ⟨t, its2, rfl, r2, tp⟩
  · have h3 : ∀ u ∈ out, ∃ a, u = Value.ref a := fun u hu => e2 u (h2.perm.mem_iff.mp hu)
    obtain ⟨n, hn⟩ := hn
    have hb : (out.map backV).Perm xs := by
      rw [e1]
      exact h2.perm.map _
    refine ⟨.ref d, upd H d (.lst (out.map backV)), I.laid (t' := s.toks) kp hd ⟨?_, out, n, vals_back h3, hn⟩, rfl, q _ d (SrtO.srtd_map h1) hb (I.hok.fresh hd)⟩
    rw [hb.length_eq]
    exact hz
end
end L2

set_option Elab.async false
set_option linter.all false
set_option maxRecDepth 100000
set_option maxHeartbeats 4000000
namespace Ca
open PySem L2
/-! ### the text by places -/
def top (i : Nat) : Stmt := PySem.Challenge.pw_cacheheld_k09_whole_texts.main.body.getD i (.Pass ⟨0, 0, 0, 0⟩)
abbrev s_check_text : Stmt := top 9
theorem sc_check_text : FnScope ["value"] ["value"] (defScope s_check_text) := ⟨rfl, rfl, rfl, by decide +kernel, rfl, by decide +kernel, by decide +kernel⟩

abbrev s_is_design : Stmt := top 17
theorem sc_is_design : FnScope ["value"] ["value"] (defScope s_is_design) := ⟨rfl, rfl, rfl, by decide +kernel, rfl, by decide +kernel, by decide +kernel⟩

abbrev s_is_world : Stmt := top 18
theorem sc_is_world : FnScope ["value"] ["value"] (defScope s_is_world) := ⟨rfl, rfl, rfl, by decide +kernel, rfl, by decide +kernel, by decide +kernel⟩

abbrev s_is_triple : Stmt := top 19
theorem sc_is_triple : FnScope ["value", "firsts", "seconds", "thirds"] ["value", "firsts", "seconds", "thirds"] (defScope s_is_triple) := ⟨rfl, rfl, rfl, by decide +kernel, rfl, by decide +kernel, by decide +kernel⟩

abbrev s_all_designs : Stmt := top 20
theorem sc_all_designs : FnScope [] [] (defScope s_all_designs) := ⟨rfl, rfl, rfl, by decide +kernel, rfl, by decide +kernel, by decide +kernel⟩

abbrev s_all_worlds : Stmt := top 21
theorem sc_all_worlds : FnScope [] [] (defScope s_all_worlds) := ⟨rfl, rfl, rfl, by decide +kernel, rfl, by decide +kernel, by decide +kernel⟩

abbrev s_all_triples : Stmt := top 22
theorem sc_all_triples : FnScope ["firsts", "seconds", "thirds", "one", "two", "three"] ["firsts", "seconds", "thirds"] (defScope s_all_triples) := ⟨rfl, rfl, rfl, by decide +kernel, rfl, by decide +kernel, by decide +kernel⟩

abbrev s_write_steps : Stmt := top 23
theorem sc_write_steps : FnScope ["design"] ["design"] (defScope s_write_steps) := ⟨rfl, rfl, rfl, by decide +kernel, rfl, by decide +kernel, by decide +kernel⟩

abbrev s_check_design : Stmt := top 24
theorem sc_check_design : FnScope ["value"] ["value"] (defScope s_check_design) := ⟨rfl, rfl, rfl, by decide +kernel, rfl, by decide +kernel, by decide +kernel⟩

abbrev s_check_world : Stmt := top 25
theorem sc_check_world : FnScope ["value"] ["value"] (defScope s_check_world) := ⟨rfl, rfl, rfl, by decide +kernel, rfl, by decide +kernel, by decide +kernel⟩

abbrev s_Operation_init : Stmt := inClass (top 27) 0
theorem sc_Operation_init : FnScope ["self", "kind", "steps", "began"] ["self", "kind", "steps", "began"] (defScope s_Operation_init) := ⟨rfl, rfl, rfl, by decide +kernel, rfl, by decide +kernel, by decide +kernel⟩

abbrev s_Operation_has_ended : Stmt := inClass (top 27) 1
theorem sc_Operation_has_ended : FnScope ["self"] ["self"] (defScope s_Operation_has_ended) := ⟨rfl, rfl, rfl, by decide +kernel, rfl, by decide +kernel, by decide +kernel⟩

abbrev s_Operation_is_under_way : Stmt := inClass (top 27) 2
theorem sc_Operation_is_under_way : FnScope ["self"] ["self"] (defScope s_Operation_is_under_way) := ⟨rfl, rfl, rfl, by decide +kernel, rfl, by decide +kernel, by decide +kernel⟩

abbrev s_Operation_can_step : Stmt := inClass (top 27) 5
theorem sc_Operation_can_step : FnScope ["self"] ["self"] (defScope s_Operation_can_step) := ⟨rfl, rfl, rfl, by decide +kernel, rfl, by decide +kernel, by decide +kernel⟩

abbrev s_Operation_stage : Stmt := inClass (top 27) 6
theorem sc_Operation_stage : FnScope ["self"] ["self"] (defScope s_Operation_stage) := ⟨rfl, rfl, rfl, by decide +kernel, rfl, by decide +kernel, by decide +kernel⟩

abbrev s_Play_init : Stmt := inClass (top 28) 0
theorem sc_Play_init : FnScope ["self", "design", "world"] ["self", "design", "world"] (defScope s_Play_init) := ⟨rfl, rfl, rfl, by decide +kernel, rfl, by decide +kernel, by decide +kernel⟩

abbrev s_Play_can_come : Stmt := inClass (top 28) 1
theorem sc_Play_can_come : FnScope ["self", "value"] ["self", "value"] (defScope s_Play_can_come) := ⟨rfl, rfl, rfl, by decide +kernel, rfl, by decide +kernel, by decide +kernel⟩

abbrev s_Play_events : Stmt := inClass (top 28) 2
theorem sc_Play_events : FnScope ["self", "following", "found", "number", "operation"] ["self"] (defScope s_Play_events) := ⟨rfl, rfl, rfl, by decide +kernel, rfl, by decide +kernel, by decide +kernel⟩

abbrev s_Play_do : Stmt := inClass (top 28) 3
theorem sc_Play_do : FnScope ["self", "event", "word", "operation"] ["self", "event"] (defScope s_Play_do) := ⟨rfl, rfl, rfl, by decide +kernel, rfl, by decide +kernel, by decide +kernel⟩

abbrev s_Play_step : Stmt := inClass (top 28) 4
theorem sc_Play_step : FnScope ["self", "word", "number", "operation"] ["self", "word", "number"] (defScope s_Play_step) := ⟨rfl, rfl, rfl, by decide +kernel, rfl, by decide +kernel, by decide +kernel⟩

abbrev s_Play_begun : Stmt := inClass (top 28) 5
theorem sc_Play_begun : FnScope ["self", "word", "place"] ["self", "word"] (defScope s_Play_begun) := ⟨rfl, rfl, rfl, by decide +kernel, rfl, by decide +kernel, by decide +kernel⟩

abbrev s_Play_look : Stmt := inClass (top 28) 9
theorem sc_Play_look : FnScope ["self", "read"] ["self", "read"] (defScope s_Play_look) := ⟨rfl, rfl, rfl, by decide +kernel, rfl, by decide +kernel, by decide +kernel⟩

abbrev s_Play_share : Stmt := inClass (top 28) 10
theorem sc_Play_share : FnScope ["self", "read"] ["self", "read"] (defScope s_Play_share) := ⟨rfl, rfl, rfl, by decide +kernel, rfl, by decide +kernel, by decide +kernel⟩

abbrev s_Play_fetch : Stmt := inClass (top 28) 11
theorem sc_Play_fetch : FnScope ["self", "read"] ["self", "read"] (defScope s_Play_fetch) := ⟨rfl, rfl, rfl, by decide +kernel, rfl, by decide +kernel, by decide +kernel⟩

abbrev s_Play_fill : Stmt := inClass (top 28) 12
theorem sc_Play_fill : FnScope ["self", "read"] ["self", "read"] (defScope s_Play_fill) := ⟨rfl, rfl, rfl, by decide +kernel, rfl, by decide +kernel, by decide +kernel⟩

abbrev s_Play_take : Stmt := inClass (top 28) 13
theorem sc_Play_take : FnScope ["self", "read"] ["self", "read"] (defScope s_Play_take) := ⟨rfl, rfl, rfl, by decide +kernel, rfl, by decide +kernel, by decide +kernel⟩

abbrev s_Play_store : Stmt := inClass (top 28) 14
theorem sc_Play_store : FnScope ["self", "write"] ["self", "write"] (defScope s_Play_store) := ⟨rfl, rfl, rfl, by decide +kernel, rfl, by decide +kernel, by decide +kernel⟩

abbrev s_Play_drop : Stmt := inClass (top 28) 15
theorem sc_Play_drop : FnScope ["self", "write"] ["self", "write"] (defScope s_Play_drop) := ⟨rfl, rfl, rfl, by decide +kernel, rfl, by decide +kernel, by decide +kernel⟩

abbrev s_Play_put : Stmt := inClass (top 28) 16
theorem sc_Play_put : FnScope ["self", "write"] ["self", "write"] (defScope s_Play_put) := ⟨rfl, rfl, rfl, by decide +kernel, rfl, by decide +kernel, by decide +kernel⟩

abbrev s_Play_lets_fill : Stmt := inClass (top 28) 17
theorem sc_Play_lets_fill : FnScope ["self", "read"] ["self", "read"] (defScope s_Play_lets_fill) := ⟨rfl, rfl, rfl, by decide +kernel, rfl, by decide +kernel, by decide +kernel⟩

abbrev s_Play_lets_in : Stmt := inClass (top 28) 18
theorem sc_Play_lets_in : FnScope ["self", "version"] ["self", "version"] (defScope s_Play_lets_in) := ⟨rfl, rfl, rfl, by decide +kernel, rfl, by decide +kernel, by decide +kernel⟩

abbrev s_Play_hold : Stmt := inClass (top 28) 19
theorem sc_Play_hold : FnScope ["self", "version"] ["self", "version"] (defScope s_Play_hold) := ⟨rfl, rfl, rfl, by decide +kernel, rfl, by decide +kernel, by decide +kernel⟩

abbrev s_Play_raise_mark : Stmt := inClass (top 28) 20
theorem sc_Play_raise_mark : FnScope ["self", "version"] ["self", "version"] (defScope s_Play_raise_mark) := ⟨rfl, rfl, rfl, by decide +kernel, rfl, by decide +kernel, by decide +kernel⟩

abbrev s_played : Stmt := top 31
theorem sc_played : FnScope ["design", "world", "run", "play", "index", "event"] ["design", "world", "run"] (defScope s_played) := ⟨rfl, rfl, rfl, by decide +kernel, rfl, by decide +kernel, by decide +kernel⟩

abbrev s_write_design : Stmt := top 33
theorem sc_write_design : FnScope ["design"] ["design"] (defScope s_write_design) := ⟨rfl, rfl, rfl, by decide +kernel, rfl, by decide +kernel, by decide +kernel⟩

abbrev s_write_world : Stmt := top 34
theorem sc_write_world : FnScope ["world"] ["world"] (defScope s_write_world) := ⟨rfl, rfl, rfl, by decide +kernel, rfl, by decide +kernel, by decide +kernel⟩

abbrev s_read_design : Stmt := top 35
theorem sc_read_design : FnScope ["text"] ["text"] (defScope s_read_design) := ⟨rfl, rfl, rfl, by decide +kernel, rfl, by decide +kernel, by decide +kernel⟩

abbrev s_read_world : Stmt := top 36
theorem sc_read_world : FnScope ["text"] ["text"] (defScope s_read_world) := ⟨rfl, rfl, rfl, by decide +kernel, rfl, by decide +kernel, by decide +kernel⟩

abbrev s_write_run : Stmt := top 37
theorem sc_write_run : FnScope ["design", "world", "run", "play", "event"] ["design", "world", "run"] (defScope s_write_run) := ⟨rfl, rfl, rfl, by decide +kernel, rfl, by decide +kernel, by decide +kernel⟩

abbrev s_read_run : Stmt := top 38
theorem sc_read_run : FnScope ["design", "world", "text", "play", "lines", "number", "line", "events"] ["design", "world", "text"] (defScope s_read_run) := ⟨rfl, rfl, rfl, by decide +kernel, rfl, by decide +kernel, by decide +kernel⟩

abbrev s_text_of_words : Stmt := top 39
theorem sc_text_of_words : FnScope ["words"] ["words"] (defScope s_text_of_words) := ⟨rfl, rfl, rfl, by decide +kernel, rfl, by decide +kernel, by decide +kernel⟩

abbrev s_read_words : Stmt := top 40
theorem sc_read_words : FnScope ["text", "choices", "words"] ["text", "choices"] (defScope s_read_words) := ⟨rfl, rfl, rfl, by decide +kernel, rfl, by decide +kernel, by decide +kernel⟩

abbrev s_text_of_event : Stmt := top 41
theorem sc_text_of_event : FnScope ["event", "part"] ["event"] (defScope s_text_of_event) := ⟨rfl, rfl, rfl, by decide +kernel, rfl, by decide +kernel, by decide +kernel⟩

abbrev s_events_by_text : Stmt := top 42
theorem sc_events_by_text : FnScope ["play", "event"] ["play"] (defScope s_events_by_text) := ⟨rfl, rfl, rfl, by decide +kernel, rfl, by decide +kernel, by decide +kernel⟩

abbrev s_Ltaken : Stmt := top 44
theorem sc_Ltaken : FnScope ["row", "many", "found", "cell"] ["row", "many"] (defScope s_Ltaken) := ⟨rfl, rfl, rfl, by decide +kernel, rfl, by decide +kernel, by decide +kernel⟩

abbrev s_Lpick : Stmt := top 45
theorem sc_Lpick : FnScope ["row", "kinds"] ["row", "kinds"] (defScope s_Lpick) := ⟨rfl, rfl, rfl, by decide +kernel, rfl, by decide +kernel, by decide +kernel⟩

abbrev s_Lalike : Stmt := top 46
theorem sc_Lalike : FnScope ["found", "due", "k"] ["found", "due"] (defScope s_Lalike) := ⟨rfl, rfl, rfl, by decide +kernel, rfl, by decide +kernel, by decide +kernel⟩

abbrev s_Lpaths : Stmt := top 47
theorem sc_Lpaths : FnScope [] [] (defScope s_Lpaths) := ⟨rfl, rfl, rfl, by decide +kernel, rfl, by decide +kernel, by decide +kernel⟩

abbrev s_Ldesign : Stmt := top 48
theorem sc_Ldesign : FnScope ["row", "guard"] ["row"] (defScope s_Ldesign) := ⟨rfl, rfl, rfl, by decide +kernel, rfl, by decide +kernel, by decide +kernel⟩

abbrev s_Lworld : Stmt := top 49
theorem sc_Lworld : FnScope ["row"] ["row"] (defScope s_Lworld) := ⟨rfl, rfl, rfl, by decide +kernel, rfl, by decide +kernel, by decide +kernel⟩

abbrev s_Lbegin : Stmt := top 50
theorem sc_Lbegin : FnScope ["design", "world"] ["design", "world"] (defScope s_Lbegin) := ⟨rfl, rfl, rfl, by decide +kernel, rfl, by decide +kernel, by decide +kernel⟩

abbrev s_Lgoing : Stmt := top 51
theorem sc_Lgoing : FnScope ["h", "one"] ["h"] (defScope s_Lgoing) := ⟨rfl, rfl, rfl, by decide +kernel, rfl, by decide +kernel, by decide +kernel⟩

abbrev s_Lnext : Stmt := top 52
theorem sc_Lnext : FnScope ["h", "one"] ["h", "one"] (defScope s_Lnext) := ⟨rfl, rfl, rfl, by decide +kernel, rfl, by decide +kernel, by decide +kernel⟩

abbrev s_Levents : Stmt := top 53
theorem sc_Levents : FnScope ["h", "many", "going", "found", "one"] ["h"] (defScope s_Levents) := ⟨rfl, rfl, rfl, by decide +kernel, rfl, by decide +kernel, by decide +kernel⟩

abbrev s_Lend : Stmt := top 54
theorem sc_Lend : FnScope ["h", "one", "stage"] ["h", "one", "stage"] (defScope s_Lend) := ⟨rfl, rfl, rfl, by decide +kernel, rfl, by decide +kernel, by decide +kernel⟩

abbrev s_Lhold : Stmt := top 55
theorem sc_Lhold : FnScope ["h", "version"] ["h", "version"] (defScope s_Lhold) := ⟨rfl, rfl, rfl, by decide +kernel, rfl, by decide +kernel, by decide +kernel⟩

abbrev s_Lnewer : Stmt := top 56
theorem sc_Lnewer : FnScope ["h", "version"] ["h", "version"] (defScope s_Lnewer) := ⟨rfl, rfl, rfl, by decide +kernel, rfl, by decide +kernel, by decide +kernel⟩

abbrev s_Llets : Stmt := top 57
theorem sc_Llets : FnScope ["h", "one", "guard", "version"] ["h", "one"] (defScope s_Llets) := ⟨rfl, rfl, rfl, by decide +kernel, rfl, by decide +kernel, by decide +kernel⟩

abbrev s_Lwrite : Stmt := top 58
theorem sc_Lwrite : FnScope ["h", "one", "word", "steps", "guard", "other", "good"] ["h", "one", "word"] (defScope s_Lwrite) := ⟨rfl, rfl, rfl, by decide +kernel, rfl, by decide +kernel, by decide +kernel⟩

abbrev s_Lread : Stmt := top 59
theorem sc_Lread : FnScope ["h", "one", "word"] ["h", "one", "word"] (defScope s_Lread) := ⟨rfl, rfl, rfl, by decide +kernel, rfl, by decide +kernel, by decide +kernel⟩

abbrev s_Ldo : Stmt := top 60
theorem sc_Ldo : FnScope ["h", "event", "word", "number", "kind", "one"] ["h", "event"] (defScope s_Ldo) := ⟨rfl, rfl, rfl, by decide +kernel, rfl, by decide +kernel, by decide +kernel⟩

abbrev s_Lwalk : Stmt := top 61
theorem sc_Lwalk : FnScope ["row", "design", "world", "most", "h", "turn", "some", "going", "event"] ["row", "design", "world", "most"] (defScope s_Lwalk) := ⟨rfl, rfl, rfl, by decide +kernel, rfl, by decide +kernel, by decide +kernel⟩

abbrev s_Lline : Stmt := top 62
theorem sc_Lline : FnScope ["work", "e"] ["work"] (defScope s_Lline) := ⟨rfl, rfl, rfl, by decide +kernel, rfl, by decide +kernel, by decide +kernel⟩

abbrev s_law : Stmt := top 63
theorem sc_law : FnScope ["script", "row", "design", "world", "odd", "bad", "h", "events", "lines", "text", "many", "wrong", "after", "at", "full", "whole", "event", "one", "work"] ["script"] (defScope s_law) := ⟨rfl, rfl, rfl, by decide +kernel, rfl, by decide +kernel, by decide +kernel⟩

theorem us_n0 {M : List PySem.Value → Prop} (h : M []) : ∀ us : List PySem.Value, us.length = 0 → M us := fun us hl => match us, hl with | [], _ => h
theorem us_n1 {M : List PySem.Value → Prop} (h : ∀ a : PySem.Value, M [a]) : ∀ us : List PySem.Value, us.length = 1 → M us := fun us hl => match us, hl with | [a], _ => h a
theorem us_n2 {M : List PySem.Value → Prop} (h : ∀ a b : PySem.Value, M [a, b]) : ∀ us : List PySem.Value, us.length = 2 → M us := fun us hl => match us, hl with | [a, b], _ => h a b
theorem us_n3 {M : List PySem.Value → Prop} (h : ∀ a b c : PySem.Value, M [a, b, c]) : ∀ us : List PySem.Value, us.length = 3 → M us := fun us hl => match us, hl with | [a, b, c], _ => h a b c
theorem us_n4 {M : List PySem.Value → Prop} (h : ∀ a b c d : PySem.Value, M [a, b, c, d]) : ∀ us : List PySem.Value, us.length = 4 → M us := fun us hl => match us, hl with | [a, b, c, d], _ => h a b c d
theorem us_n5 {M : List PySem.Value → Prop} (h : ∀ a b c d e : PySem.Value, M [a, b, c, d, e]) : ∀ us : List PySem.Value, us.length = 5 → M us := fun us hl => match us, hl with | [a, b, c, d, e], _ => h a b c d e
set_option genInjectivity false in
set_option genSizeOf false in
structure Txt (K : PySem.W.Frag) (mg : Str → Option Value) where
  f_check_text : Addr
  fd_check_text : FuncData
  F_check_text : Fun K "check_text" "check_text" s_check_text f_check_text fd_check_text
  m_check_text : mg "check_text" = some (.ref f_check_text)
  f_is_design : Addr
  fd_is_design : FuncData
  F_is_design : Fun K "is_design" "is_design" s_is_design f_is_design fd_is_design
  m_is_design : mg "is_design" = some (.ref f_is_design)
  f_is_world : Addr
  fd_is_world : FuncData
  F_is_world : Fun K "is_world" "is_world" s_is_world f_is_world fd_is_world
  m_is_world : mg "is_world" = some (.ref f_is_world)
  f_is_triple : Addr
  fd_is_triple : FuncData
  F_is_triple : Fun K "is_triple" "is_triple" s_is_triple f_is_triple fd_is_triple
  m_is_triple : mg "is_triple" = some (.ref f_is_triple)
  f_all_designs : Addr
  fd_all_designs : FuncData
  F_all_designs : Fun K "all_designs" "all_designs" s_all_designs f_all_designs fd_all_designs
  m_all_designs : mg "all_designs" = some (.ref f_all_designs)
  f_all_worlds : Addr
  fd_all_worlds : FuncData
  F_all_worlds : Fun K "all_worlds" "all_worlds" s_all_worlds f_all_worlds fd_all_worlds
  m_all_worlds : mg "all_worlds" = some (.ref f_all_worlds)
  f_all_triples : Addr
  fd_all_triples : FuncData
  F_all_triples : Fun K "all_triples" "all_triples" s_all_triples f_all_triples fd_all_triples
  m_all_triples : mg "all_triples" = some (.ref f_all_triples)
  f_write_steps : Addr
  fd_write_steps : FuncData
  F_write_steps : Fun K "write_steps" "write_steps" s_write_steps f_write_steps fd_write_steps
  m_write_steps : mg "write_steps" = some (.ref f_write_steps)
  f_check_design : Addr
  fd_check_design : FuncData
  F_check_design : Fun K "check_design" "check_design" s_check_design f_check_design fd_check_design
  m_check_design : mg "check_design" = some (.ref f_check_design)
  f_check_world : Addr
  fd_check_world : FuncData
  F_check_world : Fun K "check_world" "check_world" s_check_world f_check_world fd_check_world
  m_check_world : mg "check_world" = some (.ref f_check_world)
  f_Operation_init : Addr
  fd_Operation_init : FuncData
  F_Operation_init : Fun K "__init__" "Operation.__init__" s_Operation_init f_Operation_init fd_Operation_init
  f_Operation_has_ended : Addr
  fd_Operation_has_ended : FuncData
  F_Operation_has_ended : Fun K "has_ended" "Operation.has_ended" s_Operation_has_ended f_Operation_has_ended fd_Operation_has_ended
  f_Operation_is_under_way : Addr
  fd_Operation_is_under_way : FuncData
  F_Operation_is_under_way : Fun K "is_under_way" "Operation.is_under_way" s_Operation_is_under_way f_Operation_is_under_way fd_Operation_is_under_way
  f_Operation_can_step : Addr
  fd_Operation_can_step : FuncData
  F_Operation_can_step : Fun K "can_step" "Operation.can_step" s_Operation_can_step f_Operation_can_step fd_Operation_can_step
  f_Operation_stage : Addr
  fd_Operation_stage : FuncData
  F_Operation_stage : Fun K "stage" "Operation.stage" s_Operation_stage f_Operation_stage fd_Operation_stage
  f_Play_init : Addr
  fd_Play_init : FuncData
  F_Play_init : Fun K "__init__" "Play.__init__" s_Play_init f_Play_init fd_Play_init
  f_Play_can_come : Addr
  fd_Play_can_come : FuncData
  F_Play_can_come : Fun K "can_come" "Play.can_come" s_Play_can_come f_Play_can_come fd_Play_can_come
  f_Play_events : Addr
  fd_Play_events : FuncData
  F_Play_events : Fun K "events" "Play.events" s_Play_events f_Play_events fd_Play_events
  f_Play_do : Addr
  fd_Play_do : FuncData
  F_Play_do : Fun K "do" "Play.do" s_Play_do f_Play_do fd_Play_do
  f_Play_step : Addr
  fd_Play_step : FuncData
  F_Play_step : Fun K "step" "Play.step" s_Play_step f_Play_step fd_Play_step
  f_Play_begun : Addr
  fd_Play_begun : FuncData
  F_Play_begun : Fun K "begun" "Play.begun" s_Play_begun f_Play_begun fd_Play_begun
  f_Play_look : Addr
  fd_Play_look : FuncData
  F_Play_look : Fun K "look" "Play.look" s_Play_look f_Play_look fd_Play_look
  f_Play_share : Addr
  fd_Play_share : FuncData
  F_Play_share : Fun K "share" "Play.share" s_Play_share f_Play_share fd_Play_share
  f_Play_fetch : Addr
  fd_Play_fetch : FuncData
  F_Play_fetch : Fun K "fetch" "Play.fetch" s_Play_fetch f_Play_fetch fd_Play_fetch
  f_Play_fill : Addr
  fd_Play_fill : FuncData
  F_Play_fill : Fun K "fill" "Play.fill" s_Play_fill f_Play_fill fd_Play_fill
  f_Play_take : Addr
  fd_Play_take : FuncData
  F_Play_take : Fun K "take" "Play.take" s_Play_take f_Play_take fd_Play_take
  f_Play_store : Addr
  fd_Play_store : FuncData
  F_Play_store : Fun K "store" "Play.store" s_Play_store f_Play_store fd_Play_store
  f_Play_drop : Addr
  fd_Play_drop : FuncData
  F_Play_drop : Fun K "drop" "Play.drop" s_Play_drop f_Play_drop fd_Play_drop
  f_Play_put : Addr
  fd_Play_put : FuncData
  F_Play_put : Fun K "put" "Play.put" s_Play_put f_Play_put fd_Play_put
  f_Play_lets_fill : Addr
  fd_Play_lets_fill : FuncData
  F_Play_lets_fill : Fun K "lets_fill" "Play.lets_fill" s_Play_lets_fill f_Play_lets_fill fd_Play_lets_fill
  f_Play_lets_in : Addr
  fd_Play_lets_in : FuncData
  F_Play_lets_in : Fun K "lets_in" "Play.lets_in" s_Play_lets_in f_Play_lets_in fd_Play_lets_in
  f_Play_hold : Addr
  fd_Play_hold : FuncData
  F_Play_hold : Fun K "hold" "Play.hold" s_Play_hold f_Play_hold fd_Play_hold
  f_Play_raise_mark : Addr
  fd_Play_raise_mark : FuncData
  F_Play_raise_mark : Fun K "raise_mark" "Play.raise_mark" s_Play_raise_mark f_Play_raise_mark fd_Play_raise_mark
  f_played : Addr
  fd_played : FuncData
  F_played : Fun K "played" "played" s_played f_played fd_played
  m_played : mg "played" = some (.ref f_played)
  f_write_design : Addr
  fd_write_design : FuncData
  F_write_design : Fun K "write_design" "write_design" s_write_design f_write_design fd_write_design
  m_write_design : mg "write_design" = some (.ref f_write_design)
  f_write_world : Addr
  fd_write_world : FuncData
  F_write_world : Fun K "write_world" "write_world" s_write_world f_write_world fd_write_world
  m_write_world : mg "write_world" = some (.ref f_write_world)
  f_read_design : Addr
  fd_read_design : FuncData
  F_read_design : Fun K "read_design" "read_design" s_read_design f_read_design fd_read_design
  m_read_design : mg "read_design" = some (.ref f_read_design)
  f_read_world : Addr
  fd_read_world : FuncData
  F_read_world : Fun K "read_world" "read_world" s_read_world f_read_world fd_read_world
  m_read_world : mg "read_world" = some (.ref f_read_world)
  f_write_run : Addr
  fd_write_run : FuncData
  F_write_run : Fun K "write_run" "write_run" s_write_run f_write_run fd_write_run
  m_write_run : mg "write_run" = some (.ref f_write_run)
  f_read_run : Addr
  fd_read_run : FuncData
  F_read_run : Fun K "read_run" "read_run" s_read_run f_read_run fd_read_run
  m_read_run : mg "read_run" = some (.ref f_read_run)
  f_text_of_words : Addr
  fd_text_of_words : FuncData
  F_text_of_words : Fun K "text_of_words" "text_of_words" s_text_of_words f_text_of_words fd_text_of_words
  m_text_of_words : mg "text_of_words" = some (.ref f_text_of_words)
  f_read_words : Addr
  fd_read_words : FuncData
  F_read_words : Fun K "read_words" "read_words" s_read_words f_read_words fd_read_words
  m_read_words : mg "read_words" = some (.ref f_read_words)
  f_text_of_event : Addr
  fd_text_of_event : FuncData
  F_text_of_event : Fun K "text_of_event" "text_of_event" s_text_of_event f_text_of_event fd_text_of_event
  m_text_of_event : mg "text_of_event" = some (.ref f_text_of_event)
  f_events_by_text : Addr
  fd_events_by_text : FuncData
  F_events_by_text : Fun K "events_by_text" "events_by_text" s_events_by_text f_events_by_text fd_events_by_text
  m_events_by_text : mg "events_by_text" = some (.ref f_events_by_text)
  f_Ltaken : Addr
  fd_Ltaken : FuncData
  F_Ltaken : Fun K "_law_taken" "_law_taken" s_Ltaken f_Ltaken fd_Ltaken
  m_Ltaken : mg "_law_taken" = some (.ref f_Ltaken)
  f_Lpick : Addr
  fd_Lpick : FuncData
  F_Lpick : Fun K "_law_pick" "_law_pick" s_Lpick f_Lpick fd_Lpick
  m_Lpick : mg "_law_pick" = some (.ref f_Lpick)
  f_Lalike : Addr
  fd_Lalike : FuncData
  F_Lalike : Fun K "_law_alike" "_law_alike" s_Lalike f_Lalike fd_Lalike
  m_Lalike : mg "_law_alike" = some (.ref f_Lalike)
  f_Lpaths : Addr
  fd_Lpaths : FuncData
  F_Lpaths : Fun K "_law_paths" "_law_paths" s_Lpaths f_Lpaths fd_Lpaths
  m_Lpaths : mg "_law_paths" = some (.ref f_Lpaths)
  f_Ldesign : Addr
  fd_Ldesign : FuncData
  F_Ldesign : Fun K "_law_design" "_law_design" s_Ldesign f_Ldesign fd_Ldesign
  m_Ldesign : mg "_law_design" = some (.ref f_Ldesign)
  f_Lworld : Addr
  fd_Lworld : FuncData
  F_Lworld : Fun K "_law_world" "_law_world" s_Lworld f_Lworld fd_Lworld
  m_Lworld : mg "_law_world" = some (.ref f_Lworld)
  f_Lbegin : Addr
  fd_Lbegin : FuncData
  F_Lbegin : Fun K "_law_begin" "_law_begin" s_Lbegin f_Lbegin fd_Lbegin
  m_Lbegin : mg "_law_begin" = some (.ref f_Lbegin)
  f_Lgoing : Addr
  fd_Lgoing : FuncData
  F_Lgoing : Fun K "_law_going" "_law_going" s_Lgoing f_Lgoing fd_Lgoing
  m_Lgoing : mg "_law_going" = some (.ref f_Lgoing)
  f_Lnext : Addr
  fd_Lnext : FuncData
  F_Lnext : Fun K "_law_next" "_law_next" s_Lnext f_Lnext fd_Lnext
  m_Lnext : mg "_law_next" = some (.ref f_Lnext)
  f_Levents : Addr
  fd_Levents : FuncData
  F_Levents : Fun K "_law_events" "_law_events" s_Levents f_Levents fd_Levents
  m_Levents : mg "_law_events" = some (.ref f_Levents)
  f_Lend : Addr
  fd_Lend : FuncData
  F_Lend : Fun K "_law_end" "_law_end" s_Lend f_Lend fd_Lend
  m_Lend : mg "_law_end" = some (.ref f_Lend)
  f_Lhold : Addr
  fd_Lhold : FuncData
  F_Lhold : Fun K "_law_hold" "_law_hold" s_Lhold f_Lhold fd_Lhold
  m_Lhold : mg "_law_hold" = some (.ref f_Lhold)
  f_Lnewer : Addr
  fd_Lnewer : FuncData
  F_Lnewer : Fun K "_law_newer" "_law_newer" s_Lnewer f_Lnewer fd_Lnewer
  m_Lnewer : mg "_law_newer" = some (.ref f_Lnewer)
  f_Llets : Addr
  fd_Llets : FuncData
  F_Llets : Fun K "_law_lets" "_law_lets" s_Llets f_Llets fd_Llets
  m_Llets : mg "_law_lets" = some (.ref f_Llets)
  f_Lwrite : Addr
  fd_Lwrite : FuncData
  F_Lwrite : Fun K "_law_write" "_law_write" s_Lwrite f_Lwrite fd_Lwrite
  m_Lwrite : mg "_law_write" = some (.ref f_Lwrite)
  f_Lread : Addr
  fd_Lread : FuncData
  F_Lread : Fun K "_law_read" "_law_read" s_Lread f_Lread fd_Lread
  m_Lread : mg "_law_read" = some (.ref f_Lread)
  f_Ldo : Addr
  fd_Ldo : FuncData
  F_Ldo : Fun K "_law_do" "_law_do" s_Ldo f_Ldo fd_Ldo
  m_Ldo : mg "_law_do" = some (.ref f_Ldo)
  f_Lwalk : Addr
  fd_Lwalk : FuncData
  F_Lwalk : Fun K "_law_walk" "_law_walk" s_Lwalk f_Lwalk fd_Lwalk
  m_Lwalk : mg "_law_walk" = some (.ref f_Lwalk)
  f_Lline : Addr
  fd_Lline : FuncData
  F_Lline : Fun K "_law_line" "_law_line" s_Lline f_Lline fd_Lline
  m_Lline : mg "_law_line" = some (.ref f_Lline)
  f_law : Addr
  fd_law : FuncData
  F_law : Fun K "law" "law" s_law f_law fd_law
  m_law : mg "law" = some (.ref f_law)
  n_len : mg "len" = none
  n_isinstance : mg "isinstance" = none
  n_max : mg "max" = none
  n_sorted : mg "sorted" = none
  n_range : mg "range" = none
  n_enumerate : mg "enumerate" = none
  n_int : mg "int" = none
  n_str : mg "str" = none
  n_bool : mg "bool" = none
  n_tuple : mg "tuple" = none
  n_list : mg "list" = none
  n_dict : mg "dict" = none
  C_Operation : Addr
  c_Operation : Cls K C_Operation
  k_Operation : Mk K C_Operation f_Operation_init
  m_Operation : mg "Operation" = some (.ref C_Operation)
  a_Operation_kind : NoAttr K C_Operation "kind"
  a_Operation_steps : NoAttr K C_Operation "steps"
  a_Operation_began : NoAttr K C_Operation "began"
  a_Operation_left : NoAttr K C_Operation "left"
  a_Operation_stopped : NoAttr K C_Operation "stopped"
  a_Operation_version : NoAttr K C_Operation "version"
  a_Operation_awaited : NoAttr K C_Operation "awaited"
  a_Operation_wipes_seen : NoAttr K C_Operation "wipes_seen"
  M_Operation_has_ended : Meth K C_Operation "has_ended" f_Operation_has_ended
  M_Operation_is_under_way : Meth K C_Operation "is_under_way" f_Operation_is_under_way
  M_Operation_can_step : Meth K C_Operation "can_step" f_Operation_can_step
  M_Operation_stage : Meth K C_Operation "stage" f_Operation_stage
  C_Play : Addr
  c_Play : Cls K C_Play
  k_Play : Mk K C_Play f_Play_init
  m_Play : mg "Play" = some (.ref C_Play)
  a_Play_design : NoAttr K C_Play "design"
  a_Play_world : NoAttr K C_Play "world"
  a_Play_path : NoAttr K C_Play "path"
  a_Play_guard : NoAttr K C_Play "guard"
  a_Play_flight : NoAttr K C_Play "flight"
  a_Play_source : NoAttr K C_Play "source"
  a_Play_evictions : NoAttr K C_Play "evictions"
  a_Play_stops : NoAttr K C_Play "stops"
  a_Play_database : NoAttr K C_Play "database"
  a_Play_replica : NoAttr K C_Play "replica"
  a_Play_cache : NoAttr K C_Play "cache"
  a_Play_mark : NoAttr K C_Play "mark"
  a_Play_operations : NoAttr K C_Play "operations"
  a_Play_past : NoAttr K C_Play "past"
  a_Play_leader : NoAttr K C_Play "leader"
  a_Play_wipes : NoAttr K C_Play "wipes"
  M_Play_can_come : Meth K C_Play "can_come" f_Play_can_come
  M_Play_events : Meth K C_Play "events" f_Play_events
  M_Play_do : Meth K C_Play "do" f_Play_do
  M_Play_step : Meth K C_Play "step" f_Play_step
  M_Play_begun : Meth K C_Play "begun" f_Play_begun
  M_Play_look : Meth K C_Play "look" f_Play_look
  M_Play_share : Meth K C_Play "share" f_Play_share
  M_Play_fetch : Meth K C_Play "fetch" f_Play_fetch
  M_Play_fill : Meth K C_Play "fill" f_Play_fill
  M_Play_take : Meth K C_Play "take" f_Play_take
  M_Play_store : Meth K C_Play "store" f_Play_store
  M_Play_drop : Meth K C_Play "drop" f_Play_drop
  M_Play_put : Meth K C_Play "put" f_Play_put
  M_Play_lets_fill : Meth K C_Play "lets_fill" f_Play_lets_fill
  M_Play_lets_in : Meth K C_Play "lets_in" f_Play_lets_in
  M_Play_hold : Meth K C_Play "hold" f_Play_hold
  M_Play_raise_mark : Meth K C_Play "raise_mark" f_Play_raise_mark

theorem b_check_text {K : PySem.W.Frag} {mg : Str → Option Value} (T : Txt K mg) : Binds K T.fd_check_text ["value"] [] := T.F_check_text.binds (ps := ["value"]) fun _ _ _ _ _ _ us hl => us_n1 (M := fun us => bindArgs _ ⟨us, []⟩ = pure (List.zip _ us)) (fun _ => rfl) us hl

theorem b_is_design {K : PySem.W.Frag} {mg : Str → Option Value} (T : Txt K mg) : Binds K T.fd_is_design ["value"] [] := T.F_is_design.binds (ps := ["value"]) fun _ _ _ _ _ _ us hl => us_n1 (M := fun us => bindArgs _ ⟨us, []⟩ = pure (List.zip _ us)) (fun _ => rfl) us hl

theorem b_is_world {K : PySem.W.Frag} {mg : Str → Option Value} (T : Txt K mg) : Binds K T.fd_is_world ["value"] [] := T.F_is_world.binds (ps := ["value"]) fun _ _ _ _ _ _ us hl => us_n1 (M := fun us => bindArgs _ ⟨us, []⟩ = pure (List.zip _ us)) (fun _ => rfl) us hl

theorem b_is_triple {K : PySem.W.Frag} {mg : Str → Option Value} (T : Txt K mg) : Binds K T.fd_is_triple ["value", "firsts", "seconds", "thirds"] [] := T.F_is_triple.binds (ps := ["value", "firsts", "seconds", "thirds"]) fun _ _ _ _ _ _ us hl => us_n4 (M := fun us => bindArgs _ ⟨us, []⟩ = pure (List.zip _ us)) (fun _ _ _ _ => rfl) us hl

theorem b_all_designs {K : PySem.W.Frag} {mg : Str → Option Value} (T : Txt K mg) : Binds K T.fd_all_designs [] [] := T.F_all_designs.binds (ps := []) fun _ _ _ _ _ _ us hl => us_n0 (M := fun us => bindArgs _ ⟨us, []⟩ = pure (List.zip _ us)) rfl us hl

theorem b_all_worlds {K : PySem.W.Frag} {mg : Str → Option Value} (T : Txt K mg) : Binds K T.fd_all_worlds [] [] := T.F_all_worlds.binds (ps := []) fun _ _ _ _ _ _ us hl => us_n0 (M := fun us => bindArgs _ ⟨us, []⟩ = pure (List.zip _ us)) rfl us hl

theorem b_all_triples {K : PySem.W.Frag} {mg : Str → Option Value} (T : Txt K mg) : Binds K T.fd_all_triples ["firsts", "seconds", "thirds"] [] := T.F_all_triples.binds (ps := ["firsts", "seconds", "thirds"]) fun _ _ _ _ _ _ us hl => us_n3 (M := fun us => bindArgs _ ⟨us, []⟩ = pure (List.zip _ us)) (fun _ _ _ => rfl) us hl

theorem b_write_steps {K : PySem.W.Frag} {mg : Str → Option Value} (T : Txt K mg) : Binds K T.fd_write_steps ["design"] [] := T.F_write_steps.binds (ps := ["design"]) fun _ _ _ _ _ _ us hl => us_n1 (M := fun us => bindArgs _ ⟨us, []⟩ = pure (List.zip _ us)) (fun _ => rfl) us hl

theorem b_check_design {K : PySem.W.Frag} {mg : Str → Option Value} (T : Txt K mg) : Binds K T.fd_check_design ["value"] [] := T.F_check_design.binds (ps := ["value"]) fun _ _ _ _ _ _ us hl => us_n1 (M := fun us => bindArgs _ ⟨us, []⟩ = pure (List.zip _ us)) (fun _ => rfl) us hl

theorem b_check_world {K : PySem.W.Frag} {mg : Str → Option Value} (T : Txt K mg) : Binds K T.fd_check_world ["value"] [] := T.F_check_world.binds (ps := ["value"]) fun _ _ _ _ _ _ us hl => us_n1 (M := fun us => bindArgs _ ⟨us, []⟩ = pure (List.zip _ us)) (fun _ => rfl) us hl

theorem b_Operation_init {K : PySem.W.Frag} {mg : Str → Option Value} (T : Txt K mg) : Binds K T.fd_Operation_init ["self", "kind", "steps", "began"] [] := T.F_Operation_init.binds (ps := ["self", "kind", "steps", "began"]) fun _ _ _ _ _ _ us hl => us_n4 (M := fun us => bindArgs _ ⟨us, []⟩ = pure (List.zip _ us)) (fun _ _ _ _ => rfl) us hl

theorem b_Operation_has_ended {K : PySem.W.Frag} {mg : Str → Option Value} (T : Txt K mg) : Binds K T.fd_Operation_has_ended ["self"] [] := T.F_Operation_has_ended.binds (ps := ["self"]) fun _ _ _ _ _ _ us hl => us_n1 (M := fun us => bindArgs _ ⟨us, []⟩ = pure (List.zip _ us)) (fun _ => rfl) us hl

theorem b_Operation_is_under_way {K : PySem.W.Frag} {mg : Str → Option Value} (T : Txt K mg) : Binds K T.fd_Operation_is_under_way ["self"] [] := T.F_Operation_is_under_way.binds (ps := ["self"]) fun _ _ _ _ _ _ us hl => us_n1 (M := fun us => bindArgs _ ⟨us, []⟩ = pure (List.zip _ us)) (fun _ => rfl) us hl

theorem b_Operation_can_step {K : PySem.W.Frag} {mg : Str → Option Value} (T : Txt K mg) : Binds K T.fd_Operation_can_step ["self"] [] := T.F_Operation_can_step.binds (ps := ["self"]) fun _ _ _ _ _ _ us hl => us_n1 (M := fun us => bindArgs _ ⟨us, []⟩ = pure (List.zip _ us)) (fun _ => rfl) us hl

theorem b_Operation_stage {K : PySem.W.Frag} {mg : Str → Option Value} (T : Txt K mg) : Binds K T.fd_Operation_stage ["self"] [] := T.F_Operation_stage.binds (ps := ["self"]) fun _ _ _ _ _ _ us hl => us_n1 (M := fun us => bindArgs _ ⟨us, []⟩ = pure (List.zip _ us)) (fun _ => rfl) us hl

theorem b_Play_init {K : PySem.W.Frag} {mg : Str → Option Value} (T : Txt K mg) : Binds K T.fd_Play_init ["self", "design", "world"] [] := T.F_Play_init.binds (ps := ["self", "design", "world"]) fun _ _ _ _ _ _ us hl => us_n3 (M := fun us => bindArgs _ ⟨us, []⟩ = pure (List.zip _ us)) (fun _ _ _ => rfl) us hl

theorem b_Play_can_come {K : PySem.W.Frag} {mg : Str → Option Value} (T : Txt K mg) : Binds K T.fd_Play_can_come ["self", "value"] [] := T.F_Play_can_come.binds (ps := ["self", "value"]) fun _ _ _ _ _ _ us hl => us_n2 (M := fun us => bindArgs _ ⟨us, []⟩ = pure (List.zip _ us)) (fun _ _ => rfl) us hl

theorem b_Play_events {K : PySem.W.Frag} {mg : Str → Option Value} (T : Txt K mg) : Binds K T.fd_Play_events ["self"] [] := T.F_Play_events.binds (ps := ["self"]) fun _ _ _ _ _ _ us hl => us_n1 (M := fun us => bindArgs _ ⟨us, []⟩ = pure (List.zip _ us)) (fun _ => rfl) us hl

theorem b_Play_do {K : PySem.W.Frag} {mg : Str → Option Value} (T : Txt K mg) : Binds K T.fd_Play_do ["self", "event"] [] := T.F_Play_do.binds (ps := ["self", "event"]) fun _ _ _ _ _ _ us hl => us_n2 (M := fun us => bindArgs _ ⟨us, []⟩ = pure (List.zip _ us)) (fun _ _ => rfl) us hl

theorem b_Play_step {K : PySem.W.Frag} {mg : Str → Option Value} (T : Txt K mg) : Binds K T.fd_Play_step ["self", "word", "number"] [] := T.F_Play_step.binds (ps := ["self", "word", "number"]) fun _ _ _ _ _ _ us hl => us_n3 (M := fun us => bindArgs _ ⟨us, []⟩ = pure (List.zip _ us)) (fun _ _ _ => rfl) us hl

theorem b_Play_begun {K : PySem.W.Frag} {mg : Str → Option Value} (T : Txt K mg) : Binds K T.fd_Play_begun ["self", "word"] [] := T.F_Play_begun.binds (ps := ["self", "word"]) fun _ _ _ _ _ _ us hl => us_n2 (M := fun us => bindArgs _ ⟨us, []⟩ = pure (List.zip _ us)) (fun _ _ => rfl) us hl

theorem b_Play_look {K : PySem.W.Frag} {mg : Str → Option Value} (T : Txt K mg) : Binds K T.fd_Play_look ["self", "read"] [] := T.F_Play_look.binds (ps := ["self", "read"]) fun _ _ _ _ _ _ us hl => us_n2 (M := fun us => bindArgs _ ⟨us, []⟩ = pure (List.zip _ us)) (fun _ _ => rfl) us hl

theorem b_Play_share {K : PySem.W.Frag} {mg : Str → Option Value} (T : Txt K mg) : Binds K T.fd_Play_share ["self", "read"] [] := T.F_Play_share.binds (ps := ["self", "read"]) fun _ _ _ _ _ _ us hl => us_n2 (M := fun us => bindArgs _ ⟨us, []⟩ = pure (List.zip _ us)) (fun _ _ => rfl) us hl

theorem b_Play_fetch {K : PySem.W.Frag} {mg : Str → Option Value} (T : Txt K mg) : Binds K T.fd_Play_fetch ["self", "read"] [] := T.F_Play_fetch.binds (ps := ["self", "read"]) fun _ _ _ _ _ _ us hl => us_n2 (M := fun us => bindArgs _ ⟨us, []⟩ = pure (List.zip _ us)) (fun _ _ => rfl) us hl

theorem b_Play_fill {K : PySem.W.Frag} {mg : Str → Option Value} (T : Txt K mg) : Binds K T.fd_Play_fill ["self", "read"] [] := T.F_Play_fill.binds (ps := ["self", "read"]) fun _ _ _ _ _ _ us hl => us_n2 (M := fun us => bindArgs _ ⟨us, []⟩ = pure (List.zip _ us)) (fun _ _ => rfl) us hl

theorem b_Play_take {K : PySem.W.Frag} {mg : Str → Option Value} (T : Txt K mg) : Binds K T.fd_Play_take ["self", "read"] [] := T.F_Play_take.binds (ps := ["self", "read"]) fun _ _ _ _ _ _ us hl => us_n2 (M := fun us => bindArgs _ ⟨us, []⟩ = pure (List.zip _ us)) (fun _ _ => rfl) us hl

theorem b_Play_store {K : PySem.W.Frag} {mg : Str → Option Value} (T : Txt K mg) : Binds K T.fd_Play_store ["self", "write"] [] := T.F_Play_store.binds (ps := ["self", "write"]) fun _ _ _ _ _ _ us hl => us_n2 (M := fun us => bindArgs _ ⟨us, []⟩ = pure (List.zip _ us)) (fun _ _ => rfl) us hl

theorem b_Play_drop {K : PySem.W.Frag} {mg : Str → Option Value} (T : Txt K mg) : Binds K T.fd_Play_drop ["self", "write"] [] := T.F_Play_drop.binds (ps := ["self", "write"]) fun _ _ _ _ _ _ us hl => us_n2 (M := fun us => bindArgs _ ⟨us, []⟩ = pure (List.zip _ us)) (fun _ _ => rfl) us hl

theorem b_Play_put {K : PySem.W.Frag} {mg : Str → Option Value} (T : Txt K mg) : Binds K T.fd_Play_put ["self", "write"] [] := T.F_Play_put.binds (ps := ["self", "write"]) fun _ _ _ _ _ _ us hl => us_n2 (M := fun us => bindArgs _ ⟨us, []⟩ = pure (List.zip _ us)) (fun _ _ => rfl) us hl

theorem b_Play_lets_fill {K : PySem.W.Frag} {mg : Str → Option Value} (T : Txt K mg) : Binds K T.fd_Play_lets_fill ["self", "read"] [] := T.F_Play_lets_fill.binds (ps := ["self", "read"]) fun _ _ _ _ _ _ us hl => us_n2 (M := fun us => bindArgs _ ⟨us, []⟩ = pure (List.zip _ us)) (fun _ _ => rfl) us hl

theorem b_Play_lets_in {K : PySem.W.Frag} {mg : Str → Option Value} (T : Txt K mg) : Binds K T.fd_Play_lets_in ["self", "version"] [] := T.F_Play_lets_in.binds (ps := ["self", "version"]) fun _ _ _ _ _ _ us hl => us_n2 (M := fun us => bindArgs _ ⟨us, []⟩ = pure (List.zip _ us)) (fun _ _ => rfl) us hl

theorem b_Play_hold {K : PySem.W.Frag} {mg : Str → Option Value} (T : Txt K mg) : Binds K T.fd_Play_hold ["self", "version"] [] := T.F_Play_hold.binds (ps := ["self", "version"]) fun _ _ _ _ _ _ us hl => us_n2 (M := fun us => bindArgs _ ⟨us, []⟩ = pure (List.zip _ us)) (fun _ _ => rfl) us hl

theorem b_Play_raise_mark {K : PySem.W.Frag} {mg : Str → Option Value} (T : Txt K mg) : Binds K T.fd_Play_raise_mark ["self", "version"] [] := T.F_Play_raise_mark.binds (ps := ["self", "version"]) fun _ _ _ _ _ _ us hl => us_n2 (M := fun us => bindArgs _ ⟨us, []⟩ = pure (List.zip _ us)) (fun _ _ => rfl) us hl

theorem b_played {K : PySem.W.Frag} {mg : Str → Option Value} (T : Txt K mg) : Binds K T.fd_played ["design", "world", "run"] [] := T.F_played.binds (ps := ["design", "world", "run"]) fun _ _ _ _ _ _ us hl => us_n3 (M := fun us => bindArgs _ ⟨us, []⟩ = pure (List.zip _ us)) (fun _ _ _ => rfl) us hl

theorem b_write_design {K : PySem.W.Frag} {mg : Str → Option Value} (T : Txt K mg) : Binds K T.fd_write_design ["design"] [] := T.F_write_design.binds (ps := ["design"]) fun _ _ _ _ _ _ us hl => us_n1 (M := fun us => bindArgs _ ⟨us, []⟩ = pure (List.zip _ us)) (fun _ => rfl) us hl

theorem b_write_world {K : PySem.W.Frag} {mg : Str → Option Value} (T : Txt K mg) : Binds K T.fd_write_world ["world"] [] := T.F_write_world.binds (ps := ["world"]) fun _ _ _ _ _ _ us hl => us_n1 (M := fun us => bindArgs _ ⟨us, []⟩ = pure (List.zip _ us)) (fun _ => rfl) us hl

theorem b_read_design {K : PySem.W.Frag} {mg : Str → Option Value} (T : Txt K mg) : Binds K T.fd_read_design ["text"] [] := T.F_read_design.binds (ps := ["text"]) fun _ _ _ _ _ _ us hl => us_n1 (M := fun us => bindArgs _ ⟨us, []⟩ = pure (List.zip _ us)) (fun _ => rfl) us hl

theorem b_read_world {K : PySem.W.Frag} {mg : Str → Option Value} (T : Txt K mg) : Binds K T.fd_read_world ["text"] [] := T.F_read_world.binds (ps := ["text"]) fun _ _ _ _ _ _ us hl => us_n1 (M := fun us => bindArgs _ ⟨us, []⟩ = pure (List.zip _ us)) (fun _ => rfl) us hl

theorem b_write_run {K : PySem.W.Frag} {mg : Str → Option Value} (T : Txt K mg) : Binds K T.fd_write_run ["design", "world", "run"] [] := T.F_write_run.binds (ps := ["design", "world", "run"]) fun _ _ _ _ _ _ us hl => us_n3 (M := fun us => bindArgs _ ⟨us, []⟩ = pure (List.zip _ us)) (fun _ _ _ => rfl) us hl

theorem b_read_run {K : PySem.W.Frag} {mg : Str → Option Value} (T : Txt K mg) : Binds K T.fd_read_run ["design", "world", "text"] [] := T.F_read_run.binds (ps := ["design", "world", "text"]) fun _ _ _ _ _ _ us hl => us_n3 (M := fun us => bindArgs _ ⟨us, []⟩ = pure (List.zip _ us)) (fun _ _ _ => rfl) us hl

theorem b_text_of_words {K : PySem.W.Frag} {mg : Str → Option Value} (T : Txt K mg) : Binds K T.fd_text_of_words ["words"] [] := T.F_text_of_words.binds (ps := ["words"]) fun _ _ _ _ _ _ us hl => us_n1 (M := fun us => bindArgs _ ⟨us, []⟩ = pure (List.zip _ us)) (fun _ => rfl) us hl

theorem b_read_words {K : PySem.W.Frag} {mg : Str → Option Value} (T : Txt K mg) : Binds K T.fd_read_words ["text", "choices"] [] := T.F_read_words.binds (ps := ["text", "choices"]) fun _ _ _ _ _ _ us hl => us_n2 (M := fun us => bindArgs _ ⟨us, []⟩ = pure (List.zip _ us)) (fun _ _ => rfl) us hl

theorem b_text_of_event {K : PySem.W.Frag} {mg : Str → Option Value} (T : Txt K mg) : Binds K T.fd_text_of_event ["event"] [] := T.F_text_of_event.binds (ps := ["event"]) fun _ _ _ _ _ _ us hl => us_n1 (M := fun us => bindArgs _ ⟨us, []⟩ = pure (List.zip _ us)) (fun _ => rfl) us hl

theorem b_events_by_text {K : PySem.W.Frag} {mg : Str → Option Value} (T : Txt K mg) : Binds K T.fd_events_by_text ["play"] [] := T.F_events_by_text.binds (ps := ["play"]) fun _ _ _ _ _ _ us hl => us_n1 (M := fun us => bindArgs _ ⟨us, []⟩ = pure (List.zip _ us)) (fun _ => rfl) us hl

theorem b_Ltaken {K : PySem.W.Frag} {mg : Str → Option Value} (T : Txt K mg) : Binds K T.fd_Ltaken ["row", "many"] [] := T.F_Ltaken.binds (ps := ["row", "many"]) fun _ _ _ _ _ _ us hl => us_n2 (M := fun us => bindArgs _ ⟨us, []⟩ = pure (List.zip _ us)) (fun _ _ => rfl) us hl

theorem b_Lpick {K : PySem.W.Frag} {mg : Str → Option Value} (T : Txt K mg) : Binds K T.fd_Lpick ["row", "kinds"] [] := T.F_Lpick.binds (ps := ["row", "kinds"]) fun _ _ _ _ _ _ us hl => us_n2 (M := fun us => bindArgs _ ⟨us, []⟩ = pure (List.zip _ us)) (fun _ _ => rfl) us hl

theorem b_Lalike {K : PySem.W.Frag} {mg : Str → Option Value} (T : Txt K mg) : Binds K T.fd_Lalike ["found", "due"] [] := T.F_Lalike.binds (ps := ["found", "due"]) fun _ _ _ _ _ _ us hl => us_n2 (M := fun us => bindArgs _ ⟨us, []⟩ = pure (List.zip _ us)) (fun _ _ => rfl) us hl

theorem b_Lpaths {K : PySem.W.Frag} {mg : Str → Option Value} (T : Txt K mg) : Binds K T.fd_Lpaths [] [] := T.F_Lpaths.binds (ps := []) fun _ _ _ _ _ _ us hl => us_n0 (M := fun us => bindArgs _ ⟨us, []⟩ = pure (List.zip _ us)) rfl us hl

theorem b_Ldesign {K : PySem.W.Frag} {mg : Str → Option Value} (T : Txt K mg) : Binds K T.fd_Ldesign ["row"] [] := T.F_Ldesign.binds (ps := ["row"]) fun _ _ _ _ _ _ us hl => us_n1 (M := fun us => bindArgs _ ⟨us, []⟩ = pure (List.zip _ us)) (fun _ => rfl) us hl

theorem b_Lworld {K : PySem.W.Frag} {mg : Str → Option Value} (T : Txt K mg) : Binds K T.fd_Lworld ["row"] [] := T.F_Lworld.binds (ps := ["row"]) fun _ _ _ _ _ _ us hl => us_n1 (M := fun us => bindArgs _ ⟨us, []⟩ = pure (List.zip _ us)) (fun _ => rfl) us hl

theorem b_Lbegin {K : PySem.W.Frag} {mg : Str → Option Value} (T : Txt K mg) : Binds K T.fd_Lbegin ["design", "world"] [] := T.F_Lbegin.binds (ps := ["design", "world"]) fun _ _ _ _ _ _ us hl => us_n2 (M := fun us => bindArgs _ ⟨us, []⟩ = pure (List.zip _ us)) (fun _ _ => rfl) us hl

theorem b_Lgoing {K : PySem.W.Frag} {mg : Str → Option Value} (T : Txt K mg) : Binds K T.fd_Lgoing ["h"] [] := T.F_Lgoing.binds (ps := ["h"]) fun _ _ _ _ _ _ us hl => us_n1 (M := fun us => bindArgs _ ⟨us, []⟩ = pure (List.zip _ us)) (fun _ => rfl) us hl

theorem b_Lnext {K : PySem.W.Frag} {mg : Str → Option Value} (T : Txt K mg) : Binds K T.fd_Lnext ["h", "one"] [] := T.F_Lnext.binds (ps := ["h", "one"]) fun _ _ _ _ _ _ us hl => us_n2 (M := fun us => bindArgs _ ⟨us, []⟩ = pure (List.zip _ us)) (fun _ _ => rfl) us hl

theorem b_Levents {K : PySem.W.Frag} {mg : Str → Option Value} (T : Txt K mg) : Binds K T.fd_Levents ["h"] [] := T.F_Levents.binds (ps := ["h"]) fun _ _ _ _ _ _ us hl => us_n1 (M := fun us => bindArgs _ ⟨us, []⟩ = pure (List.zip _ us)) (fun _ => rfl) us hl

theorem b_Lend {K : PySem.W.Frag} {mg : Str → Option Value} (T : Txt K mg) : Binds K T.fd_Lend ["h", "one", "stage"] [] := T.F_Lend.binds (ps := ["h", "one", "stage"]) fun _ _ _ _ _ _ us hl => us_n3 (M := fun us => bindArgs _ ⟨us, []⟩ = pure (List.zip _ us)) (fun _ _ _ => rfl) us hl

theorem b_Lhold {K : PySem.W.Frag} {mg : Str → Option Value} (T : Txt K mg) : Binds K T.fd_Lhold ["h", "version"] [] := T.F_Lhold.binds (ps := ["h", "version"]) fun _ _ _ _ _ _ us hl => us_n2 (M := fun us => bindArgs _ ⟨us, []⟩ = pure (List.zip _ us)) (fun _ _ => rfl) us hl

theorem b_Lnewer {K : PySem.W.Frag} {mg : Str → Option Value} (T : Txt K mg) : Binds K T.fd_Lnewer ["h", "version"] [] := T.F_Lnewer.binds (ps := ["h", "version"]) fun _ _ _ _ _ _ us hl => us_n2 (M := fun us => bindArgs _ ⟨us, []⟩ = pure (List.zip _ us)) (fun _ _ => rfl) us hl

theorem b_Llets {K : PySem.W.Frag} {mg : Str → Option Value} (T : Txt K mg) : Binds K T.fd_Llets ["h", "one"] [] := T.F_Llets.binds (ps := ["h", "one"]) fun _ _ _ _ _ _ us hl => us_n2 (M := fun us => bindArgs _ ⟨us, []⟩ = pure (List.zip _ us)) (fun _ _ => rfl) us hl

theorem b_Lwrite {K : PySem.W.Frag} {mg : Str → Option Value} (T : Txt K mg) : Binds K T.fd_Lwrite ["h", "one", "word"] [] := T.F_Lwrite.binds (ps := ["h", "one", "word"]) fun _ _ _ _ _ _ us hl => us_n3 (M := fun us => bindArgs _ ⟨us, []⟩ = pure (List.zip _ us)) (fun _ _ _ => rfl) us hl

theorem b_Lread {K : PySem.W.Frag} {mg : Str → Option Value} (T : Txt K mg) : Binds K T.fd_Lread ["h", "one", "word"] [] := T.F_Lread.binds (ps := ["h", "one", "word"]) fun _ _ _ _ _ _ us hl => us_n3 (M := fun us => bindArgs _ ⟨us, []⟩ = pure (List.zip _ us)) (fun _ _ _ => rfl) us hl

theorem b_Ldo {K : PySem.W.Frag} {mg : Str → Option Value} (T : Txt K mg) : Binds K T.fd_Ldo ["h", "event"] [] := T.F_Ldo.binds (ps := ["h", "event"]) fun _ _ _ _ _ _ us hl => us_n2 (M := fun us => bindArgs _ ⟨us, []⟩ = pure (List.zip _ us)) (fun _ _ => rfl) us hl

theorem b_Lwalk {K : PySem.W.Frag} {mg : Str → Option Value} (T : Txt K mg) : Binds K T.fd_Lwalk ["row", "design", "world", "most"] [] := T.F_Lwalk.binds (ps := ["row", "design", "world", "most"]) fun _ _ _ _ _ _ us hl => us_n4 (M := fun us => bindArgs _ ⟨us, []⟩ = pure (List.zip _ us)) (fun _ _ _ _ => rfl) us hl

theorem b_Lline {K : PySem.W.Frag} {mg : Str → Option Value} (T : Txt K mg) : Binds K T.fd_Lline ["work"] [] := T.F_Lline.binds (ps := ["work"]) fun _ _ _ _ _ _ us hl => us_n1 (M := fun us => bindArgs _ ⟨us, []⟩ = pure (List.zip _ us)) (fun _ => rfl) us hl

theorem b_law {K : PySem.W.Frag} {mg : Str → Option Value} (T : Txt K mg) : Binds K T.fd_law ["script"] [] := T.F_law.binds (ps := ["script"]) fun _ _ _ _ _ _ us hl => us_n1 (M := fun us => bindArgs _ ⟨us, []⟩ = pure (List.zip _ us)) (fun _ => rfl) us hl

/-! ### helpers -/
/-! rules whose reading names the written part: with that part outside, for a comprehension's block -/
section
variable {X : Cx} {K : PySem.W.Frag}
theorem op_inK (h : X.K = K) : OpR X (compareOp .In) (rIn K false) := h ▸ op_in_seq
theorem op_notInK (h : X.K = K) : OpR X (compareOp .NotIn) (rIn K true) := h ▸ op_notIn_seq
theorem ix_listK (h : X.K = K) : IxR X (rIxL K) := h ▸ ix_list
theorem ix_tupK (h : X.K = K) : IxR X (rIxT K) := h ▸ ix_tup
def lenK (K : PySem.W.Frag) : List V → Hp → VK → Prop := fun xs H Q => ∃ p ys, xs = [.ref p] ∧ (SqL K H p ys ∨ SqT K H p ys) ∧ Q (.int ys.length) H
theorem len_seqK (h : X.K = K) : CallR X (.builtin "len") (lenK K) := h ▸ call_len_seq
theorem isiK (h : X.K = K) : CallR X (.builtin "isinstance") (rIsi K) := h ▸ call_isi
theorem pe_fldK {e : Expr} {f : Str} {pos : Pos} {ta : TE} (h : X.K = K) (ha : PE X e ta) (hb : attributeBase e f X.env (eval e X.env) = eval e X.env) : PE X (.Attribute e f pos) (tFld K ta f) := h ▸ pe_fld ha hb
end
theorem dget {H : Hp} {a : Addr} {kvs : List (Key × V)} {x : Str} {v : V} (h : H a = some (.dK kvs)) (e : valV kvs (Sum.inr x) = some v) : DGet H a (.str x) (some v) := by
  rw [← e]
  exact DGet.k (k := Sum.inr x) h
theorem same_new {H : Hp} {p : Addr} {o : HO} (n : H p = none) : Same H (upd H p o) := fun b u e => by
  rw [upd_ne (ne_of_none e n)]
  exact e
theorem sN {H H1 : Hp} {p : Addr} {o : HO} (a : Same H H1) (n : H1 p = none) : Same H (upd H1 p o) := a.trans (same_new n)
theorem pget {α β : Type} {R : α → β → Prop} : ∀ {a : List α} {b : List β} {i : Nat} {x : α}, Paired R a b → a[i]? = some x → ∃ y, b[i]? = some y ∧ R x y
  | _, _, _, _, .nil, h => by simp at h
  | _, _, 0, _, .cons r _, h => by
    simp at h
    subst h
    exact ⟨_, rfl, r⟩
  | _, _, i + 1, _, .cons _ t, h => by
    obtain ⟨y, a, b⟩ := pget (i := i) t (by simpa using h)
    exact ⟨y, by simpa using a, b⟩
theorem small9 {n : Nat} (h : n ≤ 100 := by decide) : n < sizeLine := Nat.lt_of_le_of_lt h (by decide)
/-- what is not in F stands -/
def Keep (F : Addr → Prop) (H H' : Hp) : Prop := ∀ b o, H b = some o → ¬ F b → H' b = some o
theorem Keep.refl {F : Addr → Prop} {H : Hp} : Keep F H H := fun _ _ e _ => e
theorem Keep.trans {F : Addr → Prop} {H H1 H2 : Hp} (a : Keep F H H1) (b : Keep F H1 H2) : Keep F H H2 := fun c o e n => b c o (a c o e n) n
theorem Keep.new {F : Addr → Prop} {H H1 : Hp} {p : Addr} {o : HO} (a : Keep F H H1) (h : H1 p = none) : Keep F H (upd H1 p o) := fun c u e n => by
  have q := a c u e n
  rw [upd_ne (ne_of_none q h)]
  exact q
theorem Keep.put {F : Addr → Prop} {H H1 : Hp} {p : Addr} {o : HO} (a : Keep F H H1) (h : F p) : Keep F H (upd H1 p o) := fun c u e n => by
  have q := a c u e n
  rw [upd_ne (fun z => n (by rw [z]; exact h))]
  exact q
theorem Keep.mono {F G : Addr → Prop} {H H1 : Hp} (a : Keep F H H1) (h : ∀ b, F b → G b) : Keep G H H1 := fun c u e n => a c u e fun f => n (h c f)
theorem Keep.free {F : Addr → Prop} {H H1 : Hp} (a : Keep F H H1) {p : Addr} (h : H1 p = none) (n : ¬ F p) : H p = none := by
  cases q : H p with
  | none => rfl
  | some o =>
    rw [a p o q n] at h
    cases h
theorem Keep.same {F : Addr → Prop} {H0 H H1 : Hp} (a : Keep F H H1) (s : Same H0 H) (h : ∀ b, F b → H0 b = none) : Same H0 H1 := fun b o e => a b o (s b o e) fun f => by
  rw [h b f] at e
  cases e
end Ca

set_option Elab.async false
set_option linter.all false
set_option maxRecDepth 100000
set_option maxHeartbeats 4000000
namespace Ca
open PySem L2
/-! ### the row of draws: [script, place, mix, rest] -/
/-- what stands at a row: the script's list at a -/
def RowO (a : Addr) (o : HO) : Prop := ∃ i x y : Int, o = .lst [.ref a, .int i, .int x, .int y] ∧ 0 ≤ i ∧ 0 ≤ x ∧ x < 2147483647
/-- the row stands at r; ahead of it stood H0, the script at a in it -/
structure RowAt (K : PySem.W.Frag) (H0 : Hp) (a r : Addr) (H : Hp) : Prop where
  ex : ∃ ns : List Int, SqL K H0 a (ns.map V.int)
  no : H0 r = none
  sm : Same H0 H
  at_ : ∃ o, H r = some o ∧ RowO a o
theorem RowAt.put {K : PySem.W.Frag} {H0 H : Hp} {a r : Addr} {o : HO} (R : RowAt K H0 a r H) (h : RowO a o) : RowAt K H0 a r (upd H r o) := by
  refine ⟨R.ex, R.no, fun b u e => ?_, o, upd_same, h⟩
  rw [upd_ne (fun z => by rw [z, R.no] at e; cases e)]
  exact R.sm b u e
theorem RowAt.keep {K : PySem.W.Frag} {H0 H H' : Hp} {a r : Addr} {F : Addr → Prop} (R : RowAt K H0 a r H) (k : Keep F H H') (h : ∀ b, F b → H0 b = none) (hr : ¬ F r) : RowAt K H0 a r H' := by
  obtain ⟨o, e, q⟩ := R.at_
  exact ⟨R.ex, R.no, k.same R.sm h, o, k _ _ e hr, q⟩
/-- a draw below many: some number, the row turned, nothing else -/
@[irreducible] def spTaken (K : PySem.W.Frag) : Sp := fun vs H Q _ => ∃ (H0 : Hp) (a r : Addr) (m : Int), vs = [.ref r, .int m] ∧ RowAt K H0 a r H ∧ 0 < m ∧ m ≤ 1000 ∧ ∀ (k : Int) (o : HO), 0 ≤ k → k < m → RowO a o → Q (.int k) (upd H r o)
/-- a draw of one of some things -/
@[irreducible] def spPick (K : PySem.W.Frag) : Sp := fun vs H Q _ => ∃ (H0 : Hp) (a r l : Addr) (xs : List V), vs = [.ref r, .ref l] ∧ RowAt K H0 a r H ∧ H l = some (.lst xs) ∧ l ≠ r ∧ xs ≠ [] ∧ xs.length ≤ 1000 ∧ ∀ (x : V) (o : HO), x ∈ xs → RowO a o → Q x (upd H r o)
@[irreducible] def spPaths : Sp := fun vs H Q _ => vs = [] ∧ ∀ p, H p = none → Q (.ref p) (upd H p (.lst [.str "drop store", .str "drop store drop", .str "store", .str "store drop", .str "store set"]))
theorem taken_i {K : PySem.W.Frag} {H0 H : Hp} {a r : Addr} {m : Int} {Q : VK} {E : XK} (R : RowAt K H0 a r H) (m0 : 0 < m) (m1 : m ≤ 1000) (k : ∀ (k : Int) H', 0 ≤ k → k < m → RowAt K H0 a r H' → Keep (fun b => b = r) H H' → (∀ b, b ≠ r → H' b = H b) → Q (.int k) H') : spTaken K [.ref r, .int m] H Q E := by
  unfold spTaken
  exact ⟨H0, a, r, m, rfl, R, m0, m1, fun j o j0 j1 ro => k j _ j0 j1 (R.put ro) (Keep.refl.put rfl) fun b h => upd_ne h⟩
theorem pick_i {K : PySem.W.Frag} {H0 H : Hp} {a r l : Addr} {Q : VK} {E : XK} (xs : List V) (R : RowAt K H0 a r H) (hl : H l = some (.lst xs)) (n : l ≠ r) (h0 : xs ≠ []) (h1 : xs.length ≤ 1000) (k : ∀ x H', x ∈ xs → RowAt K H0 a r H' → Keep (fun b => b = r) H H' → Q x H') :
    spPick K [.ref r, .ref l] H Q E := by
  unfold spPick
  exact ⟨H0, a, r, l, xs, rfl, R, hl, n, h0, h1, fun x o m ro => k x _ m (R.put ro) (Keep.refl.put rfl)⟩
theorem paths_i {H : Hp} {Q : VK} {E : XK} (k : ∀ p, H p = none → Q (.ref p) (upd H p (.lst [.str "drop store", .str "drop store drop", .str "store", .str "store drop", .str "store set"]))) : spPaths [] H Q E := by
  unfold spPaths
  exact ⟨rfl, k⟩
section
variable {P : Program} {w : World} {K : PySem.W.Frag} {mg : Str → Option Value} {base : Heap}
theorem big18 : ((10 : Int) ^ (18 : Int).toNat) = 1000000000000000000 := by decide
theorem ok_Ltaken (T : Txt K mg) : FnOk P w K mg base CX0 1 T.f_Ltaken T.fd_Ltaken ["row", "many"] (spTaken K) := by
  refine T.F_Ltaken.ok sc_Ltaken (fun vs H Q E h => ?_) (fun cdv A outer s H vs Q E hr h => ?_)
  · unfold spTaken at h
    obtain ⟨H0, a, r, m, rfl, _⟩ := h
    rfl
  · unfold spTaken at h
    obtain ⟨H0, a, r, m, rfl, R, m0, m1, k⟩ := h
    have hu := hu_of hr
    obtain ⟨o, ho, i, x, y, rfl, i0, x0, x1⟩ := id R.at_
    refine ⟨_, (pss_cons (ps_if (pt_cmpR op_gt (pe_ix ix_list (pv 0) pe_int (fun _ _ => rfl)) pe_int (nomark _)) (pss_cons (ps_set (i := 2) sc_Ltaken.nd rfl (Or.inl rfl) (pe_op op_modN (pe_callTy call_int1 (by rfl) T.n_int (by decide +kernel) (pa_cons (pe_ix ix_list (pv 0) pe_int (fun _ _ => rfl)) pa_nil)) (pv 1)))
      (pss_cons (ps_asg (pe_op op_fdivN (pe_ix ix_list (pv 0) pe_int (fun _ _ => rfl)) (pv 1)) (pg_sub (pv 0) pe_int set_list))
      (pss_one (ps_ret (pv 2))))) pss_nil)
      (pss_cons (ps_asg (pe_op op_add (pe_ix ix_list (pv 0) pe_int (fun _ _ => rfl)) pe_int) (pg_sub (pv 0) pe_int set_list))
      (pss_cons (ps_if (pt_cmpR op_gt (pe_ix ix_list (pv 0) pe_int (fun _ _ => rfl)) (pe_callB call_len_seq (by rfl) T.n_len (by decide +kernel) (pa_cons (pe_ix ix_list (pv 0) pe_int (fun _ _ => rfl)) pa_nil)) (nomark _)) (pss_cons (ps_asg (pe_op op_modN (pe_callTy call_int1 (by rfl) T.n_int (by decide +kernel) (pa_cons (pe_op op_add (pe_op op_mul (pe_ix ix_list (pv 0) pe_int (fun _ _ => rfl)) pe_int) pe_int) pa_nil)) pe_int) (pg_sub (pv 0) pe_int set_list))
      (pss_one (ps_ret (pe_op op_modN (pe_callTy call_int1 (by rfl) T.n_int (by decide +kernel) (pa_cons (pe_op op_fdivN (pe_ix ix_list (pv 0) pe_int (fun _ _ => rfl)) pe_int) pa_nil)) (pv 1))))) pss_nil)
      (pss_cons (ps_set (i := 3) sc_Ltaken.nd rfl (Or.inl rfl) (pe_ix ix_list (pe_ix ix_list (pv 0) pe_int (fun _ _ => rfl)) (pe_op op_sub (pe_ix ix_list (pv 0) pe_int (fun _ _ => rfl)) pe_int) (fun _ _ => rfl)))
      (pss_cons (ps_asg (pe_op op_modN (pe_callTy call_int1 (by rfl) T.n_int (by decide +kernel) (pa_cons (pe_op op_add (pe_op op_add (pe_op op_mul (pe_ix ix_list (pv 0) pe_int (fun _ _ => rfl)) pe_int) (pv 3)) pe_int) pa_nil)) pe_int) (pg_sub (pv 0) pe_int set_list))
      (pss_cons (ps_if (pt_cmpR op_ge (pv 3) (pe_op op_pow pe_int pe_int) (nomark _)) (pss_one (ps_asg (pe_op op_fdivN (pv 3) (pv 1)) (pg_sub (pv 0) pe_int set_list))) pss_nil)
      (pss_one (ps_ret (pe_op op_modN (pe_callTy call_int1 (by rfl) T.n_int (by decide +kernel) (pa_cons (pv 3) pa_nil)) (pv 1)))))))))), ?_⟩
    refine ⟨_, rfl, _, _, _, _, rfl, rfl, SqL.of (ho), rfl, _, _, rfl, rfl, _, rfl, ?_⟩
    refine ite2 (fun hy => ?_) (fun hy => ?_)
    · have hy := of_decide_eq_true hy
      refine ⟨_, rfl, _, _, _, _, rfl, rfl, SqL.of (ho), rfl, .inl ⟨_, rfl, _, rfl, _, _, rfl, rfl, (by omega), ?_⟩⟩
      refine ⟨_, rfl, _, _, _, _, rfl, rfl, SqL.of (ho), rfl, _, rfl, _, _, rfl, rfl, ⟨by omega, by omega⟩, _, rfl, _, _, _, _, rfl, rfl, ho, rfl, ?_⟩
      refine ⟨_, rfl, ?_⟩
      exact k _ _ (Int.fmod_nonneg_of_pos _ m0) (Int.fmod_lt_of_pos _ m0) ⟨_, _, _, rfl, i0, x0, x1⟩
    · refine ⟨_, rfl, _, _, _, _, rfl, rfl, SqL.of (ho), rfl, _, _, rfl, rfl, _, rfl, _, _, _, _, rfl, rfl, ho, rfl, ?_⟩
      have h1 := upd_same (H := H) (a := r) (o := .lst [.ref a, .int (i + 1), .int x, .int y])
      have R1 : RowAt K H0 a r (upd H r (.lst [.ref a, .int (i + 1), .int x, .int y])) := R.put ⟨_, _, _, rfl, by omega, x0, x1⟩
      obtain ⟨ns, hs⟩ := R.ex
      have hS := R1.sm.seq hs
      refine ⟨_, rfl, _, _, _, _, rfl, rfl, SqL.of (h1), rfl, _, rfl, _, _, _, _, rfl, rfl, SqL.of (h1), rfl, a, ns.map V.int, rfl, .inl hS, _, _, rfl, rfl, _, rfl, ?_⟩
      refine ite2 (fun hi => ?_) (fun hi => ?_)
      · refine ⟨_, rfl, _, _, _, _, rfl, rfl, SqL.of (h1), rfl, _, _, rfl, rfl, .inl ⟨by omega, by omega⟩, _, _, rfl, rfl, .inl ⟨_, rfl, ?_⟩⟩
        refine ⟨_, _, rfl, rfl, (by show (2147483647 : Int) ≠ 0; decide), _, rfl, _, _, _, _, rfl, rfl, h1, rfl, ?_⟩
        have h2 := upd_same (H := upd H r (.lst [.ref a, .int (i + 1), .int x, .int y])) (a := r) (o := .lst [.ref a, .int (i + 1), .int ((x * 48271 + 11).fmod 2147483647), .int y])
        refine ⟨_, rfl, _, _, _, _, rfl, rfl, SqL.of (h2), rfl, _, _, rfl, rfl, ⟨by decide, by decide⟩, .inl ⟨_, rfl, _, rfl, _, _, rfl, rfl, (by omega), ?_⟩⟩
        rw [upd_upd]
        exact k _ _ (Int.fmod_nonneg_of_pos _ m0) (Int.fmod_lt_of_pos _ m0) ⟨_, _, _, rfl, by omega, Int.fmod_nonneg_of_pos _ (by decide), Int.fmod_lt_of_pos _ (by decide)⟩
      · have hi : ¬ ((ns.map V.int).length : Int) < i + 1 := of_decide_eq_false (by simpa using hi)
        have hlt : i.toNat < ns.length := by
          rw [List.length_map] at hi
          omega
        have hget : (ns.map V.int)[i.toNat]? = some (V.int (ns[i.toNat]'hlt)) := by
          rw [List.getElem?_map, List.getElem?_eq_getElem hlt]
          rfl
        refine ⟨_, rfl, _, _, _, _, rfl, rfl, SqL.of (h1), rfl, _, rfl, _, _, _, _, rfl, rfl, SqL.of (h1), rfl, _, _, rfl, rfl, a, ns.map V.int, _, _, rfl, rfl, hS, at_of (j := i.toNat) (by omega) hget, ?_⟩
        generalize ns[i.toNat]'hlt = c
        refine ⟨_, rfl, _, _, _, _, rfl, rfl, SqL.of (h1), rfl, _, _, rfl, rfl, .inl ⟨by omega, by omega⟩, _, rfl, _, _, rfl, rfl, _, _, rfl, rfl, .inl ⟨_, rfl, ?_⟩⟩
        refine ⟨_, _, rfl, rfl, (by show (2147483647 : Int) ≠ 0; decide), _, rfl, _, _, _, _, rfl, rfl, h1, rfl, ?_⟩
        refine ⟨_, rfl, _, _, rfl, rfl, ⟨by decide, by decide, by decide⟩, _, _, rfl, rfl, _, rfl, ?_⟩
        refine ite2 (fun hc => ?_) (fun hc => ?_)
        · refine ⟨_, rfl, _, rfl, _, _, rfl, rfl, ⟨by omega, by omega⟩, _, rfl, _, _, _, _, rfl, rfl, upd_same, rfl, ?_⟩
          refine ⟨_, rfl, .inl ⟨_, rfl, _, rfl, _, _, rfl, rfl, (by omega), ?_⟩⟩
          rw [upd_upd, upd_upd]
          exact k _ _ (Int.fmod_nonneg_of_pos _ m0) (Int.fmod_lt_of_pos _ m0) ⟨_, _, _, rfl, by omega, Int.fmod_nonneg_of_pos _ (by decide), Int.fmod_lt_of_pos _ (by decide)⟩
        · refine ⟨_, rfl, .inl ⟨_, rfl, _, rfl, _, _, rfl, rfl, (by omega), ?_⟩⟩
          rw [upd_upd]
          exact k _ _ (Int.fmod_nonneg_of_pos _ m0) (Int.fmod_lt_of_pos _ m0) ⟨_, _, _, rfl, by omega, Int.fmod_nonneg_of_pos _ (by decide), Int.fmod_lt_of_pos _ (by decide)⟩
theorem ok_Lpick (T : Txt K mg) : FnOk P w K mg base CX0 2 T.f_Lpick T.fd_Lpick ["row", "kinds"] (spPick K) := by
  refine T.F_Lpick.ok sc_Lpick (fun vs H Q E h => ?_) (fun cdv A outer s H vs Q E hr h => ?_)
  · unfold spPick at h
    obtain ⟨H0, a, r, l, xs, rfl, _⟩ := h
    rfl
  · unfold spPick at h
    obtain ⟨H0, a, r, l, xs, rfl, R, hl, nlr, ne, hn, k⟩ := h
    refine ⟨_, (pss_one (ps_ret (pe_ix ix_list (pv 1) (pe_call (ok_Ltaken T) (hr.mono (by decide)) rfl T.m_Ltaken T.F_Ltaken.kp (b_Ltaken T) .nil pass0 (pa_cons (pv 0) (pa_cons (pe_callB call_len_seq (by rfl) T.n_len (by decide +kernel) (pa_cons (pv 1) pa_nil)) pa_nil))) (fun _ _ => rfl)))), ?_⟩
    have hp : 0 < xs.length := List.length_pos_iff.mpr ne
    refine ⟨_, rfl, _, rfl, _, rfl, l, xs, rfl, .inl (SqL.of hl), ?_⟩
    have ht : ∀ Q' E', (∀ (j : Int) (o : HO), 0 ≤ j → j < (xs.length : Int) → RowO a o → Q' (.int j) (upd H r o)) → spTaken K [.ref r, .int (xs.length : Int)] H Q' E' := fun Q' E' k' => by
      unfold spTaken
      exact ⟨H0, a, r, _, rfl, R, by omega, by omega, k'⟩
    refine ht _ _ fun j o j0 j1 ro => ?_
    have hlt : j.toNat < xs.length := by omega
    have h2 : (upd H r o) l = some (.lst xs) := by rw [upd_ne nlr]; exact hl
    refine ⟨l, xs, j, xs[j.toNat], rfl, rfl, SqL.of h2, at_of (j := j.toNat) (by omega) (List.getElem?_eq_getElem hlt), ?_⟩
    exact k _ _ (List.getElem_mem hlt) ro
theorem ok_Lpaths (T : Txt K mg) : FnOk P w K mg base CX0 1 T.f_Lpaths T.fd_Lpaths [] (spPaths) := by
  refine T.F_Lpaths.ok sc_Lpaths (fun vs H Q E h => ?_) (fun cdv A outer s H vs Q E hr h => ?_)
  · unfold spPaths at h
    obtain ⟨rfl, _⟩ := h
    rfl
  · unfold spPaths at h
    obtain ⟨rfl, k⟩ := h
    refine ⟨_, (pss_one (ps_ret (pe_lst (pa_cons pe_str (pa_cons pe_str (pa_cons pe_str (pa_cons pe_str (pa_cons pe_str pa_nil)))))))), ?_⟩
    exact ⟨by show 5 ≤ sizeLine; decide, fun p hp => k p hp⟩
end
def pathsL : List Str := ["drop store", "drop store drop", "store", "store drop", "store set"]
def guardsL : List Str := ["always", "empty", "mark", "never", "newer", "token"]
def flightsL : List Str := ["alone", "shared"]
/-- a design's three words, a world's three -/
structure Conf where
  path : Str
  guard : Str
  flight : Str
  source : Str
  evict : Str
  stop : Str
structure Conf.Ok (c : Conf) : Prop where
  p : c.path ∈ pathsL
  g : c.guard ∈ guardsL
  f : c.flight ∈ flightsL
  s : c.source = "primary" ∨ c.source = "replica"
  e : c.evict = "evicts" ∨ c.evict = "keeps"
  t : c.stop = "finishes" ∨ c.stop = "stops"
section
variable {P : Program} {w : World} {K : PySem.W.Frag} {mg : Str → Option Value} {base : Heap}
theorem RowAt.ne {H0 H : Hp} {a r p : Addr} (R : RowAt K H0 a r H) (h : H p = none) : p ≠ r := fun z => by
  obtain ⟨o, e, _⟩ := R.at_
  rw [← z, h] at e
  cases e
theorem RowAt.new {H0 H : Hp} {a r p : Addr} {o : HO} (R : RowAt K H0 a r H) (h : H p = none) : RowAt K H0 a r (upd H p o) :=
  R.keep (F := fun _ => False) (Keep.new .refl h) (fun _ z => z.elim) id
theorem pick_lst {H0 H : Hp} {a r l : Addr} {Q : VK} {E : XK} (R : RowAt K H0 a r H) (n : H l = none) (xs : List V) (h0 : xs ≠ []) (h1 : xs.length ≤ 1000) (k : ∀ x H', x ∈ xs → RowAt K H0 a r H' → Keep (fun b => b = r) H H' → Q x H') :
    spPick K [.ref r, .ref l] (upd H l (.lst xs)) Q E := by
  unfold spPick
  exact ⟨H0, a, r, l, xs, rfl, R.new n, upd_same, R.ne n, h0, h1, fun x o m ro => k x _ m ((R.new n).put ro) ((Keep.refl.new n).put rfl)⟩
end
abbrev dT (c : Conf) : HO := .tup [.str c.path, .str c.guard, .str c.flight]
abbrev wT (c : Conf) : HO := .tup [.str c.source, .str c.evict, .str c.stop]
end Ca

set_option Elab.async false
set_option linter.all false
set_option maxRecDepth 100000
set_option maxHeartbeats 4000000
namespace Ca
open PySem L2
/-! ### the law's own cache as plain data -/
def on : Option Nat → V
  | none => .non
  | some k => .int (k : Int)
structure OpS where
  number : Nat
  kind : Str
  stage : Str
  version : Option Nat
  begun : Nat
  over : Option Nat
  step : Nat
  clean : Bool
  leader : Option Nat
structure HS where
  db : Nat
  rep : Nat
  cache : Option Nat
  mark : Nat
  opn : Option Nat
  ops : List OpS
  past : List Ev
def HS.begin : HS := ⟨0, 0, none, 0, none, [], []⟩
def Conf.steps (c : Conf) : List Str := Txt.split c.path " "
def endedB (o : OpS) : Bool := decide (o.stage = "ended") || decide (o.stage = "stopped")
def going (s : HS) : List OpS := s.ops.filter fun o => !endedB o
def nextOf (s : HS) (o : OpS) : Option Str :=
  if o.stage = "waits" then (match o.leader with
    | some l => (match s.ops[l]? with
      | some q => if q.stage = "ended" then some "take" else none
      | none => none)
    | none => none)
  else some o.stage
def firstW (c : Conf) : Str := c.steps.getD 0 ""
def evA (c : Conf) (s : HS) : List Ev := [("look", some (s.ops.length : Int)), (firstW c, some (s.ops.length : Int))]
def evB (s : HS) : List Ev := (going s).filterMap fun o => (nextOf s o).map fun w => (w, some (o.number : Int))
def evC (c : Conf) (s : HS) : List Ev := if c.stop = "stops" then (going s).map fun o => ("stop", some (o.number : Int)) else []
def canEvict (c : Conf) (s : HS) : Bool := decide (c.evict = "evicts") && (s.cache.isSome || decide (0 < s.mark))
def canCopy (c : Conf) (s : HS) : Bool := decide (c.source = "replica") && decide (s.rep < s.db)
def evD (c : Conf) (s : HS) : List Ev := if canEvict c s then [("evict", none)] else []
def evE (c : Conf) (s : HS) : List Ev := if canCopy c s then [("copy", none)] else []
def evList (c : Conf) (s : HS) : List Ev := evA c s ++ evB s ++ evC c s ++ evD c s ++ evE c s
def HS.put (s : HS) (k : Nat) (o : OpS) : HS := { s with ops := s.ops.set k o }
/-- an operation ends or stops -/
def endH (s : HS) (k : Nat) (o : OpS) (st : Str) : HS :=
  let s1 := s.put k { o with stage := st, over := some s.past.length }
  if st = "ended" ∧ s.opn = some o.number then { s1 with opn := none } else s1
def holdH (c : Conf) (s : HS) (v : Nat) : HS :=
  if c.guard = "mark" then { s with cache := some v, mark := max s.mark v } else { s with cache := some v }
def newerB (s : HS) (v : Nat) : Bool := match s.cache with
  | none => true
  | some x => decide (x < v)
def letsB (c : Conf) (s : HS) (o : OpS) (v : Nat) : Bool :=
  if c.guard = "token" then o.clean else if c.guard = "mark" then decide (s.mark ≤ v)
  else decide (c.guard = "always") || (if c.guard = "newer" then newerB s v else s.cache.isNone)
def setsB (c : Conf) (s : HS) (v : Nat) : Bool := if c.guard = "mark" then decide (s.mark ≤ v) else !decide (c.guard = "newer") || newerB s v
/-! one dict after the other, as it stands in the heap -/
def hK (d w : Addr) (s : HS) (lo lp : Addr) : List (Key × V) :=
  [(.inr "design", .ref d), (.inr "world", .ref w), (.inr "db", .int (s.db : Int)), (.inr "rep", .int (s.rep : Int)), (.inr "cache", on s.cache), (.inr "mark", .int (s.mark : Int)), (.inr "open", on s.opn), (.inr "ops", .ref lo), (.inr "past", .ref lp)]
def oK (o : OpS) : List (Key × V) :=
  [(.inr "number", .int (o.number : Int)), (.inr "kind", .str o.kind), (.inr "stage", .str o.stage), (.inr "version", on o.version), (.inr "begun", .int (o.begun : Int)), (.inr "over", on o.over), (.inr "step", .int (o.step : Int)), (.inr "clean", .bl o.clean), (.inr "leader", on o.leader)]
structure LA where
  d : Addr
  w : Addr
  lo : Addr
  lp : Addr
  oas : List Addr
  eas : List Addr
def Fp (h : Addr) (A : LA) : Addr → Prop := fun b => b = h ∨ b = A.lo ∨ b = A.lp ∨ b ∈ A.oas
structure LawAt (c : Conf) (H : Hp) (h : Addr) (A : LA) (s : HS) : Prop where
  hd : H h = some (.dK (hK A.d A.w s A.lo A.lp))
  dd : H A.d = some (.tup [.str c.path, .str c.guard, .str c.flight])
  ww : H A.w = some (.tup [.str c.source, .str c.evict, .str c.stop])
  lo : H A.lo = some (.lst (A.oas.map V.ref))
  lp : H A.lp = some (.lst (A.eas.map V.ref))
  ol : A.oas.length = s.ops.length
  og : ∀ (k : Nat) a o, A.oas[k]? = some a → s.ops[k]? = some o → H a = some (.dK (oK o))
  el : A.eas.length = s.past.length
  eg : ∀ (i : Nat) a e, A.eas[i]? = some a → s.past[i]? = some e → H a = some (.tup (evV e))
  nd : A.oas.Nodup
  nl : A.lo ≠ A.lp
section
variable {c : Conf} {H H' : Hp} {h : Addr} {A : LA} {s : HS}
theorem LawAt.same (L : LawAt c H h A s) (e : Same H H') : LawAt c H' h A s :=
  ⟨e _ _ L.hd, e _ _ L.dd, e _ _ L.ww, e _ _ L.lo, e _ _ L.lp, L.ol, fun k a o p q => e _ _ (L.og k a o p q), L.el, fun i a v p q => e _ _ (L.eg i a v p q), L.nd, L.nl⟩
theorem Same.new {H1 : Hp} {p : Addr} {o : HO} (a : Same H H1) (n : H1 p = none) : Same H (upd H1 p o) := a.trans (same_new n)
theorem LawAt.new {p : Addr} {o : HO} (L : LawAt c H h A s) (n : H p = none) : LawAt c (upd H p o) h A s := L.same (same_new n)
theorem LawAt.get (L : LawAt c H h A s) {k : Nat} {o : OpS} (e : s.ops[k]? = some o) : ∃ a, A.oas[k]? = some a ∧ H a = some (.dK (oK o)) := by
  have hlt : k < A.oas.length := by
    rw [L.ol]
    exact (List.getElem?_eq_some_iff.mp e).1
  exact ⟨A.oas[k], List.getElem?_eq_getElem hlt, L.og k _ o (List.getElem?_eq_getElem hlt) e⟩
theorem LawAt.ofAt (L : LawAt c H h A s) {k : Nat} {a : Addr} (e : A.oas[k]? = some a) : ∃ o, s.ops[k]? = some o ∧ H a = some (.dK (oK o)) := by
  have hlt : k < s.ops.length := by
    rw [← L.ol]
    exact (List.getElem?_eq_some_iff.mp e).1
  exact ⟨s.ops[k], List.getElem?_eq_getElem hlt, L.og k a _ e (List.getElem?_eq_getElem hlt)⟩
theorem hK_ne_oK {d w lo lp : Addr} {s : HS} {o : OpS} : hK d w s lo lp ≠ oK o := fun z => by
  have z1 := congrArg (fun l => l.map (·.1)) z
  revert z1
  show ¬ ([.inr "design", .inr "world", .inr "db", .inr "rep", .inr "cache", .inr "mark", .inr "open", .inr "ops", .inr "past"] : List Key) = [.inr "number", .inr "kind", .inr "stage", .inr "version", .inr "begun", .inr "over", .inr "step", .inr "clean", .inr "leader"]
  decide +kernel
theorem LawAt.ne_op (L : LawAt c H h A s) {k : Nat} {a : Addr} (e : A.oas[k]? = some a) : a ≠ h := by
  obtain ⟨o, _, q⟩ := L.ofAt e
  exact ne_of q L.hd fun z => hK_ne_oK (HO.dK.inj z).symm
/-- h's own ints and versions are stored -/
theorem LawAt.hput (L : LawAt c H h A s) {s' : HS} (eo : s'.ops = s.ops) (ep : s'.past = s.past) : LawAt c (upd H h (.dK (hK A.d A.w s' A.lo A.lp))) h A s' := by
  have n : ∀ {b : Addr} {o : HO}, H b = some o → (∀ kvs, o ≠ .dK kvs) → b ≠ h := fun {b o} e q z => by
    rw [z, L.hd] at e
    exact q _ (Option.some.inj e).symm
  refine ⟨upd_same, ?_, ?_, ?_, ?_, by rw [eo]; exact L.ol, fun k a o p q => ?_, by rw [ep]; exact L.el, fun i a v p q => ?_, L.nd, L.nl⟩
  · rw [upd_ne (n L.dd (by intro _ z; cases z))]; exact L.dd
  · rw [upd_ne (n L.ww (by intro _ z; cases z))]; exact L.ww
  · rw [upd_ne (n L.lo (by intro _ z; cases z))]; exact L.lo
  · rw [upd_ne (n L.lp (by intro _ z; cases z))]; exact L.lp
  · rw [upd_ne (L.ne_op p)]
    rw [eo] at q
    exact L.og k a o p q
  · rw [ep] at q
    have w := L.eg i a v p q
    rw [upd_ne (n w (by intro _ z; cases z))]
    exact w
theorem LawAt.oput (L : LawAt c H h A s) {k : Nat} {a : Addr} {o' : OpS} (e : A.oas[k]? = some a) : LawAt c (upd H a (.dK (oK o'))) h A (s.put k o') := by
  obtain ⟨o, eo, ha⟩ := L.ofAt e
  have n : ∀ {b : Addr} {u : HO}, H b = some u → (∀ kvs, u ≠ .dK kvs) → b ≠ a := fun {b u} e q z => by
    rw [z, ha] at e
    exact q _ (Option.some.inj e).symm
  refine ⟨?_, ?_, ?_, ?_, ?_, ?_, fun j b u p q => ?_, L.el, fun i b v p q => ?_, L.nd, L.nl⟩
  · rw [upd_ne (L.ne_op e).symm]; exact L.hd
  · rw [upd_ne (n L.dd (by intro _ z; cases z))]; exact L.dd
  · rw [upd_ne (n L.ww (by intro _ z; cases z))]; exact L.ww
  · rw [upd_ne (n L.lo (by intro _ z; cases z))]; exact L.lo
  · rw [upd_ne (n L.lp (by intro _ z; cases z))]; exact L.lp
  · show A.oas.length = (s.ops.set k o').length
    rw [List.length_set]
    exact L.ol
  · by_cases hj : j = k
    · subst hj
      rw [e] at p
      cases p
      have hlt : j < s.ops.length := (List.getElem?_eq_some_iff.mp eo).1
      have q' : (s.ops.set j o')[j]? = some u := q
      rw [List.getElem?_set_self hlt] at q'
      cases q'
      exact upd_same
    · have q' : (s.ops.set k o')[j]? = some u := q
      rw [List.getElem?_set_ne (Ne.symm hj)] at q'
      have nb : b ≠ a := fun z => by
        subst z
        exact hj (nd_ix L.nd p e)
      rw [upd_ne nb]
      exact L.og j b u p q'
  · have w := L.eg i b v p q
    rw [upd_ne (n w (by intro _ z; cases z))]
    exact w
/-- a new operation's dict at p is appended -/
theorem LawAt.opush (L : LawAt c H h A s) {p : Addr} {o : OpS} (np : ¬ p ∈ A.oas) (hp : H p = some (.dK (oK o))) : LawAt c (upd H A.lo (.lst (A.oas.map V.ref ++ [.ref p]))) h { A with oas := A.oas ++ [p] } { s with ops := s.ops ++ [o] } := by
  have n : ∀ {b : Addr} {u : HO}, H b = some u → (∀ kvs, u ≠ .lst kvs) → b ≠ A.lo := fun {b u} e q z => by
    rw [z, L.lo] at e
    exact q _ (Option.some.inj e).symm
  refine ⟨?_, ?_, ?_, ?_, ?_, ?_, fun j b u q1 q2 => ?_, L.el, fun i b v q1 q2 => ?_, ?_, L.nl⟩
  · rw [upd_ne (n L.hd (by intro _ z; cases z))]; exact L.hd
  · rw [upd_ne (n L.dd (by intro _ z; cases z))]; exact L.dd
  · rw [upd_ne (n L.ww (by intro _ z; cases z))]; exact L.ww
  · show upd H A.lo _ A.lo = some (.lst ((A.oas ++ [p]).map V.ref))
    rw [upd_same, List.map_append]
    rfl
  · rw [upd_ne L.nl.symm]; exact L.lp
  · show (A.oas ++ [p]).length = (s.ops ++ [o]).length
    rw [List.length_append, List.length_append, L.ol]
    rfl
  · have q1' : (A.oas ++ [p])[j]? = some b := q1
    have q2' : (s.ops ++ [o])[j]? = some u := q2
    by_cases hj : j < A.oas.length
    · rw [List.getElem?_append_left hj] at q1'
      rw [List.getElem?_append_left (by rw [← L.ol]; exact hj)] at q2'
      have z := L.og j b u q1' q2'
      rw [upd_ne (n z (by intro _ z; cases z))]
      exact z
    · rw [List.getElem?_append_right (by omega)] at q1'
      rw [List.getElem?_append_right (by rw [← L.ol]; omega)] at q2'
      have e0 : j - A.oas.length = 0 := by
        have := (List.getElem?_eq_some_iff.mp q1').1
        simp at this
        omega
      rw [e0] at q1'
      rw [← L.ol, e0] at q2'
      cases q1'
      cases q2'
      rw [upd_ne (n hp (by intro _ z; cases z))]
      exact hp
  · have w := L.eg i b v q1 q2
    rw [upd_ne (n w (by intro _ z; cases z))]
    exact w
  · show (A.oas ++ [p]).Nodup
    rw [List.nodup_append]
    refine ⟨L.nd, by simp, fun x hx y hy => ?_⟩
    simp at hy
    subst hy
    exact fun z => np (by rw [← z]; exact hx)
/-- an event is noted -/
theorem LawAt.epush (L : LawAt c H h A s) {p : Addr} {e : Ev} (hp : H p = some (.tup (evV e))) : LawAt c (upd H A.lp (.lst (A.eas.map V.ref ++ [.ref p]))) h { A with eas := A.eas ++ [p] } { s with past := s.past ++ [e] } := by
  have n : ∀ {b : Addr} {u : HO}, H b = some u → (∀ kvs, u ≠ .lst kvs) → b ≠ A.lp := fun {b u} e q z => by
    rw [z, L.lp] at e
    exact q _ (Option.some.inj e).symm
  refine ⟨?_, ?_, ?_, ?_, ?_, L.ol, fun j b u q1 q2 => ?_, ?_, fun i b v q1 q2 => ?_, L.nd, L.nl⟩
  · rw [upd_ne (n L.hd (by intro _ z; cases z))]; exact L.hd
  · rw [upd_ne (n L.dd (by intro _ z; cases z))]; exact L.dd
  · rw [upd_ne (n L.ww (by intro _ z; cases z))]; exact L.ww
  · rw [upd_ne L.nl]; exact L.lo
  · show upd H A.lp _ A.lp = some (.lst ((A.eas ++ [p]).map V.ref))
    rw [upd_same, List.map_append]
    rfl
  · have w := L.og j b u q1 q2
    rw [upd_ne (n w (by intro _ z; cases z))]
    exact w
  · show (A.eas ++ [p]).length = (s.past ++ [e]).length
    rw [List.length_append, List.length_append, L.el]
    rfl
  · have q1' : (A.eas ++ [p])[i]? = some b := q1
    have q2' : (s.past ++ [e])[i]? = some v := q2
    by_cases hj : i < A.eas.length
    · rw [List.getElem?_append_left hj] at q1'
      rw [List.getElem?_append_left (by rw [← L.el]; exact hj)] at q2'
      have z := L.eg i b v q1' q2'
      rw [upd_ne (n z (by intro _ z; cases z))]
      exact z
    · rw [List.getElem?_append_right (by omega)] at q1'
      rw [List.getElem?_append_right (by rw [← L.el]; omega)] at q2'
      have e0 : i - A.eas.length = 0 := by
        have := (List.getElem?_eq_some_iff.mp q1').1
        simp at this
        omega
      rw [e0] at q1'
      rw [← L.el, e0] at q2'
      cases q1'
      cases q2'
      rw [upd_ne (n hp (by intro _ z; cases z))]
      exact hp
end
/-! ### lists of events in the heap -/
def evOf (H : Hp) : V → Ev
  | .ref t => match H t with
    | some (.tup [.str w]) => (w, none)
    | some (.tup [.str w, .int k]) => (w, some k)
    | _ => ("", none)
  | _ => ("", none)
theorem evOf_eq {H : Hp} {t : Addr} {e : Ev} (h : H t = some (.tup (evV e))) : evOf H (.ref t) = e := by
  obtain ⟨w, k⟩ := e
  cases k <;> simp [evOf, h, evV]
abbrev EvsAt (H : Hp) (xs : List V) (es : List Ev) : Prop := Paired (fun x e => ∃ t, x = V.ref t ∧ H t = some (.tup (evV e))) xs es
theorem EvsAt.same {H H' : Hp} {xs : List V} {es : List Ev} (x : EvsAt H xs es) (s : Same H H') : EvsAt H' xs es := Paired.mapP x fun _ _ ⟨t, a, b⟩ => ⟨t, a, s _ _ b⟩
theorem EvsAt.map : ∀ {H : Hp} {xs : List V} {es : List Ev}, EvsAt H xs es → es = xs.map (evOf H)
  | _, _, _, .nil => rfl
  | H, _, _, .cons ⟨t, a, b⟩ r => by
    subst a
    rw [List.map_cons, evOf_eq b, ← EvsAt.map r]
theorem EvsAt.all : ∀ {H : Hp} {xs : List V} {es : List Ev}, EvsAt H xs es → ∀ x ∈ xs, ∃ t, x = V.ref t ∧ H t = some (.tup (evV (evOf H x)))
  | _, _, _, .nil, x, h => absurd h (by simp)
  | H, _, _, .cons ⟨t, a, b⟩ r, x, h => by
    rcases List.mem_cons.mp h with z | z
    · subst z
      subst a
      exact ⟨t, rfl, by rw [evOf_eq b]; exact b⟩
    · exact EvsAt.all r x z
theorem EvsAt.of_all {H : Hp} : ∀ {xs : List V}, (∀ x ∈ xs, ∃ t, x = V.ref t ∧ H t = some (.tup (evV (evOf H x)))) → EvsAt H xs (xs.map (evOf H))
  | [], _ => .nil
  | x :: xs, h => .cons (h x (List.mem_cons_self ..)) (EvsAt.of_all fun y hy => h y (List.mem_cons_of_mem _ hy))
theorem Paired.app {α β : Type} {R : α → β → Prop} : ∀ {a b : List α} {c d : List β}, Paired R a c → Paired R b d → Paired R (a ++ b) (c ++ d)
  | _, _, _, _, .nil, y => y
  | _, _, _, _, .cons x r, y => .cons x (Paired.app r y)
theorem EvsAt.get : ∀ {H : Hp} {xs : List V} {es : List Ev} {x : V}, EvsAt H xs es → x ∈ xs → ∃ t e, x = V.ref t ∧ H t = some (.tup (evV e)) ∧ e ∈ es
  | _, _, _, _, .nil, h => absurd h (by simp)
  | H, _, _, x, .cons ⟨t, a, b⟩ r, h => by
    rcases List.mem_cons.mp h with z | z
    · subst z
      exact ⟨t, _, a, b, List.mem_cons_self ..⟩
    · obtain ⟨t, e, a, b, c⟩ := EvsAt.get r z
      exact ⟨t, e, a, b, List.mem_cons_of_mem _ c⟩
/-- what sorted makes of such a list -/
theorem EvsAt.sorted {H : Hp} {xs ys : List V} {es : List Ev} (x : EvsAt H xs es) (s : SrtO.Srtd (fun a b => evLt (evOf H a) (evOf H b)) ys) (p : ys.Perm xs) : EvsAt H ys (ys.map (evOf H)) ∧ Srt (ys.map (evOf H)) ∧ (ys.map (evOf H)).Perm es := by
  refine ⟨EvsAt.of_all fun y hy => x.all y (p.mem_iff.mp hy), List.pairwise_map.mpr s, ?_⟩
  rw [x.map]
  exact p.map _
end Ca

set_option Elab.async false
set_option linter.all false
set_option maxRecDepth 100000
set_option maxHeartbeats 4000000
namespace Ca
open PySem L2
/-! ### tests on written words and on versions -/
theorem dput {H : Hp} {a : Addr} {kvs kvs' : List (Key × V)} {x : Str} {v : V} (h : H a = some (.dK kvs)) (e : putK kvs (Sum.inr x) v = kvs') (hl : kvs.length < sizeLine := by first | exact small9 (by show (9 : Nat) ≤ 100; decide) | exact small9 (by show (6 : Nat) ≤ 100; decide)) : DPut H a (.str x) v (upd H a (.dK kvs')) := by
  rw [← e]
  exact DPut.k (k := Sum.inr x) h hl
theorem iteS {a b : Str} {A B : Prop} (h1 : a = b → A) (h2 : ¬ a = b → B) : if decide (V.str a = V.str b) = true then A else B := by
  by_cases h : a = b
  · rw [if_pos (decide_eq_true (by rw [h]))]
    exact h1 h
  · rw [if_neg (by rw [decide_eq_false (fun z => h (V.str.inj z))]; decide)]
    exact h2 h
theorem iteSn {a b : Str} {A B : Prop} (h1 : ¬ a = b → A) (h2 : a = b → B) : if (!decide (V.str a = V.str b)) = true then A else B := by
  by_cases h : a = b
  · rw [decide_eq_true (show V.str a = V.str b by rw [h])]
    exact h2 h
  · rw [decide_eq_false (fun z => h (V.str.inj z))]
    exact h1 h
theorem on_inj {x y : Option Nat} (h : on x = on y) : x = y := by
  cases x <;> cases y <;> simp [on] at h ⊢
  omega
theorem iteO {x y : Option Nat} {A B : Prop} (h1 : x = y → A) (h2 : ¬ x = y → B) : if decide (on x = on y) = true then A else B := by
  by_cases h : x = y
  · rw [if_pos (decide_eq_true (by rw [h]))]
    exact h1 h
  · rw [if_neg (by rw [decide_eq_false (fun z => h (on_inj z))]; decide)]
    exact h2 h
theorem iteNo {x : Option Nat} {A B : Prop} (h1 : x = none → A) (h2 : ∀ v, x = some v → B) : if decide (on x = V.non) = true then A else B := by
  cases x with
  | none => exact h1 rfl
  | some v => exact h2 v rfl
theorem iteNn {x : Option Nat} {A B : Prop} (h1 : ∀ v, x = some v → A) (h2 : x = none → B) : if (!decide (on x = V.non)) = true then A else B := by
  cases x with
  | none => exact h2 rfl
  | some v => exact h1 v rfl
theorem iteI {a b : Nat} {A B : Prop} (h1 : a = b → A) (h2 : ¬ a = b → B) : if decide (V.int (a : Int) = V.int (b : Int)) = true then A else B := by
  by_cases h : a = b
  · rw [if_pos (decide_eq_true (by rw [h]))]
    exact h1 h
  · rw [if_neg (by rw [decide_eq_false (fun z => h (by have := V.int.inj z; omega))]; decide)]
    exact h2 h
theorem scal_on (x y : Option Nat) : scal (on x) (on y) = true := by cases x <;> cases y <;> rfl
theorem max_nat (a b : Nat) : (if (b : Int) > (a : Int) then (b : Int) else (a : Int)) = ((max a b : Nat) : Int) := by
  split <;> omega
/-- a change of h's things alone: what is promised of each -/
def Done (c : Conf) (h : Addr) (A : LA) (H : Hp) (s' : HS) (Q : VK) : Prop := ∀ H', LawAt c H' h A s' → Keep (Fp h A) H H' → Q .non H'
@[irreducible] def spEnd : Sp := fun vs H Q _ => ∃ (c : Conf) (h a : Addr) (A : LA) (s : HS) (k : Nat) (o : OpS) (st : Str), vs = [.ref h, .ref a, .str st] ∧ LawAt c H h A s ∧ A.oas[k]? = some a ∧ s.ops[k]? = some o ∧ Done c h A H (endH s k o st) Q
@[irreducible] def spHold : Sp := fun vs H Q _ => ∃ (c : Conf) (h : Addr) (A : LA) (s : HS) (v : Nat), vs = [.ref h, .int (v : Int)] ∧ LawAt c H h A s ∧ Done c h A H (holdH c s v) Q
@[irreducible] def spNewer : Sp := fun vs H Q _ => ∃ (c : Conf) (h : Addr) (A : LA) (s : HS) (v : Nat), vs = [.ref h, .int (v : Int)] ∧ LawAt c H h A s ∧ Q (.bl (newerB s v)) H
@[irreducible] def spLets : Sp := fun vs H Q _ => ∃ (c : Conf) (h a : Addr) (A : LA) (s : HS) (k : Nat) (o : OpS) (v : Nat), vs = [.ref h, .ref a] ∧ LawAt c H h A s ∧ A.oas[k]? = some a ∧ s.ops[k]? = some o ∧ o.version = some v ∧ Q (.bl (letsB c s o v)) H
section
variable {c : Conf} {h a : Addr} {A : LA} {s : HS} {k : Nat} {o : OpS} {st : Str} {v : Nat} {H H' : Hp} {Q : VK} {E : XK}
theorem end_i (L : LawAt c H h A s) (e : A.oas[k]? = some a) (e' : s.ops[k]? = some o) (d : Done c h A H (endH s k o st) Q) : spEnd [.ref h, .ref a, .str st] H Q E := by
  unfold spEnd
  exact ⟨c, h, a, A, s, k, o, st, rfl, L, e, e', d⟩
theorem hold_i (L : LawAt c H h A s) (d : Done c h A H (holdH c s v) Q) : spHold [.ref h, .int (v : Int)] H Q E := by
  unfold spHold
  exact ⟨c, h, A, s, v, rfl, L, d⟩
theorem newer_i (L : LawAt c H h A s) (d : Q (.bl (newerB s v)) H) : spNewer [.ref h, .int (v : Int)] H Q E := by
  unfold spNewer
  exact ⟨c, h, A, s, v, rfl, L, d⟩
theorem lets_i (L : LawAt c H h A s) (e : A.oas[k]? = some a) (e' : s.ops[k]? = some o) (ev : o.version = some v) (d : Q (.bl (letsB c s o v)) H) : spLets [.ref h, .ref a] H Q E := by
  unfold spLets
  exact ⟨c, h, a, A, s, k, o, v, rfl, L, e, e', ev, d⟩
theorem fp_op (e : A.oas[k]? = some a) : Fp h A a := .inr (.inr (.inr (List.mem_of_getElem? e)))
theorem fp_h : Fp h A h := .inl rfl
theorem put_put (s : HS) (k : Nat) (o o' : OpS) : (s.put k o).put k o' = s.put k o' := by
  unfold HS.put
  simp [List.set_set]
theorem put_get {s : HS} {k : Nat} {o o' : OpS} (e : s.ops[k]? = some o) : (s.put k o').ops[k]? = some o' := List.getElem?_set_self (List.getElem?_eq_some_iff.mp e).1
theorem put_same {s : HS} {k : Nat} {o : OpS} (e : s.ops[k]? = some o) : s.put k o = s := by
  have : s.ops.set k o = s.ops := by
    apply List.ext_getElem?
    intro i
    by_cases hi : k = i
    · subst hi
      rw [List.getElem?_set_self (List.getElem?_eq_some_iff.mp e).1, e]
    · rw [List.getElem?_set_ne hi]
  unfold HS.put
  rw [this]
end
section
variable {P : Program} {w : World} {K : PySem.W.Frag} {mg : Str → Option Value} {base : Heap}
theorem ok_Lend (T : Txt K mg) : FnOk P w K mg base CX0 1 T.f_Lend T.fd_Lend ["h", "one", "stage"] spEnd := by
  refine T.F_Lend.ok sc_Lend (fun vs H Q E h => ?_) (fun cdv A outer s H vs Q E hr h => ?_)
  · unfold spEnd at h
    obtain ⟨c, h, a, A, s, k, o, st, rfl, _⟩ := h
    rfl
  · unfold spEnd at h
    obtain ⟨c, h, a, A, s, k, o, st, rfl, L, e, e', d⟩ := h
    have hu := hu_of hr
    refine ⟨_, (pss_cons (ps_asg (pe_tup (pa_cons (pv 2) (pa_cons (pe_callB call_len_seq (by rfl) T.n_len (by decide +kernel) (pa_cons (pe_dget hu (pv 0) pe_str (fun _ _ => rfl)) pa_nil)) pa_nil))) (pg_tup rfl (pgs_cons (pg_sub (pv 1) pe_str (set_dict hu)) (pgs_cons (pg_sub (pv 1) pe_str (set_dict hu)) pgs_nil))))
      (pss_one (ps_if (PW.pt (pw_and (pt_cmpR op_eq (pv 2) pe_str (nomark _)) (pw_and1 (pt_cmpR op_eq (pe_dget hu (pv 0) pe_str (fun _ _ => rfl)) (pe_dget hu (pv 1) pe_str (fun _ _ => rfl)) (nomark _))))) (pss_one (ps_dput hu (pv 0) pe_str pe_non rfl)) pss_nil))), ?_⟩
    refine ⟨_, rfl, _, rfl, _, _, rfl, dget (L.hd) rfl, _, _, rfl, .inl (SqL.of L.lp), (by show 2 ≤ sizeLine; decide), fun p np => ?_⟩
    have L1 := L.new (o := .tup [.str st, .int ((A.eas.map V.ref).length : Int)]) np
    have K1 := (Keep.refl (F := Fp h A) (H := H)).new (o := .tup [.str st, .int ((A.eas.map V.ref).length : Int)]) np
    have hT : (upd H p (.tup [.str st, .int ((A.eas.map V.ref).length : Int)])) p = some (.tup [.str st, .int ((A.eas.map V.ref).length : Int)]) := upd_same
    have eL : ((A.eas.map V.ref).length : Int) = (s.past.length : Int) := by rw [List.length_map, L.el]
    rw [eL] at L1 K1 hT ⊢
    generalize upd H p (.tup [.str st, .int (s.past.length : Int)]) = H1 at L1 K1 hT
    refine ⟨_, _, rfl, SqT.of hT, rfl, _, _, rfl, _, rfl, _, _, rfl, dput (kvs' := oK { o with stage := st }) (L1.og k a o e e') rfl, ?_⟩
    have L2 := L1.oput (o' := { o with stage := st }) e
    have g2 := put_get (o' := { o with stage := st }) e'
    refine ⟨_, _, rfl, _, rfl, _, _, rfl, dput (kvs' := oK { o with stage := st, over := some s.past.length }) (L2.og k a _ e g2) rfl, rfl, ?_⟩
    have L3 := L2.oput (o' := { o with stage := st, over := some s.past.length }) e
    rw [put_put] at L3
    have g3 := put_get (o' := { o with stage := st, over := some s.past.length }) e'
    have K3 := (K1.put (o := .dK (oK { o with stage := st })) (fp_op e)).put (o := .dK (oK { o with stage := st, over := some s.past.length })) (fp_op e)
    generalize upd (upd H1 a _) a _ = H3 at L3 K3
    refine ⟨_, rfl, rfl, _, rfl, ?_⟩
    refine iteS (fun q => ?_) (fun q => ?_)
    · refine ⟨_, rfl, _, _, rfl, dget (L3.hd) rfl, _, rfl, _, _, rfl, dget (L3.og k a _ e g3) rfl, scal_on _ (some o.number), _, rfl, ?_⟩
      refine iteO (y := some o.number) (fun q2 => ?_) (fun q2 => ?_)
      · refine ⟨_, rfl, _, _, rfl, dput (kvs' := hK A.d A.w { s.put k { o with stage := st, over := some s.past.length } with opn := none } A.lo A.lp) L3.hd rfl, ?_⟩
        refine d _ ?_ (K3.put fp_h)
        have z : endH s k o st = { s.put k { o with stage := st, over := some s.past.length } with opn := none } := if_pos ⟨q, q2⟩
        rw [z]
        exact L3.hput rfl rfl
      · refine d _ ?_ K3
        have z : endH s k o st = s.put k { o with stage := st, over := some s.past.length } := if_neg fun y => q2 y.2
        rw [z]
        exact L3
    · refine d _ ?_ K3
      have z : endH s k o st = s.put k { o with stage := st, over := some s.past.length } := if_neg fun y => q y.1
      rw [z]
      exact L3
theorem ok_Lhold (T : Txt K mg) : FnOk P w K mg base CX0 1 T.f_Lhold T.fd_Lhold ["h", "version"] spHold := by
  refine T.F_Lhold.ok sc_Lhold (fun vs H Q E h => ?_) (fun cdv A outer s H vs Q E hr h => ?_)
  · unfold spHold at h
    obtain ⟨c, h, A, s, v, rfl, _⟩ := h
    rfl
  · unfold spHold at h
    obtain ⟨c, h, A, s, v, rfl, L, d⟩ := h
    have hu := hu_of hr
    refine ⟨_, (pss_cons (ps_dput hu (pv 0) pe_str (pv 1) rfl)
      (pss_one (ps_if (pt_cmpR op_eq (pe_ix ix_tup (pe_dget hu (pv 0) pe_str (fun _ _ => rfl)) pe_int (fun _ _ => rfl)) pe_str (nomark _)) (pss_one (ps_dput hu (pv 0) pe_str (pe_callB (call_max2 rfl) (by rfl) T.n_max (by decide +kernel) (pa_cons (pe_dget hu (pv 0) pe_str (fun _ _ => rfl)) (pa_cons (pv 1) pa_nil))) rfl)) pss_nil))), ?_⟩
    refine ⟨_, rfl, _, rfl, _, _, rfl, dput (kvs' := hK A.d A.w { s with cache := some v } A.lo A.lp) L.hd rfl, ?_⟩
    have L1 := L.hput (s' := { s with cache := some v }) rfl rfl
    have K1 := (Keep.refl (F := Fp h A) (H := H)).put (o := .dK (hK A.d A.w { s with cache := some v } A.lo A.lp)) (p := h) fp_h
    generalize upd H h _ = H1 at L1 K1
    refine ⟨_, rfl, _, _, rfl, dget (L1.hd) rfl, _, _, _, _, rfl, rfl, SqT.of (L1.dd), rfl, rfl, _, rfl, ?_⟩
    refine iteS (fun q => ?_) (fun q => ?_)
    · refine ⟨_, rfl, _, _, rfl, dget (L1.hd) rfl, _, rfl, _, _, rfl, _, rfl, _, _, rfl, dput (kvs' := hK A.d A.w { s with cache := some v, mark := max s.mark v } A.lo A.lp) L1.hd (by
        show putK _ _ (V.int (if (v : Int) > (s.mark : Int) then (v : Int) else (s.mark : Int))) = _
        rw [max_nat]
        rfl), ?_⟩
      refine d _ ?_ (K1.put fp_h)
      have z : holdH c s v = { s with cache := some v, mark := max s.mark v } := if_pos q
      rw [z]
      exact L1.hput rfl rfl
    · refine d _ ?_ K1
      have z : holdH c s v = { s with cache := some v } := if_neg q
      rw [z]
      exact L1
theorem ok_Lnewer (T : Txt K mg) : FnOk P w K mg base CX0 1 T.f_Lnewer T.fd_Lnewer ["h", "version"] spNewer := by
  refine T.F_Lnewer.ok sc_Lnewer (fun vs H Q E h => ?_) (fun cdv A outer s H vs Q E hr h => ?_)
  · unfold spNewer at h
    obtain ⟨c, h, A, s, v, rfl, _⟩ := h
    rfl
  · unfold spNewer at h
    obtain ⟨c, h, A, s, v, rfl, L, d⟩ := h
    have hu := hu_of hr
    refine ⟨_, (pss_one (ps_ret (pe_or (pe_cmpR op_isN (pe_dget hu (pv 0) pe_str (fun _ _ => rfl)) pe_non (nomark _)) (pe_one (pe_cmpR op_lt (pe_dget hu (pv 0) pe_str (fun _ _ => rfl)) (pv 1) (nomark _)))))), ?_⟩
    refine ⟨_, rfl, _, _, rfl, dget (L.hd) rfl, rfl, _, rfl, ?_⟩
    refine iteNo (fun q => ?_) (fun x q => ?_)
    · have z : newerB s v = true := by unfold newerB; rw [q]
      rw [z] at d
      exact d
    · have z : newerB s v = decide (x < v) := by unfold newerB; rw [q]
      rw [z] at d
      refine ⟨_, rfl, _, _, rfl, dget (L.hd) rfl, _, rfl, (x : Int), (v : Int), (by rw [q]; rfl), rfl, ?_⟩
      have e : decide ((x : Int) < (v : Int)) = decide (x < v) := by simp
      show Q (.bl (decide ((x : Int) < (v : Int)))) H
      rw [e]
      exact d
theorem ok_Llets (T : Txt K mg) : FnOk P w K mg base CX0 2 T.f_Llets T.fd_Llets ["h", "one"] spLets := by
  refine T.F_Llets.ok sc_Llets (fun vs H Q E h => ?_) (fun cdv A outer s H vs Q E hr h => ?_)
  · unfold spLets at h
    obtain ⟨c, h, a, A, s, k, o, v, rfl, _⟩ := h
    rfl
  · unfold spLets at h
    obtain ⟨c, h, a, A, s, k, o, v, rfl, L, e, e', ev, d⟩ := h
    have hu := hu_of hr
    refine ⟨_, (pss_cons (ps_par (i := 2) (j := 3) rfl sc_Llets.nd rfl rfl (by decide) rfl rfl (pa_cons (pe_ix ix_tup (pe_dget hu (pv 0) pe_str (fun _ _ => rfl)) pe_int (fun _ _ => rfl)) (pa_cons (pe_dget hu (pv 1) pe_str (fun _ _ => rfl)) pa_nil)) (by rfl))
      (pss_cons (ps_if (pt_cmpR op_eq (pv 2) pe_str (nomark _)) (pss_one (ps_ret (pe_dget hu (pv 1) pe_str (fun _ _ => rfl)))) pss_nil)
      (pss_cons (ps_if (pt_cmpR op_eq (pv 2) pe_str (nomark _)) (pss_one (ps_ret (pe_cmpR op_ge (pv 3) (pe_dget hu (pv 0) pe_str (fun _ _ => rfl)) (nomark _)))) pss_nil)
      (pss_one (ps_ret (pe_or (pe_cmpR op_eq (pv 2) pe_str (nomark _)) (pe_one (pe_ifExp (pt_cmpR op_eq (pv 2) pe_str (nomark _)) (pe_call (ok_Lnewer T) (hr.mono (by decide)) rfl T.m_Lnewer T.F_Lnewer.kp (b_Lnewer T) .nil pass0 (pa_cons (pv 0) (pa_cons (pv 3) pa_nil))) (pe_cmpR op_isN (pe_dget hu (pv 0) pe_str (fun _ _ => rfl)) pe_non (nomark _)))))))))), ?_⟩
    refine ⟨_, rfl, _, _, rfl, dget (L.hd) rfl, _, _, _, _, rfl, rfl, SqT.of (L.dd), rfl, _, rfl, _, _, rfl, dget (L.og k a o e e') rfl, _, _, rfl, ?_⟩
    have d1 := d
    have L1 := L
    unfold letsB at d1
    refine ⟨_, rfl, rfl, _, rfl, ?_⟩
    refine iteS (fun q => ?_) (fun q => ?_)
    · rw [if_pos q] at d1
      exact ⟨_, rfl, _, _, rfl, dget (L1.og k a o e e') rfl, d1⟩
    rw [if_neg q] at d1
    refine ⟨_, rfl, rfl, _, rfl, ?_⟩
    refine iteS (fun q2 => ?_) (fun q2 => ?_)
    · rw [if_pos q2] at d1
      refine ⟨_, rfl, _, rfl, _, _, rfl, dget (L1.hd) rfl, (v : Int), (s.mark : Int), (by rw [ev]; rfl), rfl, ?_⟩
      have z : decide ((s.mark : Int) ≤ (v : Int)) = decide (s.mark ≤ v) := by simp
      show Q (.bl (decide ((s.mark : Int) ≤ (v : Int)))) H
      rw [z]
      exact d1
    rw [if_neg q2] at d1
    refine ⟨_, rfl, rfl, _, rfl, ?_⟩
    refine iteS (fun q3 => ?_) (fun q3 => ?_)
    · rw [decide_eq_true q3, Bool.true_or] at d1
      exact d1
    rw [decide_eq_false q3, Bool.false_or] at d1
    refine ⟨_, rfl, rfl, _, rfl, ?_⟩
    refine iteS (fun q4 => ?_) (fun q4 => ?_)
    · rw [if_pos q4] at d1
      refine ⟨_, rfl, _, rfl, ?_⟩
      rw [ev]
      exact newer_i L1 d1
    · rw [if_neg q4] at d1
      refine ⟨_, rfl, _, _, rfl, dget (L1.hd) rfl, rfl, ?_⟩
      cases q5 : s.cache with
      | none =>
        rw [q5] at d1
        exact d1
      | some x =>
        rw [q5] at d1
        exact d1
end
end Ca

set_option Elab.async false
set_option linter.all false
set_option maxRecDepth 100000
set_option maxHeartbeats 4000000
namespace Ca
open PySem L2
/-! ### a step of a write, a step of a read -/
def cf (o : OpS) : OpS := { o with clean := false }
def wr1 (s : HS) (k : Nat) (o : OpS) (w : Str) : HS := if w = "store" then { s with db := s.db + 1, ops := s.ops.set k { o with version := some (s.db + 1) } } else { s with ops := s.ops.map cf }
def wo1 (s : HS) (o : OpS) (w : Str) : OpS := if w = "store" then { o with version := some (s.db + 1) } else cf o
def wr2 (c : Conf) (s : HS) (o : OpS) (w : Str) : HS := if w = "drop" then (if c.guard = "mark" ∧ o.version.isSome then { s with cache := none, mark := max s.mark (o.version.getD 0) } else { s with cache := none }) else s
def wr3 (c : Conf) (s : HS) (o : OpS) (w : Str) : HS := if w = "set" then (if setsB c s (o.version.getD 0) then holdH c s (o.version.getD 0) else s) else s
def wr4 (c : Conf) (s : HS) (k : Nat) (o : OpS) : HS :=
  if o.step + 1 = c.steps.length then endH (s.put k { o with step := o.step + 1 }) k { o with step := o.step + 1 } "ended"
  else s.put k { o with step := o.step + 1, stage := c.steps.getD (o.step + 1) "" }
def writeH (c : Conf) (s : HS) (k : Nat) (o : OpS) (w : Str) : HS := wr4 c (wr3 c (wr2 c (wr1 s k o w) (wo1 s o w) w) (wo1 s o w) w) k (wo1 s o w)
def leadV (s : HS) (o : OpS) : Option Nat := match o.leader with
  | some l => (match s.ops[l]? with
    | some q => q.version
    | none => none)
  | none => none
def readH (c : Conf) (s : HS) (k : Nat) (o : OpS) (w : Str) : HS :=
  if w = "look" ∧ s.cache.isSome then endH (s.put k { o with version := s.cache }) k { o with version := s.cache } "ended"
  else if w = "look" ∧ s.opn.isSome then s.put k { o with stage := "waits", leader := s.opn }
  else if w = "look" then { s.put k { o with stage := "fetch" } with opn := if c.flight = "shared" then some o.number else none }
  else if w = "fetch" then (if c.guard = "never" then endH (s.put k { o with version := some (if c.source = "replica" then s.rep else s.db), stage := "fill" }) k { o with version := some (if c.source = "replica" then s.rep else s.db), stage := "fill" } "ended"
    else s.put k { o with version := some (if c.source = "replica" then s.rep else s.db), stage := "fill" })
  else if w = "take" then endH (s.put k { o with version := leadV s o }) k { o with version := leadV s o } "ended"
  else endH (if letsB c s o (o.version.getD 0) then holdH c s (o.version.getD 0) else s) k o "ended"
theorem hold_ops {c : Conf} {s : HS} {v : Nat} : (holdH c s v).ops = s.ops := by
  unfold holdH
  split <;> rfl
theorem Conf.Ok.plen {c : Conf} (O : c.Ok) : c.path.length + 2 ≤ sizeLine := by
  have := O.p
  simp only [pathsL, List.mem_cons, List.not_mem_nil, or_false] at this
  rcases this with e | e | e | e | e <;> rw [e] <;> decide +kernel
theorem Conf.Ok.slen {c : Conf} (O : c.Ok) : 0 < c.steps.length ∧ c.steps.length ≤ 3 := by
  have := O.p
  simp only [pathsL, List.mem_cons, List.not_mem_nil, or_false] at this
  unfold Conf.steps
  rcases this with e | e | e | e | e <;> rw [e] <;> decide +kernel
theorem cl_step {l : List OpS} {i : Nat} {o : OpS} (e : l[i]? = some o) : ((l.take i).map cf ++ l.drop i).set i (cf o) = (l.take (i + 1)).map cf ++ l.drop (i + 1) := by
  have hlt := (List.getElem?_eq_some_iff.mp e).1
  have h1 : ((l.take i).map cf).length = i := by rw [List.length_map, List.length_take]; omega
  have h2 : l.drop i = o :: l.drop (i + 1) := by
    rw [List.drop_eq_getElem_cons hlt]
    have := (List.getElem?_eq_some_iff.mp e).2
    rw [this]
  have h3 : l.take (i + 1) = l.take i ++ [o] := by
    rw [List.take_succ, e]
    rfl
  rw [List.set_append_right _ _ (by omega), h1, Nat.sub_self, h2, List.set_cons_zero, h3, List.map_append, List.append_assoc]
  rfl
theorem cl_get {l : List OpS} {i : Nat} : ((l.take i).map cf ++ l.drop i)[i]? = l[i]? := by
  by_cases hlt : i < l.length
  · have h1 : ((l.take i).map cf).length = i := by rw [List.length_map, List.length_take]; omega
    rw [List.getElem?_append_right (by omega), h1, Nat.sub_self, List.getElem?_drop]
    rfl
  · rw [List.getElem?_eq_none (l := l) (by omega), List.getElem?_eq_none]
    rw [List.length_append, List.length_map, List.length_take, List.length_drop]
    omega
@[irreducible] def spWrite : Sp := fun vs H Q _ => ∃ (c : Conf) (h a : Addr) (A : LA) (s : HS) (k : Nat) (o : OpS) (w : Str), vs = [.ref h, .ref a, .str w] ∧ c.Ok ∧ LawAt c H h A s ∧ A.oas[k]? = some a ∧ s.ops[k]? = some o ∧ o.step < c.steps.length ∧ (w = "set" → o.version.isSome = true) ∧ Done c h A H (writeH c s k o w) Q
@[irreducible] def spRead : Sp := fun vs H Q _ => ∃ (c : Conf) (h a : Addr) (A : LA) (s : HS) (k : Nat) (o : OpS) (w : Str), vs = [.ref h, .ref a, .str w] ∧ c.Ok ∧ LawAt c H h A s ∧ A.oas[k]? = some a ∧ s.ops[k]? = some o ∧
  (w = "take" → ∃ l q, o.leader = some l ∧ s.ops[l]? = some q) ∧ (w = "look" ∨ w = "fetch" ∨ w = "take" ∨ o.version.isSome = true) ∧ Done c h A H (readH c s k o w) Q
section
variable {c : Conf} {h a : Addr} {A : LA} {s : HS} {k : Nat} {o : OpS} {w : Str} {H H' : Hp} {Q : VK} {E : XK}
theorem write_i (O : c.Ok) (L : LawAt c H h A s) (e : A.oas[k]? = some a) (e' : s.ops[k]? = some o) (h1 : o.step < c.steps.length) (h2 : w = "set" → o.version.isSome = true) (d : Done c h A H (writeH c s k o w) Q) : spWrite [.ref h, .ref a, .str w] H Q E := by
  unfold spWrite
  exact ⟨c, h, a, A, s, k, o, w, rfl, O, L, e, e', h1, h2, d⟩
theorem read_i (O : c.Ok) (L : LawAt c H h A s) (e : A.oas[k]? = some a) (e' : s.ops[k]? = some o) (h1 : w = "take" → ∃ l q, o.leader = some l ∧ s.ops[l]? = some q) (h2 : w = "look" ∨ w = "fetch" ∨ w = "take" ∨ o.version.isSome = true)
    (d : Done c h A H (readH c s k o w) Q) : spRead [.ref h, .ref a, .str w] H Q E := by
  unfold spRead
  exact ⟨c, h, a, A, s, k, o, w, rfl, O, L, e, e', h1, h2, d⟩
theorem offF {F : Addr → Prop} {H : Hp} {p x : Addr} {o u : HO} (n : ¬ F p) (f : F x) (h : H p = some u) : upd H x o p = some u := by
  rw [upd_ne (fun z => n (by rw [z]; exact f))]
  exact h
theorem LawAt.nfp (L : LawAt c H h A s) {p : Addr} (n : H p = none) : ¬ Fp h A p := by
  rintro (z | z | z | z)
  · rw [z, L.hd] at n; cases n
  · rw [z, L.lo] at n; cases n
  · rw [z, L.lp] at n; cases n
  · obtain ⟨k, hk, e⟩ := List.getElem_of_mem z
    obtain ⟨o, _, q⟩ := L.ofAt (k := k) (a := p) (by rw [List.getElem?_eq_getElem hk, e])
    rw [q] at n; cases n
end
section
variable {P : Program} {w : World} {K : PySem.W.Frag} {mg : Str → Option Value} {base : Heap}
theorem ok_Lwrite (T : Txt K mg) : FnOk P w K mg base CX0 2 T.f_Lwrite T.fd_Lwrite ["h", "one", "word"] spWrite := by
  refine T.F_Lwrite.ok sc_Lwrite (fun vs H Q E h => ?_) (fun cdv A outer s H vs Q E hr h => ?_)
  · unfold spWrite at h
    obtain ⟨c, h, a, A, s, k, o, w, rfl, _⟩ := h
    rfl
  · unfold spWrite at h
    obtain ⟨c, h, a, A, s, k, o, w, rfl, O, L, e, e', hst, hv, d⟩ := h
    have hu := hu_of hr
    refine ⟨_, (pss_cons (ps_par (i := 3) (j := 4) rfl sc_Lwrite.nd rfl rfl (by decide) rfl rfl (pa_cons (pe_split (pe_ix ix_tup (pe_dget hu (pv 0) pe_str (fun _ _ => rfl)) pe_int (fun _ _ => rfl)) pe_str) (pa_cons (pe_ix ix_tup (pe_dget hu (pv 0) pe_str (fun _ _ => rfl)) pe_int (fun _ _ => rfl)) pa_nil)) (by rfl))
      (Evl.pss_cut (ps_if (pt_cmpR op_eq (pv 2) pe_str (nomark _)) (pss_cons (ps_dput hu (pv 0) pe_str (pe_op op_add (pe_dget hu (pv 0) pe_str (fun _ _ => rfl)) pe_int) rfl)
      (pss_one (ps_dput hu (pv 1) pe_str (pe_dget hu (pv 0) pe_str (fun _ _ => rfl)) rfl))) (pss_one (ps_for PassesOwn.never rfl (pi_list (pe_dget hu (pv 0) pe_str (fun _ _ => rfl))) (pg_name (i := 5) sc_Lwrite.nd rfl (Or.inl rfl)) (pss_one (ps_dput hu (pv 5) pe_str pe_bl rfl)))))
      (Evl.pss_cut (ps_if (pt_cmpR op_eq (pv 2) pe_str (nomark _)) (pss_cons (ps_dput hu (pv 0) pe_str pe_non rfl)
      (pss_one (ps_if (PW.pt (pw_and (pt_cmpR op_eq (pv 4) pe_str (nomark _)) (pw_and1 (pt_cmpR op_notN (pe_dget hu (pv 1) pe_str (fun _ _ => rfl)) pe_non (nomark _))))) (pss_one (ps_dput hu (pv 0) pe_str (pe_callB (call_max2 rfl) (by rfl) T.n_max (by decide +kernel) (pa_cons (pe_dget hu (pv 0) pe_str (fun _ _ => rfl)) (pa_cons (pe_dget hu (pv 1) pe_str (fun _ _ => rfl)) pa_nil))) rfl)) pss_nil))) pss_nil)
      (Evl.pss_cut (ps_if (pt_cmpR op_eq (pv 2) pe_str (nomark _)) (Evl.pss_cut (ps_set (i := 6) sc_Lwrite.nd rfl (Or.inl rfl) (pe_ifExp (pt_cmpR op_eq (pv 4) pe_str (nomark _)) (pe_cmpR op_ge (pe_dget hu (pv 1) pe_str (fun _ _ => rfl)) (pe_dget hu (pv 0) pe_str (fun _ _ => rfl)) (nomark _)) (pe_or (pe_cmpR op_ne (pv 4) pe_str (nomark _)) (pe_one (pe_call (ok_Lnewer T) (hr.mono (by decide)) rfl T.m_Lnewer T.F_Lnewer.kp (b_Lnewer T) .nil pass0 (pa_cons (pv 0) (pa_cons (pe_dget hu (pv 1) pe_str (fun _ _ => rfl)) pa_nil)))))))
      (pss_one (ps_if (pt_val (pv 6)) (pss_one (ps_expr (pe_call (ok_Lhold T) (hr.mono (by decide)) rfl T.m_Lhold T.F_Lhold.kp (b_Lhold T) .nil pass0 (pa_cons (pv 0) (pa_cons (pe_dget hu (pv 1) pe_str (fun _ _ => rfl)) pa_nil))))) pss_nil))) pss_nil)
      (pss_cons (ps_dput hu (pv 1) pe_str (pe_op op_add (pe_dget hu (pv 1) pe_str (fun _ _ => rfl)) pe_int) rfl)
      (pss_one (ps_if (pt_cmpR op_eq (pe_dget hu (pv 1) pe_str (fun _ _ => rfl)) (pe_callB call_len_seq (by rfl) T.n_len (by decide +kernel) (pa_cons (pv 3) pa_nil)) (nomark _)) (pss_one (ps_expr (pe_call (ok_Lend T) (hr.mono (by decide)) rfl T.m_Lend T.F_Lend.kp (b_Lend T) .nil pass0 (pa_cons (pv 0) (pa_cons (pv 1) (pa_cons pe_str pa_nil)))))) (pss_one (ps_dput hu (pv 1) pe_str (pe_ix ix_list (pv 3) (pe_dget hu (pv 1) pe_str (fun _ _ => rfl)) (fun _ _ => rfl)) rfl))))))))), ?_⟩
    refine ⟨_, rfl, _, _, rfl, dget (L.hd) rfl, _, _, _, _, rfl, rfl, SqT.of (L.dd), rfl, ⟨_, rfl⟩, _, _, rfl, rfl, rfl, O.plen, fun p np => ?_⟩
    have L1 := L.new (o := .lst ((Txt.split c.path " ").map V.str)) np
    have K1 := (Keep.refl (F := Fp h A) (H := H)).new (o := .lst ((Txt.split c.path " ").map V.str)) np
    have hp : (upd H p (.lst ((Txt.split c.path " ").map V.str))) p = some (.lst (c.steps.map V.str)) := upd_same
    have fp := L.nfp np
    generalize upd H p (.lst ((Txt.split c.path " ").map V.str)) = H1 at L1 K1 hp ⊢
    refine ⟨_, rfl, _, _, rfl, dget (L1.hd) rfl, _, _, _, _, rfl, rfl, SqT.of (L1.dd), rfl, _, _, rfl, ?_⟩
    refine ⟨fun σ' H' => ∃ x, σ' = [some (.ref h), some (.ref a), some (.str w), some (.ref p), some (.str c.guard), x, none] ∧ LawAt c H' h A (wr1 s k o w) ∧ (wr1 s k o w).ops[k]? = some (wo1 s o w) ∧ Keep (Fp h A) H H' ∧ H' p = some (.lst (c.steps.map V.str)), ?_, ?_⟩
    · refine ⟨_, rfl, rfl, _, rfl, ?_⟩
      refine iteS (fun q => ?_) (fun q => ?_)
      · refine ⟨_, rfl, _, _, rfl, dget (L1.hd) rfl, _, _, rfl, rfl, _, rfl, _, _, rfl, dput (kvs' := hK A.d A.w { s with db := s.db + 1 } A.lo A.lp) L1.hd (by show putK _ _ (V.int ((s.db : Int) + 1)) = hK _ _ _ _ _; rfl), ?_⟩
        have L2 := L1.hput (s' := { s with db := s.db + 1 }) rfl rfl
        have K2 := K1.put (o := .dK (hK A.d A.w { s with db := s.db + 1 } A.lo A.lp)) (fp_h (A := A))
        have hp2 : upd H1 h (.dK (hK A.d A.w { s with db := s.db + 1 } A.lo A.lp)) p = some (.lst (c.steps.map V.str)) := offF fp (fp_h) hp
        generalize upd H1 h _ = H2 at L2 K2 hp2
        refine ⟨_, rfl, _, _, rfl, dget (L2.hd) rfl, _, rfl, _, _, rfl, dput (kvs' := oK { o with version := some (s.db + 1) }) (L2.og k a o e e') rfl, ?_⟩
        have z1 : wr1 s k o w = { s with db := s.db + 1, ops := s.ops.set k { o with version := some (s.db + 1) } } := if_pos q
        have z2 : wo1 s o w = { o with version := some (s.db + 1) } := if_pos q
        rw [z1, z2]
        exact ⟨none, rfl, L2.oput e, put_get e', K2.put (fp_op e), offF fp (fp_op e) hp2⟩
      · have z1 : wr1 s k o w = { s with ops := s.ops.map cf } := if_neg q
        have z2 : wo1 s o w = cf o := if_neg q
        rw [z1, z2]
        refine ⟨_, rfl, _, _, rfl, dget (L1.hd) rfl, A.lo, rfl, ⟨_, SqL.of L1.lo⟩, for_list (K := K) (a := A.lo) (xs := A.oas.map V.ref) (fun i σ' H' => ∃ x, σ' = [some (.ref h), some (.ref a), some (.str w), some (.ref p), some (.str c.guard), x, none] ∧ LawAt c H' h A { s with ops := (s.ops.take i).map cf ++ s.ops.drop i } ∧ Keep (Fp h A) H H' ∧ H' p = some (.lst (c.steps.map V.str)))
          ⟨none, rfl, L1, K1, hp⟩ (fun i σ' H' _ ⟨_, _, L2, _⟩ => SqL.of L2.lo) ?_ ?_⟩
        · rintro i y σ' H' hi ⟨x, rfl, L2, K2, hp2⟩
          rw [List.getElem?_map] at hi
          obtain ⟨b, eb, rfl⟩ : ∃ b, A.oas[i]? = some b ∧ V.ref b = y := by
            cases ez : A.oas[i]? with
            | none => rw [ez] at hi; cases hi
            | some b => rw [ez] at hi; exact ⟨b, rfl, Option.some.inj hi⟩
          obtain ⟨o2, eo2, ho2⟩ := L2.ofAt eb
          have eo2' : s.ops[i]? = some o2 := by
            rw [← cl_get (l := s.ops)]
            exact eo2
          refine ⟨_, rfl, _, _, rfl, dput (kvs' := oK (cf o2)) ho2 rfl, ?_⟩
          have L3 := L2.oput (o' := cf o2) eb
          have z3 : ({ s with ops := (s.ops.take i).map cf ++ s.ops.drop i } : HS).put i (cf o2) = { s with ops := (s.ops.take (i + 1)).map cf ++ s.ops.drop (i + 1) } := by
            unfold HS.put
            rw [cl_step eo2']
          rw [z3] at L3
          exact ⟨_, rfl, L3, K2.put (fp_op eb), offF fp (fp_op eb) hp2⟩
        · rintro σ' H' ⟨x, rfl, L2, K2, hp2⟩
          have z3 : (s.ops.take (A.oas.map V.ref).length).map cf ++ s.ops.drop (A.oas.map V.ref).length = s.ops.map cf := by
            rw [List.length_map, L.ol, List.take_length, List.drop_length, List.append_nil]
          rw [z3] at L2
          exact ⟨x, rfl, L2, by show (s.ops.map cf)[k]? = _; rw [List.getElem?_map, e']; rfl, K2, hp2⟩
    · rintro σ' H' ⟨x, rfl, L2, e2, K2, hp2⟩
      unfold writeH at d
      have hv1 : w = "set" → (wo1 s o w).version.isSome = true := fun q => by
        unfold wo1
        split
        · rfl
        · exact hv q
      have hs1 : (wo1 s o w).step = o.step := by
        unfold wo1
        split <;> rfl
      rw [← hs1] at hst
      generalize wr1 s k o w = s1 at L2 e2 d
      generalize wo1 s o w = o1 at e2 hv1 hst d
      refine ⟨fun σ' H' => ∃ x, σ' = [some (.ref h), some (.ref a), some (.str w), some (.ref p), some (.str c.guard), x, none] ∧ LawAt c H' h A (wr2 c s1 o1 w) ∧ (wr2 c s1 o1 w).ops[k]? = some o1 ∧ Keep (Fp h A) H H' ∧ H' p = some (.lst (c.steps.map V.str)), ?_, ?_⟩
      · refine ⟨_, rfl, rfl, _, rfl, ?_⟩
        unfold wr2
        refine iteS (fun q => ?_) (fun q => ?_)
        · rw [if_pos q]
          refine ⟨_, rfl, _, _, rfl, dput (kvs' := hK A.d A.w { s1 with cache := none } A.lo A.lp) L2.hd rfl, ?_⟩
          have L3 := L2.hput (s' := { s1 with cache := none }) rfl rfl
          have K3 := K2.put (o := .dK (hK A.d A.w { s1 with cache := none } A.lo A.lp)) (fp_h (A := A))
          have hp3 : upd H' h (.dK (hK A.d A.w { s1 with cache := none } A.lo A.lp)) p = some (.lst (c.steps.map V.str)) := offF fp (fp_h) hp2
          generalize upd H' h _ = H3 at L3 K3 hp3
          refine ⟨_, rfl, rfl, _, rfl, ?_⟩
          refine iteS (fun q2 => ?_) (fun q2 => ?_)
          · refine ⟨_, rfl, _, _, rfl, dget (L3.og k a o1 e e2) rfl, rfl, _, rfl, ?_⟩
            refine iteNn (fun v q3 => ?_) (fun q3 => ?_)
            · rw [if_pos ⟨q2, by rw [q3]; rfl⟩, q3]
              refine ⟨_, rfl, _, _, rfl, dget (L3.hd) rfl, _, rfl, _, _, rfl, dget (L3.og k a o1 e e2) rfl, (s1.mark : Int), (v : Int), (by rw [q3]; rfl), _, rfl, _, _, rfl, dput (kvs' := hK A.d A.w { s1 with cache := none, mark := max s1.mark v } A.lo A.lp) L3.hd (by
                show putK _ _ (V.int (if (v : Int) > (s1.mark : Int) then (v : Int) else (s1.mark : Int))) = _
                rw [max_nat]
                rfl), ?_⟩
              exact ⟨x, rfl, L3.hput rfl rfl, e2, K3.put fp_h, offF fp (fp_h) hp3⟩
            · rw [if_neg (fun z => by rw [q3] at z; exact absurd z.2 (by decide))]
              exact ⟨x, rfl, L3, e2, K3, hp3⟩
          · rw [if_neg (fun z => q2 z.1)]
            exact ⟨x, rfl, L3, e2, K3, hp3⟩
        · rw [if_neg q]
          exact ⟨x, rfl, L2, e2, K2, hp2⟩
      · rintro σ' H' ⟨x, rfl, L2, e2, K2, hp2⟩
        generalize wr2 c s1 o1 w = s2 at L2 e2 d
        refine ⟨fun σ' H' => ∃ x y, σ' = [some (.ref h), some (.ref a), some (.str w), some (.ref p), some (.str c.guard), x, y] ∧ LawAt c H' h A (wr3 c s2 o1 w) ∧ (wr3 c s2 o1 w).ops[k]? = some o1 ∧ Keep (Fp h A) H H' ∧ H' p = some (.lst (c.steps.map V.str)), ?_, ?_⟩
        · refine ⟨_, rfl, rfl, _, rfl, ?_⟩
          unfold wr3
          refine iteS (fun q => ?_) (fun q => ?_)
          · rw [if_pos q]
            obtain ⟨v, ev⟩ := Option.isSome_iff_exists.mp (hv1 q)
            rw [ev, Option.getD_some]
            refine ⟨fun σ2 H2 => σ2 = [some (.ref h), some (.ref a), some (.str w), some (.ref p), some (.str c.guard), x, some (.bl (setsB c s2 v))] ∧ H2 = H', ?_, ?_⟩
            · refine ⟨_, rfl, rfl, _, rfl, ?_⟩
              refine iteS (fun q2 => ?_) (fun q2 => ?_)
              · refine ⟨_, rfl, _, _, rfl, dget (L2.og k a o1 e e2) rfl, _, rfl, _, _, rfl, dget (L2.hd) rfl, (v : Int), (s2.mark : Int), (by rw [ev]; rfl), rfl, ?_⟩
                have z : setsB c s2 v = decide ((s2.mark : Int) ≤ (v : Int)) := by unfold setsB; rw [if_pos q2]; simp
                rw [z]
                exact ⟨rfl, rfl⟩
              · refine ⟨_, rfl, rfl, _, rfl, ?_⟩
                refine iteSn (fun q3 => ?_) (fun q3 => ?_)
                · have z : setsB c s2 v = true := by unfold setsB; rw [if_neg q2, decide_eq_false q3]; rfl
                  rw [z]
                  exact ⟨rfl, rfl⟩
                · have z : setsB c s2 v = newerB s2 v := by unfold setsB; rw [if_neg q2, decide_eq_true q3]; rfl
                  rw [z]
                  refine ⟨_, rfl, _, rfl, _, _, rfl, dget (L2.og k a o1 e e2) rfl, ?_⟩
                  rw [ev]
                  exact newer_i L2 ⟨rfl, rfl⟩
            · rintro σ2 H2 ⟨rfl, rfl⟩
              refine ⟨_, rfl, _, rfl, ?_⟩
              cases setsB c s2 v with
              | true =>
                refine iteT ?_
                refine ⟨_, rfl, _, rfl, _, _, rfl, dget (L2.og k a o1 e e2) rfl, ?_⟩
                rw [ev]
                refine hold_i L2 fun H3 L3 K3 => ?_
                exact ⟨x, _, rfl, L3, by show (holdH c s2 v).ops[k]? = _; rw [hold_ops]; exact e2, K2.trans K3, K3 p _ hp2 fp⟩
              | false =>
                refine iteF ?_
                exact ⟨x, _, rfl, L2, e2, K2, hp2⟩
          · rw [if_neg q]
            exact ⟨x, none, rfl, L2, e2, K2, hp2⟩
        · rintro σ' H' ⟨x, y, rfl, L2, e2, K2, hp2⟩
          generalize wr3 c s2 o1 w = s3 at L2 e2 d
          unfold wr4 at d
          refine ⟨_, rfl, _, _, rfl, dget (L2.og k a o1 e e2) rfl, _, _, rfl, rfl, _, rfl, _, _, rfl, dput (kvs' := oK { o1 with step := o1.step + 1 }) (L2.og k a o1 e e2) (by show putK _ _ (V.int ((o1.step : Int) + 1)) = oK _; rfl), ?_⟩
          have L3 := L2.oput (o' := { o1 with step := o1.step + 1 }) e
          have e3 := put_get (o' := { o1 with step := o1.step + 1 }) e2
          have K3 := K2.put (o := .dK (oK { o1 with step := o1.step + 1 })) (fp_op e)
          have hp3 : upd H' a (.dK (oK { o1 with step := o1.step + 1 })) p = some (.lst (c.steps.map V.str)) := offF fp (fp_op e) hp2
          generalize upd H' a _ = H3 at L3 K3 hp3
          refine ⟨_, rfl, _, _, rfl, dget (L3.og k a _ e e3) rfl, _, rfl, _, _, rfl, .inl (SqL.of hp3), rfl, _, rfl, ?_⟩
          rw [List.length_map]
          refine iteI (a := o1.step + 1) (fun q => ?_) (fun q => ?_)
          · rw [if_pos q] at d
            refine ⟨_, rfl, _, rfl, ?_⟩
            exact end_i L3 e e3 fun H4 L4 K4 => d H4 L4 (K3.trans K4)
          · rw [if_neg q] at d
            have hlt : o1.step + 1 < c.steps.length := by omega
            have hget : (c.steps.map V.str)[o1.step + 1]? = some (.str (c.steps.getD (o1.step + 1) "")) := by
              rw [List.getElem?_map, List.getD_eq_getElem?_getD, List.getElem?_eq_getElem hlt]
              rfl
            refine ⟨_, rfl, _, rfl, _, _, rfl, dget (L3.og k a _ e e3) rfl, p, _, _, _, rfl, rfl, SqL.of hp3, at_of (j := o1.step + 1) rfl hget, _, rfl, _, _, rfl, dput (kvs' := oK { o1 with step := o1.step + 1, stage := c.steps.getD (o1.step + 1) "" }) (L3.og k a _ e e3) rfl, ?_⟩
            have L4 := L3.oput (o' := { o1 with step := o1.step + 1, stage := c.steps.getD (o1.step + 1) "" }) e
            rw [put_put] at L4
            exact d _ L4 (K3.put (fp_op e))
end
end Ca

set_option Elab.async false
set_option linter.all false
set_option maxRecDepth 100000
set_option maxHeartbeats 4000000
namespace Ca
open PySem L2
/-! ### events as data, their tuples compared -/
def evD' (e : Ev) : PyData := .tuple (match e.2 with
  | none => [.str e.1]
  | some k => [.str e.1, .int k])
theorem beq_eq_decide (a b : Str) : (a == b) = decide (a = b) := by
  by_cases h : a = b <;> simp [h]
theorem evD_eqv (e f : Ev) : PyData.eqv (evD' e) (evD' f) = decide (e = f) := by
  obtain ⟨w, k⟩ := e
  obtain ⟨v, j⟩ := f
  cases k <;> cases j <;> simp [evD', PyData.eqv, PyData.eqvAll, Prod.ext_iff]
  · exact beq_eq_decide w v
  · rename_i a b
    rw [beq_eq_decide w v]
    by_cases h : w = v <;> by_cases g : a = b <;> simp [h, g]
theorem evD_shaped {e : Ev} (h : PyData.strOk e.1 = true) : SeqAt.shaped (evD' e) = true := by
  obtain ⟨w, k⟩ := e
  have h : PyData.strOk w = true := h
  cases k <;> simp [evD', SeqAt.shaped, PyData.canLay0, PyData.canLayAll0, PyData.depth, PyData.depthAll, h]
theorem evD_dp {K : PySem.W.Frag} {H : Hp} {t : Addr} {e : Ev} (h : H t = some (.tup (evV e))) : Dp K H (.ref t) (evD' e) := by
  obtain ⟨w, k⟩ := e
  cases k with
  | none => exact .tup (SqT.of h) (.cons (.str _) .nil)
  | some k => exact .tup (SqT.of h) (.cons (.str _) (.cons (.int _) .nil))
theorem iteE {e f : Ev} {A B : Prop} (h1 : e = f → A) (h2 : ¬ e = f → B) : if PyData.eqv (evD' e) (evD' f) = true then A else B := by
  rw [evD_eqv]
  by_cases h : e = f
  · rw [if_pos (decide_eq_true h)]
    exact h1 h
  · rw [if_neg (by rw [decide_eq_false h]; decide)]
    exact h2 h
/-! ### one event -/
def evictE : Ev := (Str.ofString "evict", none)
def copyE : Ev := (Str.ofString "copy", none)
def newOp (s : HS) (w : Str) : OpS := ⟨s.ops.length, if w = "look" then "read" else "write", w, none, s.past.length, none, 0, true, none⟩
def preH (s : HS) (w : Str) (k : Nat) : HS := if k = s.ops.length then { s with ops := s.ops ++ [newOp s w] } else s
def doOp (c : Conf) (s : HS) (k : Nat) (o : OpS) (w : Str) : HS := if w = "stop" then endH s k o "stopped" else if o.kind = "write" then writeH c s k o w else readH c s k o w
def doE (c : Conf) (s : HS) (e : Ev) : HS :=
  if e = evictE then { s with cache := none, mark := 0 } else if e = copyE then { s with rep := s.rep + 1 }
  else match e.2 with
    | some n => (match (preH s e.1 n.toNat).ops[n.toNat]? with
      | some o => doOp c (preH s e.1 n.toNat) n.toNat o e.1
      | none => s)
    | none => s
def doH (c : Conf) (s : HS) (e : Ev) : HS := { doE c s e with past := s.past ++ [e] }
def OpOk (c : Conf) (s : HS) (o : OpS) (w : Str) : Prop := w = "stop" ∨ (o.kind = "write" ∧ o.step < c.steps.length ∧ (w = "set" → o.version.isSome = true)) ∨
  (¬ o.kind = "write" ∧ (w = "take" → ∃ l q, o.leader = some l ∧ s.ops[l]? = some q) ∧ (w = "look" ∨ w = "fetch" ∨ w = "take" ∨ o.version.isSome = true))
def EvOk (c : Conf) (s : HS) (e : Ev) : Prop := e = evictE ∨ e = copyE ∨ ∃ (k : Nat) (w : Str), e = (w, some (k : Int)) ∧ k ≤ s.ops.length ∧ ∀ o, (preH s w k).ops[k]? = some o → OpOk c (preH s w k) o w
theorem end_past {s : HS} {k : Nat} {o : OpS} {st : Str} : (endH s k o st).past = s.past := by
  simp only [endH]
  split <;> rfl
theorem hold_past {c : Conf} {s : HS} {v : Nat} : (holdH c s v).past = s.past := by unfold holdH; split <;> rfl
theorem write_past {c : Conf} {s : HS} {k : Nat} {o : OpS} {w : Str} : (writeH c s k o w).past = s.past := by
  have h1 : (wr1 s k o w).past = s.past := by unfold wr1; split <;> rfl
  have h2 : ∀ (s : HS) (o : OpS), (wr2 c s o w).past = s.past := fun s o => by
    unfold wr2
    split
    · split <;> rfl
    · rfl
  have h3 : ∀ (s : HS) (o : OpS), (wr3 c s o w).past = s.past := fun s o => by
    unfold wr3
    split
    · split
      · rw [hold_past]
      · rfl
    · rfl
  have h4 : ∀ (s : HS) (o : OpS), (wr4 c s k o).past = s.past := fun s o => by
    unfold wr4
    split
    · rw [end_past]
      rfl
    · rfl
  unfold writeH
  rw [h4, h3, h2, h1]
theorem read_past {c : Conf} {s : HS} {k : Nat} {o : OpS} {w : Str} : (readH c s k o w).past = s.past := by
  unfold readH
  split
  · rw [end_past]
    rfl
  split
  · rfl
  split
  · rfl
  split
  · split
    · rw [end_past]
      rfl
    · rfl
  split
  · rw [end_past]
    rfl
  · rw [end_past]
    split
    · exact hold_past
    · rfl
theorem doE_past {c : Conf} {s : HS} {e : Ev} : (doE c s e).past = s.past := by
  have h0 : ∀ w k, (preH s w k).past = s.past := fun w k => by unfold preH; split <;> rfl
  unfold doE
  split
  · rfl
  split
  · rfl
  split
  · split
    · unfold doOp
      split
      · rw [end_past, h0]
      split
      · rw [write_past, h0]
      · rw [read_past, h0]
    · rfl
  · rfl
/-- the event is done, noted, its operation maybe begun -/
@[irreducible] def spDo : Sp := fun vs H Q _ => ∃ (c : Conf) (h t : Addr) (A : LA) (s : HS) (e : Ev), vs = [.ref h, .ref t] ∧ c.Ok ∧ LawAt c H h A s ∧ H t = some (.tup (evV e)) ∧ PyData.strOk e.1 = true ∧ EvOk c s e ∧ s.ops.length ≤ 100 ∧ s.past.length ≤ 100 ∧
  ∀ H' A', LawAt c H' h A' (doH c s e) → A'.d = A.d → A'.w = A.w → A'.lo = A.lo → A'.lp = A.lp → ((∀ b, b ∈ A'.oas → b ∈ A.oas ∨ H b = none) ∧ A.oas <+: A'.oas) → Keep (Fp h A) H H' → Q .non H'
theorem do_i {c : Conf} {h t : Addr} {A : LA} {s : HS} {e : Ev} {H : Hp} {Q : VK} {E : XK} (O : c.Ok) (L : LawAt c H h A s) (ht : H t = some (.tup (evV e))) (ok : PyData.strOk e.1 = true) (k : EvOk c s e) (h1 : s.ops.length ≤ 100) (h2 : s.past.length ≤ 100)
    (d : ∀ H' A', LawAt c H' h A' (doH c s e) → A'.d = A.d → A'.w = A.w → A'.lo = A.lo → A'.lp = A.lp → ((∀ b, b ∈ A'.oas → b ∈ A.oas ∨ H b = none) ∧ A.oas <+: A'.oas) → Keep (Fp h A) H H' → Q .non H') : spDo [.ref h, .ref t] H Q E := by
  unfold spDo
  exact ⟨c, h, t, A, s, e, rfl, O, L, ht, ok, k, h1, h2, d⟩
section
variable {P : Program} {w : World} {K : PySem.W.Frag} {mg : Str → Option Value} {base : Heap}
theorem ok_Lread (T : Txt K mg) : FnOk P w K mg base CX0 3 T.f_Lread T.fd_Lread ["h", "one", "word"] spRead := by
  refine T.F_Lread.ok sc_Lread (fun vs H Q E h => ?_) (fun cdv A outer s H vs Q E hr h => ?_)
  · unfold spRead at h
    obtain ⟨c, h, a, A, s, k, o, w, rfl, _⟩ := h
    rfl
  · unfold spRead at h
    obtain ⟨c, h, a, A, s, k, o, w, rfl, O, L, e, e', hl, hv, d⟩ := h
    have hu := hu_of hr
    have Ho := L.og k a o e e'
    have endd : ∀ (H1 : Hp) (s1 : HS) (o1 : OpS) (st : Str), LawAt c H1 h A s1 → s1.ops[k]? = some o1 → Keep (Fp h A) H H1 → readH c s k o w = endH s1 k o1 st → ∀ (E : XK), spEnd [.ref h, .ref a, .str st] H1 (fun v H' => Q .non H') E := fun H1 s1 o1 st L1 e1 K1 z E => by
      refine end_i L1 e e1 fun H2 L2 K2 => d H2 ?_ (K1.trans K2)
      rw [z]
      exact L2
    refine ⟨_, (pss_one (ps_if (PW.pt (pw_and (pt_cmpR op_eq (pv 2) pe_str (nomark _)) (pw_and1 (pt_cmpR op_notN (pe_dget hu (pv 0) pe_str (fun _ _ => rfl)) pe_non (nomark _))))) (pss_cons (ps_dput hu (pv 1) pe_str (pe_dget hu (pv 0) pe_str (fun _ _ => rfl)) rfl)
      (pss_one (ps_expr (pe_call (ok_Lend T) (hr.mono (by decide)) rfl T.m_Lend T.F_Lend.kp (b_Lend T) .nil pass0 (pa_cons (pv 0) (pa_cons (pv 1) (pa_cons pe_str pa_nil))))))) (pss_one (ps_if (PW.pt (pw_and (pt_cmpR op_eq (pv 2) pe_str (nomark _)) (pw_and1 (pt_cmpR op_notN (pe_dget hu (pv 0) pe_str (fun _ _ => rfl)) pe_non (nomark _))))) (pss_one (ps_asg (pe_tup (pa_cons pe_str (pa_cons (pe_dget hu (pv 0) pe_str (fun _ _ => rfl)) pa_nil))) (pg_tup rfl (pgs_cons (pg_sub (pv 1) pe_str (set_dict hu)) (pgs_cons (pg_sub (pv 1) pe_str (set_dict hu)) pgs_nil))))) (pss_one (ps_if (pt_cmpR op_eq (pv 2) pe_str (nomark _)) (pss_cons (ps_dput hu (pv 1) pe_str pe_str rfl)
      (pss_one (ps_dput hu (pv 0) pe_str (pe_ifExp (pt_cmpR op_eq (pe_ix ix_tup (pe_dget hu (pv 0) pe_str (fun _ _ => rfl)) pe_int (fun _ _ => rfl)) pe_str (nomark _)) (pe_dget hu (pv 1) pe_str (fun _ _ => rfl)) pe_non) rfl))) (pss_one (ps_if (pt_cmpR op_eq (pv 2) pe_str (nomark _)) (Evl.pss_cut (ps_dput hu (pv 1) pe_str (pe_ifExp (pt_cmpR op_eq (pe_ix ix_tup (pe_dget hu (pv 0) pe_str (fun _ _ => rfl)) pe_int (fun _ _ => rfl)) pe_str (nomark _)) (pe_dget hu (pv 0) pe_str (fun _ _ => rfl)) (pe_dget hu (pv 0) pe_str (fun _ _ => rfl))) rfl)
      (pss_cons (ps_dput hu (pv 1) pe_str pe_str rfl)
      (pss_one (ps_if (pt_cmpR op_eq (pe_ix ix_tup (pe_dget hu (pv 0) pe_str (fun _ _ => rfl)) pe_int (fun _ _ => rfl)) pe_str (nomark _)) (pss_one (ps_expr (pe_call (ok_Lend T) (hr.mono (by decide)) rfl T.m_Lend T.F_Lend.kp (b_Lend T) .nil pass0 (pa_cons (pv 0) (pa_cons (pv 1) (pa_cons pe_str pa_nil)))))) pss_nil)))) (pss_one (ps_if (pt_cmpR op_eq (pv 2) pe_str (nomark _)) (pss_cons (ps_dput hu (pv 1) pe_str (pe_dget hu (pe_ix ix_list (pe_dget hu (pv 0) pe_str (fun _ _ => rfl)) (pe_dget hu (pv 1) pe_str (fun _ _ => rfl)) (fun _ _ => rfl)) pe_str (fun _ _ => rfl)) rfl)
      (pss_one (ps_expr (pe_call (ok_Lend T) (hr.mono (by decide)) rfl T.m_Lend T.F_Lend.kp (b_Lend T) .nil pass0 (pa_cons (pv 0) (pa_cons (pv 1) (pa_cons pe_str pa_nil))))))) (pss_cons (ps_if (pt_val (pe_call (ok_Llets T) (hr.mono (by decide)) rfl T.m_Llets T.F_Llets.kp (b_Llets T) .nil pass0 (pa_cons (pv 0) (pa_cons (pv 1) pa_nil)))) (pss_one (ps_expr (pe_call (ok_Lhold T) (hr.mono (by decide)) rfl T.m_Lhold T.F_Lhold.kp (b_Lhold T) .nil pass0 (pa_cons (pv 0) (pa_cons (pe_dget hu (pv 1) pe_str (fun _ _ => rfl)) pa_nil))))) pss_nil)
      (pss_one (ps_expr (pe_call (ok_Lend T) (hr.mono (by decide)) rfl T.m_Lend T.F_Lend.kp (b_Lend T) .nil pass0 (pa_cons (pv 0) (pa_cons (pv 1) (pa_cons pe_str pa_nil))))))))))))))))), ?_⟩
    have fetchD : ∀ H1, LawAt c H1 h A s → True := fun _ _ => trivial
    unfold readH at d endd
    refine ⟨_, rfl, rfl, _, rfl, ?_⟩
    refine iteS (fun q => ?_) (fun q => ?_)
    · -- look
      refine ⟨_, rfl, _, _, rfl, dget (L.hd) rfl, rfl, _, rfl, ?_⟩
      refine iteNn (fun v q2 => ?_) (fun q2 => ?_)
      · refine ⟨_, rfl, _, _, rfl, dget (L.hd) rfl, _, rfl, _, _, rfl, dput (kvs' := oK { o with version := s.cache }) Ho rfl, ?_⟩
        refine ⟨_, rfl, _, rfl, ?_⟩
        exact endd _ _ _ _ (L.oput e) (put_get e') (Keep.refl.put (fp_op e)) (if_pos ⟨q, by rw [q2]; rfl⟩) _
      · have z0 : ¬ (w = "look" ∧ s.cache.isSome = true) := fun z => by rw [q2] at z; exact absurd z.2 (by decide)
        rw [if_neg z0] at d
        refine ⟨_, rfl, rfl, _, rfl, ?_⟩
        refine iteS (fun _ => ?_) (fun n => (n q).elim)
        refine ⟨_, rfl, _, _, rfl, dget (L.hd) rfl, rfl, _, rfl, ?_⟩
        refine iteNn (fun v q3 => ?_) (fun q3 => ?_)
        · rw [if_pos ⟨q, by rw [q3]; rfl⟩] at d
          refine ⟨_, rfl, _, _, rfl, dget (L.hd) rfl, (by show 2 ≤ sizeLine; decide), fun p np => ?_⟩
          have L1 := L.new (o := .tup [.str "waits", on s.opn]) np
          have K1 := (Keep.refl (F := Fp h A) (H := H)).new (o := .tup [.str "waits", on s.opn]) np
          have hT : (upd H p (.tup [.str "waits", on s.opn])) p = some (.tup [.str "waits", on s.opn]) := upd_same
          generalize upd H p (.tup [.str "waits", on s.opn]) = H1 at L1 K1 hT
          refine ⟨_, _, rfl, SqT.of hT, rfl, _, _, rfl, _, rfl, _, _, rfl, dput (kvs' := oK { o with stage := "waits" }) (L1.og k a o e e') rfl, ?_⟩
          have L2 := L1.oput (o' := { o with stage := "waits" }) e
          refine ⟨_, _, rfl, _, rfl, _, _, rfl, dput (kvs' := oK { o with stage := "waits", leader := s.opn }) (L2.og k a _ e (put_get e')) rfl, rfl, ?_⟩
          have L3 := L2.oput (o' := { o with stage := "waits", leader := s.opn }) e
          rw [put_put] at L3
          exact d _ L3 ((K1.put (fp_op e)).put (fp_op e))
        · have z1 : ¬ (w = "look" ∧ s.opn.isSome = true) := fun z => by rw [q3] at z; exact absurd z.2 (by decide)
          rw [if_neg z1, if_pos q] at d
          refine ⟨_, rfl, rfl, _, rfl, ?_⟩
          refine iteS (fun _ => ?_) (fun n => (n q).elim)
          refine ⟨_, rfl, _, _, rfl, dput (kvs' := oK { o with stage := "fetch" }) Ho rfl, ?_⟩
          have L1 := L.oput (o' := { o with stage := "fetch" }) e
          have e1 := put_get (o' := { o with stage := "fetch" }) e'
          have K1 := (Keep.refl (F := Fp h A) (H := H)).put (o := .dK (oK { o with stage := "fetch" })) (fp_op e)
          generalize upd H a (.dK (oK { o with stage := "fetch" })) = H1 at L1 K1
          refine ⟨_, rfl, _, _, rfl, dget (L1.hd) rfl, _, _, _, _, rfl, rfl, SqT.of (L1.dd), rfl, rfl, _, rfl, ?_⟩
          refine iteS (fun q4 => ?_) (fun q4 => ?_)
          · rw [if_pos q4] at d
            refine ⟨_, rfl, _, _, rfl, dget (L1.og k a _ e e1) rfl, _, rfl, _, _, rfl, dput (kvs' := hK A.d A.w { s.put k { o with stage := "fetch" } with opn := some o.number } A.lo A.lp) L1.hd rfl, ?_⟩
            exact d _ (L1.hput rfl rfl) (K1.put fp_h)
          · rw [if_neg q4] at d
            refine ⟨_, rfl, _, _, rfl, dput (kvs' := hK A.d A.w { s.put k { o with stage := "fetch" } with opn := none } A.lo A.lp) L1.hd rfl, ?_⟩
            exact d _ (L1.hput rfl rfl) (K1.put fp_h)
    · have n1 : ∀ P : Prop, ¬ (w = "look" ∧ P) := fun P z => q z.1
      rw [if_neg (n1 _), if_neg (n1 _), if_neg q] at d
      refine ⟨_, rfl, rfl, _, rfl, ?_⟩
      refine iteS (fun n => (q n).elim) (fun _ => ?_)
      refine ⟨_, rfl, rfl, _, rfl, ?_⟩
      refine iteS (fun n => (q n).elim) (fun _ => ?_)
      refine ⟨_, rfl, rfl, _, rfl, ?_⟩
      refine iteS (fun q2 => ?_) (fun q2 => ?_)
      · -- fetch
        rw [if_pos q2] at d
        refine ⟨fun σ' H' => ∃ x y, σ' = [some (.ref h), some (.ref a), some (.str w)] ∧ x = { o with version := some (if c.source = "replica" then s.rep else s.db) } ∧ y = oK x ∧ H' = upd H a (.dK y), ?_, ?_⟩
        · refine ⟨_, rfl, _, _, rfl, dget (L.hd) rfl, _, _, _, _, rfl, rfl, SqT.of (L.ww), rfl, rfl, _, rfl, ?_⟩
          refine iteS (fun q3 => ?_) (fun q3 => ?_)
          · rw [if_pos q3]
            exact ⟨_, rfl, _, _, rfl, dget (L.hd) rfl, _, rfl, _, _, rfl, dput (kvs' := oK { o with version := some s.rep }) Ho rfl, _, _, rfl, rfl, rfl, rfl⟩
          · rw [if_neg q3]
            exact ⟨_, rfl, _, _, rfl, dget (L.hd) rfl, _, rfl, _, _, rfl, dput (kvs' := oK { o with version := some s.db }) Ho rfl, _, _, rfl, rfl, rfl, rfl⟩
        · rintro σ' H' ⟨x, y, rfl, rfl, rfl, rfl⟩
          generalize (if c.source = "replica" then s.rep else s.db) = v at d
          have L1 := L.oput (o' := { o with version := some v }) e
          have e1 := put_get (o' := { o with version := some v }) e'
          have K1 := (Keep.refl (F := Fp h A) (H := H)).put (o := .dK (oK { o with version := some v })) (fp_op e)
          generalize upd H a (.dK (oK { o with version := some v })) = H1 at L1 K1
          refine ⟨_, rfl, _, _, rfl, dput (kvs' := oK { o with version := some v, stage := "fill" }) (L1.og k a _ e e1) rfl, ?_⟩
          have L2 := L1.oput (o' := { o with version := some v, stage := "fill" }) e
          rw [put_put] at L2
          have e2 := put_get (o' := { o with version := some v, stage := "fill" }) e'
          have K2 := K1.put (o := .dK (oK { o with version := some v, stage := "fill" })) (fp_op e)
          generalize upd H1 a (.dK (oK { o with version := some v, stage := "fill" })) = H2 at L2 K2
          refine ⟨_, rfl, _, _, rfl, dget (L2.hd) rfl, _, _, _, _, rfl, rfl, SqT.of (L2.dd), rfl, rfl, _, rfl, ?_⟩
          refine iteS (fun q4 => ?_) (fun q4 => ?_)
          · rw [if_pos q4] at d
            refine ⟨_, rfl, _, rfl, ?_⟩
            exact end_i L2 e e2 fun H3 L3 K3 => d H3 L3 (K2.trans K3)
          · rw [if_neg q4] at d
            exact d _ L2 K2
      rw [if_neg q2] at d
      refine ⟨_, rfl, rfl, _, rfl, ?_⟩
      refine iteS (fun q3 => ?_) (fun q3 => ?_)
      · -- take
        rw [if_pos q3] at d
        obtain ⟨l, qo, el, eq⟩ := hl q3
        obtain ⟨b, eb, hb⟩ := L.get eq
        have z : leadV s o = qo.version := by unfold leadV; rw [el]; show (match s.ops[l]? with | some q => q.version | none => none) = _; rw [eq]
        rw [z] at d
        have hbr : (A.oas.map V.ref)[l]? = some (.ref b) := by rw [List.getElem?_map, eb]; rfl
        refine ⟨_, rfl, _, _, rfl, dget (L.hd) rfl, _, rfl, _, _, rfl, dget (Ho) rfl, _, _, (l : Int), _, rfl, (by rw [el]; rfl), SqL.of L.lo, at_of rfl hbr, _, _, rfl, dget (hb) rfl, _, rfl, _, _, rfl, dput (kvs' := oK { o with version := qo.version }) Ho rfl, ?_⟩
        have L1 := L.oput (o' := { o with version := qo.version }) e
        refine ⟨_, rfl, _, rfl, ?_⟩
        exact end_i L1 e (put_get e') fun H3 L3 K3 => d H3 L3 ((Keep.refl.put (fp_op e)).trans K3)
      · rw [if_neg q3] at d
        have hv : o.version.isSome = true := by
          rcases hv with z | z | z | z
          · exact (q z).elim
          · exact (q2 z).elim
          · exact (q3 z).elim
          · exact z
        obtain ⟨v, ev⟩ := Option.isSome_iff_exists.mp hv
        rw [ev, Option.getD_some] at d
        refine ⟨_, rfl, _, rfl, ?_⟩
        refine lets_i L e e' ev ⟨_, rfl, ?_⟩
        cases hb : letsB c s o v with
        | true =>
          rw [hb, if_pos rfl] at d
          refine iteT ?_
          refine ⟨_, rfl, _, rfl, _, _, rfl, dget (Ho) rfl, ?_⟩
          rw [ev]
          refine hold_i L fun H1 L1 K1 => ?_
          refine ⟨_, rfl, _, rfl, ?_⟩
          exact end_i L1 e (by rw [hold_ops]; exact e') fun H3 L3 K3 => d H3 L3 (K1.trans K3)
        | false =>
          rw [hb, if_neg (by decide)] at d
          refine iteF ?_
          refine ⟨_, rfl, _, rfl, ?_⟩
          exact end_i L e e' fun H3 L3 K3 => d H3 L3 K3
end
end Ca

set_option Elab.async false
set_option linter.all false
set_option maxRecDepth 100000
set_option maxHeartbeats 4000000
namespace Ca
open PySem L2
def oneK (s : HS) (k : Nat) (w : Str) (kd : Str) : List (Key × V) :=
  [(.inr "number", .int (k : Int)), (.inr "kind", .str kd), (.inr "stage", .str w), (.inr "version", .non), (.inr "begun", .int (s.past.length : Int)), (.inr "over", .non)]
def restK : List (Key × V) := [(.inr "step", .int 0), (.inr "clean", .bl true), (.inr "leader", .non)]
theorem one_all {s : HS} {w : Str} : mergeK [] (oneK s s.ops.length w (newOp s w).kind ++ restK) = oK (newOp s w) := by rfl
section
variable {P : Program} {w : World} {K : PySem.W.Frag} {mg : Str → Option Value} {base : Heap}
/-- the state in the middle of a do: the addresses but the operations' are as they were -/
structure Mid (c : Conf) (h : Addr) (A : LA) (H : Hp) (s : HS) (A' : LA) (H' : Hp) : Prop where
  L : LawAt c H' h A' s
  d : A'.d = A.d
  w : A'.w = A.w
  lo : A'.lo = A.lo
  lp : A'.lp = A.lp
  oa : (∀ b, b ∈ A'.oas → b ∈ A.oas ∨ H b = none) ∧ A.oas <+: A'.oas
  k : Keep (Fp h A) H H'
theorem ok_Ldo (T : Txt K mg) : FnOk P w K mg base CX0 4 T.f_Ldo T.fd_Ldo ["h", "event"] spDo := by
  refine T.F_Ldo.ok sc_Ldo (fun vs H Q E h => ?_) (fun cdv A outer s H vs Q E hr h => ?_)
  · unfold spDo at h
    obtain ⟨c, h, t, A, s, e, rfl, _⟩ := h
    rfl
  · unfold spDo at h
    obtain ⟨c, h, t, A, s, e, rfl, O, L, ht, ok, hk, l1, l2, d⟩ := h
    have hu := hu_of hr
    refine ⟨_, (Evl.pss_cut (ps_if (pt_cmpR (op_eqD hr.units) (pv 1) (pe_tup (pa_cons pe_str pa_nil)) (nomark _)) (pss_one (ps_asg (pe_tup (pa_cons pe_non (pa_cons pe_int pa_nil))) (pg_tup rfl (pgs_cons (pg_sub (pv 0) pe_str (set_dict hu)) (pgs_cons (pg_sub (pv 0) pe_str (set_dict hu)) pgs_nil))))) (pss_one (ps_if (pt_cmpR (op_eqD hr.units) (pv 1) (pe_tup (pa_cons pe_str pa_nil)) (nomark _)) (pss_one (ps_dput hu (pv 0) pe_str (pe_op op_add (pe_dget hu (pv 0) pe_str (fun _ _ => rfl)) pe_int) rfl)) (pss_cons (ps_asg (pv 1) (pg_tup rfl (pgs_cons (pg_name (i := 2) sc_Ldo.nd rfl (Or.inl rfl)) (pgs_cons (pg_name (i := 3) sc_Ldo.nd rfl (Or.inl rfl)) pgs_nil))))
      (Evl.pss_cut (ps_if (pt_cmpR op_eq (pv 3) (pe_callB call_len_seq (by rfl) T.n_len (by decide +kernel) (pa_cons (pe_dget hu (pv 0) pe_str (fun _ _ => rfl)) pa_nil)) (nomark _)) (Evl.pss_cut (ps_set (i := 4) sc_Ldo.nd rfl (Or.inl rfl) (pe_ifExp (pt_cmpR op_eq (pv 2) pe_str (nomark _)) pe_str pe_str))
      (pss_cons (ps_set (i := 5) sc_Ldo.nd rfl (Or.inl rfl) (pe_disp (pps_cons pe_str (pv 3) (pps_cons pe_str (pv 4) (pps_cons pe_str (pv 2) (pps_cons pe_str pe_non (pps_cons pe_str (pe_callB call_len_seq (by rfl) T.n_len (by decide +kernel) (pa_cons (pe_dget hu (pv 0) pe_str (fun _ _ => rfl)) pa_nil)) (pps_cons pe_str pe_non pps_nil)))))) rfl rfl (by simp) (by decide)))
      (pss_one (ps_expr (pe_bm PySem.F.plainAttrs_list PySem.F.slot_list_append PySem.F.type_list_append mt_append (pe_dget hu (pv 0) pe_str (fun _ _ => rfl)) (pa_cons (pe_callTy (call_dictP rfl) (by rfl) T.n_dict (by decide +kernel) (pa_cons (pe_op op_cat (LiI.pe_listItems rfl (pv 5) (by rfl) T.n_list (by decide +kernel)) (pe_lst (pa_cons (pe_tup (pa_cons pe_str (pa_cons pe_int pa_nil))) (pa_cons (pe_tup (pa_cons pe_str (pa_cons pe_bl pa_nil))) (pa_cons (pe_tup (pa_cons pe_str (pa_cons pe_non pa_nil))) pa_nil))))) pa_nil)) pa_nil)))))) pss_nil)
      (pss_cons (ps_set (i := 5) sc_Ldo.nd rfl (Or.inl rfl) (pe_ix ix_list (pe_dget hu (pv 0) pe_str (fun _ _ => rfl)) (pv 3) (fun _ _ => rfl)))
      (pss_one (ps_if (pt_cmpR op_eq (pv 2) pe_str (nomark _)) (pss_one (ps_expr (pe_call (ok_Lend T) (hr.mono (by decide)) rfl T.m_Lend T.F_Lend.kp (b_Lend T) .nil pass0 (pa_cons (pv 0) (pa_cons (pv 5) (pa_cons pe_str pa_nil)))))) (pss_one (ps_if (pt_cmpR op_eq (pe_dget hu (pv 5) pe_str (fun _ _ => rfl)) pe_str (nomark _)) (pss_one (ps_expr (pe_call (ok_Lwrite T) (hr.mono (by decide)) rfl T.m_Lwrite T.F_Lwrite.kp (b_Lwrite T) .nil pass0 (pa_cons (pv 0) (pa_cons (pv 5) (pa_cons (pv 2) pa_nil)))))) (pss_one (ps_expr (pe_call (ok_Lread T) (hr.mono (by decide)) rfl T.m_Lread T.F_Lread.kp (b_Lread T) .nil pass0 (pa_cons (pv 0) (pa_cons (pv 5) (pa_cons (pv 2) pa_nil))))))))))))))))
      (pss_one (ps_expr (pe_bm PySem.F.plainAttrs_list PySem.F.slot_list_append PySem.F.type_list_append mt_append (pe_dget hu (pv 0) pe_str (fun _ _ => rfl)) (pa_cons (pv 1) pa_nil))))), ?_⟩
    refine ⟨fun σ' H' => ∃ x2 x3 x4 x5 A', σ' = [some (.ref h), some (.ref t), x2, x3, x4, x5] ∧ Mid c h A H (doE c s e) A' H', ?_, ?_⟩
    · refine ⟨_, rfl, (by show 1 ≤ sizeLine; decide), fun p np => ?_⟩
      have L1 := L.new (o := .tup [.str "evict"]) np
      have K1 := (Keep.refl (F := Fp h A) (H := H)).new (o := .tup [.str "evict"]) np
      have hp : (upd H p (.tup [.str "evict"])) p = some (.tup (evV evictE)) := upd_same
      have ht1 := same_new (o := .tup [.str "evict"]) np _ _ ht
      generalize upd H p (.tup [.str "evict"]) = H1 at L1 K1 hp ht1
      refine ⟨_, _, evD_dp ht1, evD_dp hp, evD_shaped ok, evD_shaped (by decide +kernel), _, rfl, ?_⟩
      unfold doE
      refine iteE (fun q => ?_) (fun q => ?_)
      · rw [if_pos q]
        refine ⟨(by show 2 ≤ sizeLine; decide), fun p2 np2 => ?_⟩
        have L2 := L1.new (o := .tup [.non, .int 0]) np2
        have K2 := K1.new (o := .tup [.non, .int 0]) np2
        have hp2 : (upd H1 p2 (.tup [.non, .int 0])) p2 = some (.tup [.non, .int 0]) := upd_same
        generalize upd H1 p2 (.tup [.non, .int 0]) = H2 at L2 K2 hp2
        refine ⟨_, _, rfl, SqT.of hp2, rfl, _, _, rfl, _, rfl, _, _, rfl, dput (kvs' := hK A.d A.w { s with cache := none } A.lo A.lp) L2.hd rfl, ?_⟩
        have L3 := L2.hput (s' := { s with cache := none }) rfl rfl
        refine ⟨_, _, rfl, _, rfl, _, _, rfl, dput (kvs' := hK A.d A.w { s with cache := none, mark := 0 } A.lo A.lp) L3.hd rfl, rfl, ?_⟩
        exact ⟨_, _, _, _, A, rfl, L3.hput rfl rfl, rfl, rfl, rfl, rfl, ⟨fun b hb => .inl hb, List.prefix_refl _⟩, (K2.put fp_h).put fp_h⟩
      rw [if_neg q]
      refine ⟨_, rfl, (by show 1 ≤ sizeLine; decide), fun p2 np2 => ?_⟩
      have L2 := L1.new (o := .tup [.str "copy"]) np2
      have K2 := K1.new (o := .tup [.str "copy"]) np2
      have hp2 : (upd H1 p2 (.tup [.str "copy"])) p2 = some (.tup (evV copyE)) := upd_same
      have ht2 := same_new (o := .tup [.str "copy"]) np2 _ _ ht1
      generalize upd H1 p2 (.tup [.str "copy"]) = H2 at L2 K2 hp2 ht2
      refine ⟨_, _, evD_dp ht2, evD_dp hp2, evD_shaped ok, evD_shaped (by decide +kernel), _, rfl, ?_⟩
      refine iteE (fun q2 => ?_) (fun q2 => ?_)
      · rw [if_pos q2]
        refine ⟨_, rfl, _, _, rfl, dget (L2.hd) rfl, _, _, rfl, rfl, _, rfl, _, _, rfl, dput (kvs' := hK A.d A.w { s with rep := s.rep + 1 } A.lo A.lp) L2.hd (by show putK _ _ (V.int ((s.rep : Int) + 1)) = hK _ _ _ _ _; rfl), ?_⟩
        exact ⟨_, _, _, _, A, rfl, L2.hput rfl rfl, rfl, rfl, rfl, rfl, ⟨fun b hb => .inl hb, List.prefix_refl _⟩, K2.put fp_h⟩
      rw [if_neg q2]
      rcases hk with z | z | ⟨k, w, rfl, hle, hop⟩
      · exact (q z).elim
      · exact (q2 z).elim
      refine ⟨_, rfl, _, _, rfl, SqT.of ht2, rfl, _, _, rfl, _, _, rfl, rfl, ?_⟩
      show _
      have ek : (k : Int).toNat = k := Int.toNat_natCast k
      simp only [ek]
      refine ⟨fun σ' H' => ∃ x4 x5 A', σ' = [some (.ref h), some (.ref t), some (.str w), some (.int (k : Int)), x4, x5] ∧ Mid c h A H (preH s w k) A' H', ?_, ?_⟩
      · refine ⟨_, rfl, _, rfl, _, _, rfl, dget (L2.hd) rfl, _, _, rfl, .inl (SqL.of L2.lo), rfl, _, rfl, ?_⟩
        rw [List.length_map, L2.ol]
        unfold preH
        refine iteI (fun q3 => ?_) (fun q3 => ?_)
        · rw [if_pos q3]
          refine ⟨fun σ' H' => σ' = [some (.ref h), some (.ref t), some (.str w), some (.int (k : Int)), some (.str (newOp s w).kind), none] ∧ H' = H2, ?_, ?_⟩
          · refine ⟨_, rfl, rfl, _, rfl, ?_⟩
            refine iteS (fun q4 => ?_) (fun q4 => ?_)
            · have z : (newOp s w).kind = "read" := if_pos q4
              rw [z]
              exact ⟨rfl, rfl⟩
            · have z : (newOp s w).kind = "write" := if_neg q4
              rw [z]
              exact ⟨rfl, rfl⟩
          rintro σ' H' ⟨rfl, rfl⟩
          subst q3
          intro p3 np3
          have L3 := L2.new (o := .dK []) np3
          refine ⟨_, rfl, _, rfl, _, rfl, _, rfl, _, _, rfl, dget (L3.hd) rfl, _, _, rfl, .inl (SqL.of L3.lp), upd_same, oneK s s.ops.length w (newOp s w).kind, ?_, (by show 6 ≤ 15; decide), ?_⟩
          · rw [List.length_map, L3.el]
            rfl
          have e6 : mergeK [] (oneK s s.ops.length w (newOp s w).kind) = oneK s s.ops.length w (newOp s w).kind := by rfl
          rw [e6, upd_upd]
          have L4 := L2.new (o := .dK (oneK s s.ops.length w (newOp s w).kind)) np3
          have K4 := K2.new (o := .dK (oneK s s.ops.length w (newOp s w).kind)) np3
          have h4 : (upd H' p3 (.dK (oneK s s.ops.length w (newOp s w).kind))) p3 = some (.dK (oneK s s.ops.length w (newOp s w).kind)) := upd_same
          generalize upd H' p3 (.dK (oneK s s.ops.length w (newOp s w).kind)) = H4 at L4 K4 h4
          refine ⟨_, rfl, _, _, rfl, dget (L4.hd) rfl, .inl ⟨rfl, _, SqL.of L4.lo⟩, _, rfl, p3, _, rfl, h4, fun H5 l ts s5 nl nts nlt hl hts => ?_⟩
          have L5 := L4.same s5
          have K5 : Keep (Fp h A) H H5 := K4.trans fun b o e _ => s5 b o e
          refine ⟨(by show 2 ≤ sizeLine; decide), fun t1 n1 => ⟨(by show 2 ≤ sizeLine; decide), fun t2 n2 => ⟨(by show 2 ≤ sizeLine; decide), fun t3 n3 => ⟨(by show 3 ≤ sizeLine; decide), fun l3 nl3 => ?_⟩⟩⟩⟩
          have g1 : Same H5 (upd (upd (upd (upd H5 t1 (.tup [.str "step", .int 0])) t2 (.tup [.str "clean", .bl true])) t3 (.tup [.str "leader", .non])) l3 (.lst [.ref t1, .ref t2, .ref t3])) := sN (sN (sN (same_new n1) n2) n3) nl3
          have f1 : (upd (upd (upd (upd H5 t1 (.tup [.str "step", .int 0])) t2 (.tup [.str "clean", .bl true])) t3 (.tup [.str "leader", .non])) l3 (.lst [.ref t1, .ref t2, .ref t3])) t1 = some (.tup [.str "step", .int 0]) :=
            sN (sN (sN (Same.refl _) n2) n3) nl3 _ _ upd_same
          have f2 : (upd (upd (upd (upd H5 t1 (.tup [.str "step", .int 0])) t2 (.tup [.str "clean", .bl true])) t3 (.tup [.str "leader", .non])) l3 (.lst [.ref t1, .ref t2, .ref t3])) t2 = some (.tup [.str "clean", .bl true]) :=
            sN (sN (Same.refl _) n3) nl3 _ _ upd_same
          have f3 : (upd (upd (upd (upd H5 t1 (.tup [.str "step", .int 0])) t2 (.tup [.str "clean", .bl true])) t3 (.tup [.str "leader", .non])) l3 (.lst [.ref t1, .ref t2, .ref t3])) t3 = some (.tup [.str "leader", .non]) :=
            sN (Same.refl _) nl3 _ _ upd_same
          have f4 : (upd (upd (upd (upd H5 t1 (.tup [.str "step", .int 0])) t2 (.tup [.str "clean", .bl true])) t3 (.tup [.str "leader", .non])) l3 (.lst [.ref t1, .ref t2, .ref t3])) l3 = some (.lst [.ref t1, .ref t2, .ref t3]) := upd_same
          generalize upd (upd (upd (upd H5 t1 (.tup [.str "step", .int 0])) t2 (.tup [.str "clean", .bl true])) t3 (.tup [.str "leader", .non])) l3 (.lst [.ref t1, .ref t2, .ref t3]) = H6 at g1 f1 f2 f3 f4 ⊢
          have L6 := L5.same g1
          have K6 : Keep (Fp h A) H H6 := K5.trans fun b o e _ => g1 b o e
          have tl : ts.length = 6 := hts.length
          refine ⟨_, _, _, _, rfl, rfl, g1 _ _ hl, f4, (by rw [List.length_map, tl]; show 9 ≤ sizeLine; decide), fun l7 n7 => ?_⟩
          have L7 := L6.new (o := .lst (ts.map V.ref ++ [.ref t1, .ref t2, .ref t3])) n7
          have K7 := K6.new (o := .lst (ts.map V.ref ++ [.ref t1, .ref t2, .ref t3])) n7
          have s67 := same_new (o := .lst (ts.map V.ref ++ [.ref t1, .ref t2, .ref t3])) n7
          have h7 : (upd H6 l7 (.lst (ts.map V.ref ++ [.ref t1, .ref t2, .ref t3]))) l7 = some (.lst ((ts ++ [t1, t2, t3]).map V.ref)) := by
            rw [upd_same, List.map_append]
            rfl
          generalize upd H6 l7 (.lst (ts.map V.ref ++ [.ref t1, .ref t2, .ref t3])) = H7 at L7 K7 s67 h7
          refine ⟨l7, ts ++ [t1, t2, t3], oneK s s.ops.length w (newOp s w).kind ++ restK, rfl, SqL.of h7, ?_, fun p8 n8 => ?_⟩
          · refine Paired.app (Paired.mapP hts fun a b q => SqT.of (s67 _ _ (g1 _ _ q))) ?_
            exact .cons (SqT.of (s67 _ _ f1)) (.cons (SqT.of (s67 _ _ f2)) (.cons (SqT.of (s67 _ _ f3)) .nil))
          rw [one_all]
          have L8 := L7.new (o := .dK (oK (newOp s w))) n8
          have K8 := K7.new (o := .dK (oK (newOp s w))) n8
          have h8 : (upd H7 p8 (.dK (oK (newOp s w)))) p8 = some (.dK (oK (newOp s w))) := upd_same
          have nf8 : ¬ Fp h A p8 := L7.nfp n8
          have n8' : H p8 = none := K7.free n8 nf8
          generalize upd H7 p8 (.dK (oK (newOp s w))) = H8 at L8 K8 h8
          refine ⟨A.lo, _, _, rfl, rfl, L8.lo, (by rw [List.length_map, L8.ol]; exact small9 l1), ?_⟩
          refine ⟨_, _, _, rfl, L8.opush (fun z => nf8 (.inr (.inr (.inr z)))) h8, rfl, rfl, rfl, rfl, ⟨fun b hb => ?_, List.prefix_append _ _⟩, K8.put (.inr (.inl rfl))⟩
          rcases List.mem_append.mp hb with z | z
          · exact .inl z
          · rw [List.mem_singleton.mp z]
            exact .inr n8'
        · rw [if_neg q3]
          exact ⟨_, _, A, rfl, L2, rfl, rfl, rfl, rfl, ⟨fun b hb => .inl hb, List.prefix_refl _⟩, K2⟩
      · rintro σ' H' ⟨x4, x5, A', rfl, M⟩
        have hlt : k < (preH s w k).ops.length := by
          unfold preH
          split
          · rename_i z
            rw [z]
            simp
          · show k < s.ops.length
            omega
        obtain ⟨o, eo⟩ : ∃ o, (preH s w k).ops[k]? = some o := ⟨_, List.getElem?_eq_getElem hlt⟩
        obtain ⟨a, ea, ha⟩ := M.L.get eo
        have hop := hop o eo
        have har : (A'.oas.map V.ref)[k]? = some (.ref a) := by rw [List.getElem?_map, ea]; rfl
        refine ⟨_, rfl, _, _, rfl, dget (M.L.hd) rfl, _, rfl, A'.lo, _, (k : Int), _, rfl, rfl, SqL.of M.L.lo, at_of rfl har, ?_⟩
        simp only [eo]
        have fin : ∀ (s' : HS) (H'' : Hp), LawAt c H'' h A' s' → Keep (Fp h A') H' H'' → Mid c h A H s' A' H'' := fun s' H'' L' K' => by
          refine ⟨L', M.d, M.w, M.lo, M.lp, M.oa, fun b u eb nb => K' b u (M.k b u eb nb) fun z => ?_⟩
          rcases z with z | z | z | z
          · exact nb (.inl z)
          · exact nb (.inr (.inl (by rw [← M.lo]; exact z)))
          · exact nb (.inr (.inr (.inl (by rw [← M.lp]; exact z))))
          · rcases M.oa.1 b z with y | y
            · exact nb (.inr (.inr (.inr y)))
            · rw [y] at eb; cases eb
        unfold doOp
        refine ⟨_, rfl, rfl, _, rfl, ?_⟩
        refine iteS (fun q4 => ?_) (fun q4 => ?_)
        · rw [if_pos q4]
          refine ⟨_, rfl, _, rfl, ?_⟩
          exact end_i M.L ea eo fun H2 L2 K2 => ⟨_, _, _, _, A', rfl, fin _ _ L2 K2⟩
        · rw [if_neg q4]
          refine ⟨_, rfl, _, _, rfl, dget (ha) rfl, rfl, _, rfl, ?_⟩
          refine iteS (fun q5 => ?_) (fun q5 => ?_)
          · rw [if_pos q5]
            refine ⟨_, rfl, _, rfl, _, rfl, ?_⟩
            rcases hop with z | ⟨_, z1, z2⟩ | ⟨z, _⟩
            · exact (q4 z).elim
            · exact write_i O M.L ea eo z1 z2 fun H2 L2 K2 => ⟨_, _, _, _, A', rfl, fin _ _ L2 K2⟩
            · exact (z q5).elim
          · rw [if_neg q5]
            refine ⟨_, rfl, _, rfl, _, rfl, ?_⟩
            rcases hop with z | ⟨z, _⟩ | ⟨_, z1, z2⟩
            · exact (q4 z).elim
            · exact (q5 z).elim
            · exact read_i O M.L ea eo z1 z2 fun H2 L2 K2 => ⟨_, _, _, _, A', rfl, fin _ _ L2 K2⟩
    · rintro σ' H' ⟨x2, x3, x4, x5, A', rfl, M⟩
      refine ⟨_, rfl, _, _, rfl, dget (M.L.hd) rfl, .inl ⟨rfl, _, SqL.of M.L.lp⟩, _, rfl, A'.lp, _, _, rfl, rfl, M.L.lp, (by rw [List.length_map, M.L.el, doE_past]; exact small9 l2), ?_⟩
      have L5 := M.L.epush (M.k t _ ht (fun z => ?_))
      · have zE : ({ doE c s e with past := (doE c s e).past ++ [e] } : HS) = doH c s e := by unfold doH; rw [doE_past]
        rw [zE] at L5
        refine d _ { A' with eas := A'.eas ++ [t] } L5 M.d M.w M.lo M.lp M.oa (M.k.put ?_)
        right; right; left
        exact M.lp
      · rcases z with z | z | z | z
        · rw [z, L.hd] at ht; cases ht
        · rw [z, L.lo] at ht; cases ht
        · rw [z, L.lp] at ht; cases ht
        · obtain ⟨j, hj, ej⟩ := List.getElem_of_mem z
          obtain ⟨o, _, q⟩ := L.ofAt (k := j) (a := t) (by rw [List.getElem?_eq_getElem hj, ej])
          rw [q] at ht; cases ht
end
end Ca

set_option Elab.async false
set_option linter.all false
set_option maxRecDepth 100000
set_option maxHeartbeats 4000000
namespace Ca
open PySem L2
/-! ### what the law's own cache tells: who is under way, what can come -/
def sv : Option Str → V
  | none => .non
  | some w => .str w
/-- a list of operations' dicts -/
abbrev OpRefs (A : LA) (s : HS) (xs : List V) (os : List OpS) : Prop := Paired (fun (x : V) (o : OpS) => ∃ (k : Nat) (a : Addr), x = .ref a ∧ A.oas[k]? = some a ∧ s.ops[k]? = some o) xs os
def WaitOk (s : HS) (o : OpS) : Prop := o.stage = "waits" → ∃ l q, o.leader = some l ∧ s.ops[l]? = some q
@[irreducible] def spBegin : Sp := fun vs H Q _ => ∃ (c : Conf) (d w : Addr), vs = [.ref d, .ref w] ∧ H d = some (.tup [.str c.path, .str c.guard, .str c.flight]) ∧ H w = some (.tup [.str c.source, .str c.evict, .str c.stop]) ∧
  ∀ h lo lp H', Same H H' → H h = none → H lo = none → H lp = none → LawAt c H' h ⟨d, w, lo, lp, [], []⟩ HS.begin → Q (.ref h) H'
@[irreducible] def spNext : Sp := fun vs H Q _ => ∃ (c : Conf) (h a : Addr) (A : LA) (s : HS) (k : Nat) (o : OpS), vs = [.ref h, .ref a] ∧ LawAt c H h A s ∧ A.oas[k]? = some a ∧ s.ops[k]? = some o ∧ WaitOk s o ∧ Q (sv (nextOf s o)) H
@[irreducible] def spGoing : Sp := fun vs H Q _ => ∃ (c : Conf) (h : Addr) (A : LA) (s : HS), vs = [.ref h] ∧ LawAt c H h A s ∧ s.ops.length ≤ 100 ∧ ∀ p xs H', Same H H' → H p = none → H' p = some (.lst xs) → OpRefs A s xs (going s) → Q (.ref p) H'
@[irreducible] def spEvents : Sp := fun vs H Q _ => ∃ (c : Conf) (h : Addr) (A : LA) (s : HS), vs = [.ref h] ∧ c.Ok ∧ LawAt c H h A s ∧ s.ops.length ≤ 100 ∧ (∀ o ∈ s.ops, WaitOk s o) ∧
  ∀ p xs es H', Same H H' → H p = none → H' p = some (.lst xs) → EvsAt H' xs es → Srt es → es.Perm (evList c s) → Q (.ref p) H'
section
variable {c : Conf} {h a d w : Addr} {A : LA} {s : HS} {k : Nat} {o : OpS} {H : Hp} {Q : VK} {E : XK}
theorem begin_i (h1 : H d = some (.tup [.str c.path, .str c.guard, .str c.flight])) (h2 : H w = some (.tup [.str c.source, .str c.evict, .str c.stop]))
    (q : ∀ h lo lp H', Same H H' → H h = none → H lo = none → H lp = none → LawAt c H' h ⟨d, w, lo, lp, [], []⟩ HS.begin → Q (.ref h) H') : spBegin [.ref d, .ref w] H Q E := by
  unfold spBegin
  exact ⟨c, d, w, rfl, h1, h2, q⟩
theorem next_i (L : LawAt c H h A s) (e : A.oas[k]? = some a) (e' : s.ops[k]? = some o) (wt : WaitOk s o) (q : Q (sv (nextOf s o)) H) : spNext [.ref h, .ref a] H Q E := by
  unfold spNext
  exact ⟨c, h, a, A, s, k, o, rfl, L, e, e', wt, q⟩
theorem going_i (L : LawAt c H h A s) (l : s.ops.length ≤ 100) (q : ∀ p xs H', Same H H' → H p = none → H' p = some (.lst xs) → OpRefs A s xs (going s) → Q (.ref p) H') : spGoing [.ref h] H Q E := by
  unfold spGoing
  exact ⟨c, h, A, s, rfl, L, l, q⟩
theorem events_i (O : c.Ok) (L : LawAt c H h A s) (l : s.ops.length ≤ 100) (wt : ∀ o ∈ s.ops, WaitOk s o) (q : ∀ p xs es H', Same H H' → H p = none → H' p = some (.lst xs) → EvsAt H' xs es → Srt es → es.Perm (evList c s) → Q (.ref p) H') : spEvents [.ref h] H Q E := by
  unfold spEvents
  exact ⟨c, h, A, s, rfl, O, L, l, wt, q⟩
end
theorem sN' {H H1 : Hp} {p : Addr} {o : HO} (a : Same H H1) (n : H p = none) : Same H (upd H1 p o) := fun b u e => by
  rw [upd_ne (ne_of_none e n)]
  exact a b u e
theorem iteB {b : Bool} {A B : Prop} (h1 : b = true → A) (h2 : b = false → B) : if b = true then A else B := by
  cases b with
  | true => exact h1 rfl
  | false => exact h2 rfl
section
variable {P : Program} {w : World} {K : PySem.W.Frag} {mg : Str → Option Value} {base : Heap}
theorem ok_Lbegin (T : Txt K mg) : FnOk P w K mg base CX0 1 T.f_Lbegin T.fd_Lbegin ["design", "world"] spBegin := by
  refine T.F_Lbegin.ok sc_Lbegin (fun vs H Q E h => ?_) (fun cdv A outer s H vs Q E hr h => ?_)
  · unfold spBegin at h
    obtain ⟨c, d, w, rfl, _⟩ := h
    rfl
  · unfold spBegin at h
    obtain ⟨c, d, w, rfl, h1, h2, q⟩ := h
    refine ⟨_, (pss_one (ps_ret (pe_disp (pps_cons pe_str (pv 0) (pps_cons pe_str (pv 1) (pps_cons pe_str pe_int (pps_cons pe_str pe_int (pps_cons pe_str pe_non (pps_cons pe_str pe_int (pps_cons pe_str pe_non (pps_cons pe_str (pe_lst pa_nil) (pps_cons pe_str (pe_lst pa_nil) pps_nil))))))))) rfl rfl (by simp) (by decide)))), ?_⟩
    intro p np
    refine ⟨_, rfl, _, rfl, Nat.zero_le _, fun lo nlo => ⟨Nat.zero_le _, fun lp nlp => ?_⟩⟩
    have nlo' : H lo = none := (same_new np).free nlo
    have nlp1 : (upd H p (.dK [])) lp = none := (same_new nlo).free nlp
    have nlp' : H lp = none := (same_new np).free nlp1
    have ep : (upd (upd (upd H p (.dK [])) lo (.lst [])) lp (.lst [])) p = some (.dK []) := same_new nlp _ _ (same_new nlo _ _ upd_same)
    refine ⟨ep, [(.inr "design", .ref d), (.inr "world", .ref w), (.inr "db", .int 0), (.inr "rep", .int 0), (.inr "cache", .non), (.inr "mark", .int 0), (.inr "open", .non), (.inr "ops", .ref lo), (.inr "past", .ref lp)], rfl, (by show 9 ≤ 15; decide), ?_⟩
    have em : mergeK [] [(.inr "design", .ref d), (.inr "world", .ref w), (.inr "db", .int 0), (.inr "rep", .int 0), (.inr "cache", .non), (.inr "mark", .int 0), (.inr "open", .non), (.inr "ops", .ref lo), (.inr "past", .ref lp)] = hK d w HS.begin lo lp := by rfl
    rw [em]
    have npo : p ≠ lo := ne_of_none upd_same nlo
    have npl : p ≠ lp := ne_of_none (same_new nlo _ _ upd_same) nlp
    have nll : lo ≠ lp := ne_of_none upd_same nlp
    have S : Same H (upd (upd (upd (upd H p (.dK [])) lo (.lst [])) lp (.lst [])) p (.dK (hK d w HS.begin lo lp))) := sN' (sN' (sN' (same_new np) nlo') nlp') np
    refine q p lo lp _ S np nlo' nlp' ⟨upd_same, S _ _ h1, S _ _ h2, ?_, ?_, rfl, fun k a o e => by simp at e, rfl, fun i a e z => by simp at z, List.nodup_nil, nll⟩
    · rw [upd_ne npo.symm, upd_ne nll, upd_same]
      rfl
    · rw [upd_ne npl.symm, upd_same]
      rfl
theorem ok_Lnext (T : Txt K mg) : FnOk P w K mg base CX0 1 T.f_Lnext T.fd_Lnext ["h", "one"] spNext := by
  refine T.F_Lnext.ok sc_Lnext (fun vs H Q E h => ?_) (fun cdv A outer s H vs Q E hr h => ?_)
  · unfold spNext at h
    obtain ⟨c, h, a, A, s, k, o, rfl, _⟩ := h
    rfl
  · unfold spNext at h
    obtain ⟨c, h, a, A, s, k, o, rfl, L, e, e', wt, q⟩ := h
    have hu := hu_of hr
    have Ho := L.og k a o e e'
    refine ⟨_, (pss_cons (ps_if (pt_cmpR op_ne (pe_dget hu (pv 1) pe_str (fun _ _ => rfl)) pe_str (nomark _)) (pss_one (ps_ret (pe_dget hu (pv 1) pe_str (fun _ _ => rfl)))) pss_nil)
      (pss_one (ps_ret (pe_ifExp (pt_cmpR op_eq (pe_dget hu (pe_ix ix_list (pe_dget hu (pv 0) pe_str (fun _ _ => rfl)) (pe_dget hu (pv 1) pe_str (fun _ _ => rfl)) (fun _ _ => rfl)) pe_str (fun _ _ => rfl)) pe_str (nomark _)) pe_str pe_non)))), ?_⟩
    unfold nextOf at q
    refine ⟨_, rfl, _, _, rfl, dget (Ho) rfl, rfl, _, rfl, ?_⟩
    refine iteSn (fun n => ?_) (fun n => ?_)
    · rw [if_neg n] at q
      exact ⟨_, rfl, _, _, rfl, dget (Ho) rfl, q⟩
    · rw [if_pos n] at q
      obtain ⟨l, qo, el, eq⟩ := wt n
      obtain ⟨b, eb, hb⟩ := L.get eq
      have hbr : (A.oas.map V.ref)[l]? = some (.ref b) := by rw [List.getElem?_map, eb]; rfl
      rw [el] at q
      simp only [eq] at q
      refine ⟨_, rfl, _, _, rfl, dget (L.hd) rfl, _, rfl, _, _, rfl, dget (Ho) rfl, _, _, (l : Int), _, rfl, (by rw [el]; rfl), SqL.of L.lo, at_of rfl hbr, _, _, rfl, dget (hb) rfl, rfl, _, rfl, ?_⟩
      refine iteS (fun n2 => ?_) (fun n2 => ?_)
      · rw [if_pos n2] at q
        exact q
      · rw [if_neg n2] at q
        exact q
theorem ended_in (st : Str) : inV (.str st) [.str "ended", .str "stopped"] = (decide (st = "ended") || decide (st = "stopped")) := by
  have e1 : ∀ a b : Str, eqV (.str a) (.str b) = decide (b = a) := fun a b => by
    by_cases h : a = b
    · subst h; simp [eqV]
    · simp [eqV, h, Ne.symm h]
      try exact fun z => h z.symm
  unfold inV
  simp only [List.any_cons, List.any_nil, e1, Bool.or_false]
theorem ok_Lgoing (T : Txt K mg) : FnOk P w K mg base CX0 1 T.f_Lgoing T.fd_Lgoing ["h"] spGoing := by
  refine T.F_Lgoing.ok sc_Lgoing (fun vs H Q E h => ?_) (fun cdv A outer s H vs Q E hr h => ?_)
  · unfold spGoing at h
    obtain ⟨c, h, A, s, rfl, _⟩ := h
    rfl
  · unfold spGoing at h
    obtain ⟨c, h, A, s, rfl, L, l, q⟩ := h
    have hu := hu_of hr
    refine ⟨_, (pss_one (ps_ret (pe_lc (own := [("one", 1)]) rfl sc_Lgoing.nd (pi_list (pe_dget hu (pv 0) pe_str (fun _ _ => rfl))) (blkOk_by (N := ["h", "one"]) (sc := defScope s_Lgoing) (by decide +kernel)) (fun _ _ _ _ _ => (pg_name (i := 1) sc_Lgoing.nd rfl (Or.inl rfl))) (fun _ _ _ _ _ => (pts_one (pt_cmpR (op_notInK (K := K) rfl) (pe_dget hu (pv 1) pe_str (fun _ _ => rfl)) (pe_lst (pa_cons pe_str (pa_cons pe_str pa_nil))) (by rfl)))) (fun _ _ _ _ _ => (pv 1))))), ?_⟩
    refine ⟨_, rfl, _, _, rfl, dget (L.hd) rfl, A.lo, rfl, ⟨_, SqL.of L.lo⟩, fun D nD => ?_⟩
    refine lc_list (xs := A.oas.map V.ref) (fun i H' => ∃ acc, Same H H' ∧ H' D = some (.lst acc) ∧ OpRefs A s acc ((s.ops.take i).filter fun o => !endedB o)) ⟨[], same_new nD, upd_same, .nil⟩ (fun i H' _ ⟨_, S, _⟩ => SqL.of (L.same S).lo) ?_ ?_
    · rintro i y H' hi ⟨acc, S, hD, R⟩
      rw [List.getElem?_map] at hi
      obtain ⟨b, eb, rfl⟩ : ∃ b, A.oas[i]? = some b ∧ V.ref b = y := by
        cases ez : A.oas[i]? with
        | none => rw [ez] at hi; cases hi
        | some b => rw [ez] at hi; exact ⟨b, rfl, Option.some.inj hi⟩
      have L1 := L.same S
      obtain ⟨o, eo, ho⟩ := L1.ofAt eb
      have h3 : s.ops.take (i + 1) = s.ops.take i ++ [o] := by
        rw [List.take_succ, eo]
        rfl
      have al : acc.length ≤ 100 := by
        rw [R.length]
        refine Nat.le_trans (List.length_filter_le _ _) ?_
        rw [List.length_take]
        omega
      refine ⟨rfl, _, rfl, _, _, rfl, dget (ho) rfl, (by show 2 ≤ sizeLine; decide), fun p np => ?_⟩
      have S2 := sN S (o := .lst [.str "ended", .str "stopped"]) np
      have hp : (upd H' p (.lst [.str "ended", .str "stopped"])) p = some (.lst [.str "ended", .str "stopped"]) := upd_same
      have hD2 := same_new (o := .lst [.str "ended", .str "stopped"]) np _ _ hD
      generalize upd H' p (.lst [.str "ended", .str "stopped"]) = H2 at S2 hp hD2
      refine ⟨p, _, rfl, .inl (SqL.of hp), rfl, rfl, _, rfl, ?_⟩
      have z : (if true = true then !inV (.str o.stage) [.str "ended", .str "stopped"] else inV (.str o.stage) [.str "ended", .str "stopped"]) = !endedB o := by
        rw [if_pos rfl, ended_in]
        rfl
      rw [z]
      refine iteB (fun n => ?_) (fun n => ?_)
      · refine ⟨_, rfl, acc, hD2, small9 al, acc ++ [.ref b], sN' S2 nD, upd_same, ?_⟩
        rw [h3, List.filter_append, List.filter_cons, if_pos n]
        exact Paired.app R (.cons ⟨i, b, rfl, eb, eo⟩ .nil)
      · refine ⟨acc, S2, hD2, ?_⟩
        rw [h3, List.filter_append, List.filter_cons, if_neg (by rw [n]; decide)]
        simpa using R
    · rintro H' ⟨acc, S, hD, R⟩
      rw [List.length_map, L.ol, List.take_length] at R
      exact q D acc H' S nD hD R
end
end Ca

set_option Elab.async false
set_option linter.all false
set_option maxRecDepth 100000
set_option maxHeartbeats 4000000
namespace Ca
open PySem L2
theorem EvsAt.upd {H : Hp} {xs zs : List V} {es : List Ev} {f : Addr} {o : HO} (x : EvsAt H xs es) (h : H f = some (.lst zs)) : EvsAt (upd H f o) xs es := Paired.mapP x fun _ _ ⟨t, a, b⟩ => ⟨t, a, by
  rw [upd_ne (ne_of b h (by intro z; cases z))]
  exact b⟩
theorem take_snoc {α : Type} {l : List α} {i : Nat} {o : α} (e : l[i]? = some o) : l.take (i + 1) = l.take i ++ [o] := by
  rw [List.take_succ, e]
  rfl
theorem take_len {α : Type} (l : List α) (i : Nat) : (l.take i).length ≤ l.length := by rw [List.length_take]; omega
theorem going_len (s : HS) : (going s).length ≤ s.ops.length := List.length_filter_le _ _
section
variable {P : Program} {w : World} {K : PySem.W.Frag} {mg : Str → Option Value} {base : Heap}
def evBf (s : HS) (o : OpS) : Option Ev := (nextOf s o).map fun w => (w, some (o.number : Int))
theorem ok_Levents (T : Txt K mg) : FnOk P w K mg base CX0 2 T.f_Levents T.fd_Levents ["h"] spEvents := by
  refine T.F_Levents.ok sc_Levents (fun vs H Q E h => ?_) (fun cdv A outer s H vs Q E hr h => ?_)
  · unfold spEvents at h
    obtain ⟨c, h, A, s, rfl, _⟩ := h
    rfl
  · unfold spEvents at h
    obtain ⟨c, h, A, s, rfl, O, L, ln, wt, q⟩ := h
    have hu := hu_of hr
    refine ⟨_, (pss_cons (ps_par (i := 1) (j := 2) rfl sc_Levents.nd rfl rfl (by decide) rfl rfl (pa_cons (pe_callB call_len_seq (by rfl) T.n_len (by decide +kernel) (pa_cons (pe_dget hu (pv 0) pe_str (fun _ _ => rfl)) pa_nil)) (pa_cons (pe_call (ok_Lgoing T) (hr.mono (by decide)) rfl T.m_Lgoing T.F_Lgoing.kp (b_Lgoing T) .nil pass0 (pa_cons (pv 0) pa_nil)) pa_nil)) (by rfl))
      (pss_cons (ps_set (i := 3) sc_Levents.nd rfl (Or.inl rfl) (pe_lst (pa_cons (pe_tup (pa_cons pe_str (pa_cons (pv 1) pa_nil))) (pa_cons (pe_tup (pa_cons (pe_ix ix_list (pe_split (pe_ix ix_tup (pe_dget hu (pv 0) pe_str (fun _ _ => rfl)) pe_int (fun _ _ => rfl)) pe_str) pe_int (fun _ _ => rfl)) (pa_cons (pv 1) pa_nil))) pa_nil))))
      (pss_cons (ps_set (i := 3) sc_Levents.nd rfl (Or.inl rfl) (pe_op op_cat (pv 3) (pe_lc (own := [("one", 4)]) rfl sc_Levents.nd (pi_list (pv 2)) (blkOk_by (N := ["h", "many", "going", "found", "one"]) (sc := defScope s_Levents) (by decide +kernel)) (fun _ _ _ _ _ => (pg_name (i := 4) sc_Levents.nd rfl (Or.inl rfl))) (fun _ _ _ _ _ => (pts_one (pt_cmpR op_notN (pe_call (ok_Lnext T) (hr.mono (by decide)) rfl T.m_Lnext T.F_Lnext.kp (b_Lnext T) .nil pass0 (pa_cons (pv 0) (pa_cons (pv 4) pa_nil))) pe_non (nomark _)))) (fun _ _ _ _ _ => (pe_tup (pa_cons (pe_call (ok_Lnext T) (hr.mono (by decide)) rfl T.m_Lnext T.F_Lnext.kp (b_Lnext T) .nil pass0 (pa_cons (pv 0) (pa_cons (pv 4) pa_nil))) (pa_cons (pe_dget hu (pv 4) pe_str (fun _ _ => rfl)) pa_nil)))))))
      (Evl.pss_cut (ps_if (pt_cmpR op_eq (pe_ix ix_tup (pe_dget hu (pv 0) pe_str (fun _ _ => rfl)) pe_int (fun _ _ => rfl)) pe_str (nomark _)) (pss_one (ps_set (i := 3) sc_Levents.nd rfl (Or.inl rfl) (pe_op op_cat (pv 3) (pe_lc (own := [("one", 4)]) rfl sc_Levents.nd (pi_list (pv 2)) (blkOk_by (N := ["h", "many", "going", "found", "one"]) (sc := defScope s_Levents) (by decide +kernel)) (fun _ _ _ _ _ => (pg_name (i := 4) sc_Levents.nd rfl (Or.inl rfl))) (fun _ _ _ _ _ => pts_nil) (fun _ _ _ _ _ => (pe_tup (pa_cons pe_str (pa_cons (pe_dget hu (pv 4) pe_str (fun _ _ => rfl)) pa_nil)))))))) pss_nil)
      (Evl.pss_cut (ps_if (PW.pt (pw_and (pt_cmpR op_eq (pe_ix ix_tup (pe_dget hu (pv 0) pe_str (fun _ _ => rfl)) pe_int (fun _ _ => rfl)) pe_str (nomark _)) (pw_and1 (PW.pt (pw_or (pt_cmpR op_notN (pe_dget hu (pv 0) pe_str (fun _ _ => rfl)) pe_non (nomark _)) (pw_or1 (pt_cmpR op_gt (pe_dget hu (pv 0) pe_str (fun _ _ => rfl)) pe_int (nomark _)))))))) (pss_one (ps_expr (pe_bm PySem.F.plainAttrs_list PySem.F.slot_list_append PySem.F.type_list_append mt_append (pv 3) (pa_cons (pe_tup (pa_cons pe_str pa_nil)) pa_nil)))) pss_nil)
      (Evl.pss_cut (ps_if (PW.pt (pw_and (pt_cmpR op_eq (pe_ix ix_tup (pe_dget hu (pv 0) pe_str (fun _ _ => rfl)) pe_int (fun _ _ => rfl)) pe_str (nomark _)) (pw_and1 (pt_cmpR op_lt (pe_dget hu (pv 0) pe_str (fun _ _ => rfl)) (pe_dget hu (pv 0) pe_str (fun _ _ => rfl)) (nomark _))))) (pss_one (ps_expr (pe_bm PySem.F.plainAttrs_list PySem.F.slot_list_append PySem.F.type_list_append mt_append (pv 3) (pa_cons (pe_tup (pa_cons pe_str pa_nil)) pa_nil)))) pss_nil)
      (pss_one (ps_ret (pe_callB cr_sortedE (by rfl) T.n_sorted (by decide +kernel) (pa_cons (pv 3) pa_nil)))))))))), ?_⟩
    refine ⟨_, rfl, _, _, rfl, dget (L.hd) rfl, _, _, rfl, .inl (SqL.of L.lo), _, rfl, ?_⟩
    rw [List.length_map, L.ol]
    refine going_i L ln fun g gs H1 S1 ng hg R => ?_
    have L1 := L.same S1
    refine ⟨_, _, rfl, _, rfl, (by show 2 ≤ sizeLine; decide), fun t1 n1 => ?_⟩
    have L2 := L1.new (o := .tup [.str "look", .int (s.ops.length : Int)]) n1
    have S2 := sN S1 (o := .tup [.str "look", .int (s.ops.length : Int)]) n1
    have hg2 := same_new (o := .tup [.str "look", .int (s.ops.length : Int)]) n1 _ _ hg
    have h21 : (upd H1 t1 (.tup [.str "look", .int (s.ops.length : Int)])) t1 = some (.tup (evV ("look", some (s.ops.length : Int)))) := upd_same
    generalize upd H1 t1 (.tup [.str "look", .int (s.ops.length : Int)]) = H2 at L2 S2 hg2 h21
    refine ⟨_, rfl, _, _, rfl, dget (L2.hd) rfl, _, _, _, _, rfl, rfl, SqT.of (L2.dd), rfl, ⟨_, rfl⟩, _, _, rfl, rfl, rfl, O.plen, fun p3 np3 => ?_⟩
    have hp3 : (upd H2 p3 (.lst ((Txt.split c.path " ").map V.str))) p3 = some (.lst (c.steps.map V.str)) := upd_same
    have L3 := L2.new (o := .lst ((Txt.split c.path " ").map V.str)) np3
    have S3 := sN S2 (o := .lst ((Txt.split c.path " ").map V.str)) np3
    have S23 := same_new (o := .lst ((Txt.split c.path " ").map V.str)) np3
    generalize upd H2 p3 (.lst ((Txt.split c.path " ").map V.str)) = H3 at hp3 L3 S3 S23
    have hfw : (c.steps.map V.str)[0]? = some (.str (firstW c)) := by
      rw [List.getElem?_map]
      unfold firstW
      rw [List.getD_eq_getElem?_getD, List.getElem?_eq_getElem O.slen.1]
      rfl
    refine ⟨p3, _, _, _, rfl, rfl, SqL.of hp3, at_of (j := 0) rfl hfw, _, rfl, (by show 2 ≤ sizeLine; decide), fun t2 n2 => ⟨(by show 2 ≤ sizeLine; decide), fun f nf => ?_⟩⟩
    have S4 : Same H3 (upd (upd H3 t2 (.tup [.str (firstW c), .int (s.ops.length : Int)])) f (.lst [.ref t1, .ref t2])) := sN (same_new n2) nf
    have hf : (upd (upd H3 t2 (.tup [.str (firstW c), .int (s.ops.length : Int)])) f (.lst [.ref t1, .ref t2])) f = some (.lst [.ref t1, .ref t2]) := upd_same
    have hx : EvsAt (upd (upd H3 t2 (.tup [.str (firstW c), .int (s.ops.length : Int)])) f (.lst [.ref t1, .ref t2])) [.ref t1, .ref t2] (evA c s) := by
      refine .cons ⟨t1, rfl, S4 _ _ (S23 _ _ h21)⟩ (.cons ⟨t2, rfl, same_new nf _ _ upd_same⟩ .nil)
    generalize upd (upd H3 t2 (.tup [.str (firstW c), .int (s.ops.length : Int)])) f (.lst [.ref t1, .ref t2]) = H4 at S4 hf hx
    have S5 := S3.trans S4
    have L5 := L.same S5
    have hg5 := S4 _ _ (S23 _ _ hg2)
    -- the steps that can be done
    refine ⟨_, rfl, _, rfl, g, rfl, ⟨_, SqL.of hg5⟩, fun D nD => ?_⟩
    refine lc_list (xs := gs) (fun i H' => ∃ acc, Same H4 H' ∧ H' D = some (.lst acc) ∧ EvsAt H' acc (((going s).take i).filterMap (evBf s))) ⟨[], same_new nD, upd_same, .nil⟩ (fun i H' _ ⟨_, S, _⟩ => SqL.of (S _ _ hg5)) ?_ ?_
    · rintro i y H' hi ⟨acc, S, hD, X⟩
      obtain ⟨o, eo, k, a, rfl, ea, ek⟩ := pget R hi
      have L6 := L5.same S
      have ho := L6.og k a o ea ek
      have wo := wt o (List.mem_of_getElem? ek)
      have al : acc.length ≤ 100 := by
        rw [X.length]
        exact Nat.le_trans (List.length_filterMap_le _ _) (Nat.le_trans (take_len _ _) (Nat.le_trans (going_len s) ln))
      rw [take_snoc eo, List.filterMap_append]
      refine ⟨rfl, _, rfl, _, rfl, ?_⟩
      refine next_i L6 ea ek wo ⟨rfl, _, rfl, ?_⟩
      cases en : nextOf s o with
      | none =>
        refine iteF ⟨acc, S, hD, ?_⟩
        have z : List.filterMap (evBf s) [o] = [] := by simp [evBf, en]
        rw [z, List.append_nil]
        exact X
      | some nw =>
        refine iteT ?_
        refine ⟨_, rfl, _, rfl, ?_⟩
        refine next_i L6 ea ek wo ?_
        rw [en]
        refine ⟨_, rfl, _, _, rfl, dget (ho) rfl, (by show 2 ≤ sizeLine; decide), fun t nt => ?_⟩
        have z : List.filterMap (evBf s) [o] = [(nw, some (o.number : Int))] := by simp [evBf, en]
        rw [z]
        have X7 := X.same (same_new (o := .tup [sv (some nw), .int (o.number : Int)]) nt)
        have ht : (upd H' t (.tup [sv (some nw), .int (o.number : Int)])) t = some (.tup (evV (nw, some (o.number : Int)))) := upd_same
        have hD7 := same_new (o := .tup [sv (some nw), .int (o.number : Int)]) nt _ _ hD
        have S7 := sN S (o := .tup [sv (some nw), .int (o.number : Int)]) nt
        generalize upd H' t (.tup [sv (some nw), .int (o.number : Int)]) = H7 at X7 ht hD7 S7
        refine ⟨acc, hD7, small9 al, acc ++ [.ref t], sN' S7 nD, upd_same, ?_⟩
        exact EvsAt.upd (Paired.app X7 (.cons ⟨t, rfl, ht⟩ .nil)) hD7
    rintro H' ⟨acc, S, hD, X⟩
    have eg : gs.length = (going s).length := R.length
    rw [eg, List.take_length] at X
    have al : acc.length ≤ 100 := by
      rw [X.length]
      exact Nat.le_trans (List.length_filterMap_le _ _) (Nat.le_trans (going_len s) ln)
    have S6 := S5.trans S
    have hg6 := S _ _ hg5
    have hf6 := S _ _ hf
    have hx6 := hx.same S
    refine ⟨f, D, _, _, rfl, rfl, hf6, hD, (Nat.le_trans (show 2 + acc.length ≤ 300 by omega) (by decide)), fun f2 nf2 => ?_⟩
    have S8 := sN S6 (o := .lst ([.ref t1, .ref t2] ++ acc)) nf2
    have hg8 := same_new (o := .lst ([.ref t1, .ref t2] ++ acc)) nf2 _ _ hg6
    have hf8 : (upd H' f2 (.lst ([.ref t1, .ref t2] ++ acc))) f2 = some (.lst ([.ref t1, .ref t2] ++ acc)) := upd_same
    have X8 : EvsAt (upd H' f2 (.lst ([.ref t1, .ref t2] ++ acc))) ([.ref t1, .ref t2] ++ acc) (evA c s ++ evB s) := EvsAt.same (Paired.app hx6 X) (same_new nf2)
    have nf8 : H f2 = none := S6.free nf2
    have ll : ([.ref t1, .ref t2] ++ acc : List V).length ≤ 200 := by
      rw [List.length_append]
      show 2 + acc.length ≤ 200
      omega
    generalize ([.ref t1, .ref t2] ++ acc : List V) = xs at S8 hg8 hf8 X8 ll
    generalize upd H' f2 (.lst xs) = H8 at S8 hg8 hf8 X8
    clear X al hx6 hf6 hg6 S6 S hD hx hf hg5 S5 S4 L5 S23 L3 S3 hp3 hg2 S2 L2 L1 h21
    -- stops
    refine ⟨fun σ' H' => ∃ f xs, σ' = [some (.ref h), some (.int (s.ops.length : Int)), some (.ref g), some (.ref f), none] ∧ Same H H' ∧ H f = none ∧ H' f = some (.lst xs) ∧ EvsAt H' xs (evA c s ++ evB s ++ evC c s) ∧ xs.length ≤ 400, ?_, ?_⟩
    · have L8 := L.same S8
      refine ⟨_, rfl, _, _, rfl, dget (L8.hd) rfl, _, _, _, _, rfl, rfl, SqT.of (L8.ww), rfl, rfl, _, rfl, ?_⟩
      unfold evC
      refine iteS (fun n => ?_) (fun n => ?_)
      · rw [if_pos n]
        refine ⟨_, rfl, _, rfl, g, rfl, ⟨_, SqL.of hg8⟩, fun D nD => ?_⟩
        refine lc_list (xs := gs) (fun i H' => ∃ acc, Same H8 H' ∧ H' D = some (.lst acc) ∧ EvsAt H' acc (((going s).take i).map fun o => ("stop", some (o.number : Int)))) ⟨[], same_new nD, upd_same, .nil⟩ (fun i H' _ ⟨_, S, _⟩ => SqL.of (S _ _ hg8)) ?_ ?_
        · rintro i y H' hi ⟨acc, S, hD, X⟩
          obtain ⟨o, eo, k, a, rfl, ea, ek⟩ := pget R hi
          have L6 := L8.same S
          have ho := L6.og k a o ea ek
          have al : acc.length ≤ 100 := by
            rw [X.length, List.length_map]
            exact Nat.le_trans (take_len _ _) (Nat.le_trans (going_len s) ln)
          rw [take_snoc eo, List.map_append]
          refine ⟨rfl, ?_⟩
          simp only [tYes, reduceIte]
          refine ⟨_, rfl, _, _, rfl, dget (ho) rfl, (by show 2 ≤ sizeLine; decide), fun t nt => ?_⟩
          have X7 := X.same (same_new (o := .tup [.str "stop", .int (o.number : Int)]) nt)
          have ht : (upd H' t (.tup [.str "stop", .int (o.number : Int)])) t = some (.tup (evV ("stop", some (o.number : Int)))) := upd_same
          have hD7 := same_new (o := .tup [.str "stop", .int (o.number : Int)]) nt _ _ hD
          have S7 := sN S (o := .tup [.str "stop", .int (o.number : Int)]) nt
          generalize upd H' t (.tup [.str "stop", .int (o.number : Int)]) = H7 at X7 ht hD7 S7
          refine ⟨acc, hD7, small9 al, acc ++ [.ref t], sN' S7 nD, upd_same, ?_⟩
          exact EvsAt.upd (Paired.app X7 (.cons ⟨t, rfl, ht⟩ .nil)) hD7
        · rintro H' ⟨acc, S, hD, X⟩
          have eg : gs.length = (going s).length := R.length
          rw [eg, List.take_length] at X
          have al : acc.length ≤ 100 := by
            rw [X.length, List.length_map]
            exact Nat.le_trans (going_len s) ln
          refine ⟨f2, D, _, _, rfl, rfl, S _ _ hf8, hD, (Nat.le_trans (show xs.length + acc.length ≤ 300 by omega) (by decide)), fun f3 nf3 => ?_⟩
          refine ⟨f3, _, rfl, sN (S8.trans S) nf3, (S8.trans S).free nf3, upd_same, ?_, by rw [List.length_append]; omega⟩
          exact EvsAt.same (Paired.app (X8.same S) X) (same_new nf3)
      · rw [if_neg n, List.append_nil]
        exact ⟨f2, xs, rfl, S8, nf8, hf8, X8, by omega⟩
    · rintro σ' H' ⟨f3, ys, rfl, S9, nf3, hf9, X9, l9⟩
      clear X8 hf8 nf8 hg8 S8 ll
      refine ⟨fun σ' H' => ∃ f xs, σ' = [some (.ref h), some (.int (s.ops.length : Int)), some (.ref g), some (.ref f), none] ∧ Same H H' ∧ H f = none ∧ H' f = some (.lst xs) ∧ EvsAt H' xs (evA c s ++ evB s ++ evC c s ++ evD c s) ∧ xs.length ≤ 401, ?_, ?_⟩
      · have L9 := L.same S9
        have push : canEvict c s = true → ∀ t, H' t = none → ∃ f xs, [some (V.ref h), some (V.int (s.ops.length : Int)), some (V.ref g), some (V.ref f3), none] = [some (V.ref h), some (V.int (s.ops.length : Int)), some (V.ref g), some (V.ref f), none] ∧ Same H (upd (upd H' t (.tup [.str "evict"])) f3 (.lst (ys ++ [.ref t]))) ∧ H f = none ∧ (upd (upd H' t (.tup [.str "evict"])) f3 (.lst (ys ++ [.ref t]))) f = some (.lst xs) ∧ EvsAt (upd (upd H' t (.tup [.str "evict"])) f3 (.lst (ys ++ [.ref t]))) xs (evA c s ++ evB s ++ evC c s ++ evD c s) ∧ xs.length ≤ 401 := fun ce t nt => by
          refine ⟨f3, ys ++ [.ref t], rfl, sN' (sN S9 nt) nf3, nf3, upd_same, ?_, by rw [List.length_append, List.length_singleton]; omega⟩
          unfold evD
          rw [if_pos ce]
          refine EvsAt.upd (zs := ys) (Paired.app (X9.same (same_new nt)) (.cons ⟨t, rfl, upd_same⟩ .nil)) (same_new nt _ _ hf9)
        have skip : canEvict c s = false → ∃ f xs, [some (V.ref h), some (V.int (s.ops.length : Int)), some (V.ref g), some (V.ref f3), none] = [some (V.ref h), some (V.int (s.ops.length : Int)), some (V.ref g), some (V.ref f), none] ∧ Same H H' ∧ H f = none ∧ H' f = some (.lst xs) ∧ EvsAt H' xs (evA c s ++ evB s ++ evC c s ++ evD c s) ∧ xs.length ≤ 401 := fun ce => by
          refine ⟨f3, ys, rfl, S9, nf3, hf9, ?_, by omega⟩
          unfold evD
          rw [if_neg (by rw [ce]; decide), List.append_nil]
          exact X9
        unfold canEvict at push skip
        refine ⟨_, rfl, _, _, rfl, dget (L9.hd) rfl, _, _, _, _, rfl, rfl, SqT.of (L9.ww), rfl, rfl, _, rfl, ?_⟩
        refine iteS (fun n => ?_) (fun n => ?_)
        · rw [decide_eq_true n, Bool.true_and] at push skip
          refine ⟨_, rfl, _, _, rfl, dget (L9.hd) rfl, rfl, _, rfl, ?_⟩
          refine iteNn (fun v n2 => ?_) (fun n2 => ?_)
          · rw [n2] at push
            refine ⟨_, rfl, .inl ⟨rfl, _, SqL.of hf9⟩, (by show 1 ≤ sizeLine; decide), fun t nt => ⟨f3, ys, _, rfl, rfl, same_new nt _ _ hf9, Nat.lt_of_le_of_lt l9 (by decide), ?_⟩⟩
            exact push rfl t nt
          · rw [n2] at push skip
            refine ⟨_, rfl, _, _, rfl, dget (L9.hd) rfl, (s.mark : Int), 0, rfl, rfl, _, rfl, ?_⟩
            refine iteB (fun n3 => ?_) (fun n3 => ?_)
            · have n3 : 0 < s.mark := by have := of_decide_eq_true n3; omega
              refine ⟨_, rfl, .inl ⟨rfl, _, SqL.of hf9⟩, (by show 1 ≤ sizeLine; decide), fun t nt => ⟨f3, ys, _, rfl, rfl, same_new nt _ _ hf9, Nat.lt_of_le_of_lt l9 (by decide), ?_⟩⟩
              exact push (by simpa using n3) t nt
            · have n3 : ¬ 0 < s.mark := by have := of_decide_eq_false n3; omega
              exact skip (by simpa using n3)
        · rw [decide_eq_false n, Bool.false_and] at skip
          exact skip rfl
      · rintro σ' H'' ⟨f4, zs, rfl, S10, nf4, hf10, X10, l10⟩
        clear X9 hf9 nf3 S9 l9
        refine ⟨fun σ' H' => ∃ f xs, σ' = [some (.ref h), some (.int (s.ops.length : Int)), some (.ref g), some (.ref f), none] ∧ Same H H' ∧ H f = none ∧ H' f = some (.lst xs) ∧ EvsAt H' xs (evList c s) ∧ xs.length ≤ 402, ?_, ?_⟩
        · have L10 := L.same S10
          have push : canCopy c s = true → ∀ t, H'' t = none → ∃ f xs, [some (V.ref h), some (V.int (s.ops.length : Int)), some (V.ref g), some (V.ref f4), none] = [some (V.ref h), some (V.int (s.ops.length : Int)), some (V.ref g), some (V.ref f), none] ∧ Same H (upd (upd H'' t (.tup [.str "copy"])) f4 (.lst (zs ++ [.ref t]))) ∧ H f = none ∧ (upd (upd H'' t (.tup [.str "copy"])) f4 (.lst (zs ++ [.ref t]))) f = some (.lst xs) ∧ EvsAt (upd (upd H'' t (.tup [.str "copy"])) f4 (.lst (zs ++ [.ref t]))) xs (evList c s) ∧ xs.length ≤ 402 := fun ce t nt => by
            refine ⟨f4, zs ++ [.ref t], rfl, sN' (sN S10 nt) nf4, nf4, upd_same, ?_, by rw [List.length_append, List.length_singleton]; omega⟩
            unfold evList evE
            rw [if_pos ce]
            refine EvsAt.upd (zs := zs) (Paired.app (X10.same (same_new nt)) (.cons ⟨t, rfl, upd_same⟩ .nil)) (same_new nt _ _ hf10)
          have skip : canCopy c s = false → ∃ f xs, [some (V.ref h), some (V.int (s.ops.length : Int)), some (V.ref g), some (V.ref f4), none] = [some (V.ref h), some (V.int (s.ops.length : Int)), some (V.ref g), some (V.ref f), none] ∧ Same H H'' ∧ H f = none ∧ H'' f = some (.lst xs) ∧ EvsAt H'' xs (evList c s) ∧ xs.length ≤ 402 := fun ce => by
            refine ⟨f4, zs, rfl, S10, nf4, hf10, ?_, by omega⟩
            unfold evList evE
            rw [if_neg (by rw [ce]; decide), List.append_nil]
            exact X10
          unfold canCopy at push skip
          refine ⟨_, rfl, _, _, rfl, dget (L10.hd) rfl, _, _, _, _, rfl, rfl, SqT.of (L10.ww), rfl, rfl, _, rfl, ?_⟩
          refine iteS (fun n => ?_) (fun n => ?_)
          · rw [decide_eq_true n, Bool.true_and] at push skip
            refine ⟨_, rfl, _, _, rfl, dget (L10.hd) rfl, _, rfl, _, _, rfl, dget (L10.hd) rfl, (s.rep : Int), (s.db : Int), rfl, rfl, _, rfl, ?_⟩
            refine iteB (fun n3 => ?_) (fun n3 => ?_)
            · have n3 : s.rep < s.db := by have := of_decide_eq_true n3; omega
              refine ⟨_, rfl, .inl ⟨rfl, _, SqL.of hf10⟩, (by show 1 ≤ sizeLine; decide), fun t nt => ⟨f4, zs, _, rfl, rfl, same_new nt _ _ hf10, Nat.lt_of_le_of_lt l10 (by decide), ?_⟩⟩
              exact push (by simpa using n3) t nt
            · have n3 : ¬ s.rep < s.db := by have := of_decide_eq_false n3; omega
              exact skip (by simpa using n3)
          · rw [decide_eq_false n, Bool.false_and] at skip
            exact skip rfl
        · rintro σ' H3 ⟨f5, us, rfl, S11, nf5, hf11, X11, l11⟩
          refine ⟨_, rfl, f5, us, evOf H3, rfl, SqL.of hf11, X11.all, fun vs p sr pm np => ?_⟩
          obtain ⟨x1, x2, x3⟩ := X11.sorted sr pm
          exact q p vs _ _ (sN S11 np) (S11.free np) upd_same (x1.same (same_new np)) x2 x3
end
end Ca

set_option Elab.async false
set_option linter.all false
set_option maxRecDepth 100000
set_option maxHeartbeats 4000000
namespace Ca
open PySem L2
/-! ### what holds of the law's own cache behind every run -/
structure OpWf (c : Conf) (n k : Nat) (o : OpS) : Prop where
  num : o.number = k
  kd : o.kind = "read" ∨ o.kind = "write"
  wr : o.kind = "write" → ¬ o.stage = "ended" → ¬ o.stage = "stopped" → o.step < c.steps.length ∧ o.stage = c.steps.getD o.step "" ∧ (o.stage = "set" → o.version.isSome = true)
  rd : o.kind = "read" → o.stage = "look" ∨ o.stage = "fetch" ∨ (o.stage = "fill" ∧ o.version.isSome = true) ∨ (o.stage = "waits" ∧ ∃ l, o.leader = some l ∧ l < n) ∨ o.stage = "ended" ∨ o.stage = "stopped"
  str : PyData.strOk o.stage = true
def WfL (c : Conf) (l : List OpS) : Prop := ∀ (k : Nat) o, l[k]? = some o → OpWf c l.length k o
structure Wf (c : Conf) (s : HS) : Prop where
  ops : WfL c s.ops
  opn : ∀ l, s.opn = some l → l < s.ops.length
structure PathOk (p : Str) : Prop where
  fst : (Txt.split p " ").getD 0 "" = "drop" ∨ (Txt.split p " ").getD 0 "" = "store"
  words : ∀ w ∈ Txt.split p " ", w = "drop" ∨ w = "store" ∨ w = "set"
  set : ∀ j, (Txt.split p " ").getD (j + 1) "" = "set" → (Txt.split p " ").getD j "" = "store"
theorem pathOk_of {p : Str} {a : List Str} (h : Txt.split p " " = a) (h1 : a.getD 0 "" = "drop" ∨ a.getD 0 "" = "store") (h2 : ∀ w ∈ a, w = "drop" ∨ w = "store" ∨ w = "set") (h3 : ∀ j, j < 3 → a.getD (j + 1) "" = "set" → a.getD j "" = "store") (h4 : a.length ≤ 3) : PathOk p := by
  refine ⟨by rw [h]; exact h1, by rw [h]; exact h2, fun j => ?_⟩
  rw [h]
  by_cases hj : j < 3
  · exact h3 j hj
  · intro e
    rw [List.getD_eq_getElem?_getD, List.getElem?_eq_none (by omega)] at e
    exact absurd e (by decide +kernel)
theorem Conf.Ok.path {c : Conf} (O : c.Ok) : PathOk c.path := by
  have := O.p
  simp only [pathsL, List.mem_cons, List.not_mem_nil, or_false] at this
  rcases this with e | e | e | e | e <;> rw [e]
  · exact pathOk_of (a := ["drop", "store"]) (by decide +kernel) (by decide +kernel) (by decide +kernel) (by decide +kernel) (by decide)
  · exact pathOk_of (a := ["drop", "store", "drop"]) (by decide +kernel) (by decide +kernel) (by decide +kernel) (by decide +kernel) (by decide)
  · exact pathOk_of (a := ["store"]) (by decide +kernel) (by decide +kernel) (by decide +kernel) (by decide +kernel) (by decide)
  · exact pathOk_of (a := ["store", "drop"]) (by decide +kernel) (by decide +kernel) (by decide +kernel) (by decide +kernel) (by decide)
  · exact pathOk_of (a := ["store", "set"]) (by decide +kernel) (by decide +kernel) (by decide +kernel) (by decide +kernel) (by decide)
theorem ne_words : (¬ ("drop" : Str) = "waits" ∧ ¬ ("store" : Str) = "waits" ∧ ¬ ("set" : Str) = "waits") ∧ (¬ ("drop" : Str) = "look" ∧ ¬ ("store" : Str) = "look" ∧ ¬ ("set" : Str) = "look") ∧ (¬ ("drop" : Str) = "set" ∧ ¬ ("store" : Str) = "set") ∧
    (¬ ("read" : Str) = "write") ∧ (¬ ("look" : Str) = "waits" ∧ ¬ ("fetch" : Str) = "waits" ∧ ¬ ("fill" : Str) = "waits") ∧ (¬ ("drop" : Str) = "ended" ∧ ¬ ("store" : Str) = "ended" ∧ ¬ ("set" : Str) = "ended") ∧ (¬ ("drop" : Str) = "stopped" ∧ ¬ ("store" : Str) = "stopped" ∧ ¬ ("set" : Str) = "stopped") ∧
    (¬ ("look" : Str) = "ended" ∧ ¬ ("look" : Str) = "stopped") := by decide +kernel
theorem step_word {c : Conf} (O : c.Ok) {j : Nat} (h : j < c.steps.length) : c.steps.getD j "" = "drop" ∨ c.steps.getD j "" = "store" ∨ c.steps.getD j "" = "set" := by
  rw [List.getD_eq_getElem?_getD, List.getElem?_eq_getElem h, Option.getD_some]
  exact O.path.words _ (List.getElem_mem h)
theorem word_str {w : Str} (h : w = "drop" ∨ w = "store" ∨ w = "set") : PyData.strOk w = true := by
  rcases h with e | e | e <;> rw [e] <;> decide +kernel
section
variable {c : Conf} {l : List OpS} {k n : Nat} {o o' : OpS} {s : HS}
theorem OpWf.mono {m : Nat} (h : OpWf c n k o) (e : n ≤ m) : OpWf c m k o := ⟨h.num, h.kd, h.wr, fun r => by
  rcases h.rd r with z | z | z | ⟨z, l, y, x⟩ | z | z
  · exact .inl z
  · exact .inr (.inl z)
  · exact .inr (.inr (.inl z))
  · exact .inr (.inr (.inr (.inl ⟨z, l, y, by omega⟩)))
  · exact .inr (.inr (.inr (.inr (.inl z))))
  · exact .inr (.inr (.inr (.inr (.inr z)))), h.str⟩
theorem WfL.set (h : WfL c l) (p : OpWf c l.length k o') : WfL c (l.set k o') := fun j u e => by
  rw [List.length_set]
  by_cases q : k = j
  · subst q
    by_cases hk : k < l.length
    · rw [List.getElem?_set_self hk] at e
      cases e
      exact p
    · rw [List.getElem?_eq_none (by rw [List.length_set]; omega)] at e
      cases e
  · rw [List.getElem?_set_ne q] at e
    exact h j u e
theorem WfL.snoc (h : WfL c l) (p : OpWf c (l.length + 1) l.length o') : WfL c (l ++ [o']) := fun j u e => by
  rw [List.length_append, List.length_singleton]
  by_cases hj : j < l.length
  · rw [List.getElem?_append_left hj] at e
    exact (h j u e).mono (by omega)
  · rw [List.getElem?_append_right (by omega)] at e
    have e0 : j - l.length = 0 := by
      have := (List.getElem?_eq_some_iff.mp e).1
      simp at this
      omega
    rw [e0] at e
    cases e
    have : j = l.length := by omega
    rw [this]
    exact p
theorem WfL.cf (h : WfL c l) : WfL c (l.map cf) := fun j u e => by
  rw [List.length_map]
  rw [List.getElem?_map] at e
  cases q : l[j]? with
  | none => rw [q] at e; cases e
  | some v =>
    rw [q] at e
    cases e
    have p := h j v q
    exact ⟨p.num, p.kd, p.wr, p.rd, p.str⟩
theorem end_ops {st : Str} : (endH s k o st).ops = s.ops.set k { o with stage := st, over := some s.past.length } := by
  simp only [endH]
  split <;> rfl
theorem end_opn {st : Str} : (endH s k o st).opn = s.opn ∨ (endH s k o st).opn = none := by
  simp only [endH]
  split
  · exact .inr rfl
  · exact .inl rfl
theorem set_set' (a b : OpS) : (l.set k a).set k b = l.set k b := by simp [List.set_set]
theorem OpWf.done (h : OpWf c n k o) {st : Str} (e : st = "ended" ∨ st = "stopped") {x : Option Nat} : OpWf c n k { o with stage := st, over := x } := by
  refine ⟨h.num, h.kd, fun _ a b => ?_, fun _ => ?_, ?_⟩
  · rcases e with e | e
    · exact (a e).elim
    · exact (b e).elim
  · rcases e with e | e
    · exact .inr (.inr (.inr (.inr (.inl e))))
    · exact .inr (.inr (.inr (.inr (.inr e))))
  · show PyData.strOk st = true
    rcases e with e | e <;> rw [e] <;> decide +kernel
theorem Wf.end' (W : Wf c s) (p : OpWf c s.ops.length k o) {st : Str} (e : st = "ended" ∨ st = "stopped") : Wf c (endH s k o st) := by
  refine ⟨?_, fun l h => ?_⟩
  · rw [end_ops]
    exact W.ops.set (p.done e)
  · rw [end_ops, List.length_set]
    rcases end_opn (s := s) (k := k) (o := o) (st := st) with z | z
    · rw [z] at h
      exact W.opn l h
    · rw [z] at h
      cases h
theorem Wf.put (W : Wf c s) (p : OpWf c s.ops.length k o') : Wf c (s.put k o') := ⟨W.ops.set p, fun l h => by
  show l < (s.ops.set k o').length
  rw [List.length_set]
  exact W.opn l h⟩
theorem put_len : (s.put k o').ops.length = s.ops.length := List.length_set ..
theorem Wf.of (W : Wf c s) {s' : HS} (h1 : s'.ops = s.ops) (h2 : s'.opn = s.opn) : Wf c s' := ⟨by rw [h1]; exact W.ops, by rw [h1, h2]; exact W.opn⟩
theorem hold_opn {v : Nat} : (holdH c s v).opn = s.opn := by
  unfold holdH
  split <;> rfl
theorem Wf.hold (W : Wf c s) {v : Nat} : Wf c (holdH c s v) := W.of hold_ops hold_opn
/-- the op has the step w ahead of it, or is to stop -/
def Ahead (s : HS) (o : OpS) (w : Str) : Prop := w = "stop" ∨ (¬ o.stage = "ended" ∧ ¬ o.stage = "stopped" ∧ nextOf s o = some w)
theorem ahead_stage {w : Str} (h1 : nextOf s o = some w) (h2 : ¬ o.stage = "waits") : o.stage = w := by
  unfold nextOf at h1
  rw [if_neg h2] at h1
  exact Option.some.inj h1
theorem ahead_take {w : Str} (h1 : nextOf s o = some w) (h2 : o.stage = "waits") : w = "take" := by
  unfold nextOf at h1
  rw [if_pos h2] at h1
  split at h1
  · split at h1
    · split at h1
      · exact (Option.some.inj h1).symm
      · cases h1
    · cases h1
  · cases h1
theorem OpWf.wait (h : OpWf c s.ops.length k o) (O : c.Ok) : WaitOk s o := fun e => by
  have nw := ne_words
  rcases h.kd with z | z
  · rcases h.rd z with y | y | ⟨y, _⟩ | ⟨_, l, y, x⟩ | y | y
    · rw [y] at e; exact (nw.2.2.2.2.1.1 e).elim
    · rw [y] at e; exact (nw.2.2.2.2.1.2.1 e).elim
    · rw [y] at e; exact (nw.2.2.2.2.1.2.2 e).elim
    · exact ⟨l, _, y, List.getElem?_eq_getElem x⟩
    · rw [y] at e; exact absurd e (by decide +kernel)
    · rw [y] at e; exact absurd e (by decide +kernel)
  · have n1 : ¬ o.stage = "ended" := fun y => by rw [y] at e; exact absurd e (by decide +kernel)
    have n2 : ¬ o.stage = "stopped" := fun y => by rw [y] at e; exact absurd e (by decide +kernel)
    obtain ⟨a, b, _⟩ := h.wr z n1 n2
    rw [e] at b
    rcases step_word O a with y | y | y <;> rw [y] at b
    · exact (nw.1.1 b.symm).elim
    · exact (nw.1.2.1 b.symm).elim
    · exact (nw.1.2.2 b.symm).elim
/-- a write under way: its step, its word -/
theorem OpWf.write (h : OpWf c s.ops.length k o) (O : c.Ok) {w : Str} (kd : o.kind = "write") (n1 : ¬ o.stage = "ended") (n2 : ¬ o.stage = "stopped") (hn : nextOf s o = some w) :
    o.step < c.steps.length ∧ w = c.steps.getD o.step "" ∧ o.stage = w ∧ (w = "set" → o.version.isSome = true) := by
  have nw := ne_words
  obtain ⟨a, b, d⟩ := h.wr kd n1 n2
  have e : o.stage = w := by
    refine ahead_stage hn fun z => ?_
    rw [b] at z
    rcases step_word O a with y | y | y <;> rw [y] at z
    · exact nw.1.1 z
    · exact nw.1.2.1 z
    · exact nw.1.2.2 z
  exact ⟨a, by rw [← e]; exact b, e, fun z => d (by rw [e]; exact z)⟩
theorem OpWf.read (h : OpWf c s.ops.length k o) (O : c.Ok) {w : Str} (kd : ¬ o.kind = "write") (n1 : ¬ o.stage = "ended") (n2 : ¬ o.stage = "stopped") (hn : nextOf s o = some w) :
    (w = "look" ∧ o.stage = "look") ∨ (w = "fetch" ∧ o.stage = "fetch") ∨ (w = "fill" ∧ o.stage = "fill" ∧ o.version.isSome = true) ∨ (w = "take" ∧ o.stage = "waits" ∧ ∃ l q, o.leader = some l ∧ s.ops[l]? = some q) := by
  have nw := ne_words
  have kr : o.kind = "read" := h.kd.resolve_right kd
  rcases h.rd kr with y | y | ⟨y, v⟩ | ⟨y, _⟩ | y | y
  · have e := ahead_stage hn (by rw [y]; exact nw.2.2.2.2.1.1)
    exact .inl ⟨by rw [← e]; exact y, y⟩
  · have e := ahead_stage hn (by rw [y]; exact nw.2.2.2.2.1.2.1)
    exact .inr (.inl ⟨by rw [← e]; exact y, y⟩)
  · have e := ahead_stage hn (by rw [y]; exact nw.2.2.2.2.1.2.2)
    exact .inr (.inr (.inl ⟨by rw [← e]; exact y, y, v⟩))
  · exact .inr (.inr (.inr ⟨ahead_take hn y, y, h.wait O y⟩))
  · exact (n1 y).elim
  · exact (n2 y).elim
theorem OpWf.opOk (h : OpWf c s.ops.length k o) (O : c.Ok) {w : Str} (a : Ahead s o w) : OpOk c s o w := by
  rcases a with z | ⟨n1, n2, hn⟩
  · exact .inl z
  by_cases kd : o.kind = "write"
  · obtain ⟨a, _, _, d⟩ := h.write O kd n1 n2 hn
    exact .inr (.inl ⟨kd, a, d⟩)
  · refine .inr (.inr ⟨kd, ?_⟩)
    rcases h.read O kd n1 n2 hn with ⟨z, _⟩ | ⟨z, _⟩ | ⟨z, _, v⟩ | ⟨z, _, y⟩
    · exact ⟨fun q => by rw [z] at q; exact absurd q (by decide +kernel), .inl z⟩
    · exact ⟨fun q => by rw [z] at q; exact absurd q (by decide +kernel), .inr (.inl z)⟩
    · exact ⟨fun q => by rw [z] at q; exact absurd q (by decide +kernel), .inr (.inr (.inr v))⟩
    · exact ⟨fun _ => y, .inr (.inr (.inl z))⟩
theorem wr1_ops {w : Str} : (wr1 s k o w).ops = (if w = "store" then s.ops.set k { o with version := some (s.db + 1) } else s.ops.map cf) ∧ (wr1 s k o w).opn = s.opn := by
  unfold wr1
  split <;> exact ⟨rfl, rfl⟩
theorem wr2_ops {w : Str} : (wr2 c s o w).ops = s.ops ∧ (wr2 c s o w).opn = s.opn := by
  unfold wr2
  split
  · split <;> exact ⟨rfl, rfl⟩
  · exact ⟨rfl, rfl⟩
theorem wr3_ops {w : Str} : (wr3 c s o w).ops = s.ops ∧ (wr3 c s o w).opn = s.opn := by
  unfold wr3
  split
  · split
    · exact ⟨hold_ops, hold_opn⟩
    · exact ⟨rfl, rfl⟩
  · exact ⟨rfl, rfl⟩
theorem Wf.write (W : Wf c s) (O : c.Ok) {w : Str} (eo : s.ops[k]? = some o) (kd : o.kind = "write") (n1 : ¬ o.stage = "ended") (n2 : ¬ o.stage = "stopped") (hn : nextOf s o = some w) : Wf c (writeH c s k o w) := by
  have p := W.ops k o eo
  obtain ⟨hst, hw, hse, hv⟩ := p.write O kd n1 n2 hn
  have hlt := (List.getElem?_eq_some_iff.mp eo).1
  have W1 : Wf c (wr1 s k o w) := by
    obtain ⟨e1, e2⟩ := wr1_ops (s := s) (k := k) (o := o) (w := w)
    refine ⟨?_, fun l h => ?_⟩
    · rw [e1]
      split
      · exact W.ops.set ⟨p.num, p.kd, fun a b d => ⟨hst, (p.wr kd n1 n2).2.1, fun _ => rfl⟩, fun r => by rw [kd] at r; exact (ne_words.2.2.2.1 r.symm).elim, p.str⟩
      · exact W.ops.cf
    · rw [e2] at h
      rw [e1]
      split
      · rw [List.length_set]; exact W.opn l h
      · rw [List.length_map]; exact W.opn l h
  have ln1 : (wr1 s k o w).ops.length = s.ops.length := by
    rw [wr1_ops.1]
    split
    · rw [List.length_set]
    · rw [List.length_map]
  have o1 : (wo1 s o w).number = o.number ∧ (wo1 s o w).kind = o.kind ∧ (wo1 s o w).step = o.step ∧ (wo1 s o w).leader = o.leader ∧ (w = "store" → (wo1 s o w).version.isSome = true) := by
    unfold wo1
    split
    · exact ⟨rfl, rfl, rfl, rfl, fun _ => rfl⟩
    · rename_i z
      exact ⟨rfl, rfl, rfl, rfl, fun y => (z y).elim⟩
  obtain ⟨q1, q2, q3, q4, q5⟩ := o1
  have W3 : Wf c (wr3 c (wr2 c (wr1 s k o w) (wo1 s o w) w) (wo1 s o w) w) := (W1.of (wr2_ops (w := w)).1 (wr2_ops (w := w)).2).of (wr3_ops (w := w)).1 (wr3_ops (w := w)).2
  have ln3 : (wr3 c (wr2 c (wr1 s k o w) (wo1 s o w) w) (wo1 s o w) w).ops.length = s.ops.length := by rw [wr3_ops.1, wr2_ops.1, ln1]
  unfold writeH
  generalize wr3 c (wr2 c (wr1 s k o w) (wo1 s o w) w) (wo1 s o w) w = s3 at W3 ln3
  generalize wo1 s o w = u at q1 q2 q3 q4 q5
  have nr : ¬ u.kind = "read" := fun z => by rw [q2, kd] at z; exact ne_words.2.2.2.1 z.symm
  have pe : ∀ (st : Str) (x : Option Nat), (st = "ended" ∨ st = "stopped") → OpWf c s.ops.length k { u with step := u.step + 1, stage := st, over := x } := fun st x e => by
    refine ⟨q1.trans p.num, .inr (q2.trans kd), fun _ a b => ?_, fun r => (nr r).elim, ?_⟩
    · rcases e with e | e
      · exact (a e).elim
      · exact (b e).elim
    · show PyData.strOk st = true
      rcases e with e | e <;> rw [e] <;> decide +kernel
  unfold wr4
  split
  · refine ⟨?_, fun l h => ?_⟩
    · rw [end_ops]
      show WfL c ((s3.ops.set k _).set k _)
      rw [set_set']
      exact W3.ops.set (by rw [ln3]; exact pe _ _ (.inl rfl))
    · rw [end_ops]
      show l < ((s3.ops.set k _).set k _).length
      rw [List.length_set, List.length_set]
      rcases end_opn (s := s3.put k { u with step := u.step + 1 }) (k := k) (o := { u with step := u.step + 1 }) (st := "ended") with z | z
      · rw [z] at h
        exact W3.opn l h
      · rw [z] at h
        cases h
  · rename_i hne
    have hlt2 : u.step + 1 < c.steps.length := by rw [q3] at hne ⊢; omega
    refine W3.put ?_
    rw [ln3]
    refine ⟨q1.trans p.num, .inr (q2.trans kd), fun _ a b => ⟨hlt2, rfl, fun z => ?_⟩, fun r => (nr r).elim, ?_⟩
    · have z : c.steps.getD (u.step + 1) "" = "set" := z
      refine q5 ?_
      rw [hw]
      rw [q3] at z
      exact O.path.set o.step z
    · exact word_str (step_word O hlt2)
theorem Wf.read (W : Wf c s) (O : c.Ok) {w : Str} (eo : s.ops[k]? = some o) (kd : ¬ o.kind = "write") (n1 : ¬ o.stage = "ended") (n2 : ¬ o.stage = "stopped") (hn : nextOf s o = some w) : Wf c (readH c s k o w) := by
  have p := W.ops k o eo
  have hlt := (List.getElem?_eq_some_iff.mp eo).1
  have ed : ∀ (s' : HS) (u : OpS), Wf c s' → s'.ops.length = s.ops.length → u.number = o.number → u.kind = o.kind → Wf c (endH s' k u "ended") := fun s' u W' e1 e2 e3 => by
    refine ⟨?_, fun l h => ?_⟩
    · rw [end_ops]
      refine W'.ops.set ?_
      rw [e1]
      refine ⟨e2.trans p.num, by rw [show ({ u with stage := "ended", over := some s'.past.length } : OpS).kind = o.kind from e3]; exact p.kd, fun _ a _ => (a rfl).elim, fun _ => .inr (.inr (.inr (.inr (.inl rfl)))), (by show PyData.strOk "ended" = true; decide +kernel)⟩
    · rw [end_ops, List.length_set]
      rcases end_opn (s := s') (k := k) (o := u) (st := "ended") with z | z
      · rw [z] at h
        exact W'.opn l h
      · rw [z] at h
        cases h
  have pk : ∀ (u : OpS), u.number = o.number → u.kind = o.kind → (u.stage = "look" ∨ u.stage = "fetch" ∨ (u.stage = "fill" ∧ u.version.isSome = true) ∨ (u.stage = "waits" ∧ ∃ l, u.leader = some l ∧ l < s.ops.length)) → OpWf c s.ops.length k u := fun u e1 e2 e3 => by
    refine ⟨e1.trans p.num, by rw [e2]; exact p.kd, fun z => by rw [e2] at z; exact (kd z).elim, fun _ => ?_, ?_⟩
    · rcases e3 with z | z | z | z
      · exact .inl z
      · exact .inr (.inl z)
      · exact .inr (.inr (.inl z))
      · exact .inr (.inr (.inr (.inl z)))
    · rcases e3 with z | z | ⟨z, _⟩ | ⟨z, _⟩ <;> rw [z] <;> decide +kernel
  have same : ∀ v, Wf c (s.put k { o with version := v }) → True := fun _ _ => trivial
  have raw : ∀ u : OpS, u.number = o.number → u.kind = o.kind → u.stage = o.stage → u.leader = o.leader → (u.stage = "fill" → u.version.isSome = true) → OpWf c s.ops.length k u := fun u e1 e2 e3 e4 e5 => by
    refine ⟨e1.trans p.num, by rw [e2]; exact p.kd, fun z => by rw [e2] at z; exact (kd z).elim, fun r => ?_, by rw [e3]; exact p.str⟩
    rw [e2] at r
    rcases p.rd r with z | z | ⟨z, _⟩ | ⟨z, l, y, x⟩ | z | z
    · exact .inl (e3.trans z)
    · exact .inr (.inl (e3.trans z))
    · exact .inr (.inr (.inl ⟨e3.trans z, e5 (e3.trans z)⟩))
    · exact .inr (.inr (.inr (.inl ⟨e3.trans z, l, e4.trans y, x⟩)))
    · exact .inr (.inr (.inr (.inr (.inl (e3.trans z)))))
    · exact .inr (.inr (.inr (.inr (.inr (e3.trans z)))))
  have cases_ := p.read O kd n1 n2 hn
  unfold readH
  split
  · rename_i z
    refine ed _ _ (W.put (raw _ rfl rfl rfl rfl fun y => ?_)) put_len rfl rfl
    exact z.2
  split
  · rename_i z
    refine W.put (pk _ rfl rfl (.inr (.inr (.inr ⟨rfl, ?_⟩))))
    obtain ⟨l, el⟩ := Option.isSome_iff_exists.mp z.2
    exact ⟨l, el, W.opn l el⟩
  split
  · refine ⟨W.ops.set (pk _ rfl rfl (.inr (.inl rfl))), fun l h => ?_⟩
    show l < (s.ops.set k _).length
    rw [List.length_set]
    have h : (if c.flight = "shared" then some o.number else none) = some l := h
    split at h
    · cases h
      rw [p.num]
      exact hlt
    · cases h
  split
  · have pf : OpWf c s.ops.length k { o with version := some (if c.source = "replica" then s.rep else s.db), stage := "fill" } := pk _ rfl rfl (.inr (.inr (.inl ⟨rfl, rfl⟩)))
    split
    · exact ed _ _ (W.put pf) put_len rfl rfl
    · exact W.put pf
  split
  · rename_i _ _ _ _ z
    refine ed _ _ (W.put (raw _ rfl rfl rfl rfl fun y => ?_)) put_len rfl rfl
    have y : o.stage = "fill" := y
    rcases cases_ with ⟨x, _⟩ | ⟨x, _⟩ | ⟨x, _⟩ | ⟨_, x, _⟩
    · rw [x] at z; exact absurd z (by decide +kernel)
    · rw [x] at z; exact absurd z (by decide +kernel)
    · rw [x] at z; exact absurd z (by decide +kernel)
    · rw [x] at y; exact absurd y (by decide +kernel)
  · split
    · exact ed _ _ W.hold (by rw [hold_ops]) rfl rfl
    · exact ed _ _ W rfl rfl rfl
theorem Wf.op (W : Wf c s) (O : c.Ok) {w : Str} (eo : s.ops[k]? = some o) (a : Ahead s o w) : Wf c (doOp c s k o w) := by
  unfold doOp
  split
  · exact W.end' (W.ops k o eo) (.inr rfl)
  · rename_i nz
    rcases a with z | ⟨n1, n2, hn⟩
    · exact (nz z).elim
    split
    · rename_i kd
      exact W.write O eo kd n1 n2 hn
    · rename_i kd
      exact W.read O eo kd n1 n2 hn
end
end Ca

set_option Elab.async false
set_option linter.all false
set_option maxRecDepth 100000
set_option maxHeartbeats 4000000
namespace Ca
open PySem L2
/-! ### an event that can come, done -/
/-- what an event that can come is -/
inductive EvCase (c : Conf) (s : HS) : Ev → Prop where
  | evict (h : canEvict c s = true) : EvCase c s evictE
  | copy (h : canCopy c s = true) : EvCase c s copyE
  | new (w : Str) (h : w = "look" ∨ w = firstW c) : EvCase c s (w, some (s.ops.length : Int))
  | step (k : Nat) (o : OpS) (w : Str) (e : s.ops[k]? = some o) (h1 : ¬ o.stage = "ended") (h2 : ¬ o.stage = "stopped") (h3 : nextOf s o = some w) : EvCase c s (w, some (k : Int))
  | stop (k : Nat) (o : OpS) (e : s.ops[k]? = some o) (h1 : ¬ o.stage = "ended") (h2 : ¬ o.stage = "stopped") (h3 : c.stop = "stops") : EvCase c s ("stop", some (k : Int))
theorem going_mem {c : Conf} {s : HS} {o : OpS} (W : Wf c s) (h : o ∈ going s) : s.ops[o.number]? = some o ∧ ¬ o.stage = "ended" ∧ ¬ o.stage = "stopped" := by
  obtain ⟨h1, h2⟩ := List.mem_filter.mp h
  obtain ⟨k, hk, e⟩ := List.getElem_of_mem h1
  have e' : s.ops[k]? = some o := by rw [List.getElem?_eq_getElem hk, e]
  have n := (W.ops k o e').num
  rw [n]
  refine ⟨e', ?_⟩
  unfold endedB at h2
  simp at h2
  exact h2
theorem ev_case {c : Conf} {s : HS} {e : Ev} (W : Wf c s) (h : e ∈ evList c s) : EvCase c s e := by
  unfold evList at h
  rcases List.mem_append.mp h with h | h
  · rcases List.mem_append.mp h with h | h
    · rcases List.mem_append.mp h with h | h
      · rcases List.mem_append.mp h with h | h
        · unfold evA at h
          simp only [List.mem_cons, List.not_mem_nil, or_false] at h
          rcases h with z | z <;> rw [z]
          · exact .new _ (.inl rfl)
          · exact .new _ (.inr rfl)
        · unfold evB at h
          obtain ⟨o, ho, eo⟩ := List.mem_filterMap.mp h
          cases en : nextOf s o with
          | none => rw [en] at eo; cases eo
          | some w =>
            rw [en] at eo
            cases eo
            obtain ⟨a, b, d⟩ := going_mem W ho
            exact .step o.number o w a b d en
      · unfold evC at h
        split at h
        · rename_i st
          obtain ⟨o, ho, eo⟩ := List.mem_map.mp h
          rw [← eo]
          obtain ⟨a, b, d⟩ := going_mem W ho
          exact .stop o.number o a b d st
        · cases h
    · unfold evD at h
      split at h
      · rename_i z
        simp at h
        rw [h]
        exact .evict z
      · cases h
  · unfold evE at h
    split at h
    · rename_i z
      simp at h
      rw [h]
      exact .copy z
    · cases h
theorem fst_ne {c : Conf} (O : c.Ok) : ¬ firstW c = "look" ∧ ¬ firstW c = "set" ∧ PyData.strOk (firstW c) = true ∧ ¬ firstW c = "waits" ∧ ¬ firstW c = "ended" ∧ ¬ firstW c = "stopped" ∧ ¬ firstW c = "stop" := by
  have h : firstW c = "drop" ∨ firstW c = "store" := O.path.fst
  rcases h with e | e <;> rw [e] <;> decide +kernel
theorem new_wf {c : Conf} {s : HS} {w : Str} (O : c.Ok) (h : w = "look" ∨ w = firstW c) : OpWf c (s.ops.length + 1) s.ops.length (newOp s w) := by
  rcases h with e | e
  · subst e
    have zk : (newOp s "look").kind = "read" := show (if ("look" : Str) = "look" then ("read" : Str) else "write") = "read" from if_pos rfl
    exact ⟨rfl, .inl zk, fun z => by rw [zk] at z; exact absurd z (by decide +kernel), fun _ => .inl rfl, by show PyData.strOk "look" = true; decide +kernel⟩
  · obtain ⟨n1, n2, n3, _⟩ := fst_ne O
    have z : (newOp s w).kind = "write" := by
      show (if w = "look" then ("read" : Str) else "write") = "write"
      rw [e]
      exact if_neg n1
    exact ⟨rfl, .inr z, fun _ _ _ => ⟨O.slen.1, e, fun y => by
      have y : w = "set" := y
      rw [e] at y
      exact (n2 y).elim⟩, fun y => by rw [z] at y; exact absurd y (by decide +kernel), by show PyData.strOk w = true; rw [e]; exact n3⟩
theorem pre_new {s : HS} {w : Str} : preH s w s.ops.length = { s with ops := s.ops ++ [newOp s w] } := if_pos rfl
theorem pre_old {s : HS} {w : Str} {k : Nat} {o : OpS} (e : s.ops[k]? = some o) : preH s w k = s := if_neg fun z => by
  have := (List.getElem?_eq_some_iff.mp e).1
  omega
theorem Wf.pre {c : Conf} {s : HS} {w : Str} (W : Wf c s) (O : c.Ok) (h : w = "look" ∨ w = firstW c) : Wf c (preH s w s.ops.length) := by
  rw [pre_new]
  exact ⟨W.ops.snoc (new_wf O h), fun l e => by
    show l < (s.ops ++ [newOp s w]).length
    rw [List.length_append]
    exact Nat.lt_of_lt_of_le (W.opn l e) (Nat.le_add_right _ _)⟩
theorem new_next {c : Conf} {s s' : HS} {w : Str} (O : c.Ok) (h : w = "look" ∨ w = firstW c) : ¬ (newOp s w).stage = "ended" ∧ ¬ (newOp s w).stage = "stopped" ∧ nextOf s' (newOp s w) = some w := by
  have n : ¬ w = "waits" ∧ ¬ w = "ended" ∧ ¬ w = "stopped" := by
    rcases h with e | e
    · rw [e]; decide +kernel
    · rw [e]
      obtain ⟨_, _, _, a, b, d, _⟩ := fst_ne O
      exact ⟨a, b, d⟩
  exact ⟨n.2.1, n.2.2, if_neg n.1⟩
theorem doE_at {c : Conf} {s : HS} {k : Nat} {w : Str} {o : OpS} (e : (preH s w k).ops[k]? = some o) : doE c s (w, some (k : Int)) = doOp c (preH s w k) k o w := by
  unfold doE
  rw [if_neg (fun z => by cases z), if_neg (fun z => by cases z)]
  show (match (preH s w (k : Int).toNat).ops[(k : Int).toNat]? with | some o => doOp c (preH s w (k : Int).toNat) (k : Int).toNat o w | none => s) = _
  rw [Int.toNat_natCast, e]
theorem op_len {c : Conf} {s : HS} {k : Nat} {o : OpS} {w : Str} : (doOp c s k o w).ops.length = s.ops.length := by
  have e1 : ∀ (s' : HS) (u : OpS) (st : Str), s'.ops.length = s.ops.length → (endH s' k u st).ops.length = s.ops.length := fun s' u st z => by rw [end_ops, List.length_set, z]
  unfold doOp
  split
  · exact e1 _ _ _ rfl
  split
  · have e2 : (wr3 c (wr2 c (wr1 s k o w) (wo1 s o w) w) (wo1 s o w) w).ops.length = s.ops.length := by
      rw [wr3_ops.1, wr2_ops.1, wr1_ops.1]
      split
      · rw [List.length_set]
      · rw [List.length_map]
    unfold writeH wr4
    split
    · exact e1 _ _ _ (by rw [put_len]; exact e2)
    · rw [put_len]; exact e2
  · unfold readH
    split
    · exact e1 _ _ _ put_len
    split
    · exact put_len
    split
    · exact put_len
    split
    · split
      · exact e1 _ _ _ put_len
      · exact put_len
    split
    · exact e1 _ _ _ put_len
    · split
      · exact e1 _ _ _ (by rw [hold_ops])
      · exact e1 _ _ _ rfl
structure DoneOk (c : Conf) (s : HS) (e : Ev) : Prop where
  ok : EvOk c s e
  str : PyData.strOk e.1 = true
  wf : Wf c (doH c s e)
  len : (doH c s e).ops.length ≤ s.ops.length + 1
theorem Wf.past {c : Conf} {s : HS} (W : Wf c s) (l : List Ev) : Wf c { s with past := l } := ⟨W.ops, W.opn⟩
theorem do_ok {c : Conf} {s : HS} {e : Ev} (W : Wf c s) (O : c.Ok) (h : e ∈ evList c s) : DoneOk c s e := by
  have hc := ev_case W h
  have key : ∀ (k : Nat) (w : Str) (o : OpS), (preH s w k).ops[k]? = some o → k ≤ s.ops.length → Wf c (preH s w k) → Ahead (preH s w k) o w → PyData.strOk w = true → DoneOk c s (w, some (k : Int)) := fun k w o eo hk W1 a st => by
    have W2 := W1.op O eo a
    refine ⟨.inr (.inr ⟨k, w, rfl, hk, fun o' eo' => ?_⟩), st, ?_, ?_⟩
    · rw [eo] at eo'
      cases eo'
      exact (W1.ops k o eo).opOk O a
    · unfold doH
      rw [doE_at eo]
      exact W2.past _
    · unfold doH
      show (doE c s (w, some (k : Int))).ops.length ≤ _
      rw [doE_at eo, op_len]
      unfold preH
      split
      · show (s.ops ++ [newOp s w]).length ≤ _
        rw [List.length_append]
        exact Nat.le_refl _
      · exact Nat.le_succ _
  cases hc with
  | evict z =>
    refine ⟨.inl rfl, by decide +kernel, ?_, ?_⟩
    · unfold doH doE
      rw [if_pos rfl]
      exact ⟨W.ops, W.opn⟩
    · unfold doH doE
      rw [if_pos rfl]
      exact Nat.le_succ _
  | copy z =>
    have n : ¬ copyE = evictE := by decide +kernel
    refine ⟨.inr (.inl rfl), by decide +kernel, ?_, ?_⟩
    · unfold doH doE
      rw [if_neg n, if_pos rfl]
      exact ⟨W.ops, W.opn⟩
    · unfold doH doE
      rw [if_neg n, if_pos rfl]
      exact Nat.le_succ _
  | new w hw =>
    refine key _ w (newOp s w) ?_ (Nat.le_refl _) (W.pre O hw) (.inr (new_next O hw)) ?_
    · rw [pre_new]
      show (s.ops ++ [newOp s w])[s.ops.length]? = _
      rw [List.getElem?_append_right (Nat.le_refl _), Nat.sub_self]
      rfl
    · rcases hw with z | z
      · rw [z]; decide +kernel
      · rw [z]; exact (fst_ne O).2.2.1
  | step k o w eo h1 h2 h3 =>
    have hlt := (List.getElem?_eq_some_iff.mp eo).1
    refine key k w o ?_ (Nat.le_of_lt hlt) ?_ ?_ ?_
    · rw [pre_old eo]; exact eo
    · rw [pre_old eo]; exact W
    · rw [pre_old eo]; exact .inr ⟨h1, h2, h3⟩
    · have p := W.ops k o eo
      by_cases hw : o.stage = "waits"
      · rw [ahead_take h3 hw]; decide +kernel
      · rw [← ahead_stage h3 hw]; exact p.str
  | stop k o eo h1 h2 h3 =>
    have hlt := (List.getElem?_eq_some_iff.mp eo).1
    refine key k "stop" o ?_ (Nat.le_of_lt hlt) ?_ ?_ (by decide +kernel)
    · rw [pre_old eo]; exact eo
    · rw [pre_old eo]; exact W
    · exact .inl rfl
inductive Reach (c : Conf) : HS → Prop where
  | begin : Reach c HS.begin
  | step {s : HS} {e : Ev} (r : Reach c s) (h : e ∈ evList c s) : Reach c (doH c s e)
theorem wf_begin (c : Conf) : Wf c HS.begin := ⟨fun k o e => by simp [HS.begin] at e, fun l e => by simp [HS.begin] at e⟩
theorem Reach.wf {c : Conf} {s : HS} (O : c.Ok) (r : Reach c s) : Wf c s ∧ s.ops.length ≤ s.past.length := by
  induction r with
  | begin => exact ⟨wf_begin c, Nat.le_refl _⟩
  | @step s e r h ih =>
    have d := do_ok ih.1 O h
    refine ⟨d.wf, ?_⟩
    have z : (doH c s e).past.length = s.past.length + 1 := by
      unfold doH
      show (s.past ++ [e]).length = _
      rw [List.length_append]
      rfl
    have := d.len
    omega
theorem do_past {c : Conf} {s : HS} {e : Ev} : (doH c s e).past = s.past ++ [e] := rfl
theorem wait_all {c : Conf} {s : HS} (W : Wf c s) (O : c.Ok) : ∀ o ∈ s.ops, WaitOk s o := fun o h => by
  obtain ⟨k, hk, e⟩ := List.getElem_of_mem h
  exact (W.ops k o (by rw [List.getElem?_eq_getElem hk, e])).wait O
end Ca

set_option Elab.async false
set_option linter.all false
set_option maxRecDepth 100000
set_option maxHeartbeats 4000000
namespace Ca
open PySem L2
theorem ix_seqK {X : Cx} {K : PySem.W.Frag} (h : X.K = K) : IxR X (rIx K) := h ▸ ix_seq
theorem iteP {c : Bool} {A B : Prop} (h : c = true) (a : A) : if c = true then A else B := by
  rw [if_pos h]
  exact a
theorem iteQ {c : Bool} {A B : Prop} (h : c = false) (b : B) : if c = true then A else B := by
  rw [h]
  exact iteF b
/-! ### data at a bounded depth, tracked -/
def Dt (H : Hp) : Nat → V → PyData → Prop
  | n + 1, .ref a, .tuple ds => ∃ xs, H a = some (.tup xs) ∧ xs.length ≤ 1000 ∧ Paired (Dt H n) xs ds
  | n + 1, .ref a, .list ds => ∃ xs, H a = some (.lst xs) ∧ xs.length ≤ 1000 ∧ Paired (Dt H n) xs ds
  | _, .non, .none => True
  | _, .bl b, .bool c => b = c
  | _, .int i, .int j => i = j
  | _, .str x, .str y => x = y
  | _, _, _ => False
theorem Dt.same {H H' : Hp} (S : Same H H') : ∀ {n : Nat} {x : V} {d : PyData}, Dt H n x d → Dt H' n x d
  | 0, x, d, h => by
    cases x <;> cases d <;> first | exact h | (simp [Dt] at h)
  | n + 1, x, d, h => by
    cases x <;> cases d <;> first | exact h | skip
    · obtain ⟨xs, a, b, r⟩ := (show ∃ xs, _ from h)
      exact (show ∃ xs, _ from ⟨xs, S _ _ a, b, Paired.mapP r fun _ _ z => Dt.same S z⟩)
    · obtain ⟨xs, a, b, r⟩ := (show ∃ xs, _ from h)
      exact (show ∃ xs, _ from ⟨xs, S _ _ a, b, Paired.mapP r fun _ _ z => Dt.same S z⟩)
inductive DtC (H : Hp) : Nat → V → PyData → Prop where
  | non (n : Nat) : DtC H n .non .none
  | bl (n : Nat) (b : Bool) : DtC H n (.bl b) (.bool b)
  | int (n : Nat) (i : Int) : DtC H n (.int i) (.int i)
  | str (n : Nat) (x : Str) : DtC H n (.str x) (.str x)
  | tup (n : Nat) (a : Addr) (xs : List V) (ds : List PyData) (h : H a = some (.tup xs)) (l : xs.length ≤ 1000) (r : Paired (Dt H n) xs ds) : DtC H (n + 1) (.ref a) (.tuple ds)
  | lst (n : Nat) (a : Addr) (xs : List V) (ds : List PyData) (h : H a = some (.lst xs)) (l : xs.length ≤ 1000) (r : Paired (Dt H n) xs ds) : DtC H (n + 1) (.ref a) (.list ds)
theorem Dt.c {H : Hp} : ∀ {n : Nat} {x : V} {d : PyData}, Dt H n x d → DtC H n x d
  | 0, x, d, h => by
    cases x <;> cases d <;> simp [Dt] at h
    · exact .non _
    · subst h; exact .bl _ _
    · subst h; exact .int _ _
    · subst h; exact .str _ _
  | n + 1, x, d, h => by
    cases x <;> cases d <;> simp [Dt] at h
    · exact .non _
    · subst h; exact .bl _ _
    · subst h; exact .int _ _
    · subst h; exact .str _ _
    · obtain ⟨xs, a, b, r⟩ := h
      exact .lst _ _ _ _ a b r
    · obtain ⟨xs, a, b, r⟩ := h
      exact .tup _ _ _ _ a b r
def tyN : PyData → String
  | .none => "NoneType"
  | .bool _ => "bool"
  | .int _ => "int"
  | .str _ => "str"
  | .list _ => "list"
  | .tuple _ => "tuple"
  | .dict _ => "dict"
theorem dtc_ty {K : PySem.W.Frag} {H : Hp} {n : Nat} {x : V} {d : PyData} (h : DtC H n x d) : TyX K H x (.type (tyN d)) := by
  cases h with
  | non => exact .base .non
  | bl _ b => exact .base (.bl b)
  | int _ i => exact .base (.int i)
  | str _ x => exact .base (.str x)
  | tup _ a xs ds h l r => exact .base (.tup h)
  | lst _ a xs ds h l r => exact .base (.lst h)
theorem tyx_same {K : PySem.W.Frag} {H H' : Hp} {n : Nat} {x : V} {d : PyData} (h : DtC H n x d) (S : Same H H') : TyX K H' x (.type (tyN d)) := by
  cases h with
  | non => exact .base .non
  | bl _ b => exact .base (.bl b)
  | int _ i => exact .base (.int i)
  | str _ x => exact .base (.str x)
  | tup _ a xs ds h l r => exact .base (.tup (S _ _ h))
  | lst _ a xs ds h l r => exact .base (.lst (S _ _ h))
def isB (T : String) (d : PyData) : Bool := match d with
  | .none => false
  | .bool _ => T == "bool" || T == "int"
  | .int _ => T == "int"
  | .str _ => T == "str"
  | .list _ => T == "list"
  | .tuple _ => T == "tuple"
  | .dict _ => false
theorem kit_d {K : PySem.W.Frag} {H : Hp} {n : Nat} {x : V} {d : PyData} (h : DtC H n x d) (T : String) (hT : T = "list" ∨ T = "tuple" ∨ T = "str" ∨ T = "int" ∨ T = "bool") : PySem.W.kitOne K (.type (tyN d)) (.type T) = some (isB T d) := by
  refine kit_ty ?_
  rcases hT with e | e | e | e | e <;> subst e <;> cases h <;> simp only [tyN, isB] <;> decide +kernel
theorem kit_tl {K : PySem.W.Frag} {H : Hp} {n : Nat} {x : V} {d : PyData} (h : DtC H n x d) : PySem.W.kitAny K (.type (tyN d)) [.type "tuple", .type "list"] = some (isB "tuple" d || isB "list" d) := by
  refine kitAny_cons (kit_d h "tuple" (by simp)) (fun e => ?_) (fun e => by rw [e]; rfl)
  rw [e, Bool.false_or]
  refine kitAny_cons (kit_d h "list" (by simp)) (fun e => ?_) (fun e => e)
  rw [e]
  rfl
@[irreducible] def spAlike (n : Nat) : Sp := fun vs H Q _ => ∃ (x y : V) (d : PyData), vs = [x, y] ∧ Dt H n x d ∧ Dt H n y d ∧ ∀ H', Same H H' → Q (.bl true) H'
theorem alike_i {n : Nat} {x y : V} {d : PyData} {H : Hp} {Q : VK} {E : XK} (h1 : Dt H n x d) (h2 : Dt H n y d) (q : ∀ H', Same H H' → Q (.bl true) H') : spAlike n [x, y] H Q E := by
  unfold spAlike
  exact ⟨x, y, d, rfl, h1, h2, q⟩
section
variable {P : Program} {w : World} {K : PySem.W.Frag} {mg : Str → Option Value} {base : Heap}
/-- the two tests behind the lists and tuples: for what is neither -/
theorem alike_tail (T : Txt K mg) : True := trivial
theorem ok_alike0 (T : Txt K mg) : FnOk P w K mg base CX0 1 T.f_Lalike T.fd_Lalike ["found", "due"] (spAlike 0) := by
  refine T.F_Lalike.ok sc_Lalike (fun vs H Q E h => ?_) (fun cdv A outer s H vs Q E hr h => ?_)
  · unfold spAlike at h
    obtain ⟨x, y, d, rfl, _⟩ := h
    rfl
  · unfold spAlike at h
    obtain ⟨x, y, d, rfl, h1, h2, q⟩ := h
    have c1 := h1.c
    have c2 := h2.c
    refine ⟨_, (pss_cons (ps_if (pt_val (pe_callB call_isiT (by rfl) T.n_isinstance (by decide +kernel) (pa_cons (pv 1) (pa_cons (pe_tup (pa_cons (pe_bltn (v := .ty "tuple") (by rfl) T.n_tuple (by decide +kernel) rfl) (pa_cons (pe_bltn (v := .ty "list") (by rfl) T.n_list (by decide +kernel) rfl) pa_nil))) pa_nil)))) (pss_cons ps_never
      (pss_cons ps_never
      (pss_one ps_never))) pss_nil)
      (pss_cons (ps_if (PW.pt (pw_or (pt_cmpR op_isN (pv 1) pe_non (nomark _)) (pw_or1 (pt_val (pe_callB call_isi (by rfl) T.n_isinstance (by decide +kernel) (pa_cons (pv 1) (pa_cons (pe_bltn (v := .ty "str") (by rfl) T.n_str (by decide +kernel) rfl) pa_nil))))))) (pss_one (ps_ret (pe_and (pe_cmpR op_eq (pv 0) (pv 1) (nomark _)) (pe_one (pe_cmpR op_eq (pe_callB call_isi (by rfl) T.n_isinstance (by decide +kernel) (pa_cons (pv 0) (pa_cons (pe_bltn (v := .ty "str") (by rfl) T.n_str (by decide +kernel) rfl) pa_nil))) (pe_callB call_isi (by rfl) T.n_isinstance (by decide +kernel) (pa_cons (pv 1) (pa_cons (pe_bltn (v := .ty "str") (by rfl) T.n_str (by decide +kernel) rfl) pa_nil))) (nomark _)))))) pss_nil)
      (pss_one (ps_ret (pe_and (pe_callB call_isi (by rfl) T.n_isinstance (by decide +kernel) (pa_cons (pv 0) (pa_cons (pe_bltn (v := .ty "int") (by rfl) T.n_int (by decide +kernel) rfl) pa_nil))) (pe_and (pe_cmpR op_eq (pe_callB call_isi (by rfl) T.n_isinstance (by decide +kernel) (pa_cons (pv 0) (pa_cons (pe_bltn (v := .ty "bool") (by rfl) T.n_bool (by decide +kernel) rfl) pa_nil))) (pe_callB call_isi (by rfl) T.n_isinstance (by decide +kernel) (pa_cons (pv 1) (pa_cons (pe_bltn (v := .ty "bool") (by rfl) T.n_bool (by decide +kernel) rfl) pa_nil))) (nomark _)) (pe_one (pe_cmpR op_eq (pv 0) (pv 1) (nomark _))))))))), ?_⟩
    refine ⟨_, rfl, (by show 2 ≤ sizeLine; decide), fun p np => ⟨_, _, _, _, _, _, rfl, upd_same, .cons (.ty _) (.cons (.ty _) .nil), tyx_same c2 (same_new np), kit_tl c2, _, rfl, ?_⟩⟩
    have S1 := same_new (o := .tup [.ty "tuple", .ty "list"]) np
    generalize upd H p (.tup [.ty "tuple", .ty "list"]) = H1 at S1
    have sq : (isB "tuple" d || isB "list" d) = false := by cases c2 <;> rfl
    rw [sq]
    refine iteF ?_
    cases c1 with
    | non =>
      cases c2
      refine ⟨_, rfl, rfl, _, rfl, ?_⟩
      refine iteP rfl ?_
      refine ⟨_, rfl, _, rfl, rfl, _, rfl, ?_⟩
      refine iteT ?_
      refine ⟨_, rfl, _, _, _, _, false, rfl, .ty _, .base .non, kit_ty (by decide +kernel), _, rfl, _, _, _, _, false, rfl, .ty _, .base .non, kit_ty (by decide +kernel), rfl, ?_⟩
      exact q _ S1
    | str _ z =>
      cases c2
      refine ⟨_, rfl, rfl, _, rfl, ?_⟩
      refine iteQ rfl ?_
      refine ⟨_, rfl, _, _, _, _, true, rfl, .ty _, .base (.str z), kit_ty (by decide +kernel), _, rfl, ?_⟩
      refine iteT ?_
      refine ⟨_, rfl, _, rfl, rfl, _, rfl, ?_⟩
      rw [decide_eq_true (rfl : V.str z = V.str z)]
      refine iteT ?_
      refine ⟨_, rfl, _, _, _, _, true, rfl, .ty _, .base (.str z), kit_ty (by decide +kernel), _, rfl, _, _, _, _, true, rfl, .ty _, .base (.str z), kit_ty (by decide +kernel), rfl, ?_⟩
      exact q _ S1
    | int _ z =>
      cases c2
      refine ⟨_, rfl, rfl, _, rfl, ?_⟩
      refine iteQ rfl ?_
      refine ⟨_, rfl, _, _, _, _, false, rfl, .ty _, .base (.int z), kit_ty (by decide +kernel), _, rfl, ?_⟩
      refine iteF ?_
      refine ⟨_, rfl, _, _, _, _, true, rfl, .ty _, .base (.int z), kit_ty (by decide +kernel), _, rfl, ?_⟩
      refine iteT ?_
      refine ⟨_, rfl, _, _, _, _, false, rfl, .ty _, .base (.int z), kit_ty (by decide +kernel), _, rfl, _, _, _, _, false, rfl, .ty _, .base (.int z), kit_ty (by decide +kernel), rfl, _, rfl, ?_⟩
      refine iteP rfl ?_
      refine ⟨_, rfl, _, rfl, rfl, ?_⟩
      show Q (.bl (decide (V.int z = V.int z))) H1
      rw [decide_eq_true (rfl : V.int z = V.int z)]
      exact q _ S1
    | bl _ z =>
      cases c2
      refine ⟨_, rfl, rfl, _, rfl, ?_⟩
      refine iteQ rfl ?_
      refine ⟨_, rfl, _, _, _, _, false, rfl, .ty _, .base (.bl z), kit_ty (by decide +kernel), _, rfl, ?_⟩
      refine iteF ?_
      refine ⟨_, rfl, _, _, _, _, true, rfl, .ty _, .base (.bl z), kit_ty (by decide +kernel), _, rfl, ?_⟩
      refine iteT ?_
      refine ⟨_, rfl, _, _, _, _, true, rfl, .ty _, .base (.bl z), kit_ty (by decide +kernel), _, rfl, _, _, _, _, true, rfl, .ty _, .base (.bl z), kit_ty (by decide +kernel), rfl, _, rfl, ?_⟩
      refine iteP rfl ?_
      refine ⟨_, rfl, _, rfl, rfl, ?_⟩
      show Q (.bl (decide (V.bl z = V.bl z))) H1
      rw [decide_eq_true (rfl : V.bl z = V.bl z)]
      exact q _ S1
theorem ok_alike (n : Nat) : ∀ (T : Txt K mg), FnOk P w K mg base CX0 (n + 1) T.f_Lalike T.fd_Lalike ["found", "due"] (spAlike n) := by
  induction n with
  | zero => exact ok_alike0
  | succ n ih =>
    intro T
    refine T.F_Lalike.ok sc_Lalike (fun vs H Q E h => ?_) (fun cdv A outer s H vs Q E hr h => ?_)
    · unfold spAlike at h
      obtain ⟨x, y, d, rfl, _⟩ := h
      rfl
    · unfold spAlike at h
      obtain ⟨x, y, d, rfl, h1, h2, q⟩ := h
      have c1 := h1.c
      have c2 := h2.c
      refine ⟨_, (pss_cons (ps_if (pt_val (pe_callB call_isiT (by rfl) T.n_isinstance (by decide +kernel) (pa_cons (pv 1) (pa_cons (pe_tup (pa_cons (pe_bltn (v := .ty "tuple") (by rfl) T.n_tuple (by decide +kernel) rfl) (pa_cons (pe_bltn (v := .ty "list") (by rfl) T.n_list (by decide +kernel) rfl) pa_nil))) pa_nil)))) (pss_cons (ps_if (PW.pt (pw_or (pt_not (pt_val (pe_callB call_isiT (by rfl) T.n_isinstance (by decide +kernel) (pa_cons (pv 0) (pa_cons (pe_tup (pa_cons (pe_bltn (v := .ty "tuple") (by rfl) T.n_tuple (by decide +kernel) rfl) (pa_cons (pe_bltn (v := .ty "list") (by rfl) T.n_list (by decide +kernel) rfl) pa_nil))) pa_nil))))) (pw_or1 (pt_cmpR op_ne (pe_callB call_isi (by rfl) T.n_isinstance (by decide +kernel) (pa_cons (pv 0) (pa_cons (pe_bltn (v := .ty "list") (by rfl) T.n_list (by decide +kernel) rfl) pa_nil))) (pe_callB call_isi (by rfl) T.n_isinstance (by decide +kernel) (pa_cons (pv 1) (pa_cons (pe_bltn (v := .ty "list") (by rfl) T.n_list (by decide +kernel) rfl) pa_nil))) (nomark _))))) (pss_one (ps_ret pe_bl)) pss_nil)
      (pss_cons (ps_if (pt_cmpR op_ne (pe_callB call_len_seq (by rfl) T.n_len (by decide +kernel) (pa_cons (pv 0) pa_nil)) (pe_callB call_len_seq (by rfl) T.n_len (by decide +kernel) (pa_cons (pv 1) pa_nil)) (nomark _)) (pss_one (ps_ret pe_bl)) pss_nil)
      (pss_one (ps_ret (pe_cmpR (op_eqD hr.units) (pe_lc (own := [("k", 2)]) rfl sc_Lalike.nd (pi_range1 rfl T.n_range (pa_cons (pe_callB call_len_seq (by rfl) T.n_len (by decide +kernel) (pa_cons (pv 1) pa_nil)) pa_nil)) (blkOk_by (N := ["found", "due", "k"]) (sc := defScope s_Lalike) (by decide +kernel)) (fun _ _ _ _ _ => (pg_name (i := 2) sc_Lalike.nd rfl (Or.inl rfl))) (fun _ _ _ _ _ => (pts_one (pt_not (pt_val (pe_call (ih T) hr rfl T.m_Lalike T.F_Lalike.kp (b_Lalike T) .nil pass0 (pa_cons (pe_ix (ix_seqK (K := K) rfl) (pv 0) (pv 2) (fun _ _ => rfl)) (pa_cons (pe_ix (ix_seqK (K := K) rfl) (pv 1) (pv 2) (fun _ _ => rfl)) pa_nil))))))) (fun _ _ _ _ _ => (pv 2))) (pe_lst pa_nil) (nomark _)))))) pss_nil)
      (pss_cons (ps_if (PW.pt (pw_or (pt_cmpR op_isN (pv 1) pe_non (nomark _)) (pw_or1 (pt_val (pe_callB call_isi (by rfl) T.n_isinstance (by decide +kernel) (pa_cons (pv 1) (pa_cons (pe_bltn (v := .ty "str") (by rfl) T.n_str (by decide +kernel) rfl) pa_nil))))))) (pss_one (ps_ret (pe_and (pe_cmpR op_eq (pv 0) (pv 1) (nomark _)) (pe_one (pe_cmpR op_eq (pe_callB call_isi (by rfl) T.n_isinstance (by decide +kernel) (pa_cons (pv 0) (pa_cons (pe_bltn (v := .ty "str") (by rfl) T.n_str (by decide +kernel) rfl) pa_nil))) (pe_callB call_isi (by rfl) T.n_isinstance (by decide +kernel) (pa_cons (pv 1) (pa_cons (pe_bltn (v := .ty "str") (by rfl) T.n_str (by decide +kernel) rfl) pa_nil))) (nomark _)))))) pss_nil)
      (pss_one (ps_ret (pe_and (pe_callB call_isi (by rfl) T.n_isinstance (by decide +kernel) (pa_cons (pv 0) (pa_cons (pe_bltn (v := .ty "int") (by rfl) T.n_int (by decide +kernel) rfl) pa_nil))) (pe_and (pe_cmpR op_eq (pe_callB call_isi (by rfl) T.n_isinstance (by decide +kernel) (pa_cons (pv 0) (pa_cons (pe_bltn (v := .ty "bool") (by rfl) T.n_bool (by decide +kernel) rfl) pa_nil))) (pe_callB call_isi (by rfl) T.n_isinstance (by decide +kernel) (pa_cons (pv 1) (pa_cons (pe_bltn (v := .ty "bool") (by rfl) T.n_bool (by decide +kernel) rfl) pa_nil))) (nomark _)) (pe_one (pe_cmpR op_eq (pv 0) (pv 1) (nomark _))))))))), ?_⟩
      refine ⟨_, rfl, (by show 2 ≤ sizeLine; decide), fun p np => ⟨_, _, _, _, _, _, rfl, upd_same, .cons (.ty _) (.cons (.ty _) .nil), tyx_same c2 (same_new np), kit_tl c2, _, rfl, ?_⟩⟩
      have S1 := same_new (o := .tup [.ty "tuple", .ty "list"]) np
      generalize upd H p (.tup [.ty "tuple", .ty "list"]) = H1 at S1
      by_cases sq : (isB "tuple" d || isB "list" d) = true
      · rw [sq]
        refine iteT ?_
        have L2 : ∃ xs ys ds, (Paired (Dt H n) xs ds ∧ Paired (Dt H n) ys ds) ∧ (xs.length ≤ 1000 ∧ ys.length ≤ 1000) ∧ (∃ a b, x = .ref a ∧ y = .ref b ∧ ((H a = some (.tup xs) ∧ H b = some (.tup ys)) ∨ (H a = some (.lst xs) ∧ H b = some (.lst ys)))) := by
          cases c1 with
          | non => simp [isB] at sq
          | bl => simp [isB] at sq
          | int => simp [isB] at sq
          | str => simp [isB] at sq
          | tup _ a xs ds h l r =>
            cases c2 with
            | tup _ b ys ds h' l' r' => exact ⟨xs, ys, ds, ⟨r, r'⟩, ⟨l, l'⟩, a, b, rfl, rfl, .inl ⟨h, h'⟩⟩
          | lst _ a xs ds h l r =>
            cases c2 with
            | lst _ b ys ds h' l' r' => exact ⟨xs, ys, ds, ⟨r, r'⟩, ⟨l, l'⟩, a, b, rfl, rfl, .inr ⟨h, h'⟩⟩
        obtain ⟨xs, ys, ds, ⟨r1, r2⟩, ⟨l1, l2⟩, a, b, rfl, rfl, hh⟩ := L2
        have sqx : ∀ H', Same H H' → (SqL K H' a xs ∨ SqT K H' a xs) := fun H' S => by
          rcases hh with ⟨z, _⟩ | ⟨z, _⟩
          · exact .inr (SqT.of (S _ _ z))
          · exact .inl (SqL.of (S _ _ z))
        have sqy : ∀ H', Same H H' → (SqL K H' b ys ∨ SqT K H' b ys) := fun H' S => by
          rcases hh with ⟨_, z⟩ | ⟨_, z⟩
          · exact .inr (SqT.of (S _ _ z))
          · exact .inl (SqL.of (S _ _ z))
        have ixx : ∀ H' (i : Nat) (z : V) (Q' : VK), Same H H' → xs[i]? = some z → Q' z H' → rIx K (.ref a) (.int ((0 : Int) + (i : Int))) H' Q' := fun H' i z Q' S e k => by
          rcases sqx H' S with w | w
          · exact .inl ⟨a, xs, _, z, rfl, rfl, w, at_of (j := i) (by omega) e, k⟩
          · exact .inr (.inl ⟨a, xs, _, z, rfl, rfl, w, at_of (j := i) (by omega) e, k⟩)
        have ixy : ∀ H' (i : Nat) (z : V) (Q' : VK), Same H H' → ys[i]? = some z → Q' z H' → rIx K (.ref b) (.int ((0 : Int) + (i : Int))) H' Q' := fun H' i z Q' S e k => by
          rcases sqy H' S with w | w
          · exact .inl ⟨b, ys, _, z, rfl, rfl, w, at_of (j := i) (by omega) e, k⟩
          · exact .inr (.inl ⟨b, ys, _, z, rfl, rfl, w, at_of (j := i) (by omega) e, k⟩)
        have ey : ys.length = xs.length := r2.length.trans r1.length.symm
        refine ⟨_, rfl, (by show 2 ≤ sizeLine; decide), fun p2 np2 => ⟨_, _, _, _, _, _, rfl, upd_same, .cons (.ty _) (.cons (.ty _) .nil), tyx_same c1 (S1.trans (same_new np2)), kit_tl c1, _, rfl, ?_⟩⟩
        rw [sq]
        have S2 := sN S1 (o := .tup [.ty "tuple", .ty "list"]) np2
        generalize upd H1 p2 (.tup [.ty "tuple", .ty "list"]) = H2 at S2
        refine iteF ?_
        refine ⟨_, rfl, _, _, _, _, _, rfl, .ty _, tyx_same c1 S2, kit_d c1 "list" (by simp), _, rfl, _, _, _, _, _, rfl, .ty _, tyx_same c2 S2, kit_d c2 "list" (by simp), rfl, _, rfl, ?_⟩
        rw [decide_eq_true (rfl : V.bl (isB "list" d) = V.bl (isB "list" d))]
        refine iteF ?_
        refine ⟨_, rfl, a, xs, rfl, sqx H2 S2, _, rfl, b, ys, rfl, sqy H2 S2, rfl, _, rfl, ?_⟩
        rw [ey, decide_eq_true (rfl : V.int (xs.length : Int) = V.int (xs.length : Int))]
        refine iteF ?_
        refine ⟨_, rfl, b, ys, rfl, sqy H2 S2, _, rfl, by omega, by omega, fun D nD => ?_⟩
        refine lc_range (lo := 0) (n := (ys.length : Int).toNat) (fun i H' => Same H2 H' ∧ H' D = some (.lst [])) ⟨same_new nD, upd_same⟩ ?_ ?_
        · rintro i H' hi ⟨S, hD⟩
          rw [Int.toNat_natCast] at hi
          have S3 := S2.trans S
          have hx : xs[i]? = some (xs[i]'(by omega)) := List.getElem?_eq_getElem _
          have hy : ys[i]? = some (ys[i]'hi) := List.getElem?_eq_getElem _
          obtain ⟨d1, e1, t1⟩ := pget r1 hx
          obtain ⟨d2, e2, t2⟩ := pget r2 hy
          rw [e1] at e2
          cases e2
          refine ⟨rfl, _, rfl, _, rfl, ixx H' i _ _ S3 hx ⟨_, rfl, _, rfl, ixy H' i _ _ S3 hy ?_⟩⟩
          refine alike_i (t1.same S3) (t2.same S3) fun H4 S4 => ⟨_, rfl, ?_⟩
          refine iteF ?_
          exact ⟨S.trans S4, S4 _ _ hD⟩
        · rintro H' ⟨S, hD⟩
          refine ⟨Nat.zero_le _, fun p5 np5 => ⟨_, _, .lst (SqL.of (same_new np5 _ _ hD)) .nil, .lst (SqL.of upd_same) .nil, rfl, rfl, ?_⟩⟩
          exact q _ (sN (S2.trans S) np5)
      · have sq : (isB "tuple" d || isB "list" d) = false := by simpa using sq
        rw [sq]
        refine iteF ?_
        cases c1 with
        | tup _ a xs ds h l r => simp [isB] at sq
        | lst _ a xs ds h l r => simp [isB] at sq
        | non =>
          cases c2
          refine ⟨_, rfl, rfl, _, rfl, ?_⟩
          refine iteP rfl ?_
          refine ⟨_, rfl, _, rfl, rfl, _, rfl, ?_⟩
          refine iteT ?_
          refine ⟨_, rfl, _, _, _, _, false, rfl, .ty _, .base .non, kit_ty (by decide +kernel), _, rfl, _, _, _, _, false, rfl, .ty _, .base .non, kit_ty (by decide +kernel), rfl, ?_⟩
          exact q _ S1
        | str _ z =>
          cases c2
          refine ⟨_, rfl, rfl, _, rfl, ?_⟩
          refine iteQ rfl ?_
          refine ⟨_, rfl, _, _, _, _, true, rfl, .ty _, .base (.str z), kit_ty (by decide +kernel), _, rfl, ?_⟩
          refine iteT ?_
          refine ⟨_, rfl, _, rfl, rfl, _, rfl, ?_⟩
          rw [decide_eq_true (rfl : V.str z = V.str z)]
          refine iteT ?_
          refine ⟨_, rfl, _, _, _, _, true, rfl, .ty _, .base (.str z), kit_ty (by decide +kernel), _, rfl, _, _, _, _, true, rfl, .ty _, .base (.str z), kit_ty (by decide +kernel), rfl, ?_⟩
          exact q _ S1
        | int _ z =>
          cases c2
          refine ⟨_, rfl, rfl, _, rfl, ?_⟩
          refine iteQ rfl ?_
          refine ⟨_, rfl, _, _, _, _, false, rfl, .ty _, .base (.int z), kit_ty (by decide +kernel), _, rfl, ?_⟩
          refine iteF ?_
          refine ⟨_, rfl, _, _, _, _, true, rfl, .ty _, .base (.int z), kit_ty (by decide +kernel), _, rfl, ?_⟩
          refine iteT ?_
          refine ⟨_, rfl, _, _, _, _, false, rfl, .ty _, .base (.int z), kit_ty (by decide +kernel), _, rfl, _, _, _, _, false, rfl, .ty _, .base (.int z), kit_ty (by decide +kernel), rfl, _, rfl, ?_⟩
          refine iteP rfl ?_
          refine ⟨_, rfl, _, rfl, rfl, ?_⟩
          show Q (.bl (decide (V.int z = V.int z))) H1
          rw [decide_eq_true (rfl : V.int z = V.int z)]
          exact q _ S1
        | bl _ z =>
          cases c2
          refine ⟨_, rfl, rfl, _, rfl, ?_⟩
          refine iteQ rfl ?_
          refine ⟨_, rfl, _, _, _, _, false, rfl, .ty _, .base (.bl z), kit_ty (by decide +kernel), _, rfl, ?_⟩
          refine iteF ?_
          refine ⟨_, rfl, _, _, _, _, true, rfl, .ty _, .base (.bl z), kit_ty (by decide +kernel), _, rfl, ?_⟩
          refine iteT ?_
          refine ⟨_, rfl, _, _, _, _, true, rfl, .ty _, .base (.bl z), kit_ty (by decide +kernel), _, rfl, _, _, _, _, true, rfl, .ty _, .base (.bl z), kit_ty (by decide +kernel), rfl, _, rfl, ?_⟩
          refine iteP rfl ?_
          refine ⟨_, rfl, _, rfl, rfl, ?_⟩
          show Q (.bl (decide (V.bl z = V.bl z))) H1
          rw [decide_eq_true (rfl : V.bl z = V.bl z)]
          exact q _ S1
end
end Ca

set_option Elab.async false
set_option linter.all false
set_option maxRecDepth 100000
set_option maxHeartbeats 4000000
namespace Ca
open PySem L2
/-- the constants of the program's modules -/
structure TxtC (K : PySem.W.Frag) (mg : Str → Option Value) where
  v_PATHS : Addr
  m_PATHS : mg "PATHS" = some (.ref v_PATHS)
  s_PATHS : ∀ H, SqT K H v_PATHS (pathsL.map V.str)
  v_GUARDS : Addr
  m_GUARDS : mg "GUARDS" = some (.ref v_GUARDS)
  s_GUARDS : ∀ H, SqT K H v_GUARDS (guardsL.map V.str)
  v_FLIGHTS : Addr
  m_FLIGHTS : mg "FLIGHTS" = some (.ref v_FLIGHTS)
  s_FLIGHTS : ∀ H, SqT K H v_FLIGHTS (flightsL.map V.str)
  v_SOURCES : Addr
  m_SOURCES : mg "SOURCES" = some (.ref v_SOURCES)
  s_SOURCES : ∀ H, SqT K H v_SOURCES ((["primary", "replica"] : List Str).map V.str)
  v_EVICTIONS : Addr
  m_EVICTIONS : mg "EVICTIONS" = some (.ref v_EVICTIONS)
  s_EVICTIONS : ∀ H, SqT K H v_EVICTIONS ((["evicts", "keeps"] : List Str).map V.str)
  v_STOPS : Addr
  m_STOPS : mg "STOPS" = some (.ref v_STOPS)
  s_STOPS : ∀ H, SqT K H v_STOPS ((["finishes", "stops"] : List Str).map V.str)
  t_MOST_EVENTS : Tok
  m_MOST_EVENTS : mg "MOST_EVENTS" = some (.int 60 t_MOST_EVENTS)
theorem in_map {x : Str} {l : List Str} (h : x ∈ l) : inV (.str x) (l.map V.str) = true := by
  unfold inV
  rw [List.any_eq_true]
  exact ⟨.str x, List.mem_map_of_mem h, by simp [eqV]⟩
theorem flat_map (l : List Str) : (l.map V.str).all flatV = true := by
  rw [List.all_eq_true]
  intro y hy
  obtain ⟨x, _, rfl⟩ := List.mem_map.mp hy
  rfl
@[irreducible] def spTri (K : PySem.W.Frag) : Sp := fun vs H Q _ => ∃ (a f s t : Addr) (x y z : Str) (l1 l2 l3 : List Str), vs = [.ref a, .ref f, .ref s, .ref t] ∧ H a = some (.tup [.str x, .str y, .str z]) ∧ SqT K H f (l1.map V.str) ∧ SqT K H s (l2.map V.str) ∧ SqT K H t (l3.map V.str) ∧
  x ∈ l1 ∧ y ∈ l2 ∧ z ∈ l3 ∧ Q (.bl true) H
@[irreducible] def spIsD : Sp := fun vs H Q _ => ∃ (c : Conf) (d : Addr), vs = [.ref d] ∧ H d = some (dT c) ∧ c.Ok ∧ Q (.bl true) H
@[irreducible] def spIsW : Sp := fun vs H Q _ => ∃ (c : Conf) (w : Addr), vs = [.ref w] ∧ H w = some (wT c) ∧ c.Ok ∧ Q (.bl true) H
@[irreducible] def spChD : Sp := fun vs H Q _ => ∃ (c : Conf) (d : Addr), vs = [.ref d] ∧ H d = some (dT c) ∧ c.Ok ∧ Q .non H
@[irreducible] def spChW : Sp := fun vs H Q _ => ∃ (c : Conf) (w : Addr), vs = [.ref w] ∧ H w = some (wT c) ∧ c.Ok ∧ Q .non H
section
variable {K : PySem.W.Frag} {c : Conf} {d w a f s t : Addr} {H : Hp} {Q : VK} {E : XK}
theorem tri_i {x y z : Str} {l1 l2 l3 : List Str} (h : H a = some (.tup [.str x, .str y, .str z])) (h1 : SqT K H f (l1.map V.str)) (h2 : SqT K H s (l2.map V.str)) (h3 : SqT K H t (l3.map V.str)) (m1 : x ∈ l1) (m2 : y ∈ l2) (m3 : z ∈ l3) (q : Q (.bl true) H) :
    spTri K [.ref a, .ref f, .ref s, .ref t] H Q E := by
  unfold spTri
  exact ⟨a, f, s, t, x, y, z, l1, l2, l3, rfl, h, h1, h2, h3, m1, m2, m3, q⟩
theorem isd_i (h : H d = some (dT c)) (O : c.Ok) (q : Q (.bl true) H) : spIsD [.ref d] H Q E := by
  unfold spIsD
  exact ⟨c, d, rfl, h, O, q⟩
theorem isw_i (h : H w = some (wT c)) (O : c.Ok) (q : Q (.bl true) H) : spIsW [.ref w] H Q E := by
  unfold spIsW
  exact ⟨c, w, rfl, h, O, q⟩
theorem chd_i (h : H d = some (dT c)) (O : c.Ok) (q : Q .non H) : spChD [.ref d] H Q E := by
  unfold spChD
  exact ⟨c, d, rfl, h, O, q⟩
theorem chw_i (h : H w = some (wT c)) (O : c.Ok) (q : Q .non H) : spChW [.ref w] H Q E := by
  unfold spChW
  exact ⟨c, w, rfl, h, O, q⟩
end
section
variable {P : Program} {w : World} {K : PySem.W.Frag} {mg : Str → Option Value} {base : Heap}
theorem ok_is_triple (T : Txt K mg) : FnOk P w K mg base CX0 1 T.f_is_triple T.fd_is_triple ["value", "firsts", "seconds", "thirds"] (spTri K) := by
  refine T.F_is_triple.ok sc_is_triple (fun vs H Q E h => ?_) (fun cdv A outer s H vs Q E hr h => ?_)
  · unfold spTri at h
    obtain ⟨a, f, s, t, x, y, z, l1, l2, l3, rfl, _⟩ := h
    rfl
  · unfold spTri at h
    obtain ⟨a, f, s, t, x, y, z, l1, l2, l3, rfl, ha, h1, h2, h3, m1, m2, m3, q⟩ := h
    refine ⟨_, (pss_cons (ps_if (PW.pt (pw_or (pt_not (pt_val (pe_callB call_isi (by rfl) T.n_isinstance (by decide +kernel) (pa_cons (pv 0) (pa_cons (pe_bltn (v := .ty "tuple") (by rfl) T.n_tuple (by decide +kernel) rfl) pa_nil))))) (pw_or1 (pt_cmpR op_ne (pe_callB call_len_seq (by rfl) T.n_len (by decide +kernel) (pa_cons (pv 0) pa_nil)) pe_int (nomark _))))) (pss_one ps_never) pss_nil)
      (pss_one (ps_ret (pe_and (pe_cmpR op_in_seq (pe_ix ix_tup (pv 0) pe_int (fun _ _ => rfl)) (pv 1) (by rfl)) (pe_and (pe_cmpR op_in_seq (pe_ix ix_tup (pv 0) pe_int (fun _ _ => rfl)) (pv 2) (by rfl)) (pe_one (pe_cmpR op_in_seq (pe_ix ix_tup (pv 0) pe_int (fun _ _ => rfl)) (pv 3) (by rfl)))))))), ?_⟩
    refine ⟨_, rfl, _, _, _, _, true, rfl, .ty _, .base (.tup ha), kit_ty (by decide +kernel), _, rfl, ?_⟩
    refine iteF ?_
    refine ⟨_, rfl, _, _, rfl, .inr (SqT.of ha), rfl, _, rfl, iteF ?_⟩
    refine ⟨_, rfl, _, _, _, _, rfl, rfl, SqT.of (ha), rfl, _, rfl, _, _, rfl, .inr h1, rfl, flat_map l1, true, (by show V.bl (inV _ _) = _; rw [in_map m1]), iteT ?_⟩
    refine ⟨_, rfl, _, _, _, _, rfl, rfl, SqT.of (ha), rfl, _, rfl, _, _, rfl, .inr h2, rfl, flat_map l2, true, (by show V.bl (inV _ _) = _; rw [in_map m2]), iteT ?_⟩
    refine ⟨_, rfl, _, _, _, _, rfl, rfl, SqT.of (ha), rfl, _, rfl, _, _, rfl, .inr h3, rfl, flat_map l3, ?_⟩
    show Q (.bl (inV _ _)) H
    rw [in_map m3]
    exact q
theorem ok_is_design (T : Txt K mg) (U : TxtC K mg) : FnOk P w K mg base CX0 2 T.f_is_design T.fd_is_design ["value"] spIsD := by
  refine T.F_is_design.ok sc_is_design (fun vs H Q E h => ?_) (fun cdv A outer s H vs Q E hr h => ?_)
  · unfold spIsD at h
    obtain ⟨c, d, rfl, _⟩ := h
    rfl
  · unfold spIsD at h
    obtain ⟨c, d, rfl, hd, O, q⟩ := h
    refine ⟨_, (pss_one (ps_ret (pe_call (ok_is_triple T) (hr.mono (by decide)) rfl T.m_is_triple T.F_is_triple.kp (b_is_triple T) .nil pass0 (pa_cons (pv 0) (pa_cons (pe_glob (v := .ref U.v_PATHS) rfl U.m_PATHS rfl) (pa_cons (pe_glob (v := .ref U.v_GUARDS) rfl U.m_GUARDS rfl) (pa_cons (pe_glob (v := .ref U.v_FLIGHTS) rfl U.m_FLIGHTS rfl) pa_nil))))))), ?_⟩
    refine ⟨_, rfl, ?_⟩
    exact tri_i hd (U.s_PATHS H) (U.s_GUARDS H) (U.s_FLIGHTS H) O.p O.g O.f q
theorem ok_is_world (T : Txt K mg) (U : TxtC K mg) : FnOk P w K mg base CX0 2 T.f_is_world T.fd_is_world ["value"] spIsW := by
  refine T.F_is_world.ok sc_is_world (fun vs H Q E h => ?_) (fun cdv A outer s H vs Q E hr h => ?_)
  · unfold spIsW at h
    obtain ⟨c, d, rfl, _⟩ := h
    rfl
  · unfold spIsW at h
    obtain ⟨c, d, rfl, hd, O, q⟩ := h
    refine ⟨_, (pss_one (ps_ret (pe_call (ok_is_triple T) (hr.mono (by decide)) rfl T.m_is_triple T.F_is_triple.kp (b_is_triple T) .nil pass0 (pa_cons (pv 0) (pa_cons (pe_glob (v := .ref U.v_SOURCES) rfl U.m_SOURCES rfl) (pa_cons (pe_glob (v := .ref U.v_EVICTIONS) rfl U.m_EVICTIONS rfl) (pa_cons (pe_glob (v := .ref U.v_STOPS) rfl U.m_STOPS rfl) pa_nil))))))), ?_⟩
    refine ⟨_, rfl, ?_⟩
    have two : ∀ {x a b : Str}, x = a ∨ x = b → x ∈ [a, b] := fun h => by
      rcases h with e | e <;> simp [e]
    exact tri_i hd (U.s_SOURCES H) (U.s_EVICTIONS H) (U.s_STOPS H) (two O.s) (two O.e) (two O.t) q
theorem ok_check_design (T : Txt K mg) (U : TxtC K mg) : FnOk P w K mg base CX0 3 T.f_check_design T.fd_check_design ["value"] spChD := by
  refine T.F_check_design.ok sc_check_design (fun vs H Q E h => ?_) (fun cdv A outer s H vs Q E hr h => ?_)
  · unfold spChD at h
    obtain ⟨c, d, rfl, _⟩ := h
    rfl
  · unfold spChD at h
    obtain ⟨c, d, rfl, hd, O, q⟩ := h
    refine ⟨_, (pss_one (ps_if (pt_not (pt_val (pe_call (ok_is_design T U) (hr.mono (by decide)) rfl T.m_is_design T.F_is_design.kp (b_is_design T) .nil pass0 (pa_cons (pv 0) pa_nil)))) (pss_one ps_never) pss_nil)), ?_⟩
    refine ⟨_, rfl, ?_⟩
    refine isd_i hd O ⟨_, rfl, ?_⟩
    exact iteF q
theorem ok_check_world (T : Txt K mg) (U : TxtC K mg) : FnOk P w K mg base CX0 3 T.f_check_world T.fd_check_world ["value"] spChW := by
  refine T.F_check_world.ok sc_check_world (fun vs H Q E h => ?_) (fun cdv A outer s H vs Q E hr h => ?_)
  · unfold spChW at h
    obtain ⟨c, d, rfl, _⟩ := h
    rfl
  · unfold spChW at h
    obtain ⟨c, d, rfl, hd, O, q⟩ := h
    refine ⟨_, (pss_one (ps_if (pt_not (pt_val (pe_call (ok_is_world T U) (hr.mono (by decide)) rfl T.m_is_world T.F_is_world.kp (b_is_world T) .nil pass0 (pa_cons (pv 0) pa_nil)))) (pss_one ps_never) pss_nil)), ?_⟩
    refine ⟨_, rfl, ?_⟩
    refine isw_i hd O ⟨_, rfl, ?_⟩
    exact iteF q
end
end Ca

set_option Elab.async false
set_option linter.all false
set_option maxRecDepth 100000
set_option maxHeartbeats 4000000
namespace Ca
open PySem L2
/-! ### the program's own data -/
structure POp where
  kind : Str
  steps : List Str
  began : Nat
  left : Option Nat
  stopped : Bool
  version : Option Nat
  awaited : Option Nat
  seen : Nat
structure PSt where
  db : Nat
  rep : Nat
  cache : Option Nat
  mark : Nat
  ops : List POp
  leader : Option Nat
  wipes : Nat
  past : List Ev
/-- where a play's parts stand -/
structure PL where
  g : Nat
  d : Addr
  w : Addr
  dx : Addr
  tp : Addr
  lo : Addr
  pa : Addr
  oas : List Addr
  eas : List Addr
def refO (oas : List Addr) : Option Nat → V
  | none => .non
  | some l => match oas[l]? with
    | some a => .ref a
    | none => .non
def opF (oas : List Addr) (o : POp) (ta : Addr) : List (Str × V) :=
  [("kind", .str o.kind), ("steps", .ref ta), ("began", .int (o.began : Int)), ("left", on o.left), ("stopped", .bl o.stopped), ("version", on o.version), ("awaited", refO oas o.awaited), ("wipes_seen", .int (o.seen : Int))]
def plF (c : Conf) (A : PL) (t : PSt) : List (Str × V) :=
  [("design", .ref A.d), ("world", .ref A.w), ("path", .ref A.tp), ("guard", .str c.guard), ("flight", .str c.flight), ("source", .str c.source), ("evictions", .str c.evict), ("stops", .str c.stop), ("database", .int (t.db : Int)), ("replica", .int (t.rep : Int)), ("cache", on t.cache), ("mark", .int (t.mark : Int)), ("operations", .ref A.lo), ("past", .ref A.pa), ("leader", refO A.oas t.leader), ("wipes", .int (t.wipes : Int))]
/-! ### the fields looked up and put -/
section
variable {c : Conf} {oas : List Addr} {o : POp} {t : PSt} {A : PL} {ta : Addr}
theorem l_Operation_kind : (opF oas o ta).lookup ("kind" : Str) = some (.str o.kind) := by kernel_rfl
theorem l_Operation_steps : (opF oas o ta).lookup ("steps" : Str) = some (.ref ta) := by kernel_rfl
theorem l_Operation_began : (opF oas o ta).lookup ("began" : Str) = some (.int (o.began : Int)) := by kernel_rfl
theorem l_Operation_left : (opF oas o ta).lookup ("left" : Str) = some (on o.left) := by kernel_rfl
theorem ln_Operation_had_ended_by : (opF oas o ta).lookup ("had_ended_by" : Str) = none := by kernel_rfl
theorem ln_Operation_was_under_way_from : (opF oas o ta).lookup ("was_under_way_from" : Str) = none := by kernel_rfl
theorem l_Operation_stopped : (opF oas o ta).lookup ("stopped" : Str) = some (.bl o.stopped) := by kernel_rfl
theorem l_Operation_version : (opF oas o ta).lookup ("version" : Str) = some (on o.version) := by kernel_rfl
theorem l_Operation_awaited : (opF oas o ta).lookup ("awaited" : Str) = some (refO oas o.awaited) := by kernel_rfl
theorem l_Operation_wipes_seen : (opF oas o ta).lookup ("wipes_seen" : Str) = some (.int (o.seen : Int)) := by kernel_rfl
theorem ln_Operation_has_ended : (opF oas o ta).lookup ("has_ended" : Str) = none := by kernel_rfl
theorem ln_Operation_is_under_way : (opF oas o ta).lookup ("is_under_way" : Str) = none := by kernel_rfl
theorem ln_Operation_can_step : (opF oas o ta).lookup ("can_step" : Str) = none := by kernel_rfl
theorem ln_Operation_stage : (opF oas o ta).lookup ("stage" : Str) = none := by kernel_rfl
theorem l_Play_design : (plF c A t).lookup ("design" : Str) = some (.ref A.d) := by kernel_rfl
theorem l_Play_world : (plF c A t).lookup ("world" : Str) = some (.ref A.w) := by kernel_rfl
theorem l_Play_past : (plF c A t).lookup ("past" : Str) = some (.ref A.pa) := by kernel_rfl
theorem ln_Play_carry_out : (plF c A t).lookup ("carry_out" : Str) = none := by kernel_rfl
theorem ln_Play_is_at_rest : (plF c A t).lookup ("is_at_rest" : Str) = none := by kernel_rfl
theorem ln_Play_rested : (plF c A t).lookup ("rested" : Str) = none := by kernel_rfl
theorem l_Play_path : (plF c A t).lookup ("path" : Str) = some (.ref A.tp) := by kernel_rfl
theorem l_Play_guard : (plF c A t).lookup ("guard" : Str) = some (.str c.guard) := by kernel_rfl
theorem l_Play_flight : (plF c A t).lookup ("flight" : Str) = some (.str c.flight) := by kernel_rfl
theorem l_Play_source : (plF c A t).lookup ("source" : Str) = some (.str c.source) := by kernel_rfl
theorem l_Play_evictions : (plF c A t).lookup ("evictions" : Str) = some (.str c.evict) := by kernel_rfl
theorem l_Play_stops : (plF c A t).lookup ("stops" : Str) = some (.str c.stop) := by kernel_rfl
theorem l_Play_database : (plF c A t).lookup ("database" : Str) = some (.int (t.db : Int)) := by kernel_rfl
theorem l_Play_replica : (plF c A t).lookup ("replica" : Str) = some (.int (t.rep : Int)) := by kernel_rfl
theorem l_Play_cache : (plF c A t).lookup ("cache" : Str) = some (on t.cache) := by kernel_rfl
theorem l_Play_mark : (plF c A t).lookup ("mark" : Str) = some (.int (t.mark : Int)) := by kernel_rfl
theorem l_Play_operations : (plF c A t).lookup ("operations" : Str) = some (.ref A.lo) := by kernel_rfl
theorem l_Play_leader : (plF c A t).lookup ("leader" : Str) = some (refO A.oas t.leader) := by kernel_rfl
theorem l_Play_wipes : (plF c A t).lookup ("wipes" : Str) = some (.int (t.wipes : Int)) := by kernel_rfl
theorem ln_Play_can_come : (plF c A t).lookup ("can_come" : Str) = none := by kernel_rfl
theorem ln_Play_events : (plF c A t).lookup ("events" : Str) = none := by kernel_rfl
theorem ln_Play_do : (plF c A t).lookup ("do" : Str) = none := by kernel_rfl
theorem ln_Play_step : (plF c A t).lookup ("step" : Str) = none := by kernel_rfl
theorem ln_Play_begun : (plF c A t).lookup ("begun" : Str) = none := by kernel_rfl
theorem ln_Play_look : (plF c A t).lookup ("look" : Str) = none := by kernel_rfl
theorem ln_Play_share : (plF c A t).lookup ("share" : Str) = none := by kernel_rfl
theorem ln_Play_fetch : (plF c A t).lookup ("fetch" : Str) = none := by kernel_rfl
theorem ln_Play_fill : (plF c A t).lookup ("fill" : Str) = none := by kernel_rfl
theorem ln_Play_take : (plF c A t).lookup ("take" : Str) = none := by kernel_rfl
theorem ln_Play_store : (plF c A t).lookup ("store" : Str) = none := by kernel_rfl
theorem ln_Play_drop : (plF c A t).lookup ("drop" : Str) = none := by kernel_rfl
theorem ln_Play_put : (plF c A t).lookup ("put" : Str) = none := by kernel_rfl
theorem ln_Play_lets_fill : (plF c A t).lookup ("lets_fill" : Str) = none := by kernel_rfl
theorem ln_Play_lets_in : (plF c A t).lookup ("lets_in" : Str) = none := by kernel_rfl
theorem ln_Play_hold : (plF c A t).lookup ("hold" : Str) = none := by kernel_rfl
theorem ln_Play_raise_mark : (plF c A t).lookup ("raise_mark" : Str) = none := by kernel_rfl
theorem sz_Operation : (opF oas o ta).length < 1000 := by show 8 < 1000; decide
theorem sz_Play : (plF c A t).length < 1000 := by show 16 < 1000; decide
theorem p_Operation_steps {ta2 : Addr} {st : List Str} : putF "steps" (.ref ta2) (opF oas o ta) = opF oas { o with steps := st } ta2 := by kernel_rfl
theorem p_Operation_left {l : Option Nat} : putF "left" (on l) (opF oas o ta) = opF oas { o with left := l } ta := by kernel_rfl
theorem p_Operation_stopped {b : Bool} : putF "stopped" (.bl b) (opF oas o ta) = opF oas { o with stopped := b } ta := by kernel_rfl
theorem p_Operation_version {v : Option Nat} : putF "version" (on v) (opF oas o ta) = opF oas { o with version := v } ta := by kernel_rfl
theorem p_Operation_awaited {l : Option Nat} : putF "awaited" (refO oas l) (opF oas o ta) = opF oas { o with awaited := l } ta := by kernel_rfl
theorem p_Operation_wipes_seen {n : Nat} : putF "wipes_seen" (.int (n : Int)) (opF oas o ta) = opF oas { o with seen := n } ta := by kernel_rfl
theorem p_Play_database {n : Nat} : putF "database" (.int (n : Int)) (plF c A t) = plF c A { t with db := n } := by kernel_rfl
theorem p_Play_replica {n : Nat} : putF "replica" (.int (n : Int)) (plF c A t) = plF c A { t with rep := n } := by kernel_rfl
theorem p_Play_mark {n : Nat} : putF "mark" (.int (n : Int)) (plF c A t) = plF c A { t with mark := n } := by kernel_rfl
theorem p_Play_wipes {n : Nat} : putF "wipes" (.int (n : Int)) (plF c A t) = plF c A { t with wipes := n } := by kernel_rfl
theorem p_Play_cache {v : Option Nat} : putF "cache" (on v) (plF c A t) = plF c A { t with cache := v } := by kernel_rfl
theorem p_Play_leader {l : Option Nat} : putF "leader" (refO A.oas l) (plF c A t) = plF c A { t with leader := l } := by kernel_rfl
end
/-- an operation's object at a -/
structure OpAt (C : Addr) (H : Hp) (oas : List Addr) (a : Addr) (o : POp) : Prop where
  at_ : ∃ dx ta, H a = some (.ins C dx (opF oas o ta)) ∧ H ta = some (.tup (o.steps.map V.str))
structure OpsAt (C : Addr) (H : Hp) (oas : List Addr) (ops : List POp) : Prop where
  len : oas.length = ops.length
  get : ∀ (k : Nat) a o, oas[k]? = some a → ops[k]? = some o → OpAt C H oas a o
  nd : oas.Nodup
def POp.ended (o : POp) : Bool := o.steps.isEmpty
def POp.under (o : POp) : Bool := !o.stopped && !o.ended
def endedAt (ops : List POp) : Option Nat → Bool
  | none => true
  | some l => match ops[l]? with
    | some q => q.ended
    | none => true
def canStep (ops : List POp) (o : POp) : Bool := o.under && endedAt ops o.awaited
def POp.stage (o : POp) : Str := if o.stopped then "stopped" else if o.ended then "ended" else if o.awaited.isSome then "waits" else o.steps.getD 0 ""
@[irreducible] def spEnded (C : Addr) : Sp := fun vs H Q _ => ∃ (a : Addr) (oas : List Addr) (o : POp), vs = [.ref a] ∧ OpAt C H oas a o ∧ Q (.bl o.ended) H
@[irreducible] def spUnder (C : Addr) : Sp := fun vs H Q _ => ∃ (a : Addr) (oas : List Addr) (o : POp), vs = [.ref a] ∧ OpAt C H oas a o ∧ Q (.bl o.under) H
@[irreducible] def spCan (C : Addr) : Sp := fun vs H Q _ => ∃ (k : Nat) (a : Addr) (oas : List Addr) (ops : List POp) (o : POp), vs = [.ref a] ∧ OpsAt C H oas ops ∧ oas[k]? = some a ∧ ops[k]? = some o ∧ (∀ l, o.awaited = some l → l < ops.length) ∧ Q (.bl (canStep ops o)) H
@[irreducible] def spStage (C : Addr) : Sp := fun vs H Q _ => ∃ (a : Addr) (oas : List Addr) (o : POp), vs = [.ref a] ∧ OpAt C H oas a o ∧ (∀ l, o.awaited = some l → l < oas.length) ∧ Q (.str o.stage) H
section
variable {C a : Addr} {H : Hp} {oas : List Addr} {ops : List POp} {o : POp} {k : Nat} {Q : VK} {E : XK}
theorem refO_some {l : Nat} (h : l < oas.length) : ∃ b, oas[l]? = some b ∧ refO oas (some l) = .ref b := by
  refine ⟨oas[l], List.getElem?_eq_getElem h, ?_⟩
  show (match oas[l]? with | some a => V.ref a | none => V.non) = _
  rw [List.getElem?_eq_getElem h]
theorem ended_i (h : OpAt C H oas a o) (q : Q (.bl o.ended) H) : spEnded C [.ref a] H Q E := by
  unfold spEnded
  exact ⟨a, oas, o, rfl, h, q⟩
theorem under_i (h : OpAt C H oas a o) (q : Q (.bl o.under) H) : spUnder C [.ref a] H Q E := by
  unfold spUnder
  exact ⟨a, oas, o, rfl, h, q⟩
theorem can_i (h : OpsAt C H oas ops) (e : oas[k]? = some a) (e' : ops[k]? = some o) (w : ∀ l, o.awaited = some l → l < ops.length) (q : Q (.bl (canStep ops o)) H) : spCan C [.ref a] H Q E := by
  unfold spCan
  exact ⟨k, a, oas, ops, o, rfl, h, e, e', w, q⟩
theorem stage_i (h : OpAt C H oas a o) (w : ∀ l, o.awaited = some l → l < oas.length) (q : Q (.str o.stage) H) : spStage C [.ref a] H Q E := by
  unfold spStage
  exact ⟨a, oas, o, rfl, h, w, q⟩
end
section
variable {P : Program} {w : World} {K : PySem.W.Frag} {mg : Str → Option Value} {base : Heap}
theorem ok_Operation_has_ended (T : Txt K mg) : FnOk P w K mg base CX0 1 T.f_Operation_has_ended T.fd_Operation_has_ended ["self"] (spEnded T.C_Operation) := by
  refine T.F_Operation_has_ended.ok sc_Operation_has_ended (fun vs H Q E h => ?_) (fun cdv A outer s H vs Q E hr h => ?_)
  · unfold spEnded at h
    obtain ⟨a, oas, o, rfl, _⟩ := h
    rfl
  · unfold spEnded at h
    obtain ⟨a, oas, o, rfl, ⟨dx, ta, h1, h2⟩, q⟩ := h
    refine ⟨_, (pss_one (ps_ret (pe_notT (pe_fld (pv 0) rfl)))), ?_⟩
    refine ⟨_, rfl, _, _, _, _, _, rfl, h1, T.c_Operation, T.a_Operation_steps, l_Operation_steps, _, .inr (.inl ⟨_, SqT.of h2, rfl⟩), ?_⟩
    have e : (!!(o.steps.map V.str).isEmpty) = o.ended := by
      unfold POp.ended
      cases o.steps <;> rfl
    rw [e]
    exact q
theorem ok_Operation_is_under_way (T : Txt K mg) : FnOk P w K mg base CX0 2 T.f_Operation_is_under_way T.fd_Operation_is_under_way ["self"] (spUnder T.C_Operation) := by
  refine T.F_Operation_is_under_way.ok sc_Operation_is_under_way (fun vs H Q E h => ?_) (fun cdv A outer s H vs Q E hr h => ?_)
  · unfold spUnder at h
    obtain ⟨a, oas, o, rfl, _⟩ := h
    rfl
  · unfold spUnder at h
    obtain ⟨a, oas, o, rfl, O, q⟩ := h
    obtain ⟨dx, ta, h1, h2⟩ := id O
    refine ⟨_, (pss_one (ps_ret (pe_and (pe_not (pe_fld (pv 0) rfl)) (pe_one (pe_not (pe_meth0 (pv 0) T.c_Operation T.M_Operation_has_ended (ok_Operation_has_ended T) (hr.mono (by decide)) (b_Operation_has_ended T) .nil pass0)))))), ?_⟩
    refine ⟨_, rfl, _, _, _, _, _, rfl, h1, T.c_Operation, T.a_Operation_stopped, l_Operation_stopped, _, rfl, _, rfl, ?_⟩
    unfold POp.under at q
    cases es : o.stopped with
    | true =>
      rw [es] at q
      exact iteF q
    | false =>
      rw [es] at q
      refine iteT ?_
      refine ⟨_, rfl, _, _, _, rfl, h1, ln_Operation_has_ended, ?_⟩
      exact ended_i O ⟨_, rfl, q⟩
theorem ok_Operation_can_step (T : Txt K mg) : FnOk P w K mg base CX0 3 T.f_Operation_can_step T.fd_Operation_can_step ["self"] (spCan T.C_Operation) := by
  refine T.F_Operation_can_step.ok sc_Operation_can_step (fun vs H Q E h => ?_) (fun cdv A outer s H vs Q E hr h => ?_)
  · unfold spCan at h
    obtain ⟨k, a, oas, ops, o, rfl, _⟩ := h
    rfl
  · unfold spCan at h
    obtain ⟨k, a, oas, ops, o, rfl, L, ea, eo, wt, q⟩ := h
    have O := L.get k a o ea eo
    obtain ⟨dx, ta, h1, h2⟩ := id O
    refine ⟨_, (pss_one (ps_ret (pe_and (pe_meth0 (pv 0) T.c_Operation T.M_Operation_is_under_way (ok_Operation_is_under_way T) (hr.mono (by decide)) (b_Operation_is_under_way T) .nil pass0) (pe_one (pe_or (pe_cmpR op_isN (pe_fld (pv 0) rfl) pe_non (nomark _)) (pe_one (pe_meth0 (pe_fld (pv 0) rfl) T.c_Operation T.M_Operation_has_ended (ok_Operation_has_ended T) (hr.mono (by decide)) (b_Operation_has_ended T) .nil pass0))))))), ?_⟩
    refine ⟨_, rfl, _, _, _, rfl, h1, ln_Operation_is_under_way, ?_⟩
    refine under_i O ⟨_, rfl, ?_⟩
    unfold canStep at q
    cases es : o.under with
    | false =>
      rw [es] at q
      exact iteF q
    | true =>
      rw [es] at q
      refine iteT ?_
      refine ⟨_, rfl, _, _, _, _, _, rfl, h1, T.c_Operation, T.a_Operation_awaited, l_Operation_awaited, ?_⟩
      cases ew : o.awaited with
      | none =>
        rw [ew] at q
        exact ⟨rfl, _, rfl, iteT q⟩
      | some l =>
        rw [ew] at q
        have hl := wt l ew
        obtain ⟨b, hb, er⟩ := refO_some (oas := oas) (l := l) (by rw [L.len]; exact hl)
        obtain ⟨u, hu'⟩ : ∃ u, ops[l]? = some u := ⟨_, List.getElem?_eq_getElem hl⟩
        have OB := L.get l b u hb hu'
        obtain ⟨dx', ta', h1', h2'⟩ := id OB
        have eq0 : endedAt ops (some l) = u.ended := by
          show (match ops[l]? with | some q => q.ended | none => true) = _
          rw [hu']
        rw [eq0] at q
        rw [er]
        refine ⟨rfl, _, rfl, iteF ?_⟩
        have e2 : (opF oas o ta).lookup ("awaited" : Str) = some (.ref b) := by
          rw [l_Operation_awaited, ew, er]
        refine ⟨_, rfl, _, _, _, _, _, rfl, h1, T.c_Operation, T.a_Operation_awaited, e2, ?_⟩
        exact ⟨_, _, _, rfl, h1', ln_Operation_has_ended, ended_i OB q⟩
theorem ok_Operation_stage (T : Txt K mg) : FnOk P w K mg base CX0 2 T.f_Operation_stage T.fd_Operation_stage ["self"] (spStage T.C_Operation) := by
  refine T.F_Operation_stage.ok sc_Operation_stage (fun vs H Q E h => ?_) (fun cdv A outer s H vs Q E hr h => ?_)
  · unfold spStage at h
    obtain ⟨a, oas, o, rfl, _⟩ := h
    rfl
  · unfold spStage at h
    obtain ⟨a, oas, o, rfl, O, wt, q⟩ := h
    obtain ⟨dx, ta, h1, h2⟩ := id O
    refine ⟨_, (pss_cons (ps_if (pt_val (pe_fld (pv 0) rfl)) (pss_one (ps_ret pe_str)) pss_nil)
      (pss_cons (ps_if (pt_val (pe_meth0 (pv 0) T.c_Operation T.M_Operation_has_ended (ok_Operation_has_ended T) (hr.mono (by decide)) (b_Operation_has_ended T) .nil pass0)) (pss_one (ps_ret pe_str)) pss_nil)
      (pss_cons (ps_if (pt_cmpR op_notN (pe_fld (pv 0) rfl) pe_non (nomark _)) (pss_one (ps_ret pe_str)) pss_nil)
      (pss_one (ps_ret (pe_ix ix_tup (pe_fld (pv 0) rfl) pe_int (fun _ _ => rfl))))))), ?_⟩
    refine ⟨_, rfl, _, _, _, _, _, rfl, h1, T.c_Operation, T.a_Operation_stopped, l_Operation_stopped, _, rfl, ?_⟩
    unfold POp.stage at q
    refine iteB (fun es => ?_) (fun es => ?_)
    · rw [if_pos es] at q
      exact q
    rw [es, if_neg (by decide)] at q
    refine ⟨_, rfl, _, _, _, rfl, h1, ln_Operation_has_ended, ?_⟩
    refine ended_i O ⟨_, rfl, ?_⟩
    refine iteB (fun ee => ?_) (fun ee => ?_)
    · rw [if_pos ee] at q
      exact q
    rw [ee, if_neg (by decide)] at q
    refine ⟨_, rfl, _, _, _, _, _, rfl, h1, T.c_Operation, T.a_Operation_awaited, l_Operation_awaited, rfl, _, rfl, ?_⟩
    cases ew : o.awaited with
    | some l =>
      obtain ⟨b, hb, er⟩ := refO_some (oas := oas) (l := l) (wt l ew)
      rw [ew] at q
      rw [er]
      exact iteT q
    | none =>
      rw [ew] at q
      refine iteF ?_
      have hs : ∃ x r, o.steps = x :: r := by
        unfold POp.ended at ee
        cases z : o.steps with
        | nil => rw [z] at ee; cases ee
        | cons x r => exact ⟨x, r, rfl⟩
      obtain ⟨x, r, hs⟩ := hs
      rw [hs] at q
      have q : Q (.str x) H := q
      refine ⟨_, rfl, _, _, _, _, _, rfl, h1, T.c_Operation, T.a_Operation_steps, l_Operation_steps, ?_⟩
      exact ⟨_, _, _, _, rfl, rfl, SqT.of h2, (by rw [hs]; exact at_of (j := 0) (by omega) rfl), q⟩
end
end Ca

set_option Elab.async false
set_option linter.all false
set_option maxRecDepth 100000
set_option maxHeartbeats 4000000
namespace Ca
open PySem L2
def PF (p : Addr) (A : PL) : Addr → Prop := fun b => b = p ∨ b = A.lo ∨ b = A.pa ∨ b ∈ A.oas.drop A.g
theorem mem_drop {l : List Addr} {g k : Nat} {a : Addr} (h : g ≤ k) (e : l[k]? = some a) : a ∈ l.drop g := by
  refine List.mem_of_getElem? (i := k - g) ?_
  rw [List.getElem?_drop, show g + (k - g) = k by omega]
  exact e
/-- a play's object at p -/
structure PlayAt (C D : Addr) (c : Conf) (H : Hp) (p : Addr) (A : PL) (t : PSt) : Prop where
  at_ : H p = some (.ins D A.dx (plF c A t))
  tp : H A.tp = some (.tup (c.steps.map V.str))
  lo : H A.lo = some (.lst ((A.oas.drop A.g).map V.ref))
  gl : A.g ≤ A.oas.length
  ops : OpsAt C H A.oas t.ops
  dd : H A.d = some (dT c)
  ww : H A.w = some (wT c)
  pa : H A.pa = some (.lst (A.eas.map V.ref))
  evs : EvsAt H (A.eas.map V.ref) t.past
  nl : A.lo ≠ A.pa
  lw : ∀ l, t.leader = some l → l < t.ops.length
  aw : ∀ (k : Nat) o l, t.ops[k]? = some o → o.awaited = some l → l < t.ops.length
def PSt.put (t : PSt) (k : Nat) (o : POp) : PSt := { t with ops := t.ops.set k o }
section
variable {C D p : Addr} {c : Conf} {H H' : Hp} {A : PL} {t t' : PSt} {k : Nat} {a : Addr} {o o' : POp} {oas : List Addr}
theorem OpAt.same (h : OpAt C H oas a o) (s : Same H H') : OpAt C H' oas a o := by
  obtain ⟨dx, ta, h1, h2⟩ := h
  exact ⟨dx, ta, s _ _ h1, s _ _ h2⟩
theorem OpsAt.same {ops : List POp} (h : OpsAt C H oas ops) (s : Same H H') : OpsAt C H' oas ops := ⟨h.len, fun k a o e e' => (h.get k a o e e').same s, h.nd⟩
theorem PlayAt.same (L : PlayAt C D c H p A t) (s : Same H H') : PlayAt C D c H' p A t := ⟨s _ _ L.at_, s _ _ L.tp, s _ _ L.lo, L.gl, L.ops.same s, s _ _ L.dd, s _ _ L.ww, s _ _ L.pa, L.evs.same s, L.nl, L.lw, L.aw⟩
theorem PlayAt.new {q : Addr} {u : HO} (L : PlayAt C D c H p A t) (n : H q = none) : PlayAt C D c (upd H q u) p A t := L.same (same_new n)
theorem OpsAt.ofAt {ops : List POp} (h : OpsAt C H oas ops) (e : oas[k]? = some a) : ∃ o, ops[k]? = some o ∧ OpAt C H oas a o := by
  have hlt : k < ops.length := by
    rw [← h.len]
    exact (List.getElem?_eq_some_iff.mp e).1
  exact ⟨ops[k], List.getElem?_eq_getElem hlt, h.get k a _ e (List.getElem?_eq_getElem hlt)⟩
theorem OpsAt.ofOp {ops : List POp} (h : OpsAt C H oas ops) (e : ops[k]? = some o) : ∃ a, oas[k]? = some a ∧ OpAt C H oas a o := by
  have hlt : k < oas.length := by
    rw [h.len]
    exact (List.getElem?_eq_some_iff.mp e).1
  exact ⟨oas[k], List.getElem?_eq_getElem hlt, h.get k _ o (List.getElem?_eq_getElem hlt) e⟩
theorem PlayAt.ne_op (L : PlayAt C D c H p A t) (e : A.oas[k]? = some a) : a ≠ p := by
  obtain ⟨o, _, ⟨dx, ta, h1, _⟩⟩ := L.ops.ofAt e
  intro z
  rw [z, L.at_] at h1
  have z2 := Option.some.inj h1
  have z3 := congrArg List.length (HO.ins.inj z2).2.2
  exact absurd z3 (by show ¬ (16 : Nat) = 8; decide)
/-- the play's own fields change -/
theorem evs_put {q : Addr} {u u' : HO} {xs : List V} {es : List Ev} (x : EvsAt H xs es) (h : H q = some u) (n : ∀ ys, u ≠ .tup ys) : EvsAt (upd H q u') xs es := Paired.mapP x fun _ _ ⟨t, a, b⟩ => ⟨t, a, by
  rw [upd_ne (fun z => by rw [z, h] at b; exact n _ (Option.some.inj b))]
  exact b⟩
theorem PlayAt.hput (L : PlayAt C D c H p A t) (eo : t'.ops = t.ops) (ep : t'.past = t.past) (lw : ∀ l, t'.leader = some l → l < t.ops.length) : PlayAt C D c (upd H p (.ins D A.dx (plF c A t'))) p A t' := by
  have n : ∀ {b : Addr} {u : HO}, H b = some u → (∀ C dx fs, u ≠ .ins C dx fs) → b ≠ p := fun {b u} e q z => by
    rw [z, L.at_] at e
    exact q _ _ _ (Option.some.inj e).symm
  refine ⟨upd_same, ?_, ?_, L.gl, ⟨by rw [eo]; exact L.ops.len, fun k a o e e' => ?_, L.ops.nd⟩, ?_, ?_, ?_, ?_, L.nl, by rw [eo]; exact lw, by rw [eo]; exact L.aw⟩
  · rw [upd_ne (n L.tp (by intro _ _ _ z; cases z))]; exact L.tp
  · rw [upd_ne (n L.lo (by intro _ _ _ z; cases z))]; exact L.lo
  · rw [eo] at e'
    obtain ⟨dx, ta, h1, h2⟩ := L.ops.get k a o e e'
    exact ⟨dx, ta, by rw [upd_ne (L.ne_op e)]; exact h1, by rw [upd_ne (n h2 (by intro _ _ _ z; cases z))]; exact h2⟩
  · rw [upd_ne (n L.dd (by intro _ _ _ z; cases z))]; exact L.dd
  · rw [upd_ne (n L.ww (by intro _ _ _ z; cases z))]; exact L.ww
  · rw [upd_ne (n L.pa (by intro _ _ _ z; cases z))]; exact L.pa
  · rw [ep]; exact evs_put L.evs L.at_ (by intro _ z; cases z)
/-- one operation's fields change -/
theorem PlayAt.oput {dx ta' : Addr} (L : PlayAt C D c H p A t) (e : A.oas[k]? = some a) (eo : t.ops[k]? = some o) (ha : ∃ ta, H a = some (.ins C dx (opF A.oas o ta))) (ht : H ta' = some (.tup (o'.steps.map V.str))) (hw : ∀ l, o'.awaited = some l → l < t.ops.length) :
    PlayAt C D c (upd H a (.ins C dx (opF A.oas o' ta'))) p A (t.put k o') := by
  obtain ⟨ta, ha⟩ := ha
  have n : ∀ {b : Addr} {u : HO}, H b = some u → (∀ C dx fs, u ≠ .ins C dx fs) → b ≠ a := fun {b u} e q z => by
    rw [z, ha] at e
    exact q _ _ _ (Option.some.inj e).symm
  have hlt : k < t.ops.length := (List.getElem?_eq_some_iff.mp eo).1
  refine ⟨?_, ?_, ?_, L.gl, ⟨?_, fun j b u q1 q2 => ?_, L.ops.nd⟩, ?_, ?_, ?_, evs_put L.evs ha (by intro _ z; cases z), L.nl, fun l z => ?_, fun j u l q1 q2 => ?_⟩
  · rw [upd_ne (L.ne_op e).symm]; exact L.at_
  · rw [upd_ne (n L.tp (by intro _ _ _ z; cases z))]; exact L.tp
  · rw [upd_ne (n L.lo (by intro _ _ _ z; cases z))]; exact L.lo
  · show A.oas.length = (t.ops.set k o').length
    rw [List.length_set]
    exact L.ops.len
  · have q2' : (t.ops.set k o')[j]? = some u := q2
    by_cases hj : j = k
    · subst hj
      rw [e] at q1
      cases q1
      rw [List.getElem?_set_self hlt] at q2'
      cases q2'
      exact ⟨dx, ta', upd_same, by rw [upd_ne (n ht (by intro _ _ _ z; cases z))]; exact ht⟩
    · rw [List.getElem?_set_ne (Ne.symm hj)] at q2'
      have nb : b ≠ a := fun z => by
        subst z
        exact hj (nd_ix L.ops.nd q1 e)
      obtain ⟨dx2, ta2, h1, h2⟩ := L.ops.get j b u q1 q2'
      exact ⟨dx2, ta2, by rw [upd_ne nb]; exact h1, by rw [upd_ne (n h2 (by intro _ _ _ z; cases z))]; exact h2⟩
  · rw [upd_ne (n L.dd (by intro _ _ _ z; cases z))]; exact L.dd
  · rw [upd_ne (n L.ww (by intro _ _ _ z; cases z))]; exact L.ww
  · rw [upd_ne (n L.pa (by intro _ _ _ z; cases z))]; exact L.pa
  · show l < (t.ops.set k o').length
    rw [List.length_set]
    exact L.lw l z
  · show l < (t.ops.set k o').length
    rw [List.length_set]
    have q1' : (t.ops.set k o')[j]? = some u := q1
    by_cases hj : j = k
    · subst hj
      rw [List.getElem?_set_self hlt] at q1'
      cases q1'
      exact hw l q2
    · rw [List.getElem?_set_ne (Ne.symm hj)] at q1'
      exact L.aw j u l q1' q2
theorem refO_app {l : Option Nat} (h : ∀ j, l = some j → j < oas.length) : refO (oas ++ [a]) l = refO oas l := by
  cases l with
  | none => rfl
  | some j =>
    have e : (oas ++ [a])[j]? = oas[j]? := List.getElem?_append_left (h j rfl)
    show (match (oas ++ [a])[j]? with | some a => V.ref a | none => V.non) = (match oas[j]? with | some a => V.ref a | none => V.non)
    rw [e]
theorem opF_app {ta : Addr} (h : ∀ j, o.awaited = some j → j < oas.length) : opF (oas ++ [a]) o ta = opF oas o ta := by
  unfold opF
  rw [refO_app h]
/-- a new operation at a is appended -/
theorem PlayAt.opush {dx ta : Addr} (L : PlayAt C D c H p A t) (na : ¬ a ∈ A.oas) (ha : H a = some (.ins C dx (opF [] o ta))) (ht : H ta = some (.tup (o.steps.map V.str))) (w0 : o.awaited = none) :
    PlayAt C D c (upd H A.lo (.lst ((A.oas.drop A.g).map V.ref ++ [.ref a]))) p { A with oas := A.oas ++ [a] } { t with ops := t.ops ++ [o] } := by
  have n : ∀ {b : Addr} {u : HO}, H b = some u → (∀ xs, u ≠ .lst xs) → b ≠ A.lo := fun {b u} e q z => by
    rw [z, L.lo] at e
    exact q _ (Option.some.inj e).symm
  refine ⟨?_, ?_, ?_, by show A.g ≤ (A.oas ++ [a]).length; rw [List.length_append]; exact Nat.le_trans L.gl (Nat.le_add_right _ _), ⟨?_, fun j b u q1 q2 => ?_, ?_⟩, ?_, ?_, ?_, evs_put L.evs L.lo (by intro _ z; cases z), L.nl, fun l z => ?_, fun j u l q1 q2 => ?_⟩
  · show upd H A.lo _ p = some (.ins D A.dx (plF c { A with oas := A.oas ++ [a] } _))
    rw [upd_ne (n L.at_ (by intro _ z; cases z)), L.at_]
    unfold plF
    show _ = some (HO.ins D A.dx [_, _, _, _, _, _, _, _, _, _, _, _, _, _, ("leader", refO (A.oas ++ [a]) t.leader), _])
    rw [refO_app (fun j z => by rw [L.ops.len]; exact L.lw j z)]
  · show upd H A.lo _ A.tp = _
    rw [upd_ne (n L.tp (by intro _ z; cases z))]
    exact L.tp
  · show upd H A.lo _ A.lo = some (.lst (((A.oas ++ [a]).drop A.g).map V.ref))
    rw [upd_same, List.drop_append_of_le_length L.gl, List.map_append]
    rfl
  · show (A.oas ++ [a]).length = (t.ops ++ [o]).length
    rw [List.length_append, List.length_append, L.ops.len]
    rfl
  · have q1' : (A.oas ++ [a])[j]? = some b := q1
    have q2' : (t.ops ++ [o])[j]? = some u := q2
    by_cases hj : j < A.oas.length
    · rw [List.getElem?_append_left hj] at q1'
      rw [List.getElem?_append_left (by rw [← L.ops.len]; exact hj)] at q2'
      obtain ⟨dx2, ta2, h1, h2⟩ := L.ops.get j b u q1' q2'
      refine ⟨dx2, ta2, ?_, ?_⟩
      · show upd H A.lo _ b = some (.ins C dx2 (opF (A.oas ++ [a]) u ta2))
        rw [upd_ne (n h1 (by intro _ z; cases z)), h1, opF_app (fun l z => by rw [L.ops.len]; exact L.aw j u l q2' z)]
      · rw [upd_ne (n h2 (by intro _ z; cases z))]
        exact h2
    · rw [List.getElem?_append_right (by omega)] at q1'
      rw [List.getElem?_append_right (by rw [← L.ops.len]; omega)] at q2'
      have e0 : j - A.oas.length = 0 := by
        have := (List.getElem?_eq_some_iff.mp q1').1
        simp at this
        omega
      rw [e0] at q1'
      rw [← L.ops.len, e0] at q2'
      cases q1'
      cases q2'
      refine ⟨dx, ta, ?_, ?_⟩
      · show upd H A.lo _ a = some (.ins C dx (opF (A.oas ++ [a]) o ta))
        rw [upd_ne (n ha (by intro _ z; cases z)), ha]
        unfold opF
        rw [w0]
        rfl
      · rw [upd_ne (n ht (by intro _ z; cases z))]
        exact ht
  · show (A.oas ++ [a]).Nodup
    rw [List.nodup_append]
    refine ⟨L.ops.nd, by simp, fun x hx y hy => ?_⟩
    simp at hy
    subst hy
    exact fun z => na (by rw [← z]; exact hx)
  · show upd H A.lo _ A.d = _
    rw [upd_ne (n L.dd (by intro _ z; cases z))]; exact L.dd
  · show upd H A.lo _ A.w = _
    rw [upd_ne (n L.ww (by intro _ z; cases z))]; exact L.ww
  · show upd H A.lo _ A.pa = _
    rw [upd_ne L.nl.symm]; exact L.pa
  · show l < (t.ops ++ [o]).length
    rw [List.length_append]
    have := L.lw l z
    omega
  · show l < (t.ops ++ [o]).length
    rw [List.length_append]
    have q1' : (t.ops ++ [o])[j]? = some u := q1
    by_cases hj : j < t.ops.length
    · rw [List.getElem?_append_left hj] at q1'
      have := L.aw j u l q1' q2
      omega
    · rw [List.getElem?_append_right (by omega)] at q1'
      have e0 : j - t.ops.length = 0 := by
        have := (List.getElem?_eq_some_iff.mp q1').1
        simp at this
        omega
      rw [e0] at q1'
      cases q1'
      rw [w0] at q2
      cases q2
/-- an event at ea is noted -/
theorem PlayAt.ppush {ea : Addr} {e : Ev} (L : PlayAt C D c H p A t) (h : H ea = some (.tup (evV e))) :
    PlayAt C D c (upd H A.pa (.lst (A.eas.map V.ref ++ [.ref ea]))) p { A with eas := A.eas ++ [ea] } { t with past := t.past ++ [e] } := by
  have n : ∀ {b : Addr} {u : HO}, H b = some u → (∀ xs, u ≠ .lst xs) → b ≠ A.pa := fun {b u} e q z => by
    rw [z, L.pa] at e
    exact q _ (Option.some.inj e).symm
  refine ⟨?_, ?_, ?_, L.gl, ⟨L.ops.len, fun j b u q1 q2 => ?_, L.ops.nd⟩, ?_, ?_, ?_, ?_, L.nl, L.lw, L.aw⟩
  · show upd H A.pa _ p = some (.ins D A.dx (plF c A t))
    rw [upd_ne (n L.at_ (by intro _ z; cases z))]; exact L.at_
  · show upd H A.pa _ A.tp = _
    rw [upd_ne (n L.tp (by intro _ z; cases z))]; exact L.tp
  · show upd H A.pa _ A.lo = _
    rw [upd_ne L.nl]; exact L.lo
  · obtain ⟨dx2, ta2, h1, h2⟩ := L.ops.get j b u q1 q2
    exact ⟨dx2, ta2, by rw [upd_ne (n h1 (by intro _ z; cases z))]; exact h1, by rw [upd_ne (n h2 (by intro _ z; cases z))]; exact h2⟩
  · show upd H A.pa _ A.d = _
    rw [upd_ne (n L.dd (by intro _ z; cases z))]; exact L.dd
  · show upd H A.pa _ A.w = _
    rw [upd_ne (n L.ww (by intro _ z; cases z))]; exact L.ww
  · show upd H A.pa _ A.pa = some (.lst ((A.eas ++ [ea]).map V.ref))
    rw [upd_same, List.map_append]
    rfl
  · show EvsAt _ ((A.eas ++ [ea]).map V.ref) (t.past ++ [e])
    rw [List.map_append]
    refine Paired.app (evs_put L.evs L.pa (by intro _ z; cases z)) (.cons ⟨ea, rfl, ?_⟩ .nil)
    rw [upd_ne (n h (by intro _ z; cases z))]; exact h
end
/-- a play whose list holds all its operations -/
structure Play0 (C D : Addr) (c : Conf) (H : Hp) (p : Addr) (A : PL) (t : PSt) : Prop extends PlayAt C D c H p A t where
  g0 : A.g = 0
theorem Play0.same {C D p : Addr} {c : Conf} {H H' : Hp} {A : PL} {t : PSt} (L : Play0 C D c H p A t) (s : Same H H') : Play0 C D c H' p A t := ⟨L.toPlayAt.same s, L.g0⟩
theorem Play0.new {C D p q : Addr} {c : Conf} {H : Hp} {A : PL} {t : PSt} {u : HO} (L : Play0 C D c H p A t) (n : H q = none) : Play0 C D c (upd H q u) p A t := L.same (same_new n)
theorem Play0.lo0 {C D p : Addr} {c : Conf} {H : Hp} {A : PL} {t : PSt} (L : Play0 C D c H p A t) : H A.lo = some (.lst (A.oas.map V.ref)) := by
  have z := L.lo
  rw [L.g0] at z
  exact z
/-! ### what the methods do -/
def markP (c : Conf) (t : PSt) (v : Nat) : PSt := if c.guard = "mark" then { t with mark := max t.mark v } else t
def holdP (c : Conf) (t : PSt) (v : Nat) : PSt := markP c { t with cache := some v } v
def inP (c : Conf) (t : PSt) (v : Nat) : Bool :=
  if c.guard = "newer" then (match t.cache with | none => true | some x => decide (x < v)) else if c.guard = "mark" then decide (t.mark ≤ v) else true
def fillB (c : Conf) (t : PSt) (o : POp) (v : Nat) : Bool :=
  if c.guard = "empty" then t.cache.isNone else if c.guard = "token" then decide (o.seen = t.wipes) else inP c t v
/-- a method of a play that changes it -/
def Mut (C D : Addr) (c : Conf) (H : Hp) (p : Addr) (A : PL) (t' : PSt) (Q : VK) : Prop := ∀ H', PlayAt C D c H' p A t' → Keep (PF p A) H H' → Q .non H'
@[irreducible] def spMark (C D : Addr) : Sp := fun vs H Q _ => ∃ (c : Conf) (p : Addr) (A : PL) (t : PSt) (v : Nat), vs = [.ref p, .int (v : Int)] ∧ PlayAt C D c H p A t ∧ Mut C D c H p A (markP c t v) Q
@[irreducible] def spHoldP (C D : Addr) : Sp := fun vs H Q _ => ∃ (c : Conf) (p : Addr) (A : PL) (t : PSt) (v : Nat), vs = [.ref p, .int (v : Int)] ∧ PlayAt C D c H p A t ∧ Mut C D c H p A (holdP c t v) Q
@[irreducible] def spIn (C D : Addr) : Sp := fun vs H Q _ => ∃ (c : Conf) (p : Addr) (A : PL) (t : PSt) (v : Nat), vs = [.ref p, .int (v : Int)] ∧ PlayAt C D c H p A t ∧ Q (.bl (inP c t v)) H
section
variable {C D p : Addr} {c : Conf} {H : Hp} {A : PL} {t : PSt} {v : Nat} {Q : VK} {E : XK}
theorem mark_i (L : PlayAt C D c H p A t) (q : Mut C D c H p A (markP c t v) Q) : spMark C D [.ref p, .int (v : Int)] H Q E := by
  unfold spMark
  exact ⟨c, p, A, t, v, rfl, L, q⟩
theorem hold_ip (L : PlayAt C D c H p A t) (q : Mut C D c H p A (holdP c t v) Q) : spHoldP C D [.ref p, .int (v : Int)] H Q E := by
  unfold spHoldP
  exact ⟨c, p, A, t, v, rfl, L, q⟩
theorem in_i (L : PlayAt C D c H p A t) (q : Q (.bl (inP c t v)) H) : spIn C D [.ref p, .int (v : Int)] H Q E := by
  unfold spIn
  exact ⟨c, p, A, t, v, rfl, L, q⟩
end
section
variable {P : Program} {w : World} {K : PySem.W.Frag} {mg : Str → Option Value} {base : Heap}
theorem ok_Play_raise_mark (T : Txt K mg) : FnOk P w K mg base CX0 1 T.f_Play_raise_mark T.fd_Play_raise_mark ["self", "version"] (spMark T.C_Operation T.C_Play) := by
  refine T.F_Play_raise_mark.ok sc_Play_raise_mark (fun vs H Q E h => ?_) (fun cdv A outer s H vs Q E hr h => ?_)
  · unfold spMark at h
    obtain ⟨c, p, A, t, v, rfl, _⟩ := h
    rfl
  · unfold spMark at h
    obtain ⟨c, p, A, t, v, rfl, L, q⟩ := h
    refine ⟨_, (pss_one (ps_if (pt_cmpR op_eq (pe_fld (pv 0) rfl) pe_str (nomark _)) (pss_one (ps_fld (pv 0) (pe_callB (call_max2 rfl) (by rfl) T.n_max (by decide +kernel) (pa_cons (pe_fld (pv 0) rfl) (pa_cons (pv 1) pa_nil))) rfl)) pss_nil)), ?_⟩
    refine ⟨_, rfl, _, _, _, _, _, rfl, L.at_, T.c_Play, T.a_Play_guard, l_Play_guard, rfl, _, rfl, ?_⟩
    refine iteS (fun e => ?_) (fun e => ?_)
    · have z : markP c t v = { t with mark := max t.mark v } := if_pos e
      rw [z] at q
      refine ⟨_, rfl, _, _, _, _, _, rfl, L.at_, T.c_Play, T.a_Play_mark, l_Play_mark, _, rfl, _, _, rfl, _, rfl, _, _, _, _, rfl, L.at_, T.c_Play, T.a_Play_mark, sz_Play, ?_⟩
      rw [max_nat, p_Play_mark]
      exact q _ (L.hput rfl rfl L.lw) (Keep.refl.put (.inl rfl))
    · have z : markP c t v = t := if_neg e
      rw [z] at q
      exact q _ L Keep.refl
theorem ok_Play_hold (T : Txt K mg) : FnOk P w K mg base CX0 2 T.f_Play_hold T.fd_Play_hold ["self", "version"] (spHoldP T.C_Operation T.C_Play) := by
  refine T.F_Play_hold.ok sc_Play_hold (fun vs H Q E h => ?_) (fun cdv A outer s H vs Q E hr h => ?_)
  · unfold spHoldP at h
    obtain ⟨c, p, A, t, v, rfl, _⟩ := h
    rfl
  · unfold spHoldP at h
    obtain ⟨c, p, A, t, v, rfl, L, q⟩ := h
    refine ⟨_, (pss_cons (ps_fld (pv 0) (pv 1) rfl)
      (pss_one (ps_expr (pe_meth (pv 0) T.c_Play T.M_Play_raise_mark (ok_Play_raise_mark T) (hr.mono (by decide)) (b_Play_raise_mark T) .nil pass0 (pa_cons (pv 1) pa_nil))))), ?_⟩
    refine ⟨_, rfl, _, rfl, _, _, _, _, rfl, L.at_, T.c_Play, T.a_Play_cache, sz_Play, ?_⟩
    have e : V.int (v : Int) = on (some v) := rfl
    rw [e, p_Play_cache]
    have L1 := L.hput (t' := { t with cache := some v }) rfl rfl L.lw
    have K1 := (Keep.refl (F := PF p A) (H := H)).put (o := .ins T.C_Play A.dx (plF c A { t with cache := some v })) (p := p) (.inl rfl)
    generalize upd H p _ = H1 at L1 K1
    refine ⟨_, rfl, _, _, _, rfl, L1.at_, ln_Play_raise_mark, _, rfl, ?_⟩
    exact mark_i L1 fun H2 L2 K2 => q H2 L2 (K1.trans K2)
theorem ok_Play_lets_in (T : Txt K mg) : FnOk P w K mg base CX0 1 T.f_Play_lets_in T.fd_Play_lets_in ["self", "version"] (spIn T.C_Operation T.C_Play) := by
  refine T.F_Play_lets_in.ok sc_Play_lets_in (fun vs H Q E h => ?_) (fun cdv A outer s H vs Q E hr h => ?_)
  · unfold spIn at h
    obtain ⟨c, p, A, t, v, rfl, _⟩ := h
    rfl
  · unfold spIn at h
    obtain ⟨c, p, A, t, v, rfl, L, q⟩ := h
    refine ⟨_, (pss_cons (ps_if (pt_cmpR op_eq (pe_fld (pv 0) rfl) pe_str (nomark _)) (pss_one (ps_ret (pe_or (pe_cmpR op_isN (pe_fld (pv 0) rfl) pe_non (nomark _)) (pe_one (pe_cmpR op_lt (pe_fld (pv 0) rfl) (pv 1) (nomark _)))))) pss_nil)
      (pss_cons (ps_if (pt_cmpR op_eq (pe_fld (pv 0) rfl) pe_str (nomark _)) (pss_one (ps_ret (pe_cmpR op_ge (pv 1) (pe_fld (pv 0) rfl) (nomark _)))) pss_nil)
      (pss_one (ps_ret pe_bl)))), ?_⟩
    unfold inP at q
    refine ⟨_, rfl, _, _, _, _, _, rfl, L.at_, T.c_Play, T.a_Play_guard, l_Play_guard, rfl, _, rfl, ?_⟩
    refine iteS (fun e => ?_) (fun e => ?_)
    · rw [if_pos e] at q
      refine ⟨_, rfl, _, _, _, _, _, rfl, L.at_, T.c_Play, T.a_Play_cache, l_Play_cache, rfl, _, rfl, ?_⟩
      cases ec : t.cache with
      | none =>
        rw [ec] at q
        exact iteT q
      | some x =>
        rw [ec] at q
        refine iteF ?_
        have e2 : (plF c A t).lookup ("cache" : Str) = some (.int (x : Int)) := by
          rw [l_Play_cache, ec]
          rfl
        refine ⟨_, rfl, _, _, _, _, _, rfl, L.at_, T.c_Play, T.a_Play_cache, e2, _, rfl, _, _, rfl, rfl, ?_⟩
        show Q (.bl (decide ((x : Int) < (v : Int)))) H
        rw [show decide ((x : Int) < (v : Int)) = decide (x < v) from by simp]
        exact q
    · rw [if_neg e] at q
      refine ⟨_, rfl, _, _, _, _, _, rfl, L.at_, T.c_Play, T.a_Play_guard, l_Play_guard, rfl, _, rfl, ?_⟩
      refine iteS (fun e => ?_) (fun e => ?_)
      · rw [if_pos e] at q
        refine ⟨_, rfl, _, rfl, _, _, _, _, _, rfl, L.at_, T.c_Play, T.a_Play_mark, l_Play_mark, _, _, rfl, rfl, ?_⟩
        show Q (.bl (decide ((t.mark : Int) ≤ (v : Int)))) H
        rw [show decide ((t.mark : Int) ≤ (v : Int)) = decide (t.mark ≤ v) from by simp]
        exact q
      · rw [if_neg e] at q
        exact q
end
end Ca

set_option Elab.async false
set_option linter.all false
set_option maxRecDepth 100000
set_option maxHeartbeats 4000000
namespace Ca
open PySem L2
def fetchP (c : Conf) (t : PSt) (k : Nat) (o : POp) : PSt := t.put k { o with version := some (if c.source = "replica" then t.rep else t.db) }
def fillP (c : Conf) (t : PSt) (k : Nat) (o : POp) : PSt := match o.version with
  | some v => if fillB c t o v then holdP c t v else t
  | none => t
def versionAt (ops : List POp) : Option Nat → Option Nat
  | none => none
  | some l => (ops[l]?).bind (·.version)
def takeP (c : Conf) (t : PSt) (k : Nat) (o : POp) : PSt := t.put k { o with version := versionAt t.ops o.awaited }
def storeP (c : Conf) (t : PSt) (k : Nat) (o : POp) : PSt := { t with db := t.db + 1 }.put k { o with version := some (t.db + 1) }
def dropP (c : Conf) (t : PSt) (k : Nat) (o : POp) : PSt := match o.version with
  | some v => markP c { t with cache := none, wipes := t.wipes + 1 } v
  | none => { t with cache := none, wipes := t.wipes + 1 }
def putP (c : Conf) (t : PSt) (k : Nat) (o : POp) : PSt := match o.version with
  | some v => if inP c { t with wipes := t.wipes + 1 } v then holdP c { t with wipes := t.wipes + 1 } v else { t with wipes := t.wipes + 1 }
  | none => { t with wipes := t.wipes + 1 }
def shareP (c : Conf) (t : PSt) (k : Nat) (o : POp) : PSt := if endedAt t.ops t.leader then { t with leader := some k } else t.put k { o with awaited := t.leader, steps := ["take"] }
def lookP (c : Conf) (t : PSt) (k : Nat) (o : POp) : PSt := match t.cache with
  | some v => t.put k { o with seen := t.wipes, version := some v, steps := [] }
  | none => if c.flight = "shared" then shareP c (t.put k { o with seen := t.wipes }) k { o with seen := t.wipes } else t.put k { o with seen := t.wipes }
/-- a method of a play with an operation that changes it -/
@[irreducible] def spOp (C D : Addr) (pre : Conf → PSt → Nat → POp → Prop) (f : Conf → PSt → Nat → POp → PSt) : Sp := fun vs H Q _ => ∃ (c : Conf) (p : Addr) (A : PL) (t : PSt) (k : Nat) (a : Addr) (o : POp),
  vs = [.ref p, .ref a] ∧ PlayAt C D c H p A t ∧ A.g ≤ k ∧ A.oas[k]? = some a ∧ t.ops[k]? = some o ∧ pre c t k o ∧ Mut C D c H p A (f c t k o) Q
@[irreducible] def spFillB (C D : Addr) : Sp := fun vs H Q _ => ∃ (c : Conf) (p : Addr) (A : PL) (t : PSt) (k : Nat) (a : Addr) (o : POp) (v : Nat),
  vs = [.ref p, .ref a] ∧ PlayAt C D c H p A t ∧ A.oas[k]? = some a ∧ t.ops[k]? = some o ∧ o.version = some v ∧ Q (.bl (fillB c t o v)) H
section
variable {C D p : Addr} {c : Conf} {H H' : Hp} {A : PL} {t t' : PSt} {k : Nat} {a : Addr} {o o' : POp} {oas : List Addr} {v : Nat} {Q : VK} {E : XK}
theorem op_i {pre : Conf → PSt → Nat → POp → Prop} {f : Conf → PSt → Nat → POp → PSt} (L : PlayAt C D c H p A t) (hg : A.g ≤ k) (e : A.oas[k]? = some a) (e' : t.ops[k]? = some o) (h : pre c t k o) (q : Mut C D c H p A (f c t k o) Q) : spOp C D pre f [.ref p, .ref a] H Q E := by
  unfold spOp
  exact ⟨c, p, A, t, k, a, o, rfl, L, hg, e, e', h, q⟩
theorem fillB_i (L : PlayAt C D c H p A t) (e : A.oas[k]? = some a) (e' : t.ops[k]? = some o) (h : o.version = some v) (q : Q (.bl (fillB c t o v)) H) : spFillB C D [.ref p, .ref a] H Q E := by
  unfold spFillB
  exact ⟨c, p, A, t, k, a, o, v, rfl, L, e, e', h, q⟩
theorem inc_nat {n : Nat} : (n : Int) + 1 = ((n + 1 : Nat) : Int) := by omega
theorem pf_op (hg : A.g ≤ k) (e : A.oas[k]? = some a) : PF p A a := .inr (.inr (.inr (mem_drop hg e)))
theorem put_gP (e : t.ops[k]? = some o) : (t.put k o').ops[k]? = some o' := List.getElem?_set_self (List.getElem?_eq_some_iff.mp e).1
theorem put_pP {o'' : POp} : (t.put k o').put k o'' = t.put k o'' := by
  show ({ t with ops := (t.ops.set k o').set k o'' } : PSt) = { t with ops := t.ops.set k o'' }
  rw [List.set_set]
end
section
variable {P : Program} {w : World} {K : PySem.W.Frag} {mg : Str → Option Value} {base : Heap}
theorem ok_Play_lets_fill (T : Txt K mg) : FnOk P w K mg base CX0 2 T.f_Play_lets_fill T.fd_Play_lets_fill ["self", "read"] (spFillB T.C_Operation T.C_Play) := by
  refine T.F_Play_lets_fill.ok sc_Play_lets_fill (fun vs H Q E h => ?_) (fun cdv A outer s H vs Q E hr h => ?_)
  · unfold spFillB at h
    obtain ⟨c, p, A, t, k, a, o, v, rfl, _⟩ := h
    rfl
  · unfold spFillB at h
    obtain ⟨c, p, A, t, k, a, o, v, rfl, L, ea, eo, ev, q⟩ := h
    obtain ⟨dx, ta, h1, h2⟩ := L.ops.get k a o ea eo
    refine ⟨_, (pss_cons (ps_if (pt_cmpR op_eq (pe_fld (pv 0) rfl) pe_str (nomark _)) (pss_one (ps_ret (pe_cmpR op_isN (pe_fld (pv 0) rfl) pe_non (nomark _)))) pss_nil)
      (pss_cons (ps_if (pt_cmpR op_eq (pe_fld (pv 0) rfl) pe_str (nomark _)) (pss_one (ps_ret (pe_cmpR op_eq (pe_fld (pv 1) rfl) (pe_fld (pv 0) rfl) (nomark _)))) pss_nil)
      (pss_one (ps_ret (pe_meth (pv 0) T.c_Play T.M_Play_lets_in (ok_Play_lets_in T) (hr.mono (by decide)) (b_Play_lets_in T) .nil pass0 (pa_cons (pe_fld (pv 1) rfl) pa_nil)))))), ?_⟩
    unfold fillB at q
    refine ⟨_, rfl, _, _, _, _, _, rfl, L.at_, T.c_Play, T.a_Play_guard, l_Play_guard, rfl, _, rfl, ?_⟩
    refine iteS (fun e => ?_) (fun e => ?_)
    · rw [if_pos e] at q
      refine ⟨_, rfl, _, _, _, _, _, rfl, L.at_, T.c_Play, T.a_Play_cache, l_Play_cache, rfl, ?_⟩
      show Q (.bl (decide (on t.cache = V.non))) H
      rw [show decide (on t.cache = V.non) = t.cache.isNone from by cases t.cache <;> rfl]
      exact q
    rw [if_neg e] at q
    refine ⟨_, rfl, _, _, _, _, _, rfl, L.at_, T.c_Play, T.a_Play_guard, l_Play_guard, rfl, _, rfl, ?_⟩
    refine iteS (fun e => ?_) (fun e => ?_)
    · rw [if_pos e] at q
      refine ⟨_, rfl, _, _, _, _, _, rfl, h1, T.c_Operation, T.a_Operation_wipes_seen, l_Operation_wipes_seen, _, rfl, _, _, _, _, _, rfl, L.at_, T.c_Play, T.a_Play_wipes, l_Play_wipes, rfl, ?_⟩
      show Q (.bl (decide (V.int (o.seen : Int) = V.int (t.wipes : Int)))) H
      rw [show decide (V.int (o.seen : Int) = V.int (t.wipes : Int)) = decide (o.seen = t.wipes) from by rw [dec_int, Bool.eq_iff_iff]; simp; omega]
      exact q
    rw [if_neg e] at q
    have e2 : (opF A.oas o ta).lookup ("version" : Str) = some (.int (v : Int)) := by
      rw [l_Operation_version, ev]
      rfl
    refine ⟨_, rfl, _, _, _, rfl, L.at_, ln_Play_lets_in, _, rfl, _, _, _, _, _, rfl, h1, T.c_Operation, T.a_Operation_version, e2, ?_⟩
    exact in_i L q
theorem ok_Play_fetch (T : Txt K mg) : FnOk P w K mg base CX0 1 T.f_Play_fetch T.fd_Play_fetch ["self", "read"] (spOp T.C_Operation T.C_Play (fun _ _ _ _ => True) fetchP) := by
  refine T.F_Play_fetch.ok sc_Play_fetch (fun vs H Q E h => ?_) (fun cdv A outer s H vs Q E hr h => ?_)
  · unfold spOp at h
    obtain ⟨c, p, A, t, k, a, o, rfl, _⟩ := h
    rfl
  · unfold spOp at h
    obtain ⟨c, p, A, t, k, a, o, rfl, L, hgk, ea, eo, _, q⟩ := h
    have O := L.ops.get k a o ea eo
    obtain ⟨dx, ta, h1, h2⟩ := id O
    refine ⟨_, (pss_one (ps_if (pt_cmpR op_eq (pe_fld (pv 0) rfl) pe_str (nomark _)) (pss_one (ps_fld (pv 1) (pe_fld (pv 0) rfl) rfl)) (pss_one (ps_fld (pv 1) (pe_fld (pv 0) rfl) rfl)))), ?_⟩
    unfold fetchP at q
    have wt : ∀ l, o.awaited = some l → l < t.ops.length := fun l z => L.aw k o l eo z
    refine ⟨_, rfl, _, _, _, _, _, rfl, L.at_, T.c_Play, T.a_Play_source, l_Play_source, rfl, _, rfl, ?_⟩
    refine iteS (fun e => ?_) (fun e => ?_)
    · rw [if_pos e] at q
      refine ⟨_, rfl, _, _, _, _, _, rfl, L.at_, T.c_Play, T.a_Play_replica, l_Play_replica, _, rfl, _, _, _, _, rfl, h1, T.c_Operation, T.a_Operation_version, sz_Operation, ?_⟩
      have e1 : V.int (t.rep : Int) = on (some t.rep) := rfl
      rw [e1, p_Operation_version]
      exact q _ (L.oput ea eo ⟨_, h1⟩ h2 wt) (Keep.refl.put (pf_op hgk ea))
    · rw [if_neg e] at q
      refine ⟨_, rfl, _, _, _, _, _, rfl, L.at_, T.c_Play, T.a_Play_database, l_Play_database, _, rfl, _, _, _, _, rfl, h1, T.c_Operation, T.a_Operation_version, sz_Operation, ?_⟩
      have e1 : V.int (t.db : Int) = on (some t.db) := rfl
      rw [e1, p_Operation_version]
      exact q _ (L.oput ea eo ⟨_, h1⟩ h2 wt) (Keep.refl.put (pf_op hgk ea))
theorem ok_Play_fill (T : Txt K mg) : FnOk P w K mg base CX0 3 T.f_Play_fill T.fd_Play_fill ["self", "read"] (spOp T.C_Operation T.C_Play (fun _ _ _ o => ∃ v, o.version = some v) fillP) := by
  refine T.F_Play_fill.ok sc_Play_fill (fun vs H Q E h => ?_) (fun cdv A outer s H vs Q E hr h => ?_)
  · unfold spOp at h
    obtain ⟨c, p, A, t, k, a, o, rfl, _⟩ := h
    rfl
  · unfold spOp at h
    obtain ⟨c, p, A, t, k, a, o, rfl, L, hgk, ea, eo, ⟨v, ev⟩, q⟩ := h
    obtain ⟨dx, ta, h1, h2⟩ := L.ops.get k a o ea eo
    refine ⟨_, (pss_one (ps_if (pt_val (pe_meth (pv 0) T.c_Play T.M_Play_lets_fill (ok_Play_lets_fill T) (hr.mono (by decide)) (b_Play_lets_fill T) .nil pass0 (pa_cons (pv 1) pa_nil))) (pss_one (ps_expr (pe_meth (pv 0) T.c_Play T.M_Play_hold (ok_Play_hold T) (hr.mono (by decide)) (b_Play_hold T) .nil pass0 (pa_cons (pe_fld (pv 1) rfl) pa_nil)))) pss_nil)), ?_⟩
    have z : fillP c t k o = if fillB c t o v then holdP c t v else t := by
      unfold fillP
      rw [ev]
    rw [z] at q
    refine ⟨_, rfl, _, _, _, rfl, L.at_, ln_Play_lets_fill, _, rfl, ?_⟩
    refine fillB_i L ea eo ev ⟨_, rfl, ?_⟩
    refine iteB (fun e => ?_) (fun e => ?_)
    · rw [if_pos e] at q
      have e2 : (opF A.oas o ta).lookup ("version" : Str) = some (.int (v : Int)) := by
        rw [l_Operation_version, ev]
        rfl
      refine ⟨_, rfl, _, _, _, rfl, L.at_, ln_Play_hold, _, rfl, _, _, _, _, _, rfl, h1, T.c_Operation, T.a_Operation_version, e2, ?_⟩
      exact hold_ip L q
    · rw [e, if_neg (by decide)] at q
      exact q _ L Keep.refl
theorem ok_Play_take (T : Txt K mg) : FnOk P w K mg base CX0 1 T.f_Play_take T.fd_Play_take ["self", "read"] (spOp T.C_Operation T.C_Play (fun _ _ _ o => ∃ l, o.awaited = some l) takeP) := by
  refine T.F_Play_take.ok sc_Play_take (fun vs H Q E h => ?_) (fun cdv A outer s H vs Q E hr h => ?_)
  · unfold spOp at h
    obtain ⟨c, p, A, t, k, a, o, rfl, _⟩ := h
    rfl
  · unfold spOp at h
    obtain ⟨c, p, A, t, k, a, o, rfl, L, hgk, ea, eo, ⟨l, el⟩, q⟩ := h
    obtain ⟨dx, ta, h1, h2⟩ := L.ops.get k a o ea eo
    refine ⟨_, (pss_one (ps_fld (pv 1) (pe_fld (pe_fld (pv 1) rfl) rfl) rfl)), ?_⟩
    have wt : ∀ l, o.awaited = some l → l < t.ops.length := fun l z => L.aw k o l eo z
    have hl := wt l el
    obtain ⟨b, hb, er⟩ := refO_some (oas := A.oas) (l := l) (by rw [L.ops.len]; exact hl)
    obtain ⟨u, eu⟩ : ∃ u, t.ops[l]? = some u := ⟨_, List.getElem?_eq_getElem hl⟩
    obtain ⟨dx', ta', h1', h2'⟩ := L.ops.get l b u hb eu
    have z : takeP c t k o = t.put k { o with version := u.version } := by
      have z1 : versionAt t.ops o.awaited = u.version := by
        rw [el]
        show (t.ops[l]?).bind (·.version) = _
        rw [eu]
        rfl
      unfold takeP
      rw [z1]
    rw [z] at q
    have e2 : (opF A.oas o ta).lookup ("awaited" : Str) = some (.ref b) := by
      rw [l_Operation_awaited, el, er]
    refine ⟨_, rfl, _, _, _, _, _, rfl, h1, T.c_Operation, T.a_Operation_awaited, e2, _, _, _, _, _, rfl, h1', T.c_Operation, T.a_Operation_version, l_Operation_version, _, rfl, _, _, _, _, rfl, h1, T.c_Operation, T.a_Operation_version, sz_Operation, ?_⟩
    rw [p_Operation_version]
    exact q _ (L.oput ea eo ⟨_, h1⟩ h2 wt) (Keep.refl.put (pf_op hgk ea))
theorem ok_Play_store (T : Txt K mg) : FnOk P w K mg base CX0 1 T.f_Play_store T.fd_Play_store ["self", "write"] (spOp T.C_Operation T.C_Play (fun _ _ _ _ => True) storeP) := by
  refine T.F_Play_store.ok sc_Play_store (fun vs H Q E h => ?_) (fun cdv A outer s H vs Q E hr h => ?_)
  · unfold spOp at h
    obtain ⟨c, p, A, t, k, a, o, rfl, _⟩ := h
    rfl
  · unfold spOp at h
    obtain ⟨c, p, A, t, k, a, o, rfl, L, hgk, ea, eo, _, q⟩ := h
    refine ⟨_, (pss_cons (ps_fldaug (pv 0) pe_int in_add)
      (pss_one (ps_fld (pv 1) (pe_fld (pv 0) rfl) rfl))), ?_⟩
    unfold storeP at q
    refine ⟨_, rfl, _, _, _, _, _, rfl, L.at_, T.c_Play, T.a_Play_database, l_Play_database, _, _, rfl, rfl, _, _, L.at_, sz_Play, ?_⟩
    rw [inc_nat, p_Play_database]
    have L1 := L.hput (t' := { t with db := t.db + 1 }) rfl rfl L.lw
    have K1 := (Keep.refl (F := PF p A) (H := H)).put (o := .ins T.C_Play A.dx (plF c A { t with db := t.db + 1 })) (p := p) (.inl rfl)
    generalize upd H p _ = H1 at L1 K1
    obtain ⟨dx, ta, h1, h2⟩ := L1.ops.get k a o ea eo
    have wt : ∀ l, o.awaited = some l → l < t.ops.length := fun l z => L.aw k o l eo z
    refine ⟨_, rfl, _, _, _, _, _, rfl, L1.at_, T.c_Play, T.a_Play_database, l_Play_database, _, rfl, _, _, _, _, rfl, h1, T.c_Operation, T.a_Operation_version, sz_Operation, ?_⟩
    have e1 : V.int ((t.db + 1 : Nat) : Int) = on (some (t.db + 1)) := rfl
    rw [e1, p_Operation_version]
    exact q _ (L1.oput ea eo ⟨_, h1⟩ h2 wt) (K1.put (pf_op hgk ea))
theorem ok_Play_drop (T : Txt K mg) : FnOk P w K mg base CX0 2 T.f_Play_drop T.fd_Play_drop ["self", "write"] (spOp T.C_Operation T.C_Play (fun _ _ _ _ => True) dropP) := by
  refine T.F_Play_drop.ok sc_Play_drop (fun vs H Q E h => ?_) (fun cdv A outer s H vs Q E hr h => ?_)
  · unfold spOp at h
    obtain ⟨c, p, A, t, k, a, o, rfl, _⟩ := h
    rfl
  · unfold spOp at h
    obtain ⟨c, p, A, t, k, a, o, rfl, L, hgk, ea, eo, _, q⟩ := h
    refine ⟨_, (pss_cons (ps_fld (pv 0) pe_non rfl)
      (pss_cons (ps_fldaug (pv 0) pe_int in_add)
      (pss_one (ps_if (pt_cmpR op_notN (pe_fld (pv 1) rfl) pe_non (nomark _)) (pss_one (ps_expr (pe_meth (pv 0) T.c_Play T.M_Play_raise_mark (ok_Play_raise_mark T) (hr.mono (by decide)) (b_Play_raise_mark T) .nil pass0 (pa_cons (pe_fld (pv 1) rfl) pa_nil)))) pss_nil)))), ?_⟩
    unfold dropP at q
    refine ⟨_, rfl, _, _, _, _, rfl, L.at_, T.c_Play, T.a_Play_cache, sz_Play, ?_⟩
    rw [show putF "cache" V.non (plF c A t) = plF c A { t with cache := none } from p_Play_cache (v := none)]
    have L1 := L.hput (t' := { t with cache := none }) rfl rfl L.lw
    have K1 := (Keep.refl (F := PF p A) (H := H)).put (o := .ins T.C_Play A.dx (plF c A { t with cache := none })) (p := p) (.inl rfl)
    generalize upd H p _ = H1 at L1 K1
    refine ⟨_, rfl, _, _, _, _, _, rfl, L1.at_, T.c_Play, T.a_Play_wipes, l_Play_wipes, _, _, rfl, rfl, _, _, L1.at_, sz_Play, ?_⟩
    rw [inc_nat, p_Play_wipes]
    have L2 := L1.hput (t' := { t with cache := none, wipes := t.wipes + 1 }) rfl rfl L.lw
    have K2 := K1.put (o := .ins T.C_Play A.dx (plF c A { t with cache := none, wipes := t.wipes + 1 })) (p := p) (.inl rfl)
    generalize upd H1 p _ = H2 at L2 K2
    obtain ⟨dx, ta, h1, h2⟩ := L2.ops.get k a o ea eo
    refine ⟨_, rfl, _, _, _, _, _, rfl, h1, T.c_Operation, T.a_Operation_version, l_Operation_version, rfl, _, rfl, ?_⟩
    refine iteNn (fun v ev => ?_) (fun ev => ?_)
    · rw [ev] at q
      have e2 : (opF A.oas o ta).lookup ("version" : Str) = some (.int (v : Int)) := by
        rw [l_Operation_version, ev]
        rfl
      refine ⟨_, rfl, _, _, _, rfl, L2.at_, ln_Play_raise_mark, _, rfl, _, _, _, _, _, rfl, h1, T.c_Operation, T.a_Operation_version, e2, ?_⟩
      exact mark_i L2 fun H3 L3 K3 => q H3 L3 (K2.trans K3)
    · rw [ev] at q
      exact q _ L2 K2
theorem ok_Play_put (T : Txt K mg) : FnOk P w K mg base CX0 3 T.f_Play_put T.fd_Play_put ["self", "write"] (spOp T.C_Operation T.C_Play (fun _ _ _ o => ∃ v, o.version = some v) putP) := by
  refine T.F_Play_put.ok sc_Play_put (fun vs H Q E h => ?_) (fun cdv A outer s H vs Q E hr h => ?_)
  · unfold spOp at h
    obtain ⟨c, p, A, t, k, a, o, rfl, _⟩ := h
    rfl
  · unfold spOp at h
    obtain ⟨c, p, A, t, k, a, o, rfl, L, hgk, ea, eo, ⟨v, ev⟩, q⟩ := h
    refine ⟨_, (pss_cons (ps_fldaug (pv 0) pe_int in_add)
      (pss_one (ps_if (pt_val (pe_meth (pv 0) T.c_Play T.M_Play_lets_in (ok_Play_lets_in T) (hr.mono (by decide)) (b_Play_lets_in T) .nil pass0 (pa_cons (pe_fld (pv 1) rfl) pa_nil))) (pss_one (ps_expr (pe_meth (pv 0) T.c_Play T.M_Play_hold (ok_Play_hold T) (hr.mono (by decide)) (b_Play_hold T) .nil pass0 (pa_cons (pe_fld (pv 1) rfl) pa_nil)))) pss_nil))), ?_⟩
    unfold putP at q
    rw [ev] at q
    refine ⟨_, rfl, _, _, _, _, _, rfl, L.at_, T.c_Play, T.a_Play_wipes, l_Play_wipes, _, _, rfl, rfl, _, _, L.at_, sz_Play, ?_⟩
    rw [inc_nat, p_Play_wipes]
    have L2 := L.hput (t' := { t with wipes := t.wipes + 1 }) rfl rfl L.lw
    have K2 := (Keep.refl (F := PF p A) (H := H)).put (o := .ins T.C_Play A.dx (plF c A { t with wipes := t.wipes + 1 })) (p := p) (.inl rfl)
    generalize upd H p _ = H2 at L2 K2
    obtain ⟨dx, ta, h1, h2⟩ := L2.ops.get k a o ea eo
    have e2 : (opF A.oas o ta).lookup ("version" : Str) = some (.int (v : Int)) := by
      rw [l_Operation_version, ev]
      rfl
    refine ⟨_, rfl, _, _, _, rfl, L2.at_, ln_Play_lets_in, _, rfl, _, _, _, _, _, rfl, h1, T.c_Operation, T.a_Operation_version, e2, ?_⟩
    refine in_i L2 ⟨_, rfl, ?_⟩
    refine iteB (fun e => ?_) (fun e => ?_)
    · have q : Mut T.C_Operation T.C_Play c H p A (if inP c { t with wipes := t.wipes + 1 } v then holdP c { t with wipes := t.wipes + 1 } v else { t with wipes := t.wipes + 1 }) Q := q
      rw [if_pos e] at q
      refine ⟨_, rfl, _, _, _, rfl, L2.at_, ln_Play_hold, _, rfl, _, _, _, _, _, rfl, h1, T.c_Operation, T.a_Operation_version, e2, ?_⟩
      exact hold_ip L2 fun H3 L3 K3 => q H3 L3 (K2.trans K3)
    · have q : Mut T.C_Operation T.C_Play c H p A (if inP c { t with wipes := t.wipes + 1 } v then holdP c { t with wipes := t.wipes + 1 } v else { t with wipes := t.wipes + 1 }) Q := q
      rw [e, if_neg (by decide)] at q
      exact q _ L2 K2
theorem ok_Play_share (T : Txt K mg) : FnOk P w K mg base CX0 2 T.f_Play_share T.fd_Play_share ["self", "read"] (spOp T.C_Operation T.C_Play (fun _ _ _ _ => True) shareP) := by
  refine T.F_Play_share.ok sc_Play_share (fun vs H Q E h => ?_) (fun cdv A outer s H vs Q E hr h => ?_)
  · unfold spOp at h
    obtain ⟨c, p, A, t, k, a, o, rfl, _⟩ := h
    rfl
  · unfold spOp at h
    obtain ⟨c, p, A, t, k, a, o, rfl, L, hgk, ea, eo, _, q⟩ := h
    refine ⟨_, (pss_one (ps_if (PW.pt (pw_or (pt_cmpR op_isN (pe_fld (pv 0) rfl) pe_non (nomark _)) (pw_or1 (pt_val (pe_meth0 (pe_fld (pv 0) rfl) T.c_Operation T.M_Operation_has_ended (ok_Operation_has_ended T) (hr.mono (by decide)) (b_Operation_has_ended T) .nil pass0))))) (pss_one (ps_fld (pv 0) (pv 1) rfl)) (pss_cons (ps_fld (pv 1) (pe_fld (pv 0) rfl) rfl)
      (pss_one (ps_fld (pv 1) (pe_tup (pa_cons pe_str pa_nil)) rfl))))), ?_⟩
    unfold shareP at q
    refine ⟨_, rfl, _, _, _, _, _, rfl, L.at_, T.c_Play, T.a_Play_leader, l_Play_leader, rfl, _, rfl, ?_⟩
    have yes : endedAt t.ops t.leader = true → ∀ H1, H1 = H → Mut T.C_Operation T.C_Play c H p A (if endedAt t.ops t.leader then { t with leader := some k } else t.put k { o with awaited := t.leader, steps := ["take"] }) Q → True := fun _ _ _ _ => trivial
    have eA : V.ref a = refO A.oas (some k) := by
      show _ = (match A.oas[k]? with | some a => V.ref a | none => V.non)
      rw [ea]
    have hk : k < t.ops.length := (List.getElem?_eq_some_iff.mp eo).1
    have pY : putF "leader" (V.ref a) (plF c A t) = plF c A { t with leader := some k } := by
      rw [eA]
      exact p_Play_leader
    have qY : endedAt t.ops t.leader = true → Q .non (upd H p (.ins T.C_Play A.dx (putF "leader" (V.ref a) (plF c A t)))) := fun e => by
      rw [if_pos e] at q
      rw [pY]
      exact q _ (L.hput rfl rfl fun l z => by cases z; exact hk) (Keep.refl.put (.inl rfl))
    cases el : t.leader with
    | none =>
      rw [el] at qY
      refine iteT (iteT ?_)
      refine ⟨_, rfl, _, rfl, _, _, _, _, rfl, L.at_, T.c_Play, T.a_Play_leader, sz_Play, ?_⟩
      exact qY rfl
    | some l =>
      have hl := L.lw l el
      obtain ⟨b, hb, er⟩ := refO_some (oas := A.oas) (l := l) (by rw [L.ops.len]; exact hl)
      obtain ⟨u, eu⟩ : ∃ u, t.ops[l]? = some u := ⟨_, List.getElem?_eq_getElem hl⟩
      have OB := L.ops.get l b u hb eu
      obtain ⟨dx', ta', h1', h2'⟩ := id OB
      have eE : endedAt t.ops t.leader = u.ended := by
        rw [el]
        show (match t.ops[l]? with | some q => q.ended | none => true) = _
        rw [eu]
      rw [er]
      refine iteF ?_
      have e2 : (plF c A t).lookup ("leader" : Str) = some (.ref b) := by
        rw [l_Play_leader, el, er]
      refine ⟨_, rfl, _, _, _, _, _, rfl, L.at_, T.c_Play, T.a_Play_leader, e2, _, _, _, rfl, h1', ln_Operation_has_ended, ?_⟩
      refine ended_i OB ⟨_, rfl, ?_⟩
      refine iteB (fun e => ?_) (fun e => ?_)
      · refine ⟨_, rfl, _, rfl, _, _, _, _, rfl, L.at_, T.c_Play, T.a_Play_leader, sz_Play, ?_⟩
        exact qY (by rw [eE]; exact e)
      · rw [eE, e, if_neg (by decide)] at q
        obtain ⟨dx, ta, h1, h2⟩ := L.ops.get k a o ea eo
        refine ⟨_, rfl, _, _, _, _, _, rfl, L.at_, T.c_Play, T.a_Play_leader, e2, _, rfl, _, _, _, _, rfl, h1, T.c_Operation, T.a_Operation_awaited, sz_Operation, ?_⟩
        have pA : putF "awaited" (V.ref b) (opF A.oas o ta) = opF A.oas { o with awaited := t.leader } ta := by
          rw [el, ← er]
          exact p_Operation_awaited
        rw [pA]
        have L1 := L.oput (o' := { o with awaited := t.leader }) ea eo ⟨_, h1⟩ h2 L.lw
        have g1 := put_gP (o' := { o with awaited := t.leader }) eo
        have K1 := (Keep.refl (F := PF p A) (H := H)).put (o := .ins T.C_Operation dx (opF A.oas { o with awaited := t.leader } ta)) (pf_op hgk ea)
        generalize upd H a _ = H1 at L1 K1
        refine ⟨(by show 1 ≤ sizeLine; decide), fun pt np => ?_⟩
        have L2 := L1.new (u := .tup [.str "take"]) np
        have K2 := K1.new (o := .tup [.str "take"]) np
        have hT : (upd H1 pt (.tup [.str "take"])) pt = some (.tup ((["take"] : List Str).map V.str)) := upd_same
        generalize upd H1 pt _ = H2 at L2 K2 hT
        obtain ⟨dx2, ta2, h3, h4⟩ := L2.ops.get k a _ ea g1
        refine ⟨_, rfl, _, _, _, _, rfl, h3, T.c_Operation, T.a_Operation_steps, sz_Operation, ?_⟩
        rw [p_Operation_steps (st := ["take"])]
        have L3 := L2.oput (o' := { o with awaited := t.leader, steps := ["take"] }) ea g1 ⟨_, h3⟩ hT (fun l z => by rw [show (t.put k { o with awaited := t.leader }).ops.length = t.ops.length from List.length_set ..]; exact L.lw l z)
        rw [put_pP] at L3
        exact q _ L3 (K2.put (pf_op hgk ea))
theorem ok_Play_look (T : Txt K mg) : FnOk P w K mg base CX0 3 T.f_Play_look T.fd_Play_look ["self", "read"] (spOp T.C_Operation T.C_Play (fun _ _ _ _ => True) lookP) := by
  refine T.F_Play_look.ok sc_Play_look (fun vs H Q E h => ?_) (fun cdv A outer s H vs Q E hr h => ?_)
  · unfold spOp at h
    obtain ⟨c, p, A, t, k, a, o, rfl, _⟩ := h
    rfl
  · unfold spOp at h
    obtain ⟨c, p, A, t, k, a, o, rfl, L, hgk, ea, eo, _, q⟩ := h
    refine ⟨_, (pss_cons (ps_fld (pv 1) (pe_fld (pv 0) rfl) rfl)
      (pss_one (ps_if (pt_cmpR op_notN (pe_fld (pv 0) rfl) pe_non (nomark _)) (pss_cons (ps_fld (pv 1) (pe_fld (pv 0) rfl) rfl)
      (pss_one (ps_fld (pv 1) (pe_tup pa_nil) rfl))) (pss_one (ps_if (pt_cmpR op_eq (pe_fld (pv 0) rfl) pe_str (nomark _)) (pss_one (ps_expr (pe_meth (pv 0) T.c_Play T.M_Play_share (ok_Play_share T) (hr.mono (by decide)) (b_Play_share T) .nil pass0 (pa_cons (pv 1) pa_nil)))) pss_nil))))), ?_⟩
    unfold lookP at q
    obtain ⟨dx, ta, h1, h2⟩ := L.ops.get k a o ea eo
    have wt : ∀ l, o.awaited = some l → l < t.ops.length := fun l z => L.aw k o l eo z
    refine ⟨_, rfl, _, _, _, _, _, rfl, L.at_, T.c_Play, T.a_Play_wipes, l_Play_wipes, _, rfl, _, _, _, _, rfl, h1, T.c_Operation, T.a_Operation_wipes_seen, sz_Operation, ?_⟩
    rw [p_Operation_wipes_seen]
    have L1 := L.oput (o' := { o with seen := t.wipes }) ea eo ⟨_, h1⟩ h2 wt
    have g1 := put_gP (o' := { o with seen := t.wipes }) eo
    have K1 := (Keep.refl (F := PF p A) (H := H)).put (o := .ins T.C_Operation dx (opF A.oas { o with seen := t.wipes } ta)) (pf_op hgk ea)
    generalize upd H a _ = H1 at L1 K1
    refine ⟨_, rfl, _, _, _, _, _, rfl, L1.at_, T.c_Play, T.a_Play_cache, l_Play_cache, rfl, _, rfl, ?_⟩
    refine iteNn (fun v ev => ?_) (fun ev => ?_)
    · have ev' : t.cache = some v := ev
      rw [ev'] at q
      obtain ⟨dx2, ta2, h3, h4⟩ := L1.ops.get k a _ ea g1
      have e2 : (plF c A (t.put k { o with seen := t.wipes })).lookup ("cache" : Str) = some (on (some v)) := by
        rw [l_Play_cache, ev]
      refine ⟨_, rfl, _, _, _, _, _, rfl, L1.at_, T.c_Play, T.a_Play_cache, e2, _, rfl, _, _, _, _, rfl, h3, T.c_Operation, T.a_Operation_version, sz_Operation, ?_⟩
      rw [p_Operation_version]
      have L2 := L1.oput (o' := { o with seen := t.wipes, version := some v }) ea g1 ⟨_, h3⟩ h4 (fun l z => by rw [show (t.put k { o with seen := t.wipes }).ops.length = t.ops.length from List.length_set ..]; exact wt l z)
      rw [put_pP] at L2
      have g2 := put_gP (o' := { o with seen := t.wipes, version := some v }) eo
      have K2 := K1.put (o := .ins T.C_Operation dx2 (opF A.oas { o with seen := t.wipes, version := some v } ta2)) (pf_op hgk ea)
      generalize upd H1 a _ = H2 at L2 K2
      refine ⟨(by show 0 ≤ sizeLine; decide), fun pt np => ?_⟩
      have L3 := L2.new (u := .tup []) np
      have K3 := K2.new (o := .tup []) np
      have hT : (upd H2 pt (.tup [])) pt = some (.tup (([] : List Str).map V.str)) := upd_same
      generalize upd H2 pt _ = H3 at L3 K3 hT
      obtain ⟨dx4, ta4, h5, h6⟩ := L3.ops.get k a _ ea g2
      refine ⟨_, rfl, _, _, _, _, rfl, h5, T.c_Operation, T.a_Operation_steps, sz_Operation, ?_⟩
      rw [p_Operation_steps (st := [])]
      have L4 := L3.oput (o' := { o with seen := t.wipes, version := some v, steps := [] }) ea g2 ⟨_, h5⟩ hT (fun l z => by rw [show (t.put k { o with seen := t.wipes, version := some v }).ops.length = t.ops.length from List.length_set ..]; exact wt l z)
      rw [put_pP] at L4
      exact q _ L4 (K3.put (pf_op hgk ea))
    · have ev' : t.cache = none := ev
      rw [ev'] at q
      refine ⟨_, rfl, _, _, _, _, _, rfl, L1.at_, T.c_Play, T.a_Play_flight, l_Play_flight, rfl, _, rfl, ?_⟩
      refine iteS (fun e => ?_) (fun e => ?_)
      · have q : Mut T.C_Operation T.C_Play c H p A (if c.flight = "shared" then shareP c (t.put k { o with seen := t.wipes }) k { o with seen := t.wipes } else t.put k { o with seen := t.wipes }) Q := q
        rw [if_pos e] at q
        refine ⟨_, rfl, _, _, _, rfl, L1.at_, ln_Play_share, _, rfl, ?_⟩
        exact op_i L1 hgk ea g1 trivial fun H2 L2 K2 => q H2 L2 (K1.trans K2)
      · have q : Mut T.C_Operation T.C_Play c H p A (if c.flight = "shared" then shareP c (t.put k { o with seen := t.wipes }) k { o with seen := t.wipes } else t.put k { o with seen := t.wipes }) Q := q
        rw [if_neg e] at q
        exact q _ L1 K1
end
end Ca

set_option Elab.async false
set_option linter.all false
set_option maxRecDepth 100000
set_option maxHeartbeats 4000000
namespace Ca
open PySem L2
def newP (c : Conf) (w : Str) (n : Nat) : POp :=
  if w = "look" then ⟨"read", if c.guard = "never" then ["look", "fetch"] else ["look", "fetch", "fill"], n, none, false, none, none, 0⟩ else ⟨"write", c.steps, n, none, false, none, none, 0⟩
def opP (c : Conf) (t : PSt) (k : Nat) (o : POp) (w : Str) : PSt :=
  if w = "look" then lookP c t k o else if w = "fetch" then fetchP c t k o else if w = "fill" then fillP c t k o else if w = "take" then takeP c t k o
  else if w = "store" then storeP c t k o else if w = "drop" then dropP c t k o else putP c t k o
def preP (c : Conf) (t : PSt) (w : Str) (k : Nat) : PSt := if k = t.ops.length then { t with ops := t.ops ++ [newP c w t.past.length] } else t
def tailP (o : POp) : POp := { o with steps := o.steps.drop 1 }
/-- an operation that has ended notes when -/
def leaveP (t : PSt) (k : Nat) : PSt := match t.ops[k]? with
  | some o => if o.ended then t.put k { o with left := some t.past.length } else t
  | none => t
def stepP (c : Conf) (t : PSt) (w : Str) (k : Nat) : PSt := match (preP c t w k).ops[k]? with
  | some o => leaveP (opP c ((preP c t w k).put k (tailP o)) k (tailP o) w) k
  | none => preP c t w k
/-- what an operation's next step asks of it -/
structure StepPre (o : POp) (w : Str) : Prop where
  ne : o.steps ≠ []
  fill : w = "fill" → ∃ v, o.version = some v
  take : w = "take" → ∃ l, o.awaited = some l
  put : ¬ w = "look" → ¬ w = "fetch" → ¬ w = "fill" → ¬ w = "take" → ¬ w = "store" → ¬ w = "drop" → ∃ v, o.version = some v
/-- a play changed, operations added perhaps -/
structure Grew (A A' : PL) (H : Hp) : Prop where
  lo : A'.lo = A.lo
  pa : A'.pa = A.pa
  d : A'.d = A.d
  w : A'.w = A.w
  g : A'.g = A.g
  oas : ∀ b ∈ A'.oas.drop A'.g, b ∈ A.oas.drop A.g ∨ H b = none
  pre : A.oas <+: A'.oas
theorem Grew.refl {A : PL} {H : Hp} : Grew A A H := ⟨rfl, rfl, rfl, rfl, rfl, fun _ h => .inl h, List.prefix_refl _⟩
theorem Keep.putN {F : Addr → Prop} {H H1 : Hp} {p : Addr} {o : HO} (a : Keep F H H1) (h : H p = none) : Keep F H (upd H1 p o) := fun c u e n => by
  have q := a c u e n
  rw [upd_ne (ne_of_none e h)]
  exact q
def MutA (C D : Addr) (c : Conf) (H : Hp) (p : Addr) (A : PL) (t' : PSt) (Q : VK) : Prop := ∀ H' A', PlayAt C D c H' p A' t' → Grew A A' H → Keep (PF p A) H H' → Q .non H'
@[irreducible] def spOpInit (C : Addr) : Sp := fun vs H Q _ => ∃ (x dx ta : Addr) (kd : Str) (st : List Str) (n : Nat), vs = [.ref x, .str kd, .ref ta, .int (n : Int)] ∧ H x = some (.ins C dx []) ∧ Q .non (upd H x (.ins C dx (opF [] ⟨kd, st, n, none, false, none, none, 0⟩ ta)))
@[irreducible] def spBegun (C D : Addr) : Sp := fun vs H Q _ => ∃ (c : Conf) (p : Addr) (A : PL) (t : PSt) (w : Str), vs = [.ref p, .str w] ∧ PlayAt C D c H p A t ∧
  ∀ (H' : Hp) (x dx ta : Addr), Same H H' → H x = none → H' x = some (.ins C dx (opF [] (newP c w t.past.length) ta)) → H' ta = some (.tup ((newP c w t.past.length).steps.map V.str)) → Q (.ref x) H'
@[irreducible] def spStep (C D : Addr) : Sp := fun vs H Q _ => ∃ (c : Conf) (p : Addr) (A : PL) (t : PSt) (w : Str) (j k : Nat), vs = [.ref p, .str w, .int (j : Int)] ∧ A.g + j = k ∧ PlayAt C D c H p A t ∧ t.ops.length ≤ 100 ∧ k ≤ t.ops.length ∧
  (∀ o, (preP c t w k).ops[k]? = some o → StepPre o w) ∧ MutA C D c H p A (stepP c t w k) Q
section
variable {C D p : Addr} {c : Conf} {H H' : Hp} {A : PL} {t t' : PSt} {k : Nat} {a : Addr} {o o' : POp} {w : Str} {Q : VK} {E : XK}
theorem opinit_i {x dx ta : Addr} {kd : Str} {st : List Str} {n : Nat} (h : H x = some (.ins C dx [])) (q : Q .non (upd H x (.ins C dx (opF [] ⟨kd, st, n, none, false, none, none, 0⟩ ta)))) : spOpInit C [.ref x, .str kd, .ref ta, .int (n : Int)] H Q E := by
  unfold spOpInit
  exact ⟨x, dx, ta, kd, st, n, rfl, h, q⟩
theorem begun_i (L : PlayAt C D c H p A t) (q : ∀ (H' : Hp) (x dx ta : Addr), Same H H' → H x = none → H' x = some (.ins C dx (opF [] (newP c w t.past.length) ta)) → H' ta = some (.tup ((newP c w t.past.length).steps.map V.str)) → Q (.ref x) H') : spBegun C D [.ref p, .str w] H Q E := by
  unfold spBegun
  exact ⟨c, p, A, t, w, rfl, L, q⟩
theorem step_i {j : Nat} (ek : A.g + j = k) (L : PlayAt C D c H p A t) (hl : t.ops.length ≤ 100) (hk : k ≤ t.ops.length) (h : ∀ o, (preP c t w k).ops[k]? = some o → StepPre o w) (q : MutA C D c H p A (stepP c t w k) Q) : spStep C D [.ref p, .str w, .int (j : Int)] H Q E := by
  unfold spStep
  exact ⟨c, p, A, t, w, j, k, rfl, ek, L, hl, hk, h, q⟩
end
section
variable {P : Program} {w : World} {K : PySem.W.Frag} {mg : Str → Option Value} {base : Heap}
theorem ok_Operation_init (T : Txt K mg) : FnOk P w K mg base CX0 1 T.f_Operation_init T.fd_Operation_init ["self", "kind", "steps", "began"] (spOpInit T.C_Operation) := by
  refine T.F_Operation_init.ok sc_Operation_init (fun vs H Q E h => ?_) (fun cdv A outer s H vs Q E hr h => ?_)
  · unfold spOpInit at h
    obtain ⟨x, dx, ta, kd, st, n, rfl, _⟩ := h
    rfl
  · unfold spOpInit at h
    obtain ⟨x, dx, ta, kd, st, n, rfl, hx, q⟩ := h
    refine ⟨_, (pss_cons (ps_fld (pv 0) (pv 1) rfl)
      (pss_cons (ps_fld (pv 0) (pv 2) rfl)
      (pss_cons (ps_fld (pv 0) (pv 3) rfl)
      (pss_cons (ps_fld (pv 0) pe_non rfl)
      (pss_cons (ps_fld (pv 0) pe_bl rfl)
      (pss_cons (ps_fld (pv 0) pe_non rfl)
      (pss_cons (ps_fld (pv 0) pe_non rfl)
      (pss_one (ps_fld (pv 0) pe_int rfl))))))))), ?_⟩
    refine ⟨_, rfl, _, rfl, _, _, _, _, rfl, hx, T.c_Operation, T.a_Operation_kind, (by show 0 < 1000; decide), ?_⟩
    refine ⟨_, rfl, _, rfl, _, _, _, _, rfl, upd_same, T.c_Operation, T.a_Operation_steps, (by show 1 < 1000; decide), ?_⟩
    refine ⟨_, rfl, _, rfl, _, _, _, _, rfl, upd_same, T.c_Operation, T.a_Operation_began, (by first | (show 2 < 1000; decide) | decide +kernel), ?_⟩
    refine ⟨_, rfl, _, _, _, _, rfl, upd_same, T.c_Operation, T.a_Operation_left, (by first | (show 3 < 1000; decide) | decide +kernel), ?_⟩
    refine ⟨_, rfl, _, _, _, _, rfl, upd_same, T.c_Operation, T.a_Operation_stopped, (by first | (show 4 < 1000; decide) | decide +kernel), ?_⟩
    refine ⟨_, rfl, _, _, _, _, rfl, upd_same, T.c_Operation, T.a_Operation_version, (by first | (show 5 < 1000; decide) | decide +kernel), ?_⟩
    refine ⟨_, rfl, _, _, _, _, rfl, upd_same, T.c_Operation, T.a_Operation_awaited, (by first | (show 6 < 1000; decide) | decide +kernel), ?_⟩
    refine ⟨_, rfl, _, _, _, _, rfl, upd_same, T.c_Operation, T.a_Operation_wipes_seen, (by first | (show 7 < 1000; decide) | decide +kernel), ?_⟩
    rw [upd_upd, upd_upd, upd_upd, upd_upd, upd_upd, upd_upd, upd_upd]
    have e : putF "wipes_seen" (.int 0) (putF "awaited" .non (putF "version" .non (putF "stopped" (.bl false) (putF "left" .non (putF "began" (.int (n : Int)) (putF "steps" (.ref ta) (putF "kind" (.str kd) []))))))) = opF [] ⟨kd, st, n, none, false, none, none, 0⟩ ta := by kernel_rfl
    rw [e]
    exact q
theorem ok_Play_begun (T : Txt K mg) : FnOk P w K mg base CX0 3 T.f_Play_begun T.fd_Play_begun ["self", "word"] (spBegun T.C_Operation T.C_Play) := by
  refine T.F_Play_begun.ok sc_Play_begun (fun vs H Q E h => ?_) (fun cdv A outer s H vs Q E hr h => ?_)
  · unfold spBegun at h
    obtain ⟨c, p, A, t, w, rfl, _⟩ := h
    rfl
  · unfold spBegun at h
    obtain ⟨c, p, A, t, w, rfl, L, q⟩ := h
    refine ⟨_, (pss_cons (ps_set (i := 2) sc_Play_begun.nd rfl (Or.inl rfl) (pe_callB call_len_seq (by rfl) T.n_len (by decide +kernel) (pa_cons (pe_fld (pv 0) rfl) pa_nil)))
      (pss_cons (ps_if (pt_cmpR op_ne (pv 1) pe_str (nomark _)) (pss_one (ps_ret (pe_make T.k_Operation (ok_Operation_init T) (hr.mono (by decide)) rfl T.m_Operation (b_Operation_init T) .nil pass0 (pa_cons pe_str (pa_cons (pe_fld (pv 0) rfl) (pa_cons (pv 2) pa_nil)))))) pss_nil)
      (pss_cons (ps_if (pt_cmpR op_eq (pe_fld (pv 0) rfl) pe_str (nomark _)) (pss_one (ps_ret (pe_make T.k_Operation (ok_Operation_init T) (hr.mono (by decide)) rfl T.m_Operation (b_Operation_init T) .nil pass0 (pa_cons pe_str (pa_cons (pe_tup (pa_cons pe_str (pa_cons pe_str pa_nil))) (pa_cons (pv 2) pa_nil)))))) pss_nil)
      (pss_one (ps_ret (pe_make T.k_Operation (ok_Operation_init T) (hr.mono (by decide)) rfl T.m_Operation (b_Operation_init T) .nil pass0 (pa_cons pe_str (pa_cons (pe_tup (pa_cons pe_str (pa_cons pe_str (pa_cons pe_str pa_nil)))) (pa_cons (pv 2) pa_nil))))))))), ?_⟩
    have eN : ((A.eas.map V.ref).length : Int) = (t.past.length : Int) := by rw [L.evs.length]
    have mk : ∀ (H1 : Hp) (ta : Addr) (kd : Str) (st : List Str), Same H H1 → newP c w t.past.length = ⟨kd, st, t.past.length, none, false, none, none, 0⟩ → H1 ta = some (.tup (st.map V.str)) → ∀ x dx, H1 x = none → H1 dx = none → dx ≠ x →
        spOpInit T.C_Operation [.ref x, .str kd, .ref ta, .int ((A.eas.map V.ref).length : Int)] (upd (upd H1 dx (.own x)) x (.ins T.C_Operation dx [])) (fun v H2 => v = .non ∧ Q (.ref x) H2) E0 := fun H1 ta kd st S e ht x dx nx ndx ne => by
      rw [eN]
      refine opinit_i (st := st) upd_same ⟨rfl, ?_⟩
      have S2 : Same H1 (upd H1 dx (.own x)) := same_new ndx
      have nx2 : (upd H1 dx (.own x)) x = none := by rw [upd_ne (Ne.symm ne)]; exact nx
      rw [upd_upd]
      have S3 := S2.trans (same_new (o := .ins T.C_Operation dx (opF [] ⟨kd, st, t.past.length, none, false, none, none, 0⟩ ta)) nx2)
      refine q _ x dx ta (S.trans S3) ?_ (by rw [e]; exact upd_same) (by rw [e]; exact S3 _ _ ht)
      cases hh : H x with
      | none => rfl
      | some u => rw [S _ _ hh] at nx; cases nx
    refine ⟨_, rfl, _, _, _, _, _, rfl, L.at_, T.c_Play, T.a_Play_past, l_Play_past, _, _, rfl, .inl (SqL.of L.pa), ?_⟩
    refine ⟨_, rfl, rfl, _, rfl, ?_⟩
    refine iteSn (fun e => ?_) (fun e => ?_)
    · refine ⟨_, rfl, _, _, _, _, _, rfl, L.at_, T.c_Play, T.a_Play_path, l_Play_path, _, rfl, ?_⟩
      exact mk H A.tp "write" c.steps (fun _ _ z => z) (if_neg e) L.tp
    · have n1 : newP c w t.past.length = ⟨"read", if c.guard = "never" then ["look", "fetch"] else ["look", "fetch", "fill"], t.past.length, none, false, none, none, 0⟩ := if_pos e
      refine ⟨_, rfl, _, _, _, _, _, rfl, L.at_, T.c_Play, T.a_Play_guard, l_Play_guard, rfl, _, rfl, ?_⟩
      refine iteS (fun g => ?_) (fun g => ?_)
      · rw [if_pos g] at n1
        refine ⟨(by show 2 ≤ sizeLine; decide), fun ta na => ⟨_, rfl, ?_⟩⟩
        exact mk _ ta "read" ["look", "fetch"] (same_new na) n1 upd_same
      · rw [if_neg g] at n1
        refine ⟨(by show 3 ≤ sizeLine; decide), fun ta na => ⟨_, rfl, ?_⟩⟩
        exact mk _ ta "read" ["look", "fetch", "fill"] (same_new na) n1 upd_same
theorem keepA {H H1 H2 : Hp} {p : Addr} {A A' : PL} (K1 : Keep (PF p A) H H1) (K2 : Keep (PF p A') H1 H2) (g : Grew A A' H) : Keep (PF p A) H H2 := fun b u e n => K2 b u (K1 b u e n) fun z => by
  rcases z with z | z | z | z
  · exact n (.inl z)
  · exact n (.inr (.inl (by rw [z, g.lo])))
  · exact n (.inr (.inr (.inl (by rw [z, g.pa]))))
  · rcases g.oas b z with y | y
    · exact n (.inr (.inr (.inr y)))
    · rw [y] at e
      cases e
theorem cut1 {st : List Str} (ne : st ≠ []) : cutV (st.map V.str) (some 1) none = (st.drop 1).map V.str := by
  cases st with
  | nil => exact absurd rfl ne
  | cons x r =>
    have e : HT.sIx (List.map V.str (x :: r)).length 0 (some ((1 : Nat) : Int)) = 1 := by
      rw [HT.sIx_nat, List.length_map, List.length_cons]
      omega
    unfold cutV
    rw [show ((1 : Int)) = ((1 : Nat) : Int) from rfl, e]
    show (List.drop 1 (List.map V.str (x :: r))).take ((List.map V.str (x :: r)).length - 1) = List.map V.str (List.drop 1 (x :: r))
    simp
    exact List.take_of_length_le (by rw [List.length_map]; exact Nat.le_refl _)
theorem not_whole {st : List Str} (ne : st ≠ []) : ¬ (HT.sIx (st.map V.str).length 0 (some 1) = 0 ∧ HT.sIx (st.map V.str).length (st.map V.str).length none = (st.map V.str).length) := fun z => by
  cases st with
  | nil => exact absurd rfl ne
  | cons x r =>
    have e : HT.sIx (List.map V.str (x :: r)).length 0 (some ((1 : Nat) : Int)) = 1 := by
      rw [HT.sIx_nat, List.length_map, List.length_cons]
      omega
    have z1 : HT.sIx (List.map V.str (x :: r)).length 0 (some ((1 : Nat) : Int)) = 0 := z.1
    rw [e] at z1
    cases z1
theorem ok_Play_step (T : Txt K mg) : FnOk P w K mg base CX0 5 T.f_Play_step T.fd_Play_step ["self", "word", "number"] (spStep T.C_Operation T.C_Play) := by
  refine T.F_Play_step.ok sc_Play_step (fun vs H Q E h => ?_) (fun cdv A outer s H vs Q E hr h => ?_)
  · unfold spStep at h
    obtain ⟨c, p, A, t, w, j, k, rfl, _⟩ := h
    rfl
  · unfold spStep at h
    obtain ⟨c, p, A, t, w, j, k, rfl, ek, L, hl, hk, pre, q⟩ := h
    refine ⟨_, (Evl.pss_cut (ps_if (pt_cmpR op_eq (pv 2) (pe_callB call_len_seq (by rfl) T.n_len (by decide +kernel) (pa_cons (pe_fld (pv 0) rfl) pa_nil)) (nomark _)) (pss_one (ps_expr (pe_bm PySem.F.plainAttrs_list PySem.F.slot_list_append PySem.F.type_list_append mt_append (pe_fld (pv 0) rfl) (pa_cons (pe_meth (pv 0) T.c_Play T.M_Play_begun (ok_Play_begun T) (hr.mono (by decide)) (b_Play_begun T) .nil pass0 (pa_cons (pv 1) pa_nil)) pa_nil)))) pss_nil)
      (pss_cons (ps_set (i := 3) sc_Play_step.nd rfl (Or.inl rfl) (pe_ix ix_list (pe_fld (pv 0) rfl) (pv 2) (fun _ _ => rfl)))
      (pss_cons (ps_fld (pv 3) (pe_slice sl_tupA (pe_fld (pv 3) rfl) (po_some pe_int) po_none) rfl)
      (Evl.pss_cut (ps_if (pt_cmpR op_eq (pv 1) pe_str (nomark _)) (pss_one (ps_expr (pe_meth (pv 0) T.c_Play T.M_Play_look (ok_Play_look T) (hr.mono (by decide)) (b_Play_look T) .nil pass0 (pa_cons (pv 3) pa_nil)))) (pss_one (ps_if (pt_cmpR op_eq (pv 1) pe_str (nomark _)) (pss_one (ps_expr (pe_meth (pv 0) T.c_Play T.M_Play_fetch (ok_Play_fetch T) (hr.mono (by decide)) (b_Play_fetch T) .nil pass0 (pa_cons (pv 3) pa_nil)))) (pss_one (ps_if (pt_cmpR op_eq (pv 1) pe_str (nomark _)) (pss_one (ps_expr (pe_meth (pv 0) T.c_Play T.M_Play_fill (ok_Play_fill T) (hr.mono (by decide)) (b_Play_fill T) .nil pass0 (pa_cons (pv 3) pa_nil)))) (pss_one (ps_if (pt_cmpR op_eq (pv 1) pe_str (nomark _)) (pss_one (ps_expr (pe_meth (pv 0) T.c_Play T.M_Play_take (ok_Play_take T) (hr.mono (by decide)) (b_Play_take T) .nil pass0 (pa_cons (pv 3) pa_nil)))) (pss_one (ps_if (pt_cmpR op_eq (pv 1) pe_str (nomark _)) (pss_one (ps_expr (pe_meth (pv 0) T.c_Play T.M_Play_store (ok_Play_store T) (hr.mono (by decide)) (b_Play_store T) .nil pass0 (pa_cons (pv 3) pa_nil)))) (pss_one (ps_if (pt_cmpR op_eq (pv 1) pe_str (nomark _)) (pss_one (ps_expr (pe_meth (pv 0) T.c_Play T.M_Play_drop (ok_Play_drop T) (hr.mono (by decide)) (b_Play_drop T) .nil pass0 (pa_cons (pv 3) pa_nil)))) (pss_one (ps_expr (pe_meth (pv 0) T.c_Play T.M_Play_put (ok_Play_put T) (hr.mono (by decide)) (b_Play_put T) .nil pass0 (pa_cons (pv 3) pa_nil)))))))))))))))
      (pss_one (ps_if (pt_val (pe_meth0 (pv 3) T.c_Operation T.M_Operation_has_ended (ok_Operation_has_ended T) (hr.mono (by decide)) (b_Operation_has_ended T) .nil pass0)) (pss_one (ps_fld (pv 3) (pe_callB call_len_seq (by rfl) T.n_len (by decide +kernel) (pa_cons (pe_fld (pv 0) rfl) pa_nil)) rfl)) pss_nil)))))), ?_⟩
    refine ⟨fun σ' H' => ∃ x3 A', σ' = [some (.ref p), some (.str w), some (.int (j : Int)), x3] ∧ PlayAt T.C_Operation T.C_Play c H' p A' (preP c t w k) ∧ Grew A A' H ∧ Keep (PF p A) H H', ?_, ?_⟩
    · refine ⟨_, rfl, _, rfl, _, _, _, _, _, rfl, L.at_, T.c_Play, T.a_Play_operations, l_Play_operations, _, _, rfl, .inl (SqL.of L.lo), rfl, _, rfl, ?_⟩
      have gl := L.gl
      rw [L.ops.len] at gl
      have eL : (((A.oas.drop A.g).map V.ref).length : Int) = ((t.ops.length - A.g : Nat) : Int) := by rw [List.length_map, List.length_drop, L.ops.len]
      rw [eL]
      unfold preP
      refine iteI (fun e => ?_) (fun e => ?_)
      · rw [if_pos (by omega)]
        refine ⟨_, rfl, _, _, _, _, _, rfl, L.at_, T.c_Play, T.a_Play_operations, l_Play_operations, .inl ⟨rfl, _, SqL.of L.lo⟩, ?_⟩
        refine ⟨_, rfl, _, _, _, rfl, L.at_, ln_Play_begun, _, rfl, ?_⟩
        refine begun_i L fun H1 x dx ta S nx hx ht => ?_
        have L1 := L.same S
        have na : ¬ x ∈ A.oas := fun z => by
          obtain ⟨i, hi, ei⟩ := List.getElem_of_mem z
          obtain ⟨o, _, ⟨dx', ta', h1, _⟩⟩ := L.ops.ofAt (k := i) (a := x) (by rw [List.getElem?_eq_getElem hi, ei])
          rw [h1] at nx
          cases nx
        refine ⟨_, _, _, rfl, rfl, L1.lo, (by rw [List.length_map, List.length_drop, L.ops.len]; exact Nat.lt_of_le_of_lt (Nat.le_trans (Nat.sub_le _ _) hl) (by decide)), ?_⟩
        have w0 : (newP c w t.past.length).awaited = none := by
          unfold newP
          split <;> rfl
        refine ⟨none, { A with oas := A.oas ++ [x] }, rfl, L1.opush na hx ht w0, ⟨rfl, rfl, rfl, rfl, rfl, fun b hb => ?_, List.prefix_append _ _⟩, ?_⟩
        · have hb' : b ∈ (A.oas ++ [x]).drop A.g := hb
          rw [List.drop_append_of_le_length L.gl] at hb'
          rcases List.mem_append.mp hb' with z | z
          · exact .inl z
          · simp at z
            rw [z]
            exact .inr nx
        · exact Keep.put (H1 := H1) (fun b u e' n => S b u e') (.inr (.inl rfl))
      · rw [if_neg (by omega)]
        exact ⟨none, A, rfl, L, .refl, Keep.refl⟩
    · rintro σ' H1 ⟨x3, A', rfl, L1, gr, K1⟩
      have hk1 : k < (preP c t w k).ops.length := by
        unfold preP
        split
        · rename_i z
          show k < (t.ops ++ [newP c w t.past.length]).length
          rw [List.length_append, z]
          exact Nat.lt_succ_self _
        · omega
      obtain ⟨o, eo⟩ : ∃ o, (preP c t w k).ops[k]? = some o := ⟨_, List.getElem?_eq_getElem hk1⟩
      obtain ⟨ne, pf, ptk, pp⟩ := pre o eo
      have z : stepP c t w k = leaveP (opP c ((preP c t w k).put k (tailP o)) k (tailP o) w) k := by
        unfold stepP
        rw [eo]
      rw [z] at q
      generalize preP c t w k = t1 at L1 hk1 eo q
      obtain ⟨a, ea, OA⟩ := L1.ops.ofOp eo
      have hgk : A'.g ≤ k := by rw [gr.g]; omega
      obtain ⟨dx, ta, h1, h2⟩ := OA
      refine ⟨_, rfl, _, _, _, _, _, rfl, L1.at_, T.c_Play, T.a_Play_operations, l_Play_operations, _, rfl, _, _, _, _, rfl, rfl, SqL.of L1.lo, at_of (j := j) (by omega) (by rw [List.getElem?_map, List.getElem?_drop, gr.g, ek, ea]; rfl), ?_⟩
      refine ⟨_, rfl, _, _, _, _, _, rfl, h1, T.c_Operation, T.a_Operation_steps, l_Operation_steps, _, rfl, _, _, rfl, SqT.of h2, (fun z => absurd z (not_whole ne)), fun _ pt np => ?_⟩
      rw [cut1 ne]
      have L2 := L1.new (u := .tup ((o.steps.drop 1).map V.str)) np
      have K2 := (Keep.refl (F := PF p A') (H := H1)).new (o := .tup ((o.steps.drop 1).map V.str)) np
      have hT : (upd H1 pt (.tup ((o.steps.drop 1).map V.str))) pt = some (.tup ((o.steps.drop 1).map V.str)) := upd_same
      generalize upd H1 pt _ = H2 at L2 K2 hT
      obtain ⟨dx2, ta2, h3, h4⟩ := L2.ops.get k a o ea eo
      refine ⟨_, rfl, _, _, _, _, rfl, h3, T.c_Operation, T.a_Operation_steps, sz_Operation, ?_⟩
      rw [p_Operation_steps (st := o.steps.drop 1)]
      have L3 := L2.oput (o' := tailP o) ea eo ⟨_, h3⟩ hT (fun l z => L1.aw k o l eo z)
      have g3 := put_gP (o' := tailP o) eo
      have K3 := K2.put (o := .ins T.C_Operation dx2 (opF A'.oas (tailP o) pt)) (pf_op hgk ea)
      have eU : (upd H2 a (.ins T.C_Operation dx2 (opF A'.oas { o with steps := o.steps.drop 1 } pt))) = upd H2 a (.ins T.C_Operation dx2 (opF A'.oas (tailP o) pt)) := rfl
      rw [eU]
      generalize upd H2 a _ = H3 at L3 K3
      have K4 := keepA K1 K3 gr
      clear K1 K2 K3
      generalize hZ : opP c (t1.put k (tailP o)) k (tailP o) w = t4 at q
      refine ⟨fun σ' H' => σ' = [some (.ref p), some (.str w), some (.int (j : Int)), some (.ref a)] ∧ PlayAt T.C_Operation T.C_Play c H' p A' t4 ∧ Keep (PF p A) H H', ?_, ?_⟩
      rotate_left
      · rintro σ' H4 ⟨rfl, L4, K5⟩
        obtain ⟨o2, eo2, OA2⟩ := L4.ops.ofAt ea
        obtain ⟨dx3, ta3, h5, h6⟩ := id OA2
        have zl : leaveP t4 k = if o2.ended then t4.put k { o2 with left := some t4.past.length } else t4 := by
          unfold leaveP
          rw [eo2]
        rw [zl] at q
        refine ⟨_, rfl, _, _, _, rfl, h5, ln_Operation_has_ended, ?_⟩
        refine ended_i OA2 ⟨_, rfl, ?_⟩
        refine iteB (fun ee => ?_) (fun ee => ?_)
        · rw [if_pos ee] at q
          refine ⟨_, rfl, _, _, _, _, _, rfl, L4.at_, T.c_Play, T.a_Play_past, l_Play_past, _, _, rfl, .inl (SqL.of L4.pa), _, rfl, _, _, _, _, rfl, h5, T.c_Operation, T.a_Operation_left, sz_Operation, ?_⟩
          rw [L4.evs.length, show V.int (t4.past.length : Int) = on (some t4.past.length) from rfl, p_Operation_left]
          have kp : ∀ u, Keep (PF p A) H (upd H4 a u) := fun u => by
            rcases gr.oas a (mem_drop hgk ea) with y | y
            · exact K5.put (.inr (.inr (.inr y)))
            · exact K5.putN y
          exact q _ A' (L4.oput ea eo2 ⟨_, h5⟩ h6 (fun l z => L4.aw k o2 l eo2 z)) gr (kp _)
        · rw [ee, if_neg (by decide)] at q
          exact q _ A' L4 gr K5
      have fin : ∀ {f : Conf → PSt → Nat → POp → PSt}, f c (t1.put k (tailP o)) k (tailP o) = t4 → Mut T.C_Operation T.C_Play c H3 p A' (f c (t1.put k (tailP o)) k (tailP o)) (fun _ H' => ([some (.ref p), some (.str w), some (.int (j : Int)), some (.ref a)] : List (Option V)) = [some (.ref p), some (.str w), some (.int (j : Int)), some (.ref a)] ∧ PlayAt T.C_Operation T.C_Play c H' p A' t4 ∧ Keep (PF p A) H H') := fun z H4 L4 K4' => by
        rw [z] at L4
        exact ⟨rfl, L4, keepA K4 K4' gr⟩
      unfold opP at hZ
      refine ⟨_, rfl, rfl, _, rfl, iteS (fun e1 => ?_) (fun e1 => ?_)⟩
      · refine ⟨_, rfl, _, _, _, rfl, L3.at_, ln_Play_look, _, rfl, ?_⟩
        exact op_i L3 hgk ea g3 trivial (fin (f := lookP) (by rw [if_pos e1] at hZ; exact hZ))
      rw [if_neg e1] at hZ
      refine ⟨_, rfl, rfl, _, rfl, iteS (fun e2 => ?_) (fun e2 => ?_)⟩
      · refine ⟨_, rfl, _, _, _, rfl, L3.at_, ln_Play_fetch, _, rfl, ?_⟩
        exact op_i L3 hgk ea g3 trivial (fin (f := fetchP) (by rw [if_pos e2] at hZ; exact hZ))
      rw [if_neg e2] at hZ
      refine ⟨_, rfl, rfl, _, rfl, iteS (fun e3 => ?_) (fun e3 => ?_)⟩
      · refine ⟨_, rfl, _, _, _, rfl, L3.at_, ln_Play_fill, _, rfl, ?_⟩
        exact op_i L3 hgk ea g3 (pf e3) (fin (f := fillP) (by rw [if_pos e3] at hZ; exact hZ))
      rw [if_neg e3] at hZ
      refine ⟨_, rfl, rfl, _, rfl, iteS (fun e4 => ?_) (fun e4 => ?_)⟩
      · refine ⟨_, rfl, _, _, _, rfl, L3.at_, ln_Play_take, _, rfl, ?_⟩
        exact op_i L3 hgk ea g3 (ptk e4) (fin (f := takeP) (by rw [if_pos e4] at hZ; exact hZ))
      rw [if_neg e4] at hZ
      refine ⟨_, rfl, rfl, _, rfl, iteS (fun e5 => ?_) (fun e5 => ?_)⟩
      · refine ⟨_, rfl, _, _, _, rfl, L3.at_, ln_Play_store, _, rfl, ?_⟩
        exact op_i L3 hgk ea g3 trivial (fin (f := storeP) (by rw [if_pos e5] at hZ; exact hZ))
      rw [if_neg e5] at hZ
      refine ⟨_, rfl, rfl, _, rfl, iteS (fun e6 => ?_) (fun e6 => ?_)⟩
      · refine ⟨_, rfl, _, _, _, rfl, L3.at_, ln_Play_drop, _, rfl, ?_⟩
        exact op_i L3 hgk ea g3 trivial (fin (f := dropP) (by rw [if_pos e6] at hZ; exact hZ))
      rw [if_neg e6] at hZ
      refine ⟨_, rfl, _, _, _, rfl, L3.at_, ln_Play_put, _, rfl, ?_⟩
      exact op_i L3 hgk ea g3 (pp e1 e2 e3 e4 e5 e6) (fin (f := putP) hZ)
end
end Ca

set_option Elab.async false
set_option linter.all false
set_option maxRecDepth 100000
set_option maxHeartbeats 4000000
namespace Ca
open PySem L2
@[irreducible] def spSteps : Sp := fun vs H Q _ => ∃ (c : Conf) (d : Addr), vs = [.ref d] ∧ H d = some (dT c) ∧ c.Ok ∧ ∀ p H', Same H H' → H p = none → H' p = some (.tup (c.steps.map V.str)) → Q (.ref p) H'
section
variable {K : PySem.W.Frag} {c : Conf} {d w a f s t : Addr} {H : Hp} {Q : VK} {E : XK}
theorem steps_i (h : H d = some (dT c)) (O : c.Ok) (q : ∀ p H', Same H H' → H p = none → H' p = some (.tup (c.steps.map V.str)) → Q (.ref p) H') : spSteps [.ref d] H Q E := by
  unfold spSteps
  exact ⟨c, d, rfl, h, O, q⟩
end
section
variable {P : Program} {w : World} {K : PySem.W.Frag} {mg : Str → Option Value} {base : Heap}
theorem ok_write_steps (T : Txt K mg) (U : TxtC K mg) : FnOk P w K mg base CX0 4 T.f_write_steps T.fd_write_steps ["design"] spSteps := by
  refine T.F_write_steps.ok sc_write_steps (fun vs H Q E h => ?_) (fun cdv A outer s H vs Q E hr h => ?_)
  · unfold spSteps at h
    obtain ⟨c, d, rfl, _⟩ := h
    rfl
  · unfold spSteps at h
    obtain ⟨c, d, rfl, hd, O, q⟩ := h
    refine ⟨_, (pss_cons (ps_expr (pe_call (ok_check_design T U) (hr.mono (by decide)) rfl T.m_check_design T.F_check_design.kp (b_check_design T) .nil pass0 (pa_cons (pv 0) pa_nil)))
      (pss_one (ps_ret (pe_callTy call_tuple_of (by rfl) T.n_tuple (by decide +kernel) (pa_cons (pe_split (pe_ix ix_tup (pv 0) pe_int (fun _ _ => rfl)) pe_str) pa_nil))))), ?_⟩
    refine ⟨_, rfl, ?_⟩
    refine chd_i hd O ?_
    have hz : c.path.length + 2 ≤ sizeLine := by
      have hp := O.p
      simp only [pathsL, List.mem_cons, List.not_mem_nil, or_false] at hp
      rcases hp with e | e | e | e | e <;> rw [e] <;> decide +kernel
    refine ⟨_, rfl, _, _, _, _, rfl, rfl, SqT.of (hd), rfl, ⟨_, rfl⟩, _, _, rfl, rfl, by decide +kernel, hz, fun l nl => ?_⟩
    have hl : (upd H l (.lst ((Txt.split c.path " ").map V.str))) l = some (.lst (c.steps.map V.str)) := upd_same
    refine ⟨_, _, rfl, .inl ⟨SqL.of hl, fun p np => ?_⟩⟩
    have S1 := same_new (o := .lst ((Txt.split c.path " ").map V.str)) nl
    refine q p _ (S1.trans (same_new np)) ?_ upd_same
    cases hh : H p with
    | none => rfl
    | some u => rw [S1 _ _ hh] at np; cases np
end
end Ca

set_option Elab.async false
set_option linter.all false
set_option maxRecDepth 100000
set_option maxHeartbeats 4000000
namespace Ca
open PySem L2
theorem upd_swap {H : Hp} {a b : Addr} {o u : HO} (n : a ≠ b) : upd (upd H b o) a u = upd (upd H a u) b o := by
  funext x
  by_cases ha : x = a
  · subst ha
    rw [upd_same, upd_ne n, upd_same]
  · rw [upd_ne ha]
    by_cases hb : x = b
    · subst hb
      rw [upd_same, upd_same]
    · rw [upd_ne hb, upd_ne hb, upd_ne ha]
def PSt.begin : PSt := ⟨0, 0, none, 0, [], none, 0, []⟩
def noteP (t : PSt) (e : Ev) : PSt := { t with past := t.past ++ [e] }
def stopP (t : PSt) (k : Nat) : PSt := match t.ops[k]? with
  | some o => t.put k { o with stopped := true, left := some t.past.length }
  | none => t
def actP (g : Nat) (c : Conf) (t : PSt) (e : Ev) : PSt :=
  if e.1 = "copy" then { t with rep := t.rep + 1 } else if e.1 = "evict" then { t with cache := none, mark := 0 }
  else match e.2 with
    | none => t
    | some k => if e.1 = "stop" then stopP t (g + k.toNat) else stepP c t e.1 (g + k.toNat)
/-- an event of a play ahead of whose operations g others stand -/
def doG (g : Nat) (c : Conf) (t : PSt) (e : Ev) : PSt := actP g c (noteP t e) e
def doP (c : Conf) (t : PSt) (e : Ev) : PSt := doG 0 c t e
inductive DoPreG (g : Nat) (c : Conf) (t : PSt) : Ev → Prop where
  | copy : DoPreG g c t ("copy", none)
  | evict : DoPreG g c t ("evict", none)
  | stop (k : Nat) (h : g + k < t.ops.length) : DoPreG g c t ("stop", some (k : Int))
  | step (w : Str) (k : Nat) (n1 : ¬ w = "copy") (n2 : ¬ w = "evict") (n3 : ¬ w = "stop") (hk : g + k ≤ t.ops.length) (h : ∀ o, (preP c (noteP t (w, some (k : Int))) w (g + k)).ops[g + k]? = some o → StepPre o w) : DoPreG g c t (w, some (k : Int))
abbrev DoPre : Conf → PSt → Ev → Prop := DoPreG 0
@[irreducible] def spDoP (C D : Addr) : Sp := fun vs H Q _ => ∃ (c : Conf) (p ea : Addr) (A : PL) (t : PSt) (e : Ev), vs = [.ref p, .ref ea] ∧ H ea = some (.tup (evV e)) ∧ PlayAt C D c H p A t ∧ t.ops.length ≤ 100 ∧ t.past.length ≤ 1000 ∧ DoPreG A.g c t e ∧ MutA C D c H p A (doG A.g c t e) Q
@[irreducible] def spPlay (C D : Addr) : Sp := fun vs H Q _ => ∃ (c : Conf) (x dx d w : Addr), vs = [.ref x, .ref d, .ref w] ∧ H x = some (.ins D dx []) ∧ H d = some (dT c) ∧ H w = some (wT c) ∧ c.Ok ∧
  ∀ (A : PL) H', A.oas = [] → A.eas = [] → A.d = d → A.w = w → H A.lo = none → H A.pa = none → Play0 C D c H' x A PSt.begin → Keep (fun b => b = x) H H' → Q .non H'
section
variable {C D p x dx d w : Addr} {c : Conf} {H H' : Hp} {A : PL} {t t' : PSt} {e : Ev} {ea : Addr} {Q : VK} {E : XK}
theorem dop_i (h : H ea = some (.tup (evV e))) (L : PlayAt C D c H p A t) (l : t.ops.length ≤ 100) (l2 : t.past.length ≤ 1000) (pre : DoPreG A.g c t e) (q : MutA C D c H p A (doG A.g c t e) Q) : spDoP C D [.ref p, .ref ea] H Q E := by
  unfold spDoP
  exact ⟨c, p, ea, A, t, e, rfl, h, L, l, l2, pre, q⟩
theorem play_i (h : H x = some (.ins D dx [])) (h1 : H d = some (dT c)) (h2 : H w = some (wT c)) (O : c.Ok) (q : ∀ (A : PL) H', A.oas = [] → A.eas = [] → A.d = d → A.w = w → H A.lo = none → H A.pa = none → Play0 C D c H' x A PSt.begin → Keep (fun b => b = x) H H' → Q .non H') : spPlay C D [.ref x, .ref d, .ref w] H Q E := by
  unfold spPlay
  exact ⟨c, x, dx, d, w, rfl, h, h1, h2, O, q⟩
end
section
variable {P : Program} {w : World} {K : PySem.W.Frag} {mg : Str → Option Value} {base : Heap}
theorem ok_Play_do (T : Txt K mg) : FnOk P w K mg base CX0 6 T.f_Play_do T.fd_Play_do ["self", "event"] (spDoP T.C_Operation T.C_Play) := by
  refine T.F_Play_do.ok sc_Play_do (fun vs H Q E h => ?_) (fun cdv A outer s H vs Q E hr h => ?_)
  · unfold spDoP at h
    obtain ⟨c, p, ea, A, t, e, rfl, _⟩ := h
    rfl
  · unfold spDoP at h
    obtain ⟨c, p, ea, A0, t0, e, rfl, he0, L0, hl0, hl2, pre0, q0⟩ := h
    refine ⟨_, (pss_cons (ps_expr (pe_bm PySem.F.plainAttrs_list PySem.F.slot_list_append PySem.F.type_list_append mt_append (pe_fld (pv 0) rfl) (pa_cons (pv 1) pa_nil)))
      (pss_cons (ps_set (i := 2) sc_Play_do.nd rfl (Or.inl rfl) (pe_ix ix_tup (pv 1) pe_int (fun _ _ => rfl)))
      (pss_one (ps_if (pt_cmpR op_eq (pv 2) pe_str (nomark _)) (pss_one (ps_fldaug (pv 0) pe_int in_add)) (pss_one (ps_if (pt_cmpR op_eq (pv 2) pe_str (nomark _)) (pss_cons (ps_fld (pv 0) pe_non rfl)
      (pss_one (ps_fld (pv 0) pe_int rfl))) (pss_one (ps_if (pt_cmpR op_eq (pv 2) pe_str (nomark _)) (pss_cons (ps_set (i := 3) sc_Play_do.nd rfl (Or.inl rfl) (pe_ix ix_list (pe_fld (pv 0) rfl) (pe_ix ix_tup (pv 1) pe_int (fun _ _ => rfl)) (fun _ _ => rfl)))
      (pss_cons (ps_fld (pv 3) pe_bl rfl)
      (pss_one (ps_fld (pv 3) (pe_callB call_len_seq (by rfl) T.n_len (by decide +kernel) (pa_cons (pe_fld (pv 0) rfl) pa_nil)) rfl)))) (pss_one (ps_expr (pe_meth (pv 0) T.c_Play T.M_Play_step (ok_Play_step T) (hr.mono (by decide)) (b_Play_step T) .nil pass0 (pa_cons (pv 2) (pa_cons (pe_ix ix_tup (pv 1) pe_int (fun _ _ => rfl)) pa_nil))))))))))))), ?_⟩
    refine ⟨_, rfl, _, _, _, _, _, rfl, L0.at_, T.c_Play, T.a_Play_past, l_Play_past, .inl ⟨rfl, _, SqL.of L0.pa⟩, _, rfl, _, _, _, rfl, rfl, L0.pa, ?_, ?_⟩
    · rw [L0.evs.length]
      exact Nat.lt_of_le_of_lt hl2 (by decide)
    have Lp := L0.ppush he0
    have he : (upd H A0.pa (.lst (A0.eas.map V.ref ++ [.ref ea]))) ea = some (.tup (evV e)) := by
      rw [upd_ne (fun z => by rw [z, L0.pa] at he0; cases he0)]
      exact he0
    have K0 : Keep (PF p A0) H (upd H A0.pa (.lst (A0.eas.map V.ref ++ [.ref ea]))) := Keep.refl.put (.inr (.inr (.inl rfl)))
    have Z0 : ∀ b, (upd H A0.pa (.lst (A0.eas.map V.ref ++ [.ref ea]))) b = none → H b = none := fun b hb => by
      by_cases z : b = A0.pa
      · rw [z, upd_same] at hb
        cases hb
      · rw [upd_ne z] at hb
        exact hb
    generalize upd H A0.pa (.lst (A0.eas.map V.ref ++ [.ref ea])) = H1 at Lp he K0 Z0
    have q : MutA T.C_Operation T.C_Play c H1 p { A0 with eas := A0.eas ++ [ea] } (actP A0.g c (noteP t0 e) e) Q := fun H' A' L' g k => q0 H' A' L' ⟨g.lo, g.pa, g.d, g.w, g.g, fun b hb => (g.oas b hb).imp id (Z0 b), g.pre⟩ (K0.trans k)
    have hl : (noteP t0 e).ops.length ≤ 100 := hl0
    have L : PlayAt T.C_Operation T.C_Play c H1 p { A0 with eas := A0.eas ++ [ea] } (noteP t0 e) := Lp
    clear Lp
    have eg : ({ A0 with eas := A0.eas ++ [ea] } : PL).g = A0.g := rfl
    generalize ({ A0 with eas := A0.eas ++ [ea] } : PL) = A at L q eg
    have pre : (∃ k : Nat, e = ((("stop" : Str), some (k : Int)) : Ev) ∧ A.g + k < (noteP t0 e).ops.length) ∨ e = ((("copy" : Str), none) : Ev) ∨ e = ((("evict" : Str), none) : Ev) ∨ (∃ (w : Str) (k : Nat), e = (w, some (k : Int)) ∧ ¬ w = "copy" ∧ ¬ w = "evict" ∧ ¬ w = "stop" ∧ A.g + k ≤ (noteP t0 e).ops.length ∧ ∀ o, (preP c (noteP t0 e) w (A.g + k)).ops[A.g + k]? = some o → StepPre o w) := by
      rw [eg]
      cases pre0 with
      | copy => exact .inr (.inl rfl)
      | evict => exact .inr (.inr (.inl rfl))
      | stop k hk => exact .inl ⟨k, rfl, hk⟩
      | step w k n1 n2 n3 hk h => exact .inr (.inr (.inr ⟨w, k, rfl, n1, n2, n3, hk, h⟩))
    rw [← eg] at q
    generalize noteP t0 e = t at L q hl pre
    clear L0 he0 hl0 hl2 pre0 q0 K0 Z0
    have w0 : ∃ r, H1 ea = some (.tup (.str e.1 :: r)) := by
      obtain ⟨w, k⟩ := e
      cases k <;> exact ⟨_, he⟩
    obtain ⟨r, h0⟩ := w0
    refine ⟨_, rfl, _, _, _, _, rfl, rfl, SqT.of h0, at_of (j := 0) (by omega) rfl, ?_⟩
    unfold actP at q
    have mt1 : ∀ {t' : PSt} {H'}, PlayAt T.C_Operation T.C_Play c H' p A t' → Keep (PF p A) H1 H' → MutA T.C_Operation T.C_Play c H1 p A t' Q → Q .non H' := fun L' K' q => q _ A L' .refl K'
    refine ⟨_, rfl, rfl, _, rfl, iteS (fun e1 => ?_) (fun e1 => ?_)⟩
    · rw [if_pos e1] at q
      refine ⟨_, rfl, _, _, _, _, _, rfl, L.at_, T.c_Play, T.a_Play_replica, l_Play_replica, _, _, rfl, rfl, _, _, L.at_, sz_Play, ?_⟩
      rw [inc_nat, p_Play_replica]
      exact mt1 (L.hput (t' := { t with rep := t.rep + 1 }) rfl rfl L.lw) (Keep.refl.put (.inl rfl)) q
    rw [if_neg e1] at q
    refine ⟨_, rfl, rfl, _, rfl, iteS (fun e2 => ?_) (fun e2 => ?_)⟩
    · rw [if_pos e2] at q
      refine ⟨_, rfl, _, _, _, _, rfl, L.at_, T.c_Play, T.a_Play_cache, sz_Play, ?_⟩
      rw [show putF "cache" V.non (plF c A t) = plF c A { t with cache := none } from p_Play_cache (v := none)]
      have L1 := L.hput (t' := { t with cache := none }) rfl rfl L.lw
      have K1 := (Keep.refl (F := PF p A) (H := H1)).put (o := .ins T.C_Play A.dx (plF c A { t with cache := none })) (p := p) (.inl rfl)
      generalize upd H1 p _ = H2 at L1 K1
      refine ⟨_, rfl, _, _, _, _, rfl, L1.at_, T.c_Play, T.a_Play_mark, sz_Play, ?_⟩
      rw [show putF "mark" (V.int 0) (plF c A { t with cache := none }) = plF c A { t with cache := none, mark := 0 } from p_Play_mark (n := 0)]
      exact mt1 (L1.hput (t' := { t with cache := none, mark := 0 }) rfl rfl L.lw) (K1.put (.inl rfl)) q
    rw [if_neg e2] at q
    rcases pre with ⟨k, rfl, hk⟩ | rfl | rfl | ⟨wd, k, rfl, n1, n2, n3, hk, h⟩
    · have he' : H1 ea = some (.tup [.str "stop", .int (k : Int)]) := he
      have q : MutA T.C_Operation T.C_Play c H1 p A (if ("stop" : Str) = "stop" then stopP t (A.g + (k : Int).toNat) else stepP c t "stop" (A.g + (k : Int).toNat)) Q := q
      rw [if_pos rfl, Int.toNat_natCast] at q
      have gl := L.gl
      rw [L.ops.len] at gl
      generalize ek : A.g + k = k' at hk q
      obtain ⟨o, eo⟩ : ∃ o, t.ops[k']? = some o := ⟨_, List.getElem?_eq_getElem hk⟩
      have z : stopP t k' = t.put k' { o with stopped := true, left := some t.past.length } := by
        unfold stopP
        rw [eo]
      rw [z] at q
      obtain ⟨a, ea', OA⟩ := L.ops.ofOp eo
      obtain ⟨dx, ta, h1, h2⟩ := OA
      refine ⟨_, rfl, rfl, _, rfl, iteS (fun e3 => ?_) (fun e3 => absurd rfl e3)⟩
      refine ⟨_, rfl, _, _, _, _, _, rfl, L.at_, T.c_Play, T.a_Play_operations, l_Play_operations, _, rfl, _, _, _, _, rfl, rfl, SqT.of he', at_of (j := 1) (by omega) rfl, ?_⟩
      refine ⟨_, _, _, _, rfl, rfl, SqL.of L.lo, at_of (j := k) (by omega) (by rw [List.getElem?_map, List.getElem?_drop, ek, ea']; rfl), ?_⟩
      refine ⟨_, rfl, _, _, _, _, rfl, h1, T.c_Operation, T.a_Operation_stopped, sz_Operation, ?_⟩
      rw [p_Operation_stopped]
      have L1 := L.oput (o' := { o with stopped := true }) ea' eo ⟨_, h1⟩ h2 (fun l z => L.aw k' o l eo z)
      have K1 := (Keep.refl (F := PF p A) (H := H1)).put (o := .ins T.C_Operation dx (opF A.oas { o with stopped := true } ta)) (pf_op (by omega) ea')
      have g1 := put_gP (o' := { o with stopped := true }) eo
      have h3 : (upd H1 a (.ins T.C_Operation dx (opF A.oas { o with stopped := true } ta))) a = some (.ins T.C_Operation dx (opF A.oas { o with stopped := true } ta)) := upd_same
      have h4 : (upd H1 a (.ins T.C_Operation dx (opF A.oas { o with stopped := true } ta))) ta = some (.tup (o.steps.map V.str)) := by
        rw [upd_ne (ne_of h2 h1 (by intro z; cases z))]
        exact h2
      generalize upd H1 a _ = H2 at L1 K1 h3 h4
      refine ⟨_, rfl, _, _, _, _, _, rfl, L1.at_, T.c_Play, T.a_Play_past, l_Play_past, _, _, rfl, .inl (SqL.of L1.pa), _, rfl, _, _, _, _, rfl, h3, T.c_Operation, T.a_Operation_left, sz_Operation, ?_⟩
      rw [L1.evs.length, show V.int (((t.put k' { o with stopped := true }).past.length : Nat) : Int) = on (some t.past.length) from rfl, p_Operation_left]
      have L2 := L1.oput (o' := { o with stopped := true, left := some t.past.length }) ea' g1 ⟨_, h3⟩ h4 (fun l z => L1.aw k' _ l g1 z)
      rw [put_pP] at L2
      exact mt1 L2 (K1.put (pf_op (by omega) ea')) q
    · exact absurd rfl e1
    · exact absurd rfl e2
    · have he' : H1 ea = some (.tup [.str wd, .int (k : Int)]) := he
      have q : MutA T.C_Operation T.C_Play c H1 p A (if wd = "stop" then stopP t (A.g + (k : Int).toNat) else stepP c t wd (A.g + (k : Int).toNat)) Q := q
      rw [if_neg n3, Int.toNat_natCast] at q
      refine ⟨_, rfl, rfl, _, rfl, iteS (fun e3 => absurd e3 n3) (fun e3 => ?_)⟩
      refine ⟨_, rfl, _, _, _, rfl, L.at_, ln_Play_step, _, rfl, _, rfl, _, _, _, _, rfl, rfl, SqT.of he', at_of (j := 1) (by omega) rfl, ?_⟩
      exact step_i rfl L hl hk h q
theorem ok_Play_init (T : Txt K mg) (U : TxtC K mg) : FnOk P w K mg base CX0 5 T.f_Play_init T.fd_Play_init ["self", "design", "world"] (spPlay T.C_Operation T.C_Play) := by
  refine T.F_Play_init.ok sc_Play_init (fun vs H Q E h => ?_) (fun cdv A outer s H vs Q E hr h => ?_)
  · unfold spPlay at h
    obtain ⟨c, x, dx, d, w, rfl, _⟩ := h
    rfl
  · unfold spPlay at h
    obtain ⟨c, x, dx, d, w, rfl, hx, hd, hw, O, q⟩ := h
    refine ⟨_, (pss_cons (ps_fld (pv 0) (pv 1) rfl)
      (pss_cons (ps_fld (pv 0) (pv 2) rfl)
      (pss_cons (ps_fld (pv 0) (pe_call (ok_write_steps T U) (hr.mono (by decide)) rfl T.m_write_steps T.F_write_steps.kp (b_write_steps T) .nil pass0 (pa_cons (pv 1) pa_nil)) rfl)
      (pss_cons (ps_fld (pv 0) (pe_ix ix_tup (pv 1) pe_int (fun _ _ => rfl)) rfl)
      (pss_cons (ps_fld (pv 0) (pe_ix ix_tup (pv 1) pe_int (fun _ _ => rfl)) rfl)
      (pss_cons (ps_fld (pv 0) (pe_ix ix_tup (pv 2) pe_int (fun _ _ => rfl)) rfl)
      (pss_cons (ps_fld (pv 0) (pe_ix ix_tup (pv 2) pe_int (fun _ _ => rfl)) rfl)
      (pss_cons (ps_fld (pv 0) (pe_ix ix_tup (pv 2) pe_int (fun _ _ => rfl)) rfl)
      (pss_cons (ps_fld (pv 0) pe_int rfl)
      (pss_cons (ps_fld (pv 0) pe_int rfl)
      (pss_cons (ps_fld (pv 0) pe_non rfl)
      (pss_cons (ps_fld (pv 0) pe_int rfl)
      (pss_cons (ps_fld (pv 0) (pe_lst pa_nil) rfl)
      (pss_cons (ps_fld (pv 0) (pe_lst pa_nil) rfl)
      (pss_cons (ps_fld (pv 0) pe_non rfl)
      (pss_one (ps_fld (pv 0) pe_int rfl))))))))))))))))), ?_⟩
    refine ⟨_, rfl, _, rfl, _, _, _, _, rfl, hx, T.c_Play, T.a_Play_design, Nat.le_of_ble_eq_true (by kernel_rfl), ?_⟩
    refine ⟨_, rfl, _, rfl, _, _, _, _, rfl, upd_same, T.c_Play, T.a_Play_world, Nat.le_of_ble_eq_true (by kernel_rfl), ?_⟩
    rw [upd_upd]
    have dx0 : ∀ {b : Addr} {xs : List V}, H b = some (.tup xs) → b ≠ x := fun {b xs} e z => by
      rw [z, hx] at e
      cases e
    generalize eF : putF "world" (.ref w) (putF "design" (.ref d) []) = F0
    have x0 : (upd H x (.ins T.C_Play dx F0)) x = some (.ins T.C_Play dx F0) := upd_same
    have d0 : (upd H x (.ins T.C_Play dx F0)) d = some (dT c) := by rw [upd_ne (dx0 hd)]; exact hd
    have w0 : (upd H x (.ins T.C_Play dx F0)) w = some (wT c) := by rw [upd_ne (dx0 hw)]; exact hw
    have k0 : Keep (fun b => b = x) H (upd H x (.ins T.C_Play dx F0)) := Keep.refl.put rfl
    generalize upd H x (.ins T.C_Play dx F0) = H0 at x0 d0 w0 k0
    refine ⟨_, rfl, ?_⟩
    refine steps_i d0 O fun tp H1 S1 ntp htp => ?_
    have nx : ∀ {b : Addr} {xs : List V}, H1 b = some (.tup xs) → b ≠ x := fun {b xs} e z => by
      rw [z, S1 _ _ x0] at e
      cases e
    have g : ∀ {b : Addr} {xs : List V} {u : HO}, H1 b = some (.tup xs) → (upd H1 x u) b = some (.tup xs) := fun {b xs u} e => by rw [upd_ne (nx e)]; exact e
    have hd1 := S1 _ _ d0
    have hw1 := S1 _ _ w0
    have lF : F0.length = 2 := by rw [← eF]; kernel_rfl
    refine ⟨_, rfl, _, _, _, _, rfl, S1 _ _ x0, T.c_Play, T.a_Play_path, (by rw [lF]; decide), ?_⟩
    subst eF
    refine ⟨_, rfl, _, _, _, _, rfl, rfl, SqT.of (g hd1), rfl, _, rfl, _, _, _, _, rfl, upd_same, T.c_Play, T.a_Play_guard, Nat.le_of_ble_eq_true (by kernel_rfl), ?_⟩
    rw [upd_upd]
    refine ⟨_, rfl, _, _, _, _, rfl, rfl, SqT.of (g hd1), rfl, _, rfl, _, _, _, _, rfl, upd_same, T.c_Play, T.a_Play_flight, Nat.le_of_ble_eq_true (by kernel_rfl), ?_⟩
    rw [upd_upd]
    refine ⟨_, rfl, _, _, _, _, rfl, rfl, SqT.of (g hw1), rfl, _, rfl, _, _, _, _, rfl, upd_same, T.c_Play, T.a_Play_source, Nat.le_of_ble_eq_true (by kernel_rfl), ?_⟩
    rw [upd_upd]
    refine ⟨_, rfl, _, _, _, _, rfl, rfl, SqT.of (g hw1), rfl, _, rfl, _, _, _, _, rfl, upd_same, T.c_Play, T.a_Play_evictions, Nat.le_of_ble_eq_true (by kernel_rfl), ?_⟩
    rw [upd_upd]
    refine ⟨_, rfl, _, _, _, _, rfl, rfl, SqT.of (g hw1), rfl, _, rfl, _, _, _, _, rfl, upd_same, T.c_Play, T.a_Play_stops, Nat.le_of_ble_eq_true (by kernel_rfl), ?_⟩
    rw [upd_upd]
    refine ⟨_, rfl, _, _, _, _, rfl, upd_same, T.c_Play, T.a_Play_database, Nat.le_of_ble_eq_true (by kernel_rfl), ?_⟩
    rw [upd_upd]
    refine ⟨_, rfl, _, _, _, _, rfl, upd_same, T.c_Play, T.a_Play_replica, Nat.le_of_ble_eq_true (by kernel_rfl), ?_⟩
    rw [upd_upd]
    refine ⟨_, rfl, _, _, _, _, rfl, upd_same, T.c_Play, T.a_Play_cache, Nat.le_of_ble_eq_true (by kernel_rfl), ?_⟩
    rw [upd_upd]
    refine ⟨_, rfl, _, _, _, _, rfl, upd_same, T.c_Play, T.a_Play_mark, Nat.le_of_ble_eq_true (by kernel_rfl), ?_⟩
    rw [upd_upd]
    refine ⟨(by show 0 ≤ sizeLine; decide), fun lo nlo => ?_⟩
    have nlx : lo ≠ x := fun z => by
      rw [z, upd_same] at nlo
      cases nlo
    have nl1 : H1 lo = none := by
      rw [upd_ne nlx] at nlo
      exact nlo
    have gx : ∀ {u : HO}, (upd (upd H1 x u) lo (.lst [])) x = some u := fun {u} => by
      rw [upd_ne nlx.symm]
      exact upd_same
    refine ⟨_, rfl, _, _, _, _, rfl, gx, T.c_Play, T.a_Play_operations, Nat.le_of_ble_eq_true (by kernel_rfl), ?_⟩
    rw [upd_swap nlx.symm, upd_upd]
    refine ⟨(by show 0 ≤ sizeLine; decide), fun pa npa => ?_⟩
    have npl : pa ≠ lo := fun z => by
      rw [z, upd_same] at npa
      cases npa
    have npx : pa ≠ x := fun z => by
      rw [z, upd_ne nlx.symm, upd_same] at npa
      cases npa
    have np1 : H1 pa = none := by
      rw [upd_ne npl, upd_ne npx] at npa
      exact npa
    have gx2 : ∀ {u : HO}, (upd (upd (upd H1 x u) lo (.lst [])) pa (.lst [])) x = some u := fun {u} => by
      rw [upd_ne npx.symm, upd_ne nlx.symm]
      exact upd_same
    refine ⟨_, rfl, _, _, _, _, rfl, gx2, T.c_Play, T.a_Play_past, Nat.le_of_ble_eq_true (by kernel_rfl), ?_⟩
    refine ⟨_, rfl, _, _, _, _, rfl, upd_same, T.c_Play, T.a_Play_leader, Nat.le_of_ble_eq_true (by kernel_rfl), ?_⟩
    rw [upd_upd]
    refine ⟨_, rfl, _, _, _, _, rfl, upd_same, T.c_Play, T.a_Play_wipes, Nat.le_of_ble_eq_true (by kernel_rfl), ?_⟩
    rw [upd_upd]
    have e : putF "wipes" (V.int 0) (putF "leader" V.non (putF "past" (V.ref pa) (putF "operations" (V.ref lo) (putF "mark" (V.int 0) (putF "cache" V.non (putF "replica" (V.int 0) (putF "database" (V.int 0) (putF "stops" (V.str c.stop) (putF "evictions" (V.str c.evict) (putF "source" (V.str c.source) (putF "flight" (V.str c.flight) (putF "guard" (V.str c.guard) (putF "path" (V.ref tp) (putF "world" (.ref w) (putF "design" (.ref d) []))))))))))))))) = plF c ⟨0, d, w, dx, tp, lo, pa, [], []⟩ PSt.begin := by kernel_rfl
    rw [e]
    have hlo0 : H0 lo = none := by
      cases hh : H0 lo with
      | none => rfl
      | some u => rw [S1 _ _ hh] at nl1; cases nl1
    have hpa0 : H0 pa = none := by
      cases hh : H0 pa with
      | none => rfl
      | some u => rw [S1 _ _ hh] at np1; cases np1
    refine q ⟨0, d, w, dx, tp, lo, pa, [], []⟩ _ rfl rfl rfl rfl (k0.free hlo0 nlx) (k0.free hpa0 npx) ⟨⟨upd_same, ?_, ?_, Nat.le_refl _, ⟨rfl, fun k a o e => (by cases e), List.nodup_nil⟩, ?_, ?_, ?_, .nil, npl.symm, fun l z => (by cases z), fun k o l e => (by cases e)⟩, rfl⟩ ?_
    · show upd _ x _ tp = _
      rw [upd_ne (nx htp), upd_ne (ne_of_none htp np1), upd_ne (ne_of_none htp nl1), upd_ne (nx htp)]
      exact htp
    · show upd _ x _ lo = _
      rw [upd_ne nlx, upd_ne npl.symm, upd_same]
      rfl
    · show upd _ x _ d = _
      rw [upd_ne (nx hd1), upd_ne (ne_of_none hd1 np1), upd_ne (ne_of_none hd1 nl1), upd_ne (nx hd1)]
      exact hd1
    · show upd _ x _ w = _
      rw [upd_ne (nx hw1), upd_ne (ne_of_none hw1 np1), upd_ne (ne_of_none hw1 nl1), upd_ne (nx hw1)]
      exact hw1
    · show upd _ x _ pa = _
      rw [upd_ne npx, upd_same]
      rfl
    · refine Keep.put ?_ rfl
      intro b u e1 n
      have e2 := S1 _ _ (k0 b u e1 n)
      rw [upd_ne (ne_of_none e2 np1), upd_ne (ne_of_none e2 nl1), upd_ne n]
      exact e2
end
end Ca

set_option Elab.async false
set_option linter.all false
set_option maxRecDepth 100000
set_option maxHeartbeats 4000000
namespace Ca
open PySem L2
/-! ### a drawn run -/
@[irreducible] def spWalk (K : PySem.W.Frag) : Sp := fun vs H Q _ => ∃ (c : Conf) (H0 : Hp) (a r d w : Addr) (m : Nat), vs = [.ref r, .ref d, .ref w, .int (m : Int)] ∧ c.Ok ∧ RowAt K H0 a r H ∧ m ≤ 60 ∧
  H d = some (.tup [.str c.path, .str c.guard, .str c.flight]) ∧ H w = some (.tup [.str c.source, .str c.evict, .str c.stop]) ∧
  ∀ h A s H', Reach c s → s.past.length ≤ m → LawAt c H' h A s → A.d = d → A.w = w → RowAt K H0 a r H' → Keep (fun b => b = r) H H' → (∀ b, Fp h A b → H b = none) → Q (.ref h) H'
theorem walk_i {K : PySem.W.Frag} {c : Conf} {H0 H : Hp} {a r d w : Addr} {m : Nat} {Q : VK} {E : XK} (O : c.Ok) (R : RowAt K H0 a r H) (hm : m ≤ 60) (h1 : H d = some (.tup [.str c.path, .str c.guard, .str c.flight])) (h2 : H w = some (.tup [.str c.source, .str c.evict, .str c.stop]))
    (q : ∀ h A s H', Reach c s → s.past.length ≤ m → LawAt c H' h A s → A.d = d → A.w = w → RowAt K H0 a r H' → Keep (fun b => b = r) H H' → (∀ b, Fp h A b → H b = none) → Q (.ref h) H') : spWalk K [.ref r, .ref d, .ref w, .int (m : Int)] H Q E := by
  unfold spWalk
  exact ⟨c, H0, a, r, d, w, m, rfl, O, R, hm, h1, h2, q⟩
theorem evs_dp {K : PySem.W.Frag} {H : Hp} : ∀ {xs : List V} {es : List Ev}, EvsAt H xs es → DpAll K H xs (es.map evD')
  | _, _, .nil => .nil
  | _, _, .cons ⟨t, e, h⟩ r => by
    subst e
    exact .cons (evD_dp h) (evs_dp r)
theorem evs_shaped : ∀ {es : List Ev}, (∀ e ∈ es, PyData.strOk e.1 = true) → PyData.canLayAll0 (es.map evD') = true ∧ PyData.depthAll (es.map evD') ≤ 1
  | [], _ => ⟨rfl, by simp [PyData.depthAll]⟩
  | e :: es, h => by
    obtain ⟨a, b⟩ := evs_shaped (es := es) fun u hu => h u (List.mem_cons_of_mem _ hu)
    have z := h e (List.mem_cons_self ..)
    obtain ⟨w, k⟩ := e
    have z : PyData.strOk w = true := z
    refine ⟨?_, ?_⟩
    · show (PyData.canLay0 (evD' (w, k)) && PyData.canLayAll0 (es.map evD')) = true
      rw [a, Bool.and_true]
      cases k <;> simp [evD', PyData.canLay0, PyData.canLayAll0, z]
    · show max (PyData.depth (evD' (w, k))) (PyData.depthAll (es.map evD')) ≤ 1
      have : PyData.depth (evD' (w, k)) ≤ 1 := by cases k <;> simp [evD', PyData.depth, PyData.depthAll]
      omega
theorem evs_list_shaped {es : List Ev} (h : ∀ e ∈ es, PyData.strOk e.1 = true) : SeqAt.shaped (.list (es.map evD')) = true := by
  obtain ⟨a, b⟩ := evs_shaped h
  unfold SeqAt.shaped
  have z1 : PyData.canLay0 (.list (es.map evD')) = true := a
  have z2 : PyData.depth (.list (es.map evD')) = PyData.depthAll (es.map evD') + 1 := rfl
  rw [z1, z2, Bool.true_and]
  exact decide_eq_true (by omega)
theorem evs_sub : ∀ {H : Hp} {xs : List V} {es : List Ev}, EvsAt H xs es → ∀ {ys : List V}, (∀ y ∈ ys, y ∈ xs) → ∃ fs, EvsAt H ys fs ∧ ∀ f ∈ fs, f ∈ es
  | _, _, _, _, [], _ => ⟨[], .nil, fun f h => by simp at h⟩
  | H, xs, es, X, y :: ys, h => by
    obtain ⟨fs, a, b⟩ := evs_sub X (ys := ys) fun z hz => h z (List.mem_cons_of_mem _ hz)
    obtain ⟨t, e, e1, e2, e3⟩ := X.get (h y (List.mem_cons_self ..))
    refine ⟨e :: fs, .cons ⟨t, e1, e2⟩ a, fun f hf => ?_⟩
    rcases List.mem_cons.mp hf with z | z
    · rw [z]; exact e3
    · exact b f z
theorem evList_len {c : Conf} {s : HS} : (evList c s).length ≤ 2 * s.ops.length + 4 := by
  have h1 : (evB s).length ≤ s.ops.length := Nat.le_trans (List.length_filterMap_le _ _) (going_len s)
  have h2 : (evC c s).length ≤ s.ops.length := by
    unfold evC
    split
    · rw [List.length_map]
      exact going_len s
    · exact Nat.zero_le _
  have h3 : (evD c s).length ≤ 1 := by
    unfold evD
    split
    · exact Nat.le_refl _
    · exact Nat.zero_le _
  have h4 : (evE c s).length ≤ 1 := by
    unfold evE
    split
    · exact Nat.le_refl _
    · exact Nat.zero_le _
  unfold evList
  simp only [List.length_append]
  have h0 : (evA c s).length = 2 := rfl
  omega
theorem RowAt.ne_tup {K : PySem.W.Frag} {H0 H : Hp} {a r t : Addr} {xs : List V} (R : RowAt K H0 a r H) (h : H t = some (.tup xs)) : t ≠ r := fun z => by
  obtain ⟨o, e, i, x, y, eo, _⟩ := R.at_
  rw [z, e, eo] at h
  cases h
theorem EvsAt.keepR {K : PySem.W.Frag} {H0 H H' : Hp} {a r : Addr} {xs : List V} {es : List Ev} (X : EvsAt H xs es) (R : RowAt K H0 a r H) (k : Keep (fun b => b = r) H H') : EvsAt H' xs es := Paired.mapP X fun _ _ ⟨t, e, h⟩ => ⟨t, e, k _ _ h (R.ne_tup h)⟩
theorem LawAt.keepR {K : PySem.W.Frag} {c : Conf} {H0 H H' : Hp} {a r h : Addr} {A : LA} {s : HS} (L : LawAt c H h A s) (R : RowAt K H0 a r H) (nf : ¬ Fp h A r) (k : Keep (fun b => b = r) H H') : LawAt c H' h A s :=
  ⟨k _ _ L.hd fun z => nf (.inl z.symm), k _ _ L.dd (R.ne_tup L.dd), k _ _ L.ww (R.ne_tup L.ww), k _ _ L.lo fun z => nf (.inr (.inl z.symm)), k _ _ L.lp fun z => nf (.inr (.inr (.inl z.symm))), L.ol,
    fun j b o p q => k _ _ (L.og j b o p q) fun z => nf (.inr (.inr (.inr (by rw [← z]; exact List.mem_of_getElem? p)))), L.el, fun i b e p q => k _ _ (L.eg i b e p q) (R.ne_tup (L.eg i b e p q)), L.nd, L.nl⟩
section
variable {P : Program} {w : World} {K : PySem.W.Frag} {mg : Str → Option Value} {base : Heap}
theorem RowAt.same {H0 H H' : Hp} {a r : Addr} (R : RowAt K H0 a r H) (S : Same H H') : RowAt K H0 a r H' := R.keep (F := fun _ => False) (fun b o e _ => S b o e) (fun _ z => z.elim) id
theorem ok_Lwalk (T : Txt K mg) : FnOk P w K mg base CX0 5 T.f_Lwalk T.fd_Lwalk ["row", "design", "world", "most"] (spWalk K) := by
  refine T.F_Lwalk.ok sc_Lwalk (fun vs H Q E h => ?_) (fun cdv A outer s H vs Q E hr h => ?_)
  · unfold spWalk at h
    obtain ⟨c, H0, a, r, d, w, m, rfl, _⟩ := h
    rfl
  · unfold spWalk at h
    obtain ⟨c, H0, a, r, d, w, m, rfl, O, R, hm, h1, h2, q⟩ := h
    have hu := hu_of hr
    refine ⟨_, (pss_cons (ps_set (i := 4) sc_Lwalk.nd rfl (Or.inr rfl) (pe_call (ok_Lbegin T) (hr.mono (by decide)) rfl T.m_Lbegin T.F_Lbegin.kp (b_Lbegin T) .nil pass0 (pa_cons (pv 1) (pa_cons (pv 2) pa_nil))))
      (pss_cons (ps_for PassesOwn.never rfl (pi_range1 rfl T.n_range (pa_cons (pe_call (ok_Ltaken T) (hr.mono (by decide)) rfl T.m_Ltaken T.F_Ltaken.kp (b_Ltaken T) .nil pass0 (pa_cons (pv 0) (pa_cons (pe_op op_add (pv 3) pe_int) pa_nil))) pa_nil)) (pg_name (i := 5) sc_Lwalk.nd rfl (Or.inl rfl)) (pss_cons (ps_set (i := 6) sc_Lwalk.nd rfl (Or.inl rfl) (pe_call (ok_Levents T) (hr.mono (by decide)) rfl T.m_Levents T.F_Levents.kp (b_Levents T) .nil pass0 (pa_cons (pv 4) pa_nil)))
      (pss_cons (ps_setLc (i := 7) (own := [("event", 8)]) rfl sc_Lwalk.nd rfl rfl (sw_true rfl rfl rfl (by decide +kernel)) (pi_list (pv 6)) (blkOk_by (N := ["row", "design", "world", "most", "h", "turn", "some", "going", "event"]) (sc := defScope s_Lwalk) (by decide +kernel)) (fun _ _ _ _ _ => (pg_name (i := 8) sc_Lwalk.nd rfl (Or.inl rfl))) (fun _ _ _ _ _ => (pts_one (PW.pt (pw_and (pt_cmpR op_eq (pe_callB (len_seqK (K := K) rfl) (by rfl) T.n_len (by decide +kernel) (pa_cons (pv 8) pa_nil)) pe_int (nomark _)) (pw_and (pt_cmpR op_lt (pe_ix (ix_tupK (K := K) rfl) (pv 8) pe_int (fun _ _ => rfl)) (pe_callB (len_seqK (K := K) rfl) (by rfl) T.n_len (by decide +kernel) (pa_cons (pe_dget hu (pv 4) pe_str (fun _ _ => rfl)) pa_nil)) (nomark _)) (pw_and1 (pt_cmpR op_ne (pe_ix (ix_tupK (K := K) rfl) (pv 8) pe_int (fun _ _ => rfl)) pe_str (nomark _)))))))) (fun _ _ _ _ _ => (pv 8)))
      (Evl.pss_cut (ps_set (i := 6) sc_Lwalk.nd rfl (Or.inl rfl) (pe_ifExp (PW.pt (pw_and (pt_cmpR (op_neD hr.units) (pv 7) (pe_lst pa_nil) (nomark _)) (pw_and1 (pt_cmpR op_gt (pe_call (ok_Ltaken T) (hr.mono (by decide)) rfl T.m_Ltaken T.F_Ltaken.kp (b_Ltaken T) .nil pass0 (pa_cons (pv 0) (pa_cons pe_int pa_nil))) pe_int (nomark _))))) (pv 7) (pv 6)))
      (pss_one (ps_expr (pe_call (ok_Ldo T) (hr.mono (by decide)) rfl T.m_Ldo T.F_Ldo.kp (b_Ldo T) .nil pass0 (pa_cons (pv 4) (pa_cons (pe_call (ok_Lpick T) (hr.mono (by decide)) rfl T.m_Lpick T.F_Lpick.kp (b_Lpick T) .nil pass0 (pa_cons (pv 0) (pa_cons (pv 6) pa_nil))) pa_nil)))))))))
      (pss_one (ps_ret (pv 4))))), ?_⟩
    refine ⟨_, rfl, _, rfl, ?_⟩
    refine begin_i h1 h2 fun h lo lp H1 S1 nh nlo nlp L1 => ?_
    have R1 := R.same S1
    refine ⟨_, rfl, _, rfl, _, _, rfl, rfl, ?_⟩
    refine taken_i R1 (by omega) (by omega) fun k H2 k0 k1 R2 K2 E2 => ?_
    have nr : ∀ b, H b = none → b ≠ r := fun b e => R.ne e
    have fr0 : ∀ b, Fp h ⟨d, w, lo, lp, [], []⟩ b → H b = none := by
      rintro b (z | z | z | z)
      · rw [z]; exact nh
      · rw [z]; exact nlo
      · rw [z]; exact nlp
      · cases z
    have L2 : LawAt c H2 h ⟨d, w, lo, lp, [], []⟩ HS.begin := L1.keepR R1 (fun z => R.ne (fr0 r z) rfl) K2
    refine ⟨k, rfl, by omega, by omega, for_range (lo := 0) (n := k.toNat) (fun i σ H' => ∃ A s x5 x6 x7, σ = [some (.ref r), some (.ref d), some (.ref w), some (.int (m : Int)), some (.ref h), x5, x6, x7, none] ∧ Reach c s ∧ s.past.length = i ∧ LawAt c H' h A s ∧ A.d = d ∧ A.w = w ∧ RowAt K H0 a r H' ∧ Keep (fun b => b = r) H H' ∧ ∀ b, Fp h A b → H b = none)
      ⟨_, _, none, none, none, rfl, .begin, rfl, L2, rfl, rfl, R2, ?_, fr0⟩ ?_ ?_⟩
    · exact (show Keep (fun b => b = r) H H1 from fun b o e _ => S1 b o e).trans K2
    · rintro i σ H3 hi ⟨A, s, x5, x6, x7, rfl, re, hp, L, ed, ew, R3, K3, fr⟩
      obtain ⟨W, hol⟩ := re.wf O
      have ol : s.ops.length ≤ 100 := by omega
      refine ⟨_, rfl, ?_⟩
      refine events_i O L ol (wait_all W O) fun f xs es H4 S4 nf hf X so pm => ?_
      have L4 := L.same S4
      have R4 := R3.same S4
      have stk : ∀ e ∈ es, PyData.strOk e.1 = true := fun e he => (do_ok W O (pm.mem_iff.mp he)).str
      have nfr : f ≠ r := R3.ne nf
      have xl : xs.length ≤ 1000 := by
        rw [X.length, pm.length_eq]
        have := evList_len (c := c) (s := s)
        omega
      -- going = [..]
      refine ⟨_, rfl, f, rfl, ⟨_, SqL.of hf⟩, fun D nD => ?_⟩
      refine lc_list (xs := xs) (fun j H' => ∃ acc, Same H4 H' ∧ H' D = some (.lst acc) ∧ acc.length ≤ j ∧ ∀ y ∈ acc, y ∈ xs) ⟨[], same_new nD, upd_same, Nat.le_refl _, fun y hy => by simp at hy⟩ (fun j H' _ ⟨_, S, _⟩ => SqL.of (S _ _ hf)) ?_ ?_
      · rintro j y H' hj ⟨acc, S, hD, al, sub⟩
        have hy : y ∈ xs := List.mem_of_getElem? hj
        obtain ⟨t, e, rfl, ht, he⟩ := X.get hy
        have ht' := S _ _ ht
        have L5 := L4.same S
        have jl : j < xs.length := (List.getElem?_eq_some_iff.mp hj).1
        have add : acc.length < sizeLine ∧ ∃ acc', Same H4 (upd H' D (.lst (acc ++ [.ref t]))) ∧ (upd H' D (.lst (acc ++ [.ref t]))) D = some (.lst acc') ∧ acc'.length ≤ j + 1 ∧ ∀ y ∈ acc', y ∈ xs := by
          refine ⟨Nat.lt_of_le_of_lt (show acc.length ≤ 1000 by omega) (by decide), acc ++ [.ref t], sN' S nD, upd_same, by rw [List.length_append, List.length_singleton]; omega, fun z hz => ?_⟩
          rcases List.mem_append.mp hz with z1 | z1
          · exact sub z z1
          · rw [List.mem_singleton.mp z1]; exact hy
        have skip : ∃ acc, Same H4 H' ∧ H' D = some (.lst acc) ∧ acc.length ≤ j + 1 ∧ ∀ y ∈ acc, y ∈ xs := ⟨acc, S, hD, by omega, sub⟩
        refine ⟨rfl, _, rfl, t, _, rfl, .inr (SqT.of ht'), rfl, _, rfl, ?_⟩
        obtain ⟨w', kk⟩ := e
        cases kk with
        | none =>
          refine (show _ → _ from fun x => x) ?_
          rw [if_neg (by show ¬ decide (V.int ((1 : Nat) : Int) = V.int 2) = true; decide)]
          exact skip
        | some kk =>
          rw [if_pos (by show decide (V.int ((2 : Nat) : Int) = V.int 2) = true; decide)]
          refine ⟨_, rfl, _, _, _, _, rfl, rfl, SqT.of (ht'), rfl, _, rfl, _, _, rfl, dget (L5.hd) rfl, _, _, rfl, .inl (SqL.of L5.lo), _, _, rfl, rfl, _, rfl, ?_⟩
          refine iteB (fun n1 => ?_) (fun n1 => ?_)
          · refine ⟨_, rfl, _, _, _, _, rfl, rfl, SqT.of (ht'), rfl, rfl, _, rfl, ?_⟩
            refine iteB (fun n2 => ?_) (fun n2 => ?_)
            · refine ⟨_, rfl, acc, hD, add⟩
            · exact skip
          · exact skip
      rintro H5 ⟨acc, S5, hD, al, sub⟩
      have L5 := L4.same S5
      have R5 := R4.same S5
      have nDr : D ≠ r := R4.ne nD
      have X5 := X.same S5
      have hf5 := S5 _ _ hf
      obtain ⟨fs, X5', sub'⟩ := evs_sub X5 sub
      have nfp : ¬ Fp h A r := fun z => R.ne (fr r z) rfl
      have xne : xs ≠ [] := fun z => by
        have e1 := pm.length_eq
        have e2 : xs.length = es.length := X.length
        rw [z] at e2
        have e3 : 2 ≤ (evList c s).length := by
          unfold evList evA
          simp only [List.length_append, List.length_cons]
          omega
        simp at e2
        omega
      refine ⟨fun σ' H' => ∃ l ys, σ' = [some (.ref r), some (.ref d), some (.ref w), some (.int (m : Int)), some (.ref h), some (.int (0 + (i : Int))), some (.ref l), some (.ref D), none] ∧ LawAt c H' h A s ∧ RowAt K H0 a r H' ∧ Keep (fun b => b = r) H3 H' ∧ H' l = some (.lst ys) ∧ l ≠ r ∧ ys ≠ [] ∧ ys.length ≤ 1000 ∧ ∃ fs, EvsAt H' ys fs ∧ ∀ f ∈ fs, f ∈ es, ?_, ?_⟩
      · have K5 : Keep (fun b => b = r) H3 H5 := fun b o e _ => S5 b o (S4 b o e)
        refine ⟨_, rfl, Nat.zero_le _, fun p np => ?_⟩
        have s6 := same_new (o := .lst []) np
        have L6 := L5.same s6
        have R6 := R5.same s6
        have K6 : Keep (fun b => b = r) H3 (upd H5 p (.lst [])) := K5.new np
        have hp : (upd H5 p (.lst [])) p = some (.lst []) := upd_same
        have hD6 := s6 _ _ hD
        have hf6 := s6 _ _ hf5
        have X6 := X5.same s6
        have X6' := X5'.same s6
        generalize upd H5 p (.lst []) = H6 at s6 L6 R6 K6 hp hD6 hf6 X6 X6'
        refine ⟨_, _, .lst (SqL.of hD6) (evs_dp X6'), .lst (SqL.of hp) .nil, evs_list_shaped fun e he => stk e (sub' e he), rfl, _, rfl, ?_⟩
        refine iteB (fun n => ?_) (fun n => ?_)
        · have ane : acc ≠ [] := fun z => by
            rw [z] at X6'
            cases X6'
            revert n
            show ¬ (!PyData.eqv (.list []) (.list [])) = true
            decide
          refine ⟨_, rfl, ?_⟩
          refine taken_i R6 (by decide) (by decide) fun k2 H7 _ _ R7 K7 _ => ?_
          have L7 := L6.keepR R6 nfp K7
          refine ⟨_, _, rfl, rfl, _, rfl, ?_⟩
          refine iteB (fun n2 => ?_) (fun n2 => ?_)
          · exact ⟨_, rfl, D, acc, rfl, L7, R7, K6.trans K7, K7 _ _ hD6 nDr, nDr, ane, by omega, fs, X6'.keepR R6 K7, sub'⟩
          · exact ⟨_, rfl, f, xs, rfl, L7, R7, K6.trans K7, K7 _ _ hf6 nfr, nfr, xne, xl, es, X6.keepR R6 K7, fun _ z => z⟩
        · exact ⟨_, rfl, f, xs, rfl, L6, R6, K6, hf6, nfr, xne, xl, es, X6, fun _ z => z⟩
      · rintro σ' H7 ⟨l, ys, rfl, L7, R7, K7, hl, nlr, yne, yl, gs, X7, sub7⟩
        refine ⟨_, rfl, _, rfl, _, rfl, ?_⟩
        refine pick_i ys R7 hl nlr yne yl fun x H8 hx R8 K8 => ?_
        have L8 := L7.keepR R7 nfp K8
        obtain ⟨t, e, rfl, ht, he⟩ := X7.get hx
        have ht8 : H8 t = some (.tup (evV e)) := K8 _ _ ht (R7.ne_tup ht)
        have hev := pm.mem_iff.mp (sub7 e he)
        have dk := do_ok W O hev
        refine do_i O L8 ht8 dk.str dk.ok ol (by omega) fun H9 A' L9 ed' ew' elo elp oa K9 => ?_
        have nF : ∀ b o, H b = some o → ¬ Fp h A b := fun b o e f => by rw [fr b f] at e; cases e
        have KK : Keep (fun b => b = r) H H8 := (K3.trans K7).trans K8
        refine ⟨A', _, _, _, _, rfl, .step re hev, by rw [do_past, List.length_append, hp]; rfl, L9, ed'.trans ed, ew'.trans ew, R8.keep K9 (fun b f => R.sm.free (fr b f)) nfp, fun b o e n => K9 b o (KK b o e n) (nF b o e), ?_⟩
        rintro b (z | z | z | z)
        · exact fr b (.inl z)
        · exact fr b (.inr (.inl (by rw [← elo]; exact z)))
        · exact fr b (.inr (.inr (.inl (by rw [← elp]; exact z))))
        · rcases oa.1 b z with y | y
          · exact fr b (.inr (.inr (.inr y)))
          · exact KK.free y (R8.ne y)
    · rintro σ H' ⟨A, s, x5, x6, x7, rfl, re, hp, L, ed, ew, R3, K3, fr⟩
      refine ⟨_, rfl, ?_⟩
      exact q h A s H' re (by omega) L ed ew R3 K3 fr
end
end Ca

set_option Elab.async false
set_option linter.all false
set_option maxRecDepth 100000
set_option maxHeartbeats 4000000
/-! enumerate over a tuple: made, walked; as a rule -/
namespace PySem
open Sem (wp)
theorem meets_enumT (v : Value) (o : Obj) (H : Heap → Prop) (B : Begins v o H) :
    Meets (Builtin.«enumerate.__new__» ⟨[.type "enumerate", v], []⟩) (fun _ R s => H s.heap ∧
      R (.ok (.ret (.ref (s.heap.push o).objs.size))) { s with heap := (s.heap.push o).push { cls := .type "enumerate", data := .fields #[.none, .bool false, .ref s.heap.objs.size, rawInt 0, .none, .none] } }) :=
  .of_wp fun prog w A R s h => by
    obtain ⟨hp, g, d, tk, os⟩ := s; obtain ⟨h1, h⟩ := h
    have hsub := sub_enumerate
    have q1 : ∀ {A' : Around} {E : Value → Shared → Prop} {Q : Value → Shared → Prop}, Q (.ref hp.objs.size) ⟨hp.push o, g, d, tk, os⟩ → wpAny (model prog w) A' (pyIter v) Q E ⟨hp, g, d, tk, os⟩ :=
      fun q => B.iter prog w _ _ ⟨hp, g, d, tk, os⟩ _ h1 q
    wp_walk using q1
    refine wpAny_stack_any fun st => wpAny_pure ?_
    split
    · rename_i c _ _ _ _ _
      cases (c == Value.type "enumerate")
      · wp_walk using q1
        exact ⟨_, rfl, h⟩
      · wp_walk using q1
        exact ⟨_, rfl, h⟩
    · wp_walk using q1
      exact ⟨_, rfl, h⟩
section
variable {prog : Program} {w : World} {A : Around} {E : Value → Shared → Prop} {s : Shared}
theorem call_enumT {t : Addr} {items : Array Value} {Q : Value → Shared → Prop} (hT : s.heap.IsTuple t items)
    (h : ∀ h', IsEnum h' (s.heap.objs.size + 1) s.heap.objs.size 0 .none → h'.IsTupleIter s.heap.objs.size t 0 → h'.objs.size = s.heap.objs.size + 2 →
      (∀ b o, s.heap.get? b = some o → h'.get? b = some o) → Q (.ref (s.heap.objs.size + 1)) { s with heap := h' }) :
    wpAny (model prog w) A (call (.type "enumerate") [.ref t]) Q E s := by
  refine callType_new F.called_enumerate (by decide) (F.typeCall_enumerate_1 _) (F.newCall_enumerate_1 _) (fun obj => F.args_object_init_2 obj _) F.entry_enumerate_new
    (meets_enumT (.ref t) _ _ (begins_tuple t items)) ⟨hT, ?_⟩
  have hz : (s.heap.push { cls := .type "tuple_iterator", data := .fields #[.ref t, .int 0 0] }).objs.size = s.heap.objs.size + 1 := Heap.size_push ..
  show _ ∧ _
  rw [hz]
  have he : IsEnum ((s.heap.push { cls := .type "tuple_iterator", data := .fields #[.ref t, .int 0 0] }).push
      { cls := .type "enumerate", data := .fields #[.none, .bool false, .ref s.heap.objs.size, rawInt 0, .none, .none] }) (s.heap.objs.size + 1) s.heap.objs.size 0 .none := by
    have := Heap.get?_push_size (s.heap.push { cls := .type "tuple_iterator", data := .fields #[.ref t, .int 0 0] })
      (o := { cls := .type "enumerate", data := .fields #[.none, .bool false, .ref s.heap.objs.size, rawInt 0, .none, .none] }) rfl
    rw [hz] at this; exact this
  refine ⟨⟨_, he, rfl⟩, h _ he ⟨_, Heap.get?_push_of_some _ (Heap.get?_push_size _ rfl), rfl, rfl⟩ (by rw [Heap.size_push, hz]) fun b o x => Heap.get?_push_of_some _ (Heap.get?_push_of_some _ x)⟩
end
end PySem
namespace L2
open PySem PySem.Spec PyProof.Rows
/-- the tuple at a, each item in a new pair -/
def IteT (K : PySem.W.Frag) (a : Addr) : It :=
  ⟨fun i H => ∃ (xs : List V) (x : V), SqT K H a xs ∧ xs[i]? = some x, fun i H v H' => ∃ T x, v = .ref T ∧ H T = none ∧ H' = upd H T (.tup [.int (i : Nat), x]) ∧ ∀ xs, SqT K H a xs → xs[i]? = some x, fun i H => ∃ xs : List V, SqT K H a xs ∧ xs.length ≤ i⟩
theorem turn_enumT {P : Program} {w : World} {K : PySem.W.Frag} {elts : List Expr} {kk : Nat} {tpos : Pos} (a e it : Addr) (ha : a ≠ it) (hae : a ≠ e) :
    Turn P w K (.Tuple elts kk tpos) (IteT K a) [e, it] e (fun i h => (∃ old, IsEnum h e it ((i : Nat) : Int) old) ∧ h.IsTupleIter it a i ∧ e ≠ it) where
  mem := by simp
  obj := fun i h st b hb => by
    obtain ⟨⟨old, he⟩, ⟨o, ho, hc, hd⟩, _⟩ := st
    have e' : b = e ∨ b = it := by simpa using hb
    rcases e' with z | z
    · rw [z]; exact ⟨_, he, fun v q => nomatch q⟩
    · rw [z]; exact ⟨o, ho, fun v q => by rw [hd] at q; cases q⟩
  keep := fun i h h' st k => let ⟨⟨old, he⟩, hi, hne⟩ := st; ⟨⟨old, k e (by simp) _ he⟩, hi.at fun o q => k it (by simp) o q, hne⟩
  item := by
    intro X hP hw hK hc i pins s σ H E I hf st hg
    subst hP hw hK
    obtain ⟨⟨old, he⟩, hit, hne⟩ := st
    obtain ⟨xs, x, hq, hx⟩ := hg
    obtain ⟨its, rv, p, hz⟩ := I.tuple hq
    obtain ⟨u, hu, ru⟩ := rv.get hx
    have hel : e < s.heap.objs.size := Heap.lt_size he
    have hil : it < s.heap.objs.size := by obtain ⟨_, q, _⟩ := hit; exact Heap.lt_size q
    have hT0 : s.heap.IsTuple a its.toArray := p
    have hlt : i < its.toArray.size := by
      have := (List.getElem?_eq_some_iff.mp hu).1
      simpa using this
    refine wpAny_pyNext_enum_itemC (Draws.tuple (A := X.A.in1) (show X.A.in1.handled = none from I.ok.hd hc) it a ha its.toArray) he ⟨hit, hT0⟩ hlt hne (by simp [hne, Ne.symm hae]) fun y h' tk hy ho hst' hT hsz hk => ?_
    have ey : y = u := by
      have : its[i]? = some y := by simpa using hy
      rw [hu] at this
      exact (Option.some.inj this).symm
    subst ey
    obtain ⟨hit', _⟩ := hst'
    refine ⟨_, rfl, wpAny_letOwnedTupleGo_enum (s := { s with heap := h', toks := tk + 1 }) ho fun h'' he' sb => ?_⟩
    have hT2 : h''.get? s.heap.objs.size = some { cls := .type "tuple", data := .seq #[.int i tk, y] } := (sb.2 _ (Nat.ne_of_gt hel)).trans hT
    have new : ObjOk X.prog X.w (upd H s.heap.objs.size (.tup [.int (i : Nat), x])) h'' s.heap.objs.size (.tup [.int (i : Nat), x]) :=
      ⟨by show 2 ≤ sizeLine; decide, [.int i tk, y], .cons ⟨_, rfl⟩ (.cons ru .nil), ⟨_, hT2, rfl, _, rfl⟩⟩
    have I1 : Inv X pins σ (upd H s.heap.objs.size (.tup [.int (i : Nat), x])) { s with heap := h'', toks := tk + 1 } :=
      I.turnedNew (ch := [e, it]) (fun b ob hb q => (sb.2 b (fun z => hb (by simp [z]))).trans (hk b ob (fun z => hb (by simp [z])) (fun z => hb (by simp [z])) q)) hf (Nat.le_refl _) new
    refine ⟨.ref s.heap.objs.size, _, I1, rfl, ⟨_, x, rfl, I.hok.fresh (Nat.le_refl _), rfl, fun ys hy => by rw [I.tuple_inj hy hq]; exact hx⟩, ⟨⟨y, ?_⟩, hit'.at fun o q => (sb.2 it (Ne.symm hne)).trans q, hne⟩, fun b hb => ?_⟩
    · have e1 : ((i + 1 : Nat) : Int) = (i : Int) + 1 := by omega
      rw [e1]; exact he'
    · have hb' : b < s.heap.objs.size := by
        have e' : b = e ∨ b = it := by simpa using hb
        rcases e' with z | z
        · rw [z]; exact hel
        · rw [z]; exact hil
      rw [upd_ne (Nat.ne_of_lt hb')]
      exact (hf b hb).1
  done := by
    intro X hP hw hK hc i pins s σ H E I hf st hg
    subst hP hw hK
    obtain ⟨⟨old, he⟩, hit, hne⟩ := st
    obtain ⟨xs, hq, hx⟩ := hg
    obtain ⟨its, rv, p, hz⟩ := I.tuple hq
    obtain ⟨f0, f1, f2, f3, f4, f5⟩ := hf it (by simp)
    have hl := rv.length
    have hT0 : s.heap.IsTuple a its.toArray := p
    have hz2 : its.toArray.size ≤ i := by simp; omega
    have D : Draws X.prog X.w X.A.in1 it [it, a] i (fun _ _ => True) (fun j h => j = i ∧ h.IsTupleIter it a i ∧ h.IsTuple a its.toArray) := {
      live := fun _ _ st => let ⟨o, ho, _⟩ := st.2.1; ⟨o, ho⟩
      frame := fun _ _ _ st hk => ⟨st.1, st.2.1.at fun o e => hk it (by simp) o e, st.2.2.at fun o e => hk a (by simp) o e⟩
      item := fun j s Q E hi st hQ => absurd st.1 (Nat.ne_of_lt hi)
      done := fun s Q E st hE => wpAny_nextOf_tuple_end (show X.A.in1.handled = none from I.ok.hd hc) st.2.1 st.2.2 (by simpa using hz2) hE }
    exact wpAny_pyNext_enum_endD D he ⟨rfl, hit, hT0⟩ fun h' eb => ⟨rfl, I.turned (t' := s.toks) (fun b o hb q => eb b o hb q) f0 f1 f3 f4 f5⟩
  self := fun A i s Q E st h => let ⟨⟨_, he⟩, _⟩ := st; wpAny_pyIter_enum he h
def iEnumT (K : PySem.W.Frag) (ta : TA) : TI := fun σ H R => ta σ H fun vs H1 => ∃ a xs, vs = [.ref a] ∧ SqT K H1 a xs ∧ R (IteT K a) H1
theorem pi_enumT {X : Cx} {e : Expr} {ta : TA} {p pos tpos : Pos} {elts : List Expr} {kk : Nat} (hg : Gl X "enumerate") (hm : X.mg "enumerate" = none) (ha : PA X [e] ta) (hs : starEach [e] X.env = [(false, eval e X.env)] := by rfl) :
    PI X (.Tuple elts kk tpos) (.Call (.Name "enumerate" p) [e] [] pos) (iEnumT X.K ta) := by
  refine ⟨fun pins s σ H R I h => ?_⟩
  refine Call_ (ld_blt I hg hm boot_enumerate (PyProof.Rows.callWith_type1 (thn (ha.run pos pins s σ H _ I h) fun us s1 ⟨vs, H1, I1, r1, q1⟩ => ?_) hs rfl))
  obtain ⟨a, xs, ex, hq, q⟩ := q1
  subst ex
  cases r1 with
  | cons r rr =>
    cases rr
    cases r
    obtain ⟨its, rv, p', hz⟩ := I1.tuple hq
    have hT0 : s1.heap.IsTuple a its.toArray := p'
    have hal : a < s1.heap.objs.size := p'.lt
    refine call_enumT hT0 fun h' he hit hsz hk => wpAny_pyIter_enum he ?_
    have I2 : Inv X pins σ H1 { s1 with heap := h' } := I1.kept (t' := s1.toks) hk
    refine ⟨s1.heap.objs.size + 1, [s1.heap.objs.size + 1, s1.heap.objs.size], _, _, H1, rfl, I2, turn_enumT a (s1.heap.objs.size + 1) s1.heap.objs.size (Nat.ne_of_lt hal) (Nat.ne_of_lt (Nat.lt_succ_of_lt hal)), ⟨⟨.none, he⟩, hit, Nat.succ_ne_self _⟩, fun b hb => ?_, q⟩
    have e' : b = s1.heap.objs.size + 1 ∨ b = s1.heap.objs.size := by simpa using hb
    have hle : s1.heap.objs.size ≤ b := by
      rcases e' with z | z
      · rw [z]; exact Nat.le_add_right _ _
      · rw [z]; exact Nat.le_refl _
    exact I1.fpOk hle (I1.hok.fresh hle)
end L2

set_option Elab.async false
set_option linter.all false
set_option maxRecDepth 100000
set_option maxHeartbeats 4000000
namespace Ca
open PySem L2
theorem for_enumL {K : PySem.W.Frag} {a : Addr} {xs : List V} {g : TG} {tb : TS} {D : Ends} {σ : St} {H : Hp} (Pv : Nat → St → Hp → Prop) (h0 : Pv 0 σ H) (hl : ∀ i σ H, i ≤ xs.length → Pv i σ H → SqL K H a xs)
    (hs : ∀ i x σ H T, xs[i]? = some x → Pv i σ H → H T = none → g (.ref T) σ (upd H T (.tup [.int (i : Nat), x])) fun σ2 H2 => tb { D with nx := Pv (i + 1), ct := Pv (i + 1), bk := D.nx } σ2 H2) (hd : ∀ σ H, Pv xs.length σ H → D.nx σ H) :
    ∃ W : Nat → Nat → St → Hp → Prop, (∃ m, W 0 m σ H) ∧ ∀ i m σ H, W i m σ H →
      ((Ite K a).stop i H ∧ D.nx σ H) ∨ ((Ite K a).go i H ∧ ∃ N : St → Hp → Prop, (∀ σ' H', N σ' H' → ∃ m', m' < m ∧ W (i + 1) m' σ' H') ∧ ∀ x H', (Ite K a).yld i H x H' → g x σ H' fun σ2 H2 => tb { D with nx := N, ct := N, bk := D.nx } σ2 H2) := by
  refine ⟨fun i m σ H => m = xs.length - i ∧ i ≤ xs.length ∧ Pv i σ H, ⟨xs.length, by simp, Nat.zero_le _, h0⟩, ?_⟩
  rintro i m σ H ⟨rfl, hi, p⟩
  have q := hl i σ H hi p
  by_cases hlt : i < xs.length
  · refine .inr ⟨⟨xs, xs[i], q, by simp [hlt]⟩, Pv (i + 1), fun σ' H' p' => ⟨xs.length - (i + 1), by omega, rfl, hlt, p'⟩, fun v H' y => ?_⟩
    obtain ⟨T, x, rfl, nT, rfl, y⟩ := y
    exact hs i x σ _ T (y xs q) p nT
  · have e : i = xs.length := by omega
    subst e
    exact .inl ⟨⟨xs, q, Nat.le_refl _⟩, hd σ H p⟩
theorem for_enumT {K : PySem.W.Frag} {a : Addr} {xs : List V} {g : TG} {tb : TS} {D : Ends} {σ : St} {H : Hp} (Pv : Nat → St → Hp → Prop) (h0 : Pv 0 σ H) (hl : ∀ i σ H, i ≤ xs.length → Pv i σ H → SqT K H a xs)
    (hs : ∀ i x σ H T, xs[i]? = some x → Pv i σ H → H T = none → g (.ref T) σ (upd H T (.tup [.int (i : Nat), x])) fun σ2 H2 => tb { D with nx := Pv (i + 1), ct := Pv (i + 1), bk := D.nx } σ2 H2) (hd : ∀ σ H, Pv xs.length σ H → D.nx σ H) :
    ∃ W : Nat → Nat → St → Hp → Prop, (∃ m, W 0 m σ H) ∧ ∀ i m σ H, W i m σ H →
      ((IteT K a).stop i H ∧ D.nx σ H) ∨ ((IteT K a).go i H ∧ ∃ N : St → Hp → Prop, (∀ σ' H', N σ' H' → ∃ m', m' < m ∧ W (i + 1) m' σ' H') ∧ ∀ x H', (IteT K a).yld i H x H' → g x σ H' fun σ2 H2 => tb { D with nx := N, ct := N, bk := D.nx } σ2 H2) := by
  refine ⟨fun i m σ H => m = xs.length - i ∧ i ≤ xs.length ∧ Pv i σ H, ⟨xs.length, by simp, Nat.zero_le _, h0⟩, ?_⟩
  rintro i m σ H ⟨rfl, hi, p⟩
  have q := hl i σ H hi p
  by_cases hlt : i < xs.length
  · refine .inr ⟨⟨xs, xs[i], q, by simp [hlt]⟩, Pv (i + 1), fun σ' H' p' => ⟨xs.length - (i + 1), by omega, rfl, hlt, p'⟩, fun v H' y => ?_⟩
    obtain ⟨T, x, rfl, nT, rfl, y⟩ := y
    exact hs i x σ _ T (y xs q) p nT
  · have e : i = xs.length := by omega
    subst e
    exact .inl ⟨⟨xs, q, Nat.le_refl _⟩, hd σ H p⟩
/-! ### the events that can come -/
def evOp (c : Conf) (t : PSt) (k : Nat) (o : POp) : List Ev :=
  (if canStep t.ops o then ([(o.steps.getD 0 "", some (k : Int))] : List Ev) else []) ++ (if c.stop = "stops" ∧ o.under = true then ([(("stop" : Str), some (k : Int))] : List Ev) else [])
def opsEv (c : Conf) (t : PSt) : Nat → List Ev
  | 0 => []
  | n + 1 => opsEv c t n ++ (match t.ops[n]? with | some o => evOp c t n o | none => [])
def copyP (c : Conf) (t : PSt) : Bool := decide (c.source = "replica") && decide (t.rep < t.db)
def evictP (c : Conf) (t : PSt) : Bool := decide (c.evict = "evicts") && (t.cache.isSome || decide (0 < t.mark))
def evPA (c : Conf) (t : PSt) : List Ev := [(("look" : Str), some (t.ops.length : Int)), (firstW c, some (t.ops.length : Int))]
def evP (c : Conf) (t : PSt) : List Ev :=
  evPA c t ++ (if copyP c t then [copyE] else []) ++ (if evictP c t then [evictE] else []) ++ opsEv c t t.ops.length
@[irreducible] def spEvP (C D : Addr) : Sp := fun vs H Q _ => ∃ (c : Conf) (p : Addr) (A : PL) (t : PSt), vs = [.ref p] ∧ c.Ok ∧ Play0 C D c H p A t ∧ t.ops.length ≤ 100 ∧
  ∀ q xs es H', Same H H' → H q = none → H' q = some (.lst xs) → EvsAt H' xs es → Srt es → es.Perm (evP c t) → Q (.ref q) H'
theorem evs_push {H' : Hp} {ys : List V} {es : List Ev} {t f : Addr} {e : Ev} (X : EvsAt H' ys es) (hf : H' f = some (.lst ys)) (nt : H' t = none) : EvsAt (upd (upd H' t (.tup (evV e))) f (.lst (ys ++ [.ref t]))) (ys ++ [.ref t]) (es ++ [e]) :=
  EvsAt.upd (zs := ys) (Paired.app (X.same (same_new nt)) (.cons ⟨t, rfl, upd_same⟩ .nil)) (same_new nt _ _ hf)
theorem iteIn {a : Nat} {A B : Prop} (h1 : 0 < a → A) (h2 : a = 0 → B) : if (!decide (V.int (a : Int) = V.int 0)) = true then A else B := by
  by_cases h : a = 0
  · rw [decide_eq_true (show V.int (a : Int) = V.int 0 by rw [h]; rfl)]
    exact h2 h
  · rw [decide_eq_false (fun z => h (by have := V.int.inj z; omega))]
    exact h1 (by omega)
section
variable {C D p : Addr} {c : Conf} {H : Hp} {A : PL} {t : PSt} {Q : VK} {E : XK}
theorem evp_i (O : c.Ok) (L : Play0 C D c H p A t) (l : t.ops.length ≤ 100) (q : ∀ q xs es H', Same H H' → H q = none → H' q = some (.lst xs) → EvsAt H' xs es → Srt es → es.Perm (evP c t) → Q (.ref q) H') : spEvP C D [.ref p] H Q E := by
  unfold spEvP
  exact ⟨c, p, A, t, rfl, O, L, l, q⟩
end
section
variable {P : Program} {w : World} {K : PySem.W.Frag} {mg : Str → Option Value} {base : Heap}
theorem ok_Play_events (T : Txt K mg) : FnOk P w K mg base CX0 4 T.f_Play_events T.fd_Play_events ["self"] (spEvP T.C_Operation T.C_Play) := by
  refine T.F_Play_events.ok sc_Play_events (fun vs H Q E h => ?_) (fun cdv A outer s H vs Q E hr h => ?_)
  · unfold spEvP at h
    obtain ⟨c, p, A, t, rfl, _⟩ := h
    rfl
  · unfold spEvP at h
    obtain ⟨c, p, A, t, rfl, O, L, ln, q⟩ := h
    refine ⟨_, (pss_cons (ps_set (i := 1) sc_Play_events.nd rfl (Or.inl rfl) (pe_callB call_len_seq (by rfl) T.n_len (by decide +kernel) (pa_cons (pe_fld (pv 0) rfl) pa_nil)))
      (pss_cons (ps_set (i := 2) sc_Play_events.nd rfl (Or.inl rfl) (pe_lst (pa_cons (pe_tup (pa_cons pe_str (pa_cons (pv 1) pa_nil))) (pa_cons (pe_tup (pa_cons (pe_ix ix_tup (pe_fld (pv 0) rfl) pe_int (fun _ _ => rfl)) (pa_cons (pv 1) pa_nil))) pa_nil))))
      (Evl.pss_cut (ps_if (PW.pt (pw_and (pt_cmpR op_eq (pe_fld (pv 0) rfl) pe_str (nomark _)) (pw_and1 (pt_cmpR op_lt (pe_fld (pv 0) rfl) (pe_fld (pv 0) rfl) (nomark _))))) (pss_one (ps_expr (pe_bm PySem.F.plainAttrs_list PySem.F.slot_list_append PySem.F.type_list_append mt_append (pv 2) (pa_cons (pe_tup (pa_cons pe_str pa_nil)) pa_nil)))) pss_nil)
      (Evl.pss_cut (ps_if (PW.pt (pw_and (pt_cmpR op_eq (pe_fld (pv 0) rfl) pe_str (nomark _)) (pw_and1 (PW.pt (pw_or (pt_cmpR op_notN (pe_fld (pv 0) rfl) pe_non (nomark _)) (pw_or1 (pt_cmpR op_ne (pe_fld (pv 0) rfl) pe_int (nomark _)))))))) (pss_one (ps_expr (pe_bm PySem.F.plainAttrs_list PySem.F.slot_list_append PySem.F.type_list_append mt_append (pv 2) (pa_cons (pe_tup (pa_cons pe_str pa_nil)) pa_nil)))) pss_nil)
      (pss_cons (ps_for PassesOwn.never rfl (pi_enum (by rfl) T.n_enumerate (pa_cons (pe_fld (pv 0) rfl) pa_nil)) (pg_tup rfl (pgs_cons (pg_name (i := 3) sc_Play_events.nd rfl (Or.inl rfl)) (pgs_cons (pg_name (i := 4) sc_Play_events.nd rfl (Or.inl rfl)) pgs_nil))) (Evl.pss_cut (ps_if (pt_val (pe_meth0 (pv 4) T.c_Operation T.M_Operation_can_step (ok_Operation_can_step T) (hr.mono (by decide)) (b_Operation_can_step T) .nil pass0)) (pss_one (ps_expr (pe_bm PySem.F.plainAttrs_list PySem.F.slot_list_append PySem.F.type_list_append mt_append (pv 2) (pa_cons (pe_tup (pa_cons (pe_ix ix_tup (pe_fld (pv 4) rfl) pe_int (fun _ _ => rfl)) (pa_cons (pv 3) pa_nil))) pa_nil)))) pss_nil)
      (pss_one (ps_if (PW.pt (pw_and (pt_cmpR op_eq (pe_fld (pv 0) rfl) pe_str (nomark _)) (pw_and1 (pt_val (pe_meth0 (pv 4) T.c_Operation T.M_Operation_is_under_way (ok_Operation_is_under_way T) (hr.mono (by decide)) (b_Operation_is_under_way T) .nil pass0))))) (pss_one (ps_expr (pe_bm PySem.F.plainAttrs_list PySem.F.slot_list_append PySem.F.type_list_append mt_append (pv 2) (pa_cons (pe_tup (pa_cons pe_str (pa_cons (pv 3) pa_nil))) pa_nil)))) pss_nil))))
      (pss_one (ps_ret (pe_callB cr_sortedE (by rfl) T.n_sorted (by decide +kernel) (pa_cons (pv 2) pa_nil))))))))), ?_⟩
    have eL : ((A.oas.map V.ref).length : Int) = (t.ops.length : Int) := by rw [List.length_map, L.ops.len]
    refine ⟨_, rfl, _, _, _, _, _, rfl, L.at_, T.c_Play, T.a_Play_operations, l_Play_operations, _, _, rfl, .inl (SqL.of L.lo0), ?_⟩
    rw [eL]
    refine ⟨_, rfl, (by show 2 ≤ sizeLine; decide), fun t1 n1 => ?_⟩
    have L2 := L.new (u := .tup [.str "look", .int (t.ops.length : Int)]) n1
    have S2 := same_new (o := .tup [.str "look", .int (t.ops.length : Int)]) n1
    have h21 : (upd H t1 (.tup [.str "look", .int (t.ops.length : Int)])) t1 = some (.tup (evV ("look", some (t.ops.length : Int)))) := upd_same
    generalize upd H t1 (.tup [.str "look", .int (t.ops.length : Int)]) = H2 at L2 S2 h21
    have hfw : (c.steps.map V.str)[0]? = some (.str (firstW c)) := by
      rw [List.getElem?_map]
      unfold firstW
      rw [List.getD_eq_getElem?_getD, List.getElem?_eq_getElem O.slen.1]
      rfl
    refine ⟨_, rfl, _, _, _, _, _, rfl, L2.at_, T.c_Play, T.a_Play_path, l_Play_path, _, _, _, _, rfl, rfl, SqT.of L2.tp, at_of (j := 0) rfl hfw, _, rfl, (by show 2 ≤ sizeLine; decide), fun t2 n2 => ⟨(by show 2 ≤ sizeLine; decide), fun f nf => ?_⟩⟩
    have S4 : Same H2 (upd (upd H2 t2 (.tup [.str (firstW c), .int (t.ops.length : Int)])) f (.lst [.ref t1, .ref t2])) := sN (same_new n2) nf
    have hf : (upd (upd H2 t2 (.tup [.str (firstW c), .int (t.ops.length : Int)])) f (.lst [.ref t1, .ref t2])) f = some (.lst [.ref t1, .ref t2]) := upd_same
    have hx : EvsAt (upd (upd H2 t2 (.tup [.str (firstW c), .int (t.ops.length : Int)])) f (.lst [.ref t1, .ref t2])) [.ref t1, .ref t2] (evPA c t) :=
      .cons ⟨t1, rfl, S4 _ _ h21⟩ (.cons ⟨t2, rfl, same_new nf _ _ upd_same⟩ .nil)
    generalize upd (upd H2 t2 (.tup [.str (firstW c), .int (t.ops.length : Int)])) f (.lst [.ref t1, .ref t2]) = H4 at S4 hf hx
    have S5 := S2.trans S4
    have nf5 : H f = none := by
      have nf' := nf
      cases hh : H f with
      | none => rfl
      | some u =>
        have := same_new (o := .tup [.str (firstW c), .int (t.ops.length : Int)]) n2 _ _ (S2 _ _ hh)
        rw [this] at nf'
        cases nf'
    clear nf n2 L2 S2 h21 S4
    -- copy
    refine ⟨fun σ' H' => ∃ xs, σ' = [some (.ref p), some (.int (t.ops.length : Int)), some (.ref f), none, none] ∧ Same H H' ∧ H' f = some (.lst xs) ∧ EvsAt H' xs (evPA c t ++ (if copyP c t then [copyE] else [])) ∧ xs.length ≤ 3, ?_, ?_⟩
    · have L5 := L.same S5
      have skip : copyP c t = false → ∃ xs, [some (.ref p), some (.int (t.ops.length : Int)), some (.ref f), none, none] = [some (V.ref p), some (V.int (t.ops.length : Int)), some (V.ref f), none, none] ∧ Same H H4 ∧ H4 f = some (.lst xs) ∧ EvsAt H4 xs (evPA c t ++ (if copyP c t then [copyE] else [])) ∧ xs.length ≤ 3 := fun e =>
        ⟨_, rfl, S5, hf, by rw [e, if_neg (by decide), List.append_nil]; exact hx, by show 2 ≤ 3; decide⟩
      unfold copyP at skip ⊢
      refine ⟨_, rfl, _, _, _, _, _, rfl, L5.at_, T.c_Play, T.a_Play_source, l_Play_source, rfl, _, rfl, iteS (fun n => ?_) (fun n => ?_)⟩
      · rw [decide_eq_true n, Bool.true_and] at skip ⊢
        refine ⟨_, rfl, _, _, _, _, _, rfl, L5.at_, T.c_Play, T.a_Play_replica, l_Play_replica, _, rfl, _, _, _, _, _, rfl, L5.at_, T.c_Play, T.a_Play_database, l_Play_database, _, _, rfl, rfl, _, rfl, iteB (fun n3 => ?_) (fun n3 => ?_)⟩
        · have n3 : t.rep < t.db := by have := of_decide_eq_true n3; omega
          refine ⟨_, rfl, .inl ⟨rfl, _, SqL.of hf⟩, (by show 1 ≤ sizeLine; decide), fun u nu => ⟨f, _, _, rfl, rfl, same_new nu _ _ hf, by show 2 < sizeLine; decide, ?_⟩⟩
          refine ⟨_, rfl, sN' (sN S5 nu) nf5, upd_same, ?_, by show 3 ≤ 3; decide⟩
          rw [decide_eq_true n3, if_pos rfl]
          exact evs_push (e := copyE) hx hf nu
        · have n3 : ¬ t.rep < t.db := by have := of_decide_eq_false n3; omega
          exact skip (by simpa using n3)
      · rw [decide_eq_false n, Bool.false_and] at skip ⊢
        exact skip rfl
    rintro σ' H6 ⟨xs6, rfl, S6, hf6, X6, l6⟩
    clear hx hf S5
    -- evict
    refine ⟨fun σ' H' => ∃ xs, σ' = [some (.ref p), some (.int (t.ops.length : Int)), some (.ref f), none, none] ∧ Same H H' ∧ H' f = some (.lst xs) ∧ EvsAt H' xs (evPA c t ++ (if copyP c t then [copyE] else []) ++ (if evictP c t then [evictE] else [])) ∧ xs.length ≤ 4, ?_, ?_⟩
    · have L6 := L.same S6
      have skip : evictP c t = false → ∃ xs, [some (.ref p), some (.int (t.ops.length : Int)), some (.ref f), none, none] = [some (V.ref p), some (V.int (t.ops.length : Int)), some (V.ref f), none, none] ∧ Same H H6 ∧ H6 f = some (.lst xs) ∧ EvsAt H6 xs (evPA c t ++ (if copyP c t then [copyE] else []) ++ (if evictP c t then [evictE] else [])) ∧ xs.length ≤ 4 := fun e =>
        ⟨_, rfl, S6, hf6, by rw [if_neg (c := evictP c t = true) (by rw [e]; decide), List.append_nil]; exact X6, by omega⟩
      have push : evictP c t = true → ∀ u, H6 u = none → ∃ xs, [some (.ref p), some (.int (t.ops.length : Int)), some (.ref f), none, none] = [some (V.ref p), some (V.int (t.ops.length : Int)), some (V.ref f), none, none] ∧ Same H (upd (upd H6 u (.tup [.str "evict"])) f (.lst (xs6 ++ [.ref u]))) ∧ (upd (upd H6 u (.tup [.str "evict"])) f (.lst (xs6 ++ [.ref u]))) f = some (.lst xs) ∧ EvsAt (upd (upd H6 u (.tup [.str "evict"])) f (.lst (xs6 ++ [.ref u]))) xs (evPA c t ++ (if copyP c t then [copyE] else []) ++ (if evictP c t then [evictE] else [])) ∧ xs.length ≤ 4 := fun e u nu => by
        refine ⟨_, rfl, sN' (sN S6 nu) nf5, upd_same, ?_, by rw [List.length_append, List.length_singleton]; omega⟩
        rw [if_pos (c := evictP c t = true) e]
        exact evs_push (e := evictE) X6 hf6 nu
      unfold evictP at skip push ⊢
      refine ⟨_, rfl, _, _, _, _, _, rfl, L6.at_, T.c_Play, T.a_Play_evictions, l_Play_evictions, rfl, _, rfl, iteS (fun n => ?_) (fun n => ?_)⟩
      · rw [decide_eq_true n, Bool.true_and] at skip push ⊢
        refine ⟨_, rfl, _, _, _, _, _, rfl, L6.at_, T.c_Play, T.a_Play_cache, l_Play_cache, rfl, _, rfl, iteNn (fun v n2 => ?_) (fun n2 => ?_)⟩
        · rw [n2] at push ⊢
          refine ⟨_, rfl, .inl ⟨rfl, _, SqL.of hf6⟩, (by show 1 ≤ sizeLine; decide), fun u nu => ⟨f, _, _, rfl, rfl, same_new nu _ _ hf6, Nat.lt_of_le_of_lt l6 (by decide), ?_⟩⟩
          exact push rfl u nu
        · rw [n2] at push skip ⊢
          refine ⟨_, rfl, _, _, _, _, _, rfl, L6.at_, T.c_Play, T.a_Play_mark, l_Play_mark, rfl, _, rfl, ?_⟩
          refine iteIn (fun n3 => ?_) (fun n3 => ?_)
          · refine ⟨_, rfl, .inl ⟨rfl, _, SqL.of hf6⟩, (by show 1 ≤ sizeLine; decide), fun u nu => ⟨f, _, _, rfl, rfl, same_new nu _ _ hf6, Nat.lt_of_le_of_lt l6 (by decide), ?_⟩⟩
            exact push (by simpa using n3) u nu
          · exact skip (by simp [n3])
      · rw [decide_eq_false n, Bool.false_and] at skip ⊢
        exact skip rfl
    rintro σ' H7 ⟨xs7, rfl, S7, hf7, X7, l7⟩
    clear X6 hf6 S6
    have L7 := L.same S7
    have hn : ∀ {n : Nat}, (opsEv c t n).length ≤ 2 * n := fun {n} => by
      induction n with
      | zero => exact Nat.le_refl _
      | succ n ih =>
        show (opsEv c t n ++ _).length ≤ _
        rw [List.length_append]
        have : ∀ o, (evOp c t n o).length ≤ 2 := fun o => by
          unfold evOp
          rw [List.length_append]
          split <;> split <;> simp
        split
        · rename_i o _
          have := this o
          omega
        · simp
          omega
    refine ⟨_, rfl, _, _, _, _, _, rfl, L7.at_, T.c_Play, T.a_Play_operations, l_Play_operations, A.lo, A.oas.map V.ref, rfl, SqL.of L7.lo0, ?_⟩
    refine for_enumL (xs := A.oas.map V.ref) (fun i σ' H' => ∃ xs x3 x4, σ' = [some (.ref p), some (.int (t.ops.length : Int)), some (.ref f), x3, x4] ∧ Same H H' ∧ H' f = some (.lst xs) ∧ EvsAt H' xs (evPA c t ++ (if copyP c t then [copyE] else []) ++ (if evictP c t then [evictE] else []) ++ opsEv c t i))
      ⟨xs7, _, _, rfl, S7, hf7, by show EvsAt H7 xs7 (_ ++ []); rw [List.append_nil]; exact X7⟩ (fun i σ' H' _ ⟨_, _, _, _, S, _⟩ => SqL.of (S _ _ L.lo0)) ?_ ?_
    · rintro i y σ' H8 tt hi ⟨xs, x3, x4, rfl, S8, hf8, X8⟩ ntt
      have hi' : ∃ a, A.oas[i]? = some a ∧ y = .ref a := by
        rw [List.getElem?_map] at hi
        cases e : A.oas[i]? with
        | none => rw [e] at hi; cases hi
        | some a =>
          rw [e] at hi
          exact ⟨a, rfl, (Option.some.inj hi).symm⟩
      obtain ⟨a, ea, rfl⟩ := hi'
      obtain ⟨o, eo, _⟩ := L.ops.ofAt ea
      have S9 := sN S8 (o := .tup [.int (i : Nat), .ref a]) ntt
      have X9 := X8.same (same_new (o := .tup [.int (i : Nat), .ref a]) ntt)
      have hf9 := same_new (o := .tup [.int (i : Nat), .ref a]) ntt _ _ hf8
      have htt : (upd H8 tt (.tup [.int (i : Nat), .ref a])) tt = some (.tup [.int (i : Nat), .ref a]) := upd_same
      generalize upd H8 tt (.tup [.int (i : Nat), .ref a]) = H9 at S9 X9 hf9 htt
      have eN : opsEv c t (i + 1) = opsEv c t i ++ evOp c t i o := by
        show opsEv c t i ++ (match t.ops[i]? with | some o => evOp c t i o | none => []) = _
        rw [eo]
      rw [eN]
      have hl' : i < t.ops.length := (List.getElem?_eq_some_iff.mp eo).1
      have xl : xs.length ≤ 300 := by
        rw [X8.length, List.length_append]
        have := hn (n := i)
        have : (evPA c t ++ (if copyP c t then [copyE] else []) ++ (if evictP c t then [evictE] else [])).length ≤ 4 := by
          rw [List.length_append, List.length_append]
          have z1 : (evPA c t).length = 2 := rfl
          have z2 : (if copyP c t then [copyE] else [] : List Ev).length ≤ 1 := by split <;> simp
          have z3 : (if evictP c t then [evictE] else [] : List Ev).length ≤ 1 := by split <;> simp
          omega
        omega
      clear X8 hf8 S8
      have wt : ∀ l, o.awaited = some l → l < t.ops.length := fun l z => L.aw i o l eo z
      refine ⟨tt, _, rfl, SqT.of htt, rfl, ?_⟩
      refine ⟨_, _, rfl, _, _, rfl, rfl, ?_⟩
      refine ⟨fun σ' H' => ∃ xs, σ' = [some (.ref p), some (.int (t.ops.length : Int)), some (.ref f), some (.int (i : Int)), some (.ref a)] ∧ Same H H' ∧ H' f = some (.lst xs) ∧ EvsAt H' xs (evPA c t ++ (if copyP c t then [copyE] else []) ++ (if evictP c t then [evictE] else []) ++ opsEv c t i ++ (if canStep t.ops o then ([(o.steps.getD 0 "", some (i : Int))] : List Ev) else [])) ∧ xs.length ≤ 301, ?_, ?_⟩
      · have L9 := L.same S9
        obtain ⟨dx, ta, h1, h2⟩ := L9.ops.get i a o ea eo
        refine ⟨_, rfl, _, _, _, rfl, h1, ln_Operation_can_step, ?_⟩
        refine can_i L9.ops ea eo wt ⟨_, rfl, ?_⟩
        refine iteB (fun cs => ?_) (fun cs => ?_)
        · rw [if_pos cs]
          have hs : ∃ w r, o.steps = w :: r := by
            cases z : o.steps with
            | nil =>
              unfold canStep POp.under POp.ended at cs
              rw [z] at cs
              simp at cs
            | cons w r => exact ⟨w, r, rfl⟩
          obtain ⟨w, r, hs⟩ := hs
          rw [hs] at h2 ⊢
          refine ⟨_, rfl, .inl ⟨rfl, _, SqL.of hf9⟩, _, rfl, _, _, _, _, _, rfl, h1, T.c_Operation, T.a_Operation_steps, l_Operation_steps, _, _, _, _, rfl, rfl, SqT.of h2, at_of (j := 0) (by omega) rfl, _, rfl, (by show 2 ≤ sizeLine; decide), fun u nu => ⟨f, _, _, rfl, rfl, same_new nu _ _ hf9, Nat.lt_of_le_of_lt xl (by decide), ?_⟩⟩
          exact ⟨_, rfl, sN' (sN S9 nu) nf5, upd_same, evs_push (e := (w, some (i : Int))) X9 hf9 nu, by rw [List.length_append, List.length_singleton]; omega⟩
        · rw [if_neg (c := canStep t.ops o = true) (by rw [cs]; decide), List.append_nil]
          exact ⟨xs, rfl, S9, hf9, X9, by omega⟩
      · rintro σ' H10 ⟨ys, rfl, S10, hf10, X10, l10⟩
        have L10 := L.same S10
        obtain ⟨dx, ta, h1, h2⟩ := L10.ops.get i a o ea eo
        have skip : ¬ (c.stop = "stops" ∧ o.under = true) → EvsAt H10 ys (evPA c t ++ (if copyP c t then [copyE] else []) ++ (if evictP c t then [evictE] else []) ++ (opsEv c t i ++ evOp c t i o)) := fun n => by
          unfold evOp
          rw [if_neg n, List.append_nil, ← List.append_assoc]
          exact X10
        refine ⟨_, rfl, _, _, _, _, _, rfl, L10.at_, T.c_Play, T.a_Play_stops, l_Play_stops, rfl, _, rfl, iteS (fun n => ?_) (fun n => ?_)⟩
        · refine ⟨_, rfl, _, _, _, rfl, h1, ln_Operation_is_under_way, ?_⟩
          refine under_i (L10.ops.get i a o ea eo) ⟨_, rfl, ?_⟩
          refine iteB (fun n3 => ?_) (fun n3 => ?_)
          · refine ⟨_, rfl, .inl ⟨rfl, _, SqL.of hf10⟩, _, rfl, (by show 2 ≤ sizeLine; decide), fun u nu => ⟨f, _, _, rfl, rfl, same_new nu _ _ hf10, Nat.lt_of_le_of_lt l10 (by decide), ?_⟩⟩
            refine ⟨_, _, _, rfl, sN' (sN S10 nu) nf5, upd_same, ?_⟩
            unfold evOp
            rw [if_pos (c := c.stop = "stops" ∧ o.under = true) ⟨n, n3⟩, ← List.append_assoc, ← List.append_assoc]
            exact evs_push (e := ("stop", some (i : Int))) X10 hf10 nu
          · exact ⟨ys, _, _, rfl, S10, hf10, skip fun z => by rw [z.2] at n3; cases n3⟩
        · exact ⟨ys, _, _, rfl, S10, hf10, skip fun z => n z.1⟩
    · rintro σ' H8 ⟨xs, x3, x4, rfl, S8, hf8, X8⟩
      rw [List.length_map, L.ops.len] at X8
      refine ⟨_, rfl, f, xs, evOf H8, rfl, SqL.of hf8, X8.all, fun vs q' sr pm np => ?_⟩
      obtain ⟨x1, x2, x3⟩ := X8.sorted sr pm
      exact q q' vs _ _ (sN S8 np) (S8.free np) upd_same (x1.same (same_new np)) x2 x3
end
end Ca

set_option Elab.async false
set_option linter.all false
set_option maxRecDepth 100000
set_option maxHeartbeats 4000000
namespace Ca
open PySem L2
theorem un65 {k : Nat} {A : Around} (r : Room k A) : A.units + 65 < cLine := by have := r.un; omega
/-- what may be asked of: whether it is a pair whose second is True or False -/
inductive VCase (K : PySem.W.Frag) (H : Hp) : V → Bool → Prop where
  | non : VCase K H .non false
  | str (x : Str) : VCase K H (.str x) false
  | lst (a : Addr) (xs : List V) (h : H a = some (.lst xs)) : VCase K H (.ref a) false
  | tupn (a : Addr) (xs : List V) (h : H a = some (.tup xs)) (n : ¬ xs.length = 2) : VCase K H (.ref a) false
  | tup2 (a : Addr) (x y : V) (h : H a = some (.tup [x, y])) (T : String) (ty : TyX K H y (.type T)) (b : Bool) (hk : PySem.W.kitOne K (.type T) (.type "bool") = some b) : VCase K H (.ref a) b
@[irreducible] def spCome (K : PySem.W.Frag) (C D : Addr) : Sp := fun vs H Q _ => ∃ (c : Conf) (p : Addr) (A : PL) (t : PSt) (v : V) (d : PyData) (fl : Bool), vs = [.ref p, v] ∧ c.Ok ∧ Play0 C D c H p A t ∧ t.ops.length ≤ 100 ∧ VCase K H v fl ∧
  Dp K H v d ∧ SeqAt.shaped d = true ∧ (∀ H', Same H H' → Dp K H' v d) ∧ (∀ e ∈ evP c t, PyData.strOk e.1 = true) ∧ ∀ H', Same H H' → Q (.bl (if fl then false else (evP c t).any fun e => PyData.eqv (evD' e) d)) H'
section
variable {K : PySem.W.Frag} {C D p : Addr} {c : Conf} {H : Hp} {A : PL} {t : PSt} {v : V} {d : PyData} {fl : Bool} {Q : VK} {E : XK}
theorem come_i (O : c.Ok) (L : Play0 C D c H p A t) (l : t.ops.length ≤ 100) (h : VCase K H v fl) (hd : Dp K H v d) (hs : SeqAt.shaped d = true) (hk : ∀ H', Same H H' → Dp K H' v d) (so : ∀ e ∈ evP c t, PyData.strOk e.1 = true)
    (q : ∀ H', Same H H' → Q (.bl (if fl then false else (evP c t).any fun e => PyData.eqv (evD' e) d)) H') : spCome K C D [.ref p, v] H Q E := by
  unfold spCome
  exact ⟨c, p, A, t, v, d, fl, rfl, O, L, l, h, hd, hs, hk, so, q⟩
end
section
variable {P : Program} {w : World} {K : PySem.W.Frag} {mg : Str → Option Value} {base : Heap}
theorem ok_Play_can_come (T : Txt K mg) : FnOk P w K mg base CX0 5 T.f_Play_can_come T.fd_Play_can_come ["self", "value"] (spCome K T.C_Operation T.C_Play) := by
  refine T.F_Play_can_come.ok sc_Play_can_come (fun vs H Q E h => ?_) (fun cdv A outer s H vs Q E hr h => ?_)
  · unfold spCome at h
    obtain ⟨c, p, A, t, v, d, fl, rfl, _⟩ := h
    rfl
  · unfold spCome at h
    obtain ⟨c, p, A, t, v, d, fl, rfl, O, L, ln, hv, hd, hs, hk, so, q⟩ := h
    refine ⟨_, (pss_cons (ps_if (PW.pt (pw_and (pt_val (pe_callB call_isi (by rfl) T.n_isinstance (by decide +kernel) (pa_cons (pv 1) (pa_cons (pe_bltn (v := .ty "tuple") (by rfl) T.n_tuple (by decide +kernel) rfl) pa_nil)))) (pw_and (pt_cmpR op_eq (pe_callB call_len_seq (by rfl) T.n_len (by decide +kernel) (pa_cons (pv 1) pa_nil)) pe_int (nomark _)) (pw_and1 (pt_val (pe_callB call_isi (by rfl) T.n_isinstance (by decide +kernel) (pa_cons (pe_ix ix_tup (pv 1) pe_int (fun _ _ => rfl)) (pa_cons (pe_bltn (v := .ty "bool") (by rfl) T.n_bool (by decide +kernel) rfl) pa_nil)))))))) (pss_one (ps_ret pe_bl)) pss_nil)
      (pss_one (ps_ret (pe_cmpR (op_inD (un65 hr)) (pv 1) (pe_meth0 (pv 0) T.c_Play T.M_Play_events (ok_Play_events T) (hr.mono (by decide)) (b_Play_events T) .nil pass0) (by rfl))))), ?_⟩
    cases hv with
    | non =>
      refine ⟨_, rfl, _, _, _, _, false, rfl, .ty _, .base .non, kit_ty (by decide +kernel), _, rfl, iteF (iteF ?_)⟩
      refine ⟨_, rfl, _, rfl, _, _, _, rfl, L.at_, ln_Play_events, ?_⟩
      refine evp_i O L ln fun l xs es H1 S1 nl hl X sr pm => ?_
      refine ⟨d, es.map evD', hk H1 S1, .lst (.inl (.inl hl)) (evs_dp X), hs, evs_list_shaped (fun e he => so e (pm.mem_iff.mp he)), ?_⟩
      have z : ((es.map evD').any fun z => PyData.eqv z d) = ((evP c t).any fun e => PyData.eqv (evD' e) d) := by
        rw [List.any_map]
        exact pm.any_eq
      rw [z]
      exact q H1 S1
    | str x =>
      refine ⟨_, rfl, _, _, _, _, false, rfl, .ty _, .base (.str x), kit_ty (by decide +kernel), _, rfl, iteF (iteF ?_)⟩
      refine ⟨_, rfl, _, rfl, _, _, _, rfl, L.at_, ln_Play_events, ?_⟩
      refine evp_i O L ln fun l xs es H1 S1 nl hl X sr pm => ?_
      refine ⟨d, es.map evD', hk H1 S1, .lst (.inl (.inl hl)) (evs_dp X), hs, evs_list_shaped (fun e he => so e (pm.mem_iff.mp he)), ?_⟩
      have z : ((es.map evD').any fun z => PyData.eqv z d) = ((evP c t).any fun e => PyData.eqv (evD' e) d) := by
        rw [List.any_map]
        exact pm.any_eq
      rw [z]
      exact q H1 S1
    | lst a xs h =>
      refine ⟨_, rfl, _, _, _, _, false, rfl, .ty _, .base (.lst h), kit_ty (by decide +kernel), _, rfl, iteF (iteF ?_)⟩
      refine ⟨_, rfl, _, rfl, _, _, _, rfl, L.at_, ln_Play_events, ?_⟩
      refine evp_i O L ln fun l xs es H1 S1 nl hl X sr pm => ?_
      refine ⟨d, es.map evD', hk H1 S1, .lst (.inl (.inl hl)) (evs_dp X), hs, evs_list_shaped (fun e he => so e (pm.mem_iff.mp he)), ?_⟩
      have z : ((es.map evD').any fun z => PyData.eqv z d) = ((evP c t).any fun e => PyData.eqv (evD' e) d) := by
        rw [List.any_map]
        exact pm.any_eq
      rw [z]
      exact q H1 S1
    | tupn a xs h n =>
      refine ⟨_, rfl, _, _, _, _, true, rfl, .ty _, .base (.tup h), kit_ty (by decide +kernel), _, rfl, iteT ?_⟩
      refine ⟨_, rfl, _, _, rfl, .inr (SqT.of h), rfl, _, rfl, ?_⟩
      rw [show decide (V.int (xs.length : Int) = V.int 2) = false from decide_eq_false (fun z => n (by have := V.int.inj z; omega))]
      refine iteF (iteF ?_)
      refine ⟨_, rfl, _, rfl, _, _, _, rfl, L.at_, ln_Play_events, ?_⟩
      refine evp_i O L ln fun l xs es H1 S1 nl hl X sr pm => ?_
      refine ⟨d, es.map evD', hk H1 S1, .lst (.inl (.inl hl)) (evs_dp X), hs, evs_list_shaped (fun e he => so e (pm.mem_iff.mp he)), ?_⟩
      have z : ((es.map evD').any fun z => PyData.eqv z d) = ((evP c t).any fun e => PyData.eqv (evD' e) d) := by
        rw [List.any_map]
        exact pm.any_eq
      rw [z]
      exact q H1 S1
    | tup2 a x y h T' ty b hkit =>
      refine ⟨_, rfl, _, _, _, _, true, rfl, .ty _, .base (.tup h), kit_ty (by decide +kernel), _, rfl, iteT ?_⟩
      refine ⟨_, rfl, _, _, rfl, .inr (SqT.of h), rfl, _, rfl, iteT ?_⟩
      refine ⟨_, rfl, _, _, _, _, rfl, rfl, SqT.of h, at_of (j := 1) (by omega) rfl, _, _, _, _, _, rfl, .ty _, ty, hkit, _, rfl, ?_⟩
      cases fl with
      | true => exact iteT (q H (fun _ _ z => z))
      | false =>
        refine iteF ?_
        refine ⟨_, rfl, _, rfl, _, _, _, rfl, L.at_, ln_Play_events, ?_⟩
        refine evp_i O L ln fun l xs es H1 S1 nl hl X sr pm => ?_
        refine ⟨d, es.map evD', hk H1 S1, .lst (.inl (.inl hl)) (evs_dp X), hs, evs_list_shaped (fun e he => so e (pm.mem_iff.mp he)), ?_⟩
        have z : ((es.map evD').any fun z => PyData.eqv z d) = ((evP c t).any fun e => PyData.eqv (evD' e) d) := by
          rw [List.any_map]
          exact pm.any_eq
        rw [z]
        exact q H1 S1
end
end Ca

set_option Elab.async false
set_option linter.all false
set_option maxRecDepth 100000
set_option maxHeartbeats 4000000
/-! an own error over ValueError whose __init__ says super().__init__(f"..{index}") and self.index = index -/
namespace PySem
namespace BadX
open PySem.W PySem.Calls PyProof.Rows PySem.HandSPX
abbrev qI : Str := "BadRun.__init__"
def iA (p1 p2 : Pos) : Arguments := { posonlyargs := [], args := [{ arg := "self", annotation := none, pos := p1 }, { arg := "index", annotation := none, pos := p2 }], vararg := none, kwonlyargs := [], kw_defaults := [], kwarg := none, defaults := [] }
def iB (k : Nat) (q0 q1 q2 q3 q4 q5 q6 q7 q8 r1 r2 r3 r4 : Pos) : List Stmt :=
  [.Expr (.Call (.Attribute (.Call (.Name "super" q0) [] [] q1) "__init__" q2) [.JoinedStr [.Constant (.str "no run: index ") k q3, .FormattedValue (.Name "index" q4) (-1) none q5] q6] [] q7) q8,
   .Assign [.Attribute (.Name "self" r1) "index" r2] (.Name "index" r3) r4]
def iS : Scope := { kind := .function, names := [(PySem.Str.ofString "self", .local), (PySem.Str.ofString "index", .local), (PySem.Str.ofString "__class__", .free), (PySem.Str.ofString "super", .globalImplicit)], isGenerator := false, isCoroutine := false, more := [] }
/-- what may stand in the text: an int of few digits, None -/
inductive Fmt : Value → Prop where
  | non : Fmt .none
  | int {i : Int} {t : Tok} (h : i.natAbs.log2 < 1920) : Fmt (.int i t)
/-- what the written part says of BadRun, at C, and of its __init__, at fI -/
structure BadTxt (P : Program) (K : Frag) (mg : Str → Option Value) (C fI : Addr) : Prop where
  gC : mg "BadRun" = some (.ref C)
  gS : mg "super" = none
  cls : ∃ nm q N bs bm sn sub ab col dd k0 k1 k2 k3 k5, K.lookup C = some (excClassObj nm q C N bs bm true sn sub ab col dd k0 k1 k2 k3 k5 "ValueError.__new__") ∧ refsVE bm = true ∧ alongIn K "__init__" bm = some (some (.builtin "ValueError.__init__"))
  sa : findIn K (.ref C) "__setattr__" = some (some (.builtin "object.__setattr__"))
  ga : findIn K (.ref C) "__getattribute__" = some (some (.builtin "BaseException.__getattribute__"))
  gg : findIn K (.ref C) "__getattr__" = some none
  noN : findIn K (.ref C) "index" = some none
  iC : findIn K (.ref C) "__init__" = some (some (.ref fI))
  tC : typeIn K (.ref C) = some (.type "type")
  kC : keepIn K (.ref C) = true
  tF : typeIn K (.ref fI) = some (.type "function")
  exC : subIn K (.ref C) (.type "BaseException") = some true
  exV : subIn K (.ref C) (.type "ValueError") = some true
  exS : mroIn K C (.ref C) = some true
  hdC : hasDictIn K C = true
  te : exmOne K (.ref C) (.ref C) = some true
  opq : nsIn K cStatics "thirdparty.any" = some none
  top : (P.main.scope.names.lookup ("super" : Str)).isSome = false
  fn : ∃ (oc : Value) (od : Option Addr) (doc pm : Value) (an : Option Addr) (cda : Addr) (ct : Value) (osl : Array (Option Value)) (cc : Addr) (k : Nat) (p1 p2 q0 q1 q2 q3 q4 q5 q6 q7 q8 r1 r2 r3 r4 : Pos),
    K.lookup fI = some ⟨oc, od, .func (ksFn "__init__" qI (iA p1 p2) (iB k q0 q1 q2 q3 q4 q5 q6 q7 q8 r1 r2 r3 r4) iS .none .none doc pm an (.ref cda) ct cc), osl⟩ ∧ codeIn K (.ref cda) qI = true ∧ (q2.endLine == q7.line) = true ∧
    (∃ (ccl : Value) (cdd : Option Addr) (vs : Array Value) (ccs : Array (Option Value)) (file : Str) (tf : Tok), K.lookup cda = some ⟨ccl, cdd, .fields vs, ccs⟩ ∧ vs[2]? = some (.str file tf) ∧ ((P.main.file : Str) == file) = true) ∧
    (∃ (cl : Value) (cld : Option Addr) (csl : Array (Option Value)), K.lookup cc = some ⟨cl, cld, .cell (some (.ref C)), csl⟩)
theorem one_size (v : Value) : [v].length ≤ sizeLine := by
  rw [sizeLine_eq]
  exact (by decide : 1 ≤ 16777216)
section
variable {prog : Program} {w : World} {A : Around} {E : Value → Shared → Prop} {h : Heap} {g : Array GenState} {d : Drawn} {t : Nat} {os : OsState}
variable {nm q : Str} {C N : Addr} {bs bm : List Value} {hdct : Bool} {sn : List Str} {sub : List Value} {ab : Bool} {col : Option Bool} {dd : Option Addr} {k0 k1 k2 k3 k5 : Option Value}
/-- the bound __init__ called -/
theorem call_bwV {u e t0 : Addr} {rest : List Value} {Q : Value → Shared → Prop}
    (hC : h.get? C = some (excClassObj nm q C N bs bm hdct sn sub ab col dd k0 k1 k2 k3 k5 "ValueError.__new__")) (he : h.get? e = some (excO C t0)) (hu : h.get? u = some (kxs_mw "ValueError.__init__" e)) (hrest : rest.length ≤ sizeLine)
    (hq : ∀ h' t1, (∀ b o, b ≠ e → h.get? b = some o → h'.get? b = some o) → h'.get? e = some (excO C t1) → Q .none ⟨h', g, d, t, os⟩) :
    wpAny (model prog w) A (call (.ref u) rest) Q E ⟨h, g, d, t, os⟩ := by
  refine wpAny_call (codeAny_of_tree ?_)
  show wpAny _ A.in1 (callAny (.ref u) ⟨rest, []⟩) _ _ _
  simp only [callAny]
  refine wpAny_bind (wpAny_load hu ?_)
  simp only [kxs_mw, show (Value.type "method-wrapper" == Value.type "method" || Value.type "method-wrapper" == Value.type "builtin_function_or_method" || Value.type "method-wrapper" == Value.type "method-wrapper") = true by decide, if_true]
  refine KFB.if_so (by decide) ?_
  refine wpAny_bind (check_bound_init F.excBase_ValueError.toExcCallFacts hC he rfl ?_)
  refine wpAny_bind (wpAny_pure (wpAny_pure ?_))
  refine ⟨plainId_quiet F.excBase_ValueError.init.plain _, codeAny_builtin F.excBase_ValueError.initEntry ?_⟩
  exact exc_init_tree (cls := .ref C) (t0 := t0) (dv := none) (c2 := .none) (c3 := .none) (b4 := .bool false) he hrest fun h' k' e' t' => hq h' _ k' e'
end
/-- what __init__ leaves of a fresh exception at x -/
structure InitEnd (h h' : Heap) (x C dx : Addr) (v : Value) : Prop where
  keep : ∀ b o, b ≠ x → h.get? b = some o → h'.get? b = some o
  obj : ∃ t1 : Addr, h'.get? x = some { cls := .ref C, dict := some dx, data := .fields #[.ref t1, .none, .none, .none, .bool false, .none] }
  dbig : h.objs.size ≤ dx
  dne : dx ≠ x
  ns : h'.Ns1 dx (fun y => if y = "index" then some v else none)
/-- a made BadRun -/
structure OwnMade (h h' : Heap) (e C d : Addr) (v : Value) : Prop where
  keep : ∀ b o, h.get? b = some o → h'.get? b = some o
  new : h.objs.size ≤ e
  obj : ∃ oe vs, h'.get? e = some oe ∧ oe.cls = .ref C ∧ oe.dict = some d ∧ oe.data = .fields vs ∧ vs[1]? = some .none
  dbig : h.objs.size ≤ d
  dne : d ≠ e
  ns : h'.Ns1 d (fun y => if y = "index" then some v else none)
section
variable {prog : Program} {w : World} {A : Around} {E : Value → Shared → Prop} {R : Result → Shared → Prop} {s : Shared} {K : Frag} {mg : Str → Option Value} {C fI : Addr}
theorem ldX {M : Model} {s : Shared} {env : Env} {m : Str → Option Value} {x : Str} {pos : Pos} {v : Value} {Q : Value → Shared → Prop} {A : Around} {E : Value → Shared → Prop} (hn : s.heap.Ns env.locals m) (hv : m x = some v) (h : Q v s)
    (hk : env.scope.kind = .function := by rfl) (hl : env.kindOf x = some .local := by rfl) (hd : (x == ("__debug__" : Str)) = false := by decide) :
    wpAny M A (eval (.Name x pos) env) Q E s := wpAny_Name (wpAny_loadName_local hk hl hn hv h) hd
theorem fmt_run {v : Value} {s : Shared} (hv : Fmt v) {Q : Value → Shared → Prop} (h : ∀ (y : Str) t s', y.length ≤ 4000 → s'.heap = s.heap → s'.gens = s.gens → s'.drawn = s.drawn → s'.os = s.os → Q (.str y t) s') : wpAny (model prog w) A (formatField v Str.empty) Q E s := by
  cases hv with
  | non => exact wpAny_formatField_none (h _ _ _ (by decide) rfl rfl rfl rfl)
  | int hz => exact wpAny_formatField_int hz (h _ _ _ (by have e := int_text_length_le (k := 1920) (by decide) hz; rw [ofString_length]; omega) rfl rfl rfl rfl)

theorem fmt_join {v : Value} {pre : Str} {env : Env} {n : Str} {k : Nat} {p3 p4 p5 p6 : Pos} {m : Str → Option Value} {Q : Value → Shared → Prop} (hv : Fmt v) (hpre : pre.length ≤ 1000) (hn : s.heap.Ns env.locals m) (hm : m n = some v)
    (hk : env.scope.kind = .function) (hl : env.kindOf n = some .local) (hd : (n == ("__debug__" : Str)) = false)
    (h : ∀ (y : Str) t s', s'.heap = s.heap → s'.gens = s.gens → s'.drawn = s.drawn → s'.os = s.os → Q (.str y t) s') :
    wpAny (model prog w) A (eval (.JoinedStr [.Constant (.str pre) k p3, .FormattedValue (.Name n p4) (-1) none p5] p6) env) Q E s := by
  refine wpAny_JoinedStr ?_
  have e1 : evalEach [.Constant (.str pre) k p3, .FormattedValue (.Name n p4) (-1) none p5] env = [eval (.Constant (.str pre) k p3) env, eval (.FormattedValue (.Name n p4) (-1) none p5) env] := by first | rfl | simp [evalEach]
  rw [e1]
  have e0 : (Str.empty ++ pre).length = pre.length := by rw [PySem.Str.length_append]; show 0 + _ = _; omega
  refine Constant_str ⟨pre, _, rfl, by rw [e0, sizeLine_eq]; omega, ?_⟩
  refine wpAny_FormattedValue_plain (ldX hn hm ?_ hk hl hd)
  refine fmt_run hv fun y t s' hy a b c d => ⟨y, t, rfl, ?_, ?_⟩
  · rw [PySem.Str.length_append, e0, sizeLine_eq]; omega
  · exact ⟨by rw [PySem.Str.length_append, e0, sizeLine_eq]; omega, h _ _ _ a b c d⟩

theorem bad_init (T : BadTxt prog K mg C fI) {base : Heap} {x t0 : Addr} {v : Value} (hv : Fmt v) (hM : L2.Mod K mg base) (hb : ∀ b o, base.get? b = some o → s.heap.get? b = some o) (hx : s.heap.get? x = some (excO C t0)) (hnx : K.lookup x = none) (hroom : A.depth < recursionLimit)
    (hq : ∀ h' tk dx, InitEnd s.heap h' x C dx v → R (.ok (.ret .none)) { s with heap := h', toks := tk }) :
    codeAny (model prog w) A (.call (.ref fI) ⟨[.ref x, v], []⟩) R s := by
  have X : K.In s.heap := hM.kin.keeps hb
  have hlim : s.heap.NoLimit := hM.nolimit.keeps hb
  obtain ⟨oc, od, doc, pm, an, cda, ct, osl, cc, k, p1, p2, q0, q1, q2, q3, q4, q5, q6, q7, q8, r1, r2, r3, r4, ho, hcd, hline, ⟨ccl, cdd, vs, ccs, file, tf, hcode, hvs, hfile⟩, ⟨cl, cld, csl, hcell⟩⟩ := T.fn
  obtain ⟨nm, q, N, bs, bm, sn, sub, ab, col, dd, k0, k1, k2, k3, k5, hC, hbm, hal⟩ := T.cls
  have hcl : clsIn K C = some { name := nm, bases := bs, mro := .ref C :: bm, ns := N, qualname := q, hasDict := true, slotNames := sn, subclasses := sub, abstract := ab, collection := col, hasDel := false } := by unfold clsIn; rw [hC] <;> rfl
  refine ks_codeAny_call_defAt (body := iB k q0 q1 q2 q3 q4 q5 q6 q7 q8 r1 r2 r3 r4) (binds := [("self", .ref x), ("index", v)]) hroom (X _ _ ho) rfl hlim (codeRec_of X hcd) rfl (BindsTo.of_eq (by first | rfl | with_unfolding_all rfl)) (fun y hy => (by decide : ∀ y ∈ iS.names, y.2 ≠ .cell) y hy) (by first | decide | (intro y hy; simp at hy; rcases hy with rfl | rfl <;> rfl)) (fun h₁ hn kk => ?_) rfl rfl rfl
  obtain ⟨hp, g, dr, tk, os⟩ := s
  have hxL : hp.objs.size ≠ x := Nat.ne_of_gt (Heap.lt_size hx)
  have X₁ : K.In h₁ := X.keeps kk
  have hx₁ := kk _ _ hx
  have hxC : x ≠ C := fun z => by rw [z, hC] at hnx; cases hnx
  have I₁ : InstAt h₁ x (excO C t0) C none := ⟨hx₁, rfl, rfl, trivial⟩
  obtain ⟨mb, hmb, hbb⟩ := hM.blt
  have hC₁ := X₁ _ _ hC
  have he : ∀ env : Env, eval (.Call (.Attribute (.Call (.Name "super" q0) [] [] q1) "__init__" q2) [.JoinedStr [.Constant (.str "no run: index ") k q3, .FormattedValue (.Name "index" q4) (-1) none q5] q6] [] q7) env = (do
      let ov ← attributeBase (.Call (.Name "super" q0) [] [] q1) "__init__" env (eval (.Call (.Name "super" q0) [] [] q1) env)
      standAt q2.atName
      let (f, first) ← holding [ov] (getMethod ov "__init__" (L2.plainOf (.Call (.Name "super" q0) [] [] q1) env))
      callWith q7 f first (backTo q7 (starEach [.JoinedStr [.Constant (.str "no run: index ") k q3, .FormattedValue (.Name "index" q4) (-1) none q5] q6] env)) []) := fun env => by
    rw [arm_eval_Call]
    have e3 := fun ov => L2.mcall_line (o := .Call (.Name "super" q0) [] [] q1) (m := "__init__") (apos := q2) (pos := q7) (env := env) (ov := ov) (n := 1) (args := backTo q7 (starEach [.JoinedStr [.Constant (.str "no run: index ") k q3, .FormattedValue (.Name "index" q4) (-1) none q5] q6] env)) (kws := []) rfl hline
    show (do
      let ov ← attributeBase (.Call (.Name "super" q0) [] [] q1) "__init__" env (eval (.Call (.Name "super" q0) [] [] q1) env)
      standAt q2.atName
      methodCall (.Call (.Name "super" q0) [] [] q1) "__init__" q2 q7 env ov 1 (backTo q7 (starEach [.JoinedStr [.Constant (.str "no run: index ") k q3, .FormattedValue (.Name "index" q4) (-1) none q5] q6] env)) []) = _
    simp only [e3]
  refine ks_wpAt_execs_cons (ks_wpAt_Expr_any (ks_wpAt_MethodCall (pl := L2.plainOf (.Call (.Name "super" q0) [] [] q1) _) ?_ (he _)) rfl rfl)
  refine ks_wpAt_super_base rfl rfl (by decide) rfl (X₁ _ _ ho) rfl rfl rfl (X₁ _ _ hcode) rfl hvs hfile T.top ?_
  have hsup : mb "super" = some (.type "super") := (hbb "super" (by decide)).trans (by first | boot_by_name | rfl | kernel_rfl)
  refine ks_loadName_global rfl rfl (loadGlobal_builtin (mg := mg) (mb := mb) ((hM.glob.keeps hb).keeps kk) T.gS ((hmb.keeps hb).keeps kk) hsup ⟨rfl, ?_⟩)
  refine wpAny_loadName_free (c := cc) (v := .ref C) rfl rfl rfl ⟨_, X₁ _ _ hcell, rfl⟩ ?_
  refine wpAny_loadName_local rfl rfl hn (v := .ref x) (by first | rfl | with_unfolding_all rfl | kernel_rfl) ?_
  refine ks_wpAny_isType_cls (X₁ _ _ hC) rfl ⟨rfl, ?_⟩
  refine ks_wpAny_call_super (X₁ _ _ hC) rfl hx₁ rfl (fun c e => by cases e) (looks_mroIn X₁ T.exS) (fun h2 e2 k2 => ?_)
  have X₂ : K.In h2 := X₁.keeps k2
  have hx₂ := k2 _ _ hx₁
  have I₂ : InstAt h2 x (excO C t0) C none := ⟨hx₂, rfl, rfl, trivial⟩
  refine kxs_getMethod kxs_ValueError e2 (looks_opaque X₂ T.opq) (l₀ := .ref C :: bm) (l := bm) ?_ ?_ X₂ hal (I₂.type.andThen (looks_subIn X₂ T.exV)) hxC (by decide) ?_
  · exact fun A Q E s k q => wpAny_bind ((looks_clsIn X₂ hcl) A _ E s k (wpAny_pure q))
  · exact PySem.ESX.drop_own C bm
  have k3 : ∀ b o, h2.get? b = some o → (h2.push (kxs_mw "ValueError.__init__" x)).get? b = some o := fun b o e => Heap.get?_push_of_some _ e
  have hu : (h2.push (kxs_mw "ValueError.__init__" x)).get? h2.objs.size = some (kxs_mw "ValueError.__init__" x) := Heap.get?_push_at rfl rfl
  have hn3 := (hn.keeps k2).keeps k3
  have X₃ : K.In (h2.push (kxs_mw "ValueError.__init__" x)) := X₂.keeps k3
  have hx₃ := k3 _ _ hx₂
  refine kxs_callWith (i := "ValueError.__init__") (x := x) (by first | rfl | decide) (evalArgs_plain (PyProof.Rows.spliced_more (fmt_join (m := fun y => (([("self", .ref x), ("index", v)] : List (Str × Value)).reverse).lookup y) hv (by decide) hn3 (by first | rfl | with_unfolding_all rfl | kernel_rfl) rfl rfl (by decide) fun y ty s4 h4 g4 d4 o4 => ?_) rfl))
  obtain ⟨hh4, gg4, dd4, tk4, os4⟩ := s4
  dsimp only at h4 g4 d4 o4
  subst h4 g4 d4 o4
  refine PyProof.Rows.spliced_none ⟨hu, ?_⟩
  refine call_bwV (X₃ _ _ hC) hx₃ hu (one_size _) fun h5 t5 k5' hx₅ => ?_
  refine wpAt_of_wpAny ?_
  have old5 : ∀ b o, b ≠ x → hp.get? b = some o → h5.get? b = some o := fun b o hb' e => k5' b o hb' (k3 b o (k2 b o (kk b o e)))
  have hnx' : ∀ b o, K.lookup b = some o → b ≠ x := fun b o e z => by rw [z, hnx] at e; cases e
  have X₅ : K.In h5 := fun b o e => k5' b o (hnx' b o e) (X₃ b o e)
  have hn5 : h5.Ns hp.objs.size (fun y => (([("self", .ref x), ("index", v)] : List (Str × Value)).reverse).lookup y) := by
    obtain ⟨oL, es, ep, hL, r⟩ := hn3
    exact ⟨oL, es, ep, k5' _ _ hxL hL, r⟩
  refine wpAny_execs_cons (plainObj_wpAny_Assign_Attribute ?_)
  refine ldX (v := v) hn5 (by first | rfl | with_unfolding_all rfl | kernel_rfl) (ldX (v := .ref x) hn5 (by first | rfl | with_unfolding_all rfl | kernel_rfl) ?_)
  refine set_plain X₅ (ox := excO C t5) (od := none) ⟨hx₅, rfl, rfl, trivial⟩ T.sa ?_
  refine exc_osa X₅ hx₅ hcl (show refsVE (.ref C :: bm) = true from hbm) rfl T.noN (fun h₆ tk₆ dx k₆ dn dne hx₆ hn₆ => ?_)
  show wpAny _ _ (execs _ _) _ _ _
  have z1 : hp.objs.size < h₁.objs.size := hn.lt
  have z2 : hp.objs.size ≤ h5.objs.size := Nat.le_of_lt hn5.lt
  exact wpAny_execs_nil (hq h₆ tk₆ dx ⟨fun b o hb' e => k₆ b o hb' (old5 b o hb' e), ⟨_, hx₆⟩, Nat.le_trans z2 dn, dne, hn₆⟩)
theorem bad_made (T : BadTxt prog K mg C fI) {base : Heap} {v : Value} (hv : Fmt v) (hM : L2.Mod K mg base) (hb : ∀ b o, base.get? b = some o → s.heap.get? b = some o) (hroom : A.depth + 1 < recursionLimit)
    (hq : ∀ h' tk e d, OwnMade s.heap h' e C d v → R (.ok (.ret (.ref e))) { s with heap := h', toks := tk }) :
    codeAny (model prog w) A (.call (.ref C) ⟨[v], []⟩) R s := by
  obtain ⟨nm, q, N, bs, bm, sn, sub, ab, col, dd, k0, k1, k2, k3, k5, hC, hbm, hal⟩ := T.cls
  obtain ⟨hp, g, dr, tk, os⟩ := s
  have X : K.In hp := hM.kin.keeps hb
  have k : ∀ b o, hp.get? b = some o → ((hp.push (kdv_tup [v])).push (excO C hp.objs.size)).get? b = some o := fun b o e => Heap.get?_push_of_some _ (Heap.get?_push_of_some _ e)
  have hget : ((hp.push (kdv_tup [v])).push (excO C hp.objs.size)).get? (hp.objs.size + 1) = some (excO C hp.objs.size) := by heap_get
  have hnx : K.lookup (hp.objs.size + 1) = none := by
    cases e : K.lookup (hp.objs.size + 1) with
    | none => rfl
    | some o =>
      have z : hp.get? (hp.objs.size + 1) = some o := X _ _ e
      exact absurd (Nat.lt_of_succ_lt (Heap.lt_size z)) (Nat.lt_irrefl _)
  refine call_own F.excBase_ValueError (fun X => refsVE_contains X bm hbm) (X _ _ hC) (looks_findIn X T.iC) (fun self => bind_fn X self T.tF) (one_size v) ?_
  refine bad_init (s := ⟨(hp.push (kdv_tup [v])).push (excO C hp.objs.size), g, dr, tk, os⟩) T hv hM (fun b o e => k b o (hb b o e)) hget hnx ?_ fun h' tk' dx ⟨k', ⟨t1, hx⟩, dn, dne, hns⟩ => ?_
  · show A.depth + 1 < recursionLimit
    exact hroom
  · have old : ∀ b o, hp.get? b = some o → h'.get? b = some o := fun b o e => k' b o (Nat.ne_of_lt (Nat.lt_succ_of_lt (Heap.lt_size e))) (k b o e)
    have z : hp.objs.size + 1 + 1 ≤ dx := by
      first
        | (simpa only [Heap.size_push] using dn)
        | exact dn
        | (have q := dn; rw [Heap.size_push, Heap.size_push] at q; exact q)
    exact ⟨rfl, hq h' tk' (hp.objs.size + 1) dx ⟨old, Nat.le_succ _, ⟨_, _, hx, rfl, rfl, rfl, rfl⟩, Nat.le_trans (Nat.le_trans (Nat.le_succ _) (Nat.le_succ _)) z, dne, hns⟩⟩
end
end BadX
end PySem

namespace L2
open PySem PySem.Spec PyProof.Rows
theorem relO_bad {v : V} {v' : Value} (r : RelV v v') (f : Str) : RelO (List.lookup f [(("index" : Str), v)]) (if f = "index" then some v' else none) := by
  by_cases hw : f = "index"
  · subst hw
    rw [if_pos rfl]
    have q : List.lookup ("index" : Str) [(("index" : Str), v)] = some v := by simp [List.lookup]
    rw [q]
    exact r
  · rw [if_neg hw]
    have qw : (f == ("index" : Str)) = false := by simpa using hw
    have q2 : List.lookup f [(("index" : Str), v)] = none := by simp [List.lookup, qw]
    rw [q2]
    trivial
/-- what BadRun is made with -/
inductive FmtV : V → Prop where
  | non : FmtV .non
  | int {i : Int} (h : i.natAbs.log2 < 1920) : FmtV (.int i)
theorem FmtV.val {v : V} {u : Value} (h : FmtV v) (r : RelV v u) : PySem.BadX.Fmt u := by
  cases h with
  | non =>
    obtain rfl : u = Value.none := r
    exact .non
  | int h =>
    obtain ⟨t, rfl⟩ := r
    exact .int h
section
variable {X : Cx} {C fI : Addr}
/-- BadRun(e) -/
def tMkBad (C : Addr) (ta : TA) : St → Hp → XK → Prop := fun σ H Q => ta σ H fun vs H1 => ∃ v, vs = [v] ∧ FmtV v ∧ ∀ d, H1 d = none → Q (.ref C) (some d) (upd H1 d (.xd [(("index" : Str), v)]))
theorem pmk_bad {a : Expr} {ta : TA} {p pos : Pos} {k : Nat} (T : PySem.BadX.BadTxt X.prog X.K X.mg C fI) (hr : Room k X.A) (ha : PA X [a] ta) (hg : Gl X "BadRun" := by rfl)
    (he : starEach (a :: []) X.env = (false, eval a X.env) :: starEach [] X.env := by rfl) (hpl : (backTo pos (starEach [] X.env)).any (·.1) = false := by rfl) :
    PMk X (.Call (.Name "BadRun" p) [a] [] pos) (tMkBad C ta) := by
  intro pins s σ H Q I h
  refine wpAny_Call_Name_kw (ld_glob I hg T.gC ?_)
  refine PySem.W.callWith_K (h₀ := X.base) I.ok.mod.kin T.kC (thn (ha.run pos pins s σ H _ I h) fun us s1 hh => ?_) he hpl
  obtain ⟨vs, H1, I1, r1, v, ev, hf, q1⟩ := hh
  subst ev
  refine ⟨I1.kIn, ?_⟩
  cases r1 with
  | cons rv rn =>
    rename_i v' us'
    cases rn
    show wpAny _ _ (call (.ref C) [v']) _ _ _
    obtain ⟨hp, g, dr, tk, os⟩ := s1
    refine wpAny_call (PySem.BadX.bad_made T (hf.val rv) I1.mod I1.bk (by have := hr.dp; omega) fun h' tk' e d M => ?_)
    show MkP X pins σ Q (.ref e) ⟨h', g, dr, tk', os⟩
    obtain ⟨oe, fv, hoe, hc, hd, hdat, h1⟩ := M.obj
    have hns := M.ns
    obtain ⟨G', g1, g2⟩ := restrict h' fun b => decide (b ≠ e)
    have gk : ∀ b, b ≠ e → G'.get? b = h'.get? b := fun b hb => g1 b (decide_eq_true hb)
    have ge : G'.get? e = none := g2 e (by simp)
    have old : ∀ b o, hp.get? b = some o → G'.get? b = some o := fun b o q => (gk b (Nat.ne_of_lt (Nat.lt_of_lt_of_le (Heap.lt_size q) M.new))).trans (M.keep b o q)
    have ob : ObjOk X.prog X.w (upd H1 d (.xd [(("index" : Str), v)])) G' d (.xd [(("index" : Str), v)]) :=
      ⟨_, hns.at (fun o q => (gk d M.dne).trans q), fun f => relO_bad rv f⟩
    have J : Inv X pins σ (upd H1 d (.xd [(("index" : Str), v)])) ⟨G', g, dr, tk', os⟩ := I1.laid (t' := tk') old M.dbig ob
    refine ⟨e, oe, fv, ⟨G', g, dr, tk', os⟩, _, .ref C, some d, rfl, J, fun b o q => ?_, ge, hoe, ⟨hc, hd⟩, hdat, h1, ?_, rfl, I1.bare, raises_own T.exC T.tC, q1 d (I1.hok.fresh M.dbig)⟩
    · by_cases hb : b = e
      · have q' : G'.get? b = some o := q
        rw [hb, ge] at q'; cases q'
      · exact (gk b hb).symm.trans q
    · rw [upd_ne (Ne.symm M.dne)]
      exact I1.hok.fresh M.new
/-- raise BadRun(e) -/
def tRaiseBad (C : Addr) (W : WX) (ta : TA) : TS := fun _ σ H => tMkBad C ta σ H fun cls d H' => W cls d σ H'
theorem ps_raiseBad {a : Expr} {ta : TA} {W : WX} {p pos pos2 : Pos} {k : Nat} (hc : X.calm = true) (T : PySem.BadX.BadTxt X.prog X.K X.mg C fI) (hr : Room k X.A) (tk : Takes X W) (ha : PA X [a] ta) (hg : Gl X "BadRun" := by rfl)
    (he : starEach (a :: []) X.env = (false, eval a X.env) :: starEach [] X.env := by rfl) (hpl : (backTo pos (starEach [] X.env)).any (·.1) = false := by rfl) :
    PS X (.Raise (some (.Call (.Name "BadRun" p) [a] [] pos)) none pos2) (tRaiseBad C W ta) := ps_raise hc tk (pmk_bad T hr ha hg he hpl)
end
end L2

set_option Elab.async false
set_option linter.all false
set_option maxRecDepth 100000
set_option maxHeartbeats 4000000
namespace Ca
open PySem L2
/-! ### a run played -/
def runS (c : Conf) (es : List Ev) : PSt := es.foldl (doP c) PSt.begin
def GoodP (c : Conf) (t : PSt) : Prop := ∀ e ∈ evP c t, PyData.strOk e.1 = true
structure RunP (c : Conf) (es : List Ev) : Prop where
  step : ∀ i e, es[i]? = some e → GoodP c (runS c (es.take i)) ∧ e ∈ evP c (runS c (es.take i)) ∧ DoPre c (runS c (es.take i)) e
theorem put_lenP {t : PSt} {k : Nat} {o : POp} : (t.put k o).ops.length = t.ops.length := List.length_set ..
theorem mark_len {c : Conf} {t : PSt} {v : Nat} : (markP c t v).ops.length = t.ops.length := by unfold markP; split <;> rfl
theorem hold_len {c : Conf} {t : PSt} {v : Nat} : (holdP c t v).ops.length = t.ops.length := by unfold holdP; rw [mark_len]
theorem opP_len {c : Conf} {t : PSt} {k : Nat} {o : POp} {w : Str} : (opP c t k o w).ops.length = t.ops.length := by
  have sh : ∀ t' o', (shareP c t' k o').ops.length = t'.ops.length := fun t' o' => by
    unfold shareP
    split
    · rfl
    · exact put_lenP
  unfold opP
  split
  · unfold lookP
    split
    · exact put_lenP
    · split
      · rw [sh, put_lenP]
      · exact put_lenP
  split
  · exact put_lenP
  split
  · unfold fillP
    split
    · split
      · exact hold_len
      · rfl
    · rfl
  split
  · exact put_lenP
  split
  · exact put_lenP
  split
  · unfold dropP
    split
    · rw [mark_len]
    · rfl
  · unfold putP
    split
    · split
      · rw [hold_len]
      · rfl
    · rfl
theorem leave_len {t : PSt} {k : Nat} : (leaveP t k).ops.length = t.ops.length := by
  unfold leaveP
  split
  · split
    · exact put_lenP
    · rfl
  · rfl
theorem markP_past {c : Conf} {t : PSt} {v : Nat} : (markP c t v).past = t.past := by unfold markP; split <;> rfl
theorem holdP_past {c : Conf} {t : PSt} {v : Nat} : (holdP c t v).past = t.past := by unfold holdP; rw [markP_past]
theorem opP_past {c : Conf} {t : PSt} {k : Nat} {o : POp} {w : Str} : (opP c t k o w).past = t.past := by
  have sh : ∀ t' o', (shareP c t' k o').past = t'.past := fun t' o' => by
    unfold shareP
    split <;> rfl
  unfold opP
  split
  · unfold lookP
    split
    · rfl
    · split
      · rw [sh]; rfl
      · rfl
  split
  · rfl
  split
  · unfold fillP
    split
    · split
      · exact holdP_past
      · rfl
    · rfl
  split
  · rfl
  split
  · rfl
  split
  · unfold dropP
    split
    · rw [markP_past]
    · rfl
  · unfold putP
    split
    · split
      · rw [holdP_past]
      · rfl
    · rfl
theorem leave_past {t : PSt} {k : Nat} : (leaveP t k).past = t.past := by
  unfold leaveP
  split
  · split <;> rfl
  · rfl
theorem doP_past {c : Conf} {t : PSt} {e : Ev} : (doP c t e).past = t.past ++ [e] := by
  unfold doP doG actP
  split
  · rfl
  split
  · rfl
  split
  · rfl
  split
  · unfold stopP
    split <;> rfl
  · unfold stepP
    split
    · rw [leave_past, opP_past]
      show (preP c (noteP t e) _ _).past = _
      unfold preP
      split <;> rfl
    · unfold preP
      split <;> rfl
theorem do_len {c : Conf} {t : PSt} {e : Ev} : (doP c t e).ops.length ≤ t.ops.length + 1 := by
  unfold doP doG actP
  split
  · exact Nat.le_succ _
  split
  · exact Nat.le_succ _
  split
  · exact Nat.le_succ _
  split
  · unfold stopP
    split
    · rw [put_lenP]; exact Nat.le_succ _
    · exact Nat.le_succ _
  · have h1 : ∀ w k, (preP c (noteP t e) w k).ops.length ≤ t.ops.length + 1 := fun w k => by
      unfold preP
      split
      · show (t.ops ++ [newP c w _]).length ≤ _
        rw [List.length_append]
        exact Nat.le_refl _
      · exact Nat.le_succ _
    unfold stepP
    split
    · rw [leave_len, opP_len, put_lenP]; exact h1 _ _
    · exact h1 _ _
theorem runS_snoc {c : Conf} {es : List Ev} {i : Nat} {e : Ev} (h : es[i]? = some e) : runS c (es.take (i + 1)) = doP c (runS c (es.take i)) e := by
  unfold runS
  rw [take_snoc h, List.foldl_append]
  rfl
theorem runS_len {c : Conf} {es : List Ev} : ∀ i, (runS c (es.take i)).ops.length ≤ i
  | 0 => by rw [List.take_zero]; exact Nat.le_refl _
  | i + 1 => by
    have ih := runS_len (c := c) (es := es) i
    cases h : es[i]? with
    | some e =>
      rw [runS_snoc h]
      have := do_len (c := c) (t := runS c (es.take i)) (e := e)
      omega
    | none =>
      have hl := List.getElem?_eq_none_iff.mp h
      rw [List.take_of_length_le (by omega : es.length ≤ i + 1)]
      rw [List.take_of_length_le hl] at ih
      omega
theorem fold_past {c : Conf} : ∀ (es : List Ev) (t : PSt), (es.foldl (doP c) t).past = t.past ++ es
  | [], t => by simp
  | e :: es, t => by
    rw [List.foldl_cons, fold_past es, doP_past, List.append_assoc]
    rfl
theorem runS_past {c : Conf} {es : List Ev} : (runS c es).past = es := by
  unfold runS
  rw [fold_past]
  rfl
structure Item (K : PySem.W.Frag) (H : Hp) (v : V) (d : PyData) (fl : Bool) : Prop where
  c : VCase K H v fl
  d : Dp K H v d
def okItem (c : Conf) (t : PSt) (d : PyData) (fl : Bool) : Bool := if fl then false else (evP c t).any fun e => PyData.eqv (evD' e) d
theorem ev_item {K : PySem.W.Frag} {H : Hp} {a : Addr} {e : Ev} (h : H a = some (.tup (evV e))) : Item K H (.ref a) (evD' e) false := by
  refine ⟨?_, evD_dp h⟩
  obtain ⟨w, k⟩ := e
  cases k with
  | none => exact .tupn a _ h (by show ¬ (1 : Nat) = 2; decide)
  | some k => exact .tup2 a _ _ h "int" (.base (.int k)) false (kit_ty (by decide +kernel))
theorem ev_ok {c : Conf} {t : PSt} {e : Ev} (h : e ∈ evP c t) : okItem c t (evD' e) false = true := by
  show ((evP c t).any fun f => PyData.eqv (evD' f) (evD' e)) = true
  rw [List.any_eq_true]
  exact ⟨e, h, by rw [evD_eqv]; exact decide_eq_true rfl⟩
/-- what a run may be that is asked of -/
inductive RunC (K : PySem.W.Frag) (C D CB : Addr) (c : Conf) (H : Hp) (r : Addr) (Q : VK) (E : XK) : Prop where
  | lst (ys : List V) (h : H r = some (.lst ys)) (e : ∀ dd H', Same H H' → H dd = none → E (.ref CB) (some dd) H')
  | run (xs : List V) (es : List Ev) (h : H r = some (.tup xs)) (X : EvsAt H xs es) (R : RunP c es) (l : xs.length ≤ 60) (q : ∀ p A H', Same H H' → (∀ b, PF p A b → H b = none) → Play0 C D c H' p A (runS c es) → Q (.ref p) H')
  | odd (xs : List V) (es : List Ev) (v : V) (d : PyData) (fl : Bool) (h : H r = some (.tup (xs ++ [v]))) (X : EvsAt H xs es) (R : RunP c es) (l : xs.length < 60) (i : ∀ H', Same H H' → Item K H' v d fl) (s : SeqAt.shaped d = true)
      (g : GoodP c (runS c es)) (n : okItem c (runS c es) d fl = false) (e : ∀ dd H', Same H H' → H dd = none → E (.ref CB) (some dd) H')
@[irreducible] def spPlayed (K : PySem.W.Frag) (C D CB : Addr) : Sp := fun vs H Q E => ∃ (c : Conf) (d w r : Addr), vs = [.ref d, .ref w, .ref r] ∧ H d = some (dT c) ∧ H w = some (wT c) ∧ c.Ok ∧ RunC K C D CB c H r Q E
theorem played_i {K : PySem.W.Frag} {C D CB : Addr} {c : Conf} {d w r : Addr} {H : Hp} {Q : VK} {E : XK} (h1 : H d = some (dT c)) (h2 : H w = some (wT c)) (O : c.Ok) (h : RunC K C D CB c H r Q E) : spPlayed K C D CB [.ref d, .ref w, .ref r] H Q E := by
  unfold spPlayed
  exact ⟨c, d, w, r, rfl, h1, h2, O, h⟩
section
variable {P : Program} {w : World} {K : PySem.W.Frag} {mg : Str → Option Value} {base : Heap} {CB fB : Addr}
theorem ok_played (T : Txt K mg) (U : TxtC K mg) (B : PySem.BadX.BadTxt P K mg CB fB) : FnOk P w K mg base (L2.CX P w) 8 T.f_played T.fd_played ["design", "world", "run"] (spPlayed K T.C_Operation T.C_Play CB) := by
  refine T.F_played.okX sc_played (fun vs H Q E h => ?_) (fun cdv A outer s H vs Q E hr h => ?_)
  · unfold spPlayed at h
    obtain ⟨c, d, w, r, rfl, _⟩ := h
    rfl
  · unfold spPlayed at h
    obtain ⟨c, d, w', r, rfl, hd, hw, O, hc⟩ := h
    refine ⟨_, (pss_cons (ps_expr (pe_call (ok_check_design T U) (hr.mono (by decide)) rfl T.m_check_design T.F_check_design.kp (b_check_design T) .nil pass0 (pa_cons (pv 0) pa_nil)))
      (pss_cons (ps_expr (pe_call (ok_check_world T U) (hr.mono (by decide)) rfl T.m_check_world T.F_check_world.kp (b_check_world T) .nil pass0 (pa_cons (pv 1) pa_nil)))
      (pss_cons (ps_if (PW.pt (pw_or (pt_not (pt_val (pe_callB call_isi (by rfl) T.n_isinstance (by decide +kernel) (pa_cons (pv 2) (pa_cons (pe_bltn (v := .ty "tuple") (by rfl) T.n_tuple (by decide +kernel) rfl) pa_nil))))) (pw_or1 (pt_cmpR op_gt (pe_callB call_len_seq (by rfl) T.n_len (by decide +kernel) (pa_cons (pv 2) pa_nil)) (pe_glob (v := .int 60) rfl U.m_MOST_EVENTS ⟨_, rfl⟩) (nomark _))))) (pss_one (ps_raiseBad rfl B (hr.mono (by decide : 1 ≤ _)) (takes_of rfl rfl rfl rfl) (by exact (pa_cons pe_non pa_nil)))) pss_nil)
      (pss_cons (ps_set (i := 3) sc_played.nd rfl (Or.inl rfl) (pe_make T.k_Play (ok_Play_init T U) (hr.mono (by decide)) rfl T.m_Play (b_Play_init T) .nil pass0 (pa_cons (pv 0) (pa_cons (pv 1) pa_nil))))
      (pss_cons (ps_for (passes_of rfl) rfl (pi_enumT (by rfl) T.n_enumerate (pa_cons (pv 2) pa_nil)) (pg_tup rfl (pgs_cons (pg_name (i := 4) sc_played.nd rfl (Or.inl rfl)) (pgs_cons (pg_name (i := 5) sc_played.nd rfl (Or.inl rfl)) pgs_nil))) (pss_cons (ps_if (pt_not (pt_val (pe_meth (pv 3) T.c_Play T.M_Play_can_come (ok_Play_can_come T) (hr.mono (by decide)) (b_Play_can_come T) .nil pass0 (pa_cons (pv 5) pa_nil)))) (pss_one (ps_raiseBad rfl B (hr.mono (by decide : 1 ≤ _)) (takes_of rfl rfl rfl rfl) (by exact (pa_cons (pv 4) pa_nil)))) pss_nil)
      (pss_one (ps_expr (pe_meth (pv 3) T.c_Play T.M_Play_do (ok_Play_do T) (hr.mono (by decide)) (b_Play_do T) .nil pass0 (pa_cons (pv 5) pa_nil))))))
      (pss_one (ps_ret (pv 3)))))))), ?_⟩
    refine ⟨_, rfl, ?_⟩
    refine chd_i hd O ?_
    refine ⟨_, rfl, ?_⟩
    refine chw_i hw O ?_
    have hc' : (∃ ys, H r = some (.lst ys) ∧ ∀ dd H', Same H H' → H dd = none → E (.ref CB) (some dd) H') ∨ ∃ (xs2 : List V) (xs : List V) (es : List Ev), H r = some (.tup (xs ++ xs2)) ∧ EvsAt H xs es ∧ RunP c es ∧ (xs ++ xs2).length ≤ 60 ∧
        ((xs2 = [] ∧ (∀ p A H', Same H H' → (∀ b, PF p A b → H b = none) → Play0 T.C_Operation T.C_Play c H' p A (runS c es) → Q (.ref p) H')) ∨
          ∃ v d fl, xs2 = [v] ∧ (∀ H', Same H H' → Item K H' v d fl) ∧ SeqAt.shaped d = true ∧ GoodP c (runS c es) ∧ okItem c (runS c es) d fl = false ∧ ∀ dd H', Same H H' → H dd = none → E (.ref CB) (some dd) H') := by
      cases hc with
      | lst ys h e => exact .inl ⟨ys, h, e⟩
      | run xs es h X R l q => exact .inr ⟨[], xs, es, by rw [List.append_nil]; exact h, X, R, by rw [List.append_nil]; exact l, .inl ⟨rfl, q⟩⟩
      | odd xs es v d fl h X R l i s g n e => exact .inr ⟨[v], xs, es, h, X, R, by rw [List.length_append]; exact l, .inr ⟨v, d, fl, rfl, i, s, g, n, e⟩⟩
    clear hc
    rcases hc' with ⟨ys, hl, e⟩ | ⟨xs2, xs, es, hx, X, R, l, alt⟩
    · refine ⟨_, rfl, _, _, _, _, false, rfl, .ty _, .base (.lst hl), kit_ty (by decide +kernel), _, rfl, ?_⟩
      refine iteT (iteT ?_)
      exact ⟨.non, rfl, .non, fun dd nd => e dd _ (same_new nd) nd⟩
    · refine ⟨_, rfl, _, _, _, _, true, rfl, .ty _, .base (.tup hx), kit_ty (by decide +kernel), _, rfl, ?_⟩
      refine iteF ⟨_, rfl, _, _, rfl, .inr (SqT.of hx), _, _, rfl, rfl, _, rfl, ?_⟩
      rw [show decide ((60 : Int) < ((xs ++ xs2).length : Int)) = false from decide_eq_false (by omega)]
      refine iteF ?_
      refine ⟨_, rfl, _, rfl, fun p dx np ndx ne => ?_⟩
      have S1 : Same H (upd (upd H dx (.own p)) p (.ins T.C_Play dx [])) := fun b o e => by
        rw [upd_ne (ne_of_none e np), upd_ne (ne_of_none e ndx)]
        exact e
      refine play_i upd_same (S1 _ _ hd) (S1 _ _ hw) O fun A0 H2 oas0 eas0 ed0 ew0 nlo0 npa0 L0 K2 => ⟨rfl, ?_⟩
      have S2 : Same H H2 := fun b o e => K2 b o (S1 b o e) (ne_of_none e np)
      have nlo0 : H A0.lo = none := S1.free nlo0
      have npa0 : H A0.pa = none := S1.free npa0
      have xe : xs.length = es.length := X.length
      refine ⟨_, rfl, r, xs ++ xs2, rfl, SqT.of (S2 _ _ hx), ?_⟩
      refine for_enumT (xs := xs ++ xs2) (fun i σ' H' => i ≤ es.length ∧ ∃ A x4 x5, σ' = [some (.ref d), some (.ref w'), some (.ref r), some (.ref p), x4, x5] ∧ Same H H' ∧ H A.lo = none ∧ H A.pa = none ∧ (∀ b ∈ A.oas, H b = none) ∧ Play0 T.C_Operation T.C_Play c H' p A (runS c (es.take i)))
        ⟨Nat.zero_le _, A0, none, none, rfl, S2, nlo0, npa0, (by rw [oas0]; intro b hb; cases hb), L0⟩ (fun i σ' H' _ ⟨_, _, _, _, _, S, _⟩ => SqT.of (S _ _ hx)) ?_ ?_
      · rintro i y σ' H' tt hi ⟨hle, A, x4, x5, rfl, S, nlo, npa, noa, L⟩ ntt
        refine ⟨tt, _, rfl, SqT.of upd_same, rfl, _, _, rfl, _, _, rfl, rfl, ?_⟩
        have S' := sN S (o := .tup [.int (i : Nat), y]) ntt
        have L' := L.new (u := .tup [.int (i : Nat), y]) ntt
        generalize upd H' tt (.tup [.int (i : Nat), y]) = H3 at S' L'
        have len : (runS c (es.take i)).ops.length ≤ 100 := by
          have := runS_len (c := c) (es := es) i
          rw [List.length_append] at l
          omega
        have len2 : (runS c (es.take i)).past.length ≤ 1000 := by
          rw [runS_past, List.length_take]
          rw [List.length_append] at l
          omega
        by_cases hi2 : i < es.length
        · rw [List.getElem?_append_left (by omega)] at hi
          obtain ⟨e, ee, ea, rfl, he⟩ := pget X hi
          obtain ⟨g, m, dp⟩ := R.step i e ee
          refine ⟨_, rfl, _, _, _, rfl, L'.at_, ln_Play_can_come, _, rfl, ?_⟩
          have he3 := S' _ _ he
          have str : PyData.strOk e.1 = true := g e m
          refine come_i (fl := false) O L' len (ev_item he3).c (evD_dp he3) (evD_shaped str) (fun H4 S4 => evD_dp (S4 _ _ he3)) g fun H4 S4 => ⟨_, rfl, ?_⟩
          have ok : (if (false : Bool) = true then false else (evP c (runS c (es.take i))).any fun f => PyData.eqv (evD' f) (evD' e)) = true := ev_ok m
          rw [ok]
          refine iteF ?_
          have L4 := L'.same S4
          have S5 := S'.trans S4
          refine ⟨_, rfl, _, _, _, rfl, L4.at_, ln_Play_do, _, rfl, ?_⟩
          refine dop_i (S5 _ _ he) L4.toPlayAt len len2 (by rw [L4.g0]; exact dp) fun H6 A6 L6 gr K6 => ?_
          refine ⟨hi2, A6, _, _, rfl, K6.same S5 (fun b hb => ?_), by rw [gr.lo]; exact nlo, by rw [gr.pa]; exact npa, fun b hb => ?_, ?_⟩
          · rcases hb with z | z | z | z
            · rw [z]; exact np
            · rw [z]; exact nlo
            · rw [z]; exact npa
            · exact noa b (List.mem_of_mem_drop z)
          · rcases gr.oas b (by rw [gr.g, L4.g0]; exact hb) with z | z
            · exact noa b (List.mem_of_mem_drop z)
            · exact S5.free z
          · rw [runS_snoc ee]
            rw [L4.g0] at L6
            exact ⟨L6, gr.g.trans L4.g0⟩
        · have ei : i = xs.length := by omega
          rcases alt with ⟨rfl, _⟩ | ⟨v, dv, fl, rfl, it, sh, g, n, ex⟩
          · rw [List.append_nil] at hi
            have := (List.getElem?_eq_some_iff.mp hi).1
            omega
          · have ey : y = v := by
              rw [ei, List.getElem?_append_right (Nat.le_refl _), Nat.sub_self] at hi
              exact (Option.some.inj hi).symm
            subst ey
            rw [List.take_of_length_le (by omega)] at len L L'
            refine ⟨_, rfl, _, _, _, rfl, L'.at_, ln_Play_can_come, _, rfl, ?_⟩
            refine come_i (fl := fl) O L' len (it _ S').c (it _ S').d sh (fun H4 S4 => (it _ (S'.trans S4)).d) g fun H4 S4 => ⟨_, rfl, ?_⟩
            have ok : (if fl = true then false else (evP c (runS c es)).any fun f => PyData.eqv (evD' f) dv) = false := n
            rw [ok]
            refine iteT ?_
            have S5 := S'.trans S4
            refine ⟨_, rfl, .int (i : Int), rfl, FmtV.int ?_, fun dd nd => ex dd _ (sN S5 nd) (S5.free nd)⟩
            have l2 := l
            rw [List.length_append] at l2
            have l3 := Nat.log2_le_self (i : Int).natAbs
            have l4 : (i : Int).natAbs = i := Int.natAbs_natCast i
            rw [l4] at l3 ⊢
            omega
      · rintro σ' H' ⟨hle, A, x4, x5, rfl, S, nlo, npa, noa, L⟩
        rcases alt with ⟨rfl, q⟩ | ⟨v, dv, fl, rfl, _⟩
        · rw [List.append_nil, xe, List.take_length] at L
          refine ⟨_, rfl, q p A H' S (fun b hb => ?_) L⟩
          rcases hb with z | z | z | z
          · rw [z]; exact np
          · rw [z]; exact nlo
          · rw [z]; exact npa
          · exact noa b (List.mem_of_mem_drop z)
        · rw [List.length_append, List.length_singleton] at hle
          omega
end
end Ca

set_option Elab.async false
set_option linter.all false
set_option maxRecDepth 100000
set_option maxHeartbeats 4000000
namespace L2
open PySem
theorem call_str_is {X : Cx} : CallR X (.type "str") (fun xs H Q => (∃ a, xs = [.str a] ∧ Q (.str a) H) ∨ (∃ i, xs = [.int i] ∧ i.natAbs.log2 < 1920 ∧ Q (.str (toString i)) H)) := by
  intro pins s σ H xs us Q I r h
  rcases h with h | h
  · exact SkE.call_str_str pins s σ H xs us Q I r h
  · exact call_str_int pins s σ H xs us Q I r h
end L2
namespace Ca
open PySem L2
/-! ### the text of an event -/
def partsT (e : Ev) : List Str := e.1 :: (match e.2 with | none => [] | some i => [(toString i : Str)])
def textOf (e : Ev) : Str := Txt.join " " (partsT e)
@[irreducible] def spTextOf : Sp := fun vs H Q _ => ∃ (a : Addr) (e : Ev), vs = [.ref a] ∧ H a = some (.tup (evV e)) ∧ e.1.length ≤ 100 ∧ (∀ i, e.2 = some i → i.natAbs < 2 ^ 60) ∧ ∀ H', Evl.Ex H H' → Q (.str (textOf e)) H'
theorem parts_at {e : Ev} {i : Nat} {x : V} (h : (evV e)[i]? = some x) : ∃ y, (partsT e)[i]? = some y ∧ (x = .str y ∨ ∃ k : Int, x = .int k ∧ y = (toString k : Str) ∧ e.2 = some k) := by
  obtain ⟨wd, kk⟩ := e
  cases kk with
  | none =>
    match i, h with
    | 0, h => cases h; exact ⟨_, rfl, .inl rfl⟩
  | some k =>
    match i, h with
    | 0, h => cases h; exact ⟨_, rfl, .inl rfl⟩
    | 1, h => cases h; exact ⟨_, rfl, .inr ⟨k, rfl, rfl, rfl⟩⟩
theorem log_small {i : Int} (h : i.natAbs < 2 ^ 60) : i.natAbs.log2 < 1920 := by
  have := Nat.log2_le_self i.natAbs
  by_cases z : i.natAbs = 0
  · rw [z]; decide
  · exact Nat.lt_of_lt_of_le ((Nat.log2_lt z).mpr h) (by decide)
theorem parts_len (e : Ev) (l1 : e.1.length ≤ 100) (l2 : ∀ i, e.2 = some i → i.natAbs < 2 ^ 60) : ((partsT e).map (fun x => x.length)).sum + (partsT e).length * (" " : Str).length ≤ 16777216 := by
  obtain ⟨wd, kk⟩ := e
  cases kk with
  | none =>
    show (wd.length + 0) + 1 * 1 ≤ 16777216
    have : wd.length ≤ 100 := l1
    omega
  | some k =>
    have e := int_text_length_le (k := 1920) (by decide) (log_small (l2 k rfl))
    have e2 : (toString k : Str).length = (toString k).length := ofString_length _
    show (wd.length + ((toString k : Str).length + 0)) + 2 * 1 ≤ 16777216
    have : wd.length ≤ 100 := l1
    omega
section
variable {P : Program} {w : World} {K : PySem.W.Frag} {mg : Str → Option Value} {base : Heap}
theorem ok_text_of_event (T : Txt K mg) : FnOk P w K mg base CX0 2 T.f_text_of_event T.fd_text_of_event ["event"] spTextOf := by
  refine T.F_text_of_event.ok sc_text_of_event (fun vs H Q E h => ?_) (fun cdv A outer s H vs Q E hr h => ?_)
  · unfold spTextOf at h
    obtain ⟨a, e, rfl, _⟩ := h
    rfl
  · unfold spTextOf at h
    obtain ⟨a, e, rfl, ha, l1, l2, q⟩ := h
    refine ⟨_, (pss_one (ps_ret (pe_join pe_str (pe_lc (own := [("part", 1)]) rfl sc_text_of_event.nd (pi_tup (pv 0)) (blkOk_by (N := ["event", "part"]) (sc := defScope s_text_of_event) (by decide +kernel)) (fun _ _ _ _ _ => (pg_name (i := 1) sc_text_of_event.nd rfl (Or.inl rfl))) (fun _ _ _ _ _ => pts_nil) (fun _ _ _ _ _ => (pe_callTy call_str_is (by rfl) T.n_str (by decide +kernel) (pa_cons (pv 1) pa_nil))))))), ?_⟩
    refine ⟨⟨_, rfl⟩, _, rfl, a, rfl, ⟨_, SqT.of ha⟩, fun D nD => ?_⟩
    have pl : (partsT e).length ≤ 2 := by
      unfold partsT
      cases e.2 <;> simp
    refine lc_tup (xs := evV e) (fun i H' => Evl.Ex H H' ∧ H' D = some (.lst (((partsT e).take i).map V.str))) ⟨Evl.Ex.new nD, upd_same⟩ (fun i H' _ p => SqT.of (p.1 _ _ ha)) ?_ ?_
    · rintro i x H1 hi ⟨e1, hD⟩
      obtain ⟨y, ey, hy⟩ := parts_at hi
      refine ⟨rfl, ?_⟩
      simp only [tYes, reduceIte]
      have fin : ∃ acc, H1 D = some (.lst acc) ∧ acc.length < sizeLine ∧ (Evl.Ex H (upd H1 D (.lst (acc ++ [.str y]))) ∧ (upd H1 D (.lst (acc ++ [.str y]))) D = some (.lst (((partsT e).take (i + 1)).map V.str))) := by
        refine ⟨_, hD, ?_, fun b o z => sN' (show Same H H1 from fun b o z => e1 b o z) nD b o z, ?_⟩
        · rw [List.length_map, List.length_take]
          exact Nat.lt_of_le_of_lt (show min i (partsT e).length ≤ 2 by omega) (by decide)
        · rw [upd_same, take_snoc ey, List.map_append]
          rfl
      refine ⟨_, rfl, ?_⟩
      rcases hy with rfl | ⟨k, rfl, rfl, ek⟩
      · exact .inl ⟨_, rfl, fin⟩
      · exact .inr ⟨_, rfl, log_small (l2 k ek), fin⟩
    · rintro H1 ⟨e1, hD⟩
      have el : (evV e).length = (partsT e).length := by
        obtain ⟨wd, kk⟩ := e
        cases kk <;> rfl
      rw [el, List.take_length] at hD
      refine ⟨_, D, partsT e, rfl, rfl, .inl (SqL.of hD), ?_, q _ e1⟩
      exact parts_len e l1 l2
end
end Ca

set_option Elab.async false
set_option linter.all false
set_option maxRecDepth 100000
set_option maxHeartbeats 4000000
namespace Ca
open PySem L2
/-! ### runs of the law's own cache, from the beginning -/
def runH (c : Conf) (es : List Ev) : HS := es.foldl (doH c) HS.begin
theorem runH_snoc {c : Conf} {es : List Ev} {i : Nat} {e : Ev} (h : es[i]? = some e) : runH c (es.take (i + 1)) = doH c (runH c (es.take i)) e := by
  unfold runH
  rw [List.take_succ, h, List.foldl_append]
  rfl
theorem runH_end {c : Conf} {es : List Ev} {e : Ev} : runH c (es ++ [e]) = doH c (runH c es) e := by
  unfold runH
  rw [List.foldl_append]
  rfl
/-- each event can come behind those ahead of it -/
structure ChainH (c : Conf) (es : List Ev) : Prop where
  step : ∀ i e, es[i]? = some e → e ∈ evList c (runH c (es.take i))
theorem Reach.run {c : Conf} {s : HS} (r : Reach c s) : runH c s.past = s ∧ ChainH c s.past := by
  induction r with
  | begin => exact ⟨rfl, ⟨fun i e h => by simp [HS.begin] at h⟩⟩
  | @step s e r h ih =>
    have ep : (doH c s e).past = s.past ++ [e] := rfl
    rw [ep]
    refine ⟨by rw [runH_end, ih.1], ⟨fun i f hf => ?_⟩⟩
    by_cases hi : i < s.past.length
    · rw [List.getElem?_append_left hi] at hf
      rw [List.take_append_of_le_length (by omega)]
      exact ih.2.step i f hf
    · have hl := (List.getElem?_eq_some_iff.mp hf).1
      rw [List.length_append] at hl
      have hl : i < s.past.length + 1 := hl
      have e0 : i = s.past.length := by omega
      subst e0
      rw [List.getElem?_append_right (Nat.le_refl _), Nat.sub_self] at hf
      cases hf
      rw [List.take_append_of_le_length (Nat.le_refl _), List.take_length, ih.1]
      exact h
theorem ChainH.reach {c : Conf} {es : List Ev} (C : ChainH c es) : ∀ i, i ≤ es.length → Reach c (runH c (es.take i)) ∧ (runH c (es.take i)).past = es.take i
  | 0, _ => by
    rw [List.take_zero]
    exact ⟨.begin, rfl⟩
  | i + 1, hi => by
    obtain ⟨r, p⟩ := C.reach i (by omega)
    have e := List.getElem?_eq_getElem (l := es) (i := i) (by omega)
    rw [runH_snoc e]
    refine ⟨.step r (C.step i _ e), ?_⟩
    show (runH c (es.take i)).past ++ [_] = _
    rw [p, List.take_succ, e]
    rfl
theorem ChainH.all {c : Conf} {es : List Ev} (C : ChainH c es) : Reach c (runH c es) ∧ (runH c es).past = es := by
  have h := C.reach es.length (Nat.le_refl _)
  rw [List.take_length] at h
  exact h
theorem ChainH.take {c : Conf} {es : List Ev} (C : ChainH c es) (n : Nat) : ChainH c (es.take n) := ⟨fun i e h => by
  by_cases hi : i < n
  · rw [List.getElem?_take_of_lt hi] at h
    rw [List.take_take, Nat.min_eq_left (by omega)]
    exact C.step i e h
  · rw [List.getElem?_take_eq_none (by omega)] at h
    cases h⟩
/-- events that can come -/
theorem new_mem {c : Conf} {s : HS} {w : Str} (h : w = "look" ∨ w = firstW c) : (w, some (s.ops.length : Int)) ∈ evList c s := by
  unfold evList
  refine List.mem_append_left _ (List.mem_append_left _ (List.mem_append_left _ (List.mem_append_left _ ?_)))
  unfold evA
  rcases h with e | e
  · rw [e]; exact List.mem_cons_self ..
  · rw [e]; exact List.mem_cons_of_mem _ (List.mem_cons_self ..)
theorem step_mem {c : Conf} {s : HS} {k : Nat} {o : OpS} {w : Str} (W : Wf c s) (eo : s.ops[k]? = some o) (h : endedB o = false) (hn : nextOf s o = some w) : (w, some (k : Int)) ∈ evList c s := by
  have hg : o ∈ going s := by
    unfold going
    rw [List.mem_filter]
    exact ⟨List.mem_of_getElem? eo, by rw [h]; rfl⟩
  unfold evList
  refine List.mem_append_left _ (List.mem_append_left _ (List.mem_append_left _ (List.mem_append_right _ ?_)))
  unfold evB
  rw [List.mem_filterMap]
  refine ⟨o, hg, ?_⟩
  rw [hn, (W.ops k o eo).num]
  rfl
/-! ### what has ended has a version, and when it did is noted -/
structure IO (c : Conf) (o : OpS) : Prop where
  wv : o.kind = "write" → (∃ j, j < o.step ∧ c.steps.getD j "" = "store") → o.version.isSome = true
  we : o.kind = "write" → o.stage = "ended" → o.step = c.steps.length
  re : o.kind = "read" → o.stage = "ended" → o.version.isSome = true
  ov : o.stage = "ended" → o.over.isSome = true
theorem has_store {c : Conf} (O : c.Ok) : ∃ j, j < c.steps.length ∧ c.steps.getD j "" = "store" := by
  have hp := O.p
  unfold Conf.steps
  simp only [pathsL, List.mem_cons, List.not_mem_nil, or_false] at hp
  rcases hp with e | e | e | e | e <;> rw [e]
  · exact ⟨1, by decide +kernel⟩
  · exact ⟨1, by decide +kernel⟩
  · exact ⟨0, by decide +kernel⟩
  · exact ⟨0, by decide +kernel⟩
  · exact ⟨0, by decide +kernel⟩
theorem IO.ended {c : Conf} {o : OpS} (h : IO c o) (O : c.Ok) (kd : o.kind = "read" ∨ o.kind = "write") (e : o.stage = "ended") : o.version.isSome = true := by
  rcases kd with k | k
  · exact h.re k e
  · refine h.wv k ?_
    rw [h.we k e]
    exact has_store O
theorem IO.cf {c : Conf} {o : OpS} (h : IO c o) : IO c (cf o) := ⟨h.wv, h.we, h.re, h.ov⟩
def IOL (c : Conf) (l : List OpS) : Prop := ∀ o ∈ l, IO c o
theorem IOL.cf {c : Conf} {l : List OpS} (h : IOL c l) : IOL c (l.map Ca.cf) := fun o ho => by
  obtain ⟨u, hu, rfl⟩ := List.mem_map.mp ho
  exact (h u hu).cf
theorem IOL.set {c : Conf} {l : List OpS} {k : Nat} {o : OpS} (h : IOL c l) (p : IO c o) : IOL c (l.set k o) := fun u hu => by
  rcases List.mem_or_eq_of_mem_set hu with z | z
  · exact h u z
  · rw [z]; exact p
theorem IO.stop {c : Conf} {o : OpS} {x : Option Nat} (h : IO c o) : IO c { o with stage := "stopped", over := x } :=
  ⟨h.wv, fun _ e => absurd e (by show ¬ ("stopped" : Str) = "ended"; decide +kernel), fun _ e => absurd e (by show ¬ ("stopped" : Str) = "ended"; decide +kernel), fun e => absurd e (by show ¬ ("stopped" : Str) = "ended"; decide +kernel)⟩
/-- a read: only its end matters -/
theorem IO.read {c : Conf} {o : OpS} (kd : o.kind = "read") (h : o.stage = "ended" → o.version.isSome = true ∧ o.over.isSome = true) : IO c o :=
  ⟨fun k => absurd (kd.symm.trans k) (by decide +kernel), fun k => absurd (kd.symm.trans k) (by decide +kernel), fun _ e => (h e).1, fun e => (h e).2⟩
theorem stage_ne {c : Conf} (O : c.Ok) {j : Nat} (h : j < c.steps.length) : ¬ c.steps.getD j "" = "ended" := by
  rcases step_word O h with e | e | e <;> rw [e] <;> decide +kernel
theorem wr4_ops {c : Conf} {s : HS} {k : Nat} {o : OpS} : (wr4 c s k o).ops = s.ops.set k (if o.step + 1 = c.steps.length then { o with step := o.step + 1, stage := "ended", over := some s.past.length } else { o with step := o.step + 1, stage := c.steps.getD (o.step + 1) "" }) := by
  unfold wr4
  split
  · rw [end_ops]
    show (s.ops.set k _).set k _ = _
    rw [List.set_set]
    rfl
  · rfl
theorem io_op {c : Conf} {s : HS} {k : Nat} {o : OpS} {wd : Str} (O : c.Ok) (W : Wf c s) (h : IOL c s.ops) (eo : s.ops[k]? = some o) (a : Ahead s o wd) : IOL c (doOp c s k o wd).ops := by
  have ho := h o (List.mem_of_getElem? eo)
  have p := W.ops k o eo
  unfold doOp
  split
  · rw [end_ops]
    exact h.set ho.stop
  rename_i ns
  rcases a with a | ⟨n1, n2, hn⟩
  · exact absurd a ns
  split
  · rename_i kd
    obtain ⟨hs, ew, _, _⟩ := p.write O kd n1 n2 hn
    have hk : (wo1 s o wd).kind = "write" := by unfold wo1; split <;> exact kd
    have hst : (wo1 s o wd).step = o.step := by unfold wo1; split <;> rfl
    unfold writeH
    rw [wr4_ops]
    have h3 : IOL c (wr3 c (wr2 c (wr1 s k o wd) (wo1 s o wd) wd) (wo1 s o wd) wd).ops ∨ wd = "store" := by
      rw [wr3_ops.1, wr2_ops.1, wr1_ops.1]
      split
      · rename_i z; exact .inr z
      · exact .inl h.cf
    have hv : (∃ j, j < o.step + 1 ∧ c.steps.getD j "" = "store") → (wo1 s o wd).version.isSome = true := by
      rintro ⟨j, hj, ej⟩
      unfold wo1
      split
      · rfl
      · rename_i nst
        have : j < o.step := by
          rcases Nat.lt_or_ge j o.step with z | z
          · exact z
          · have e : j = o.step := by omega
            rw [e, ← ew] at ej
            exact absurd ej nst
        exact ho.wv kd ⟨j, this, ej⟩
    have nw : IO c (if (wo1 s o wd).step + 1 = c.steps.length then { wo1 s o wd with step := (wo1 s o wd).step + 1, stage := "ended", over := some (wr3 c (wr2 c (wr1 s k o wd) (wo1 s o wd) wd) (wo1 s o wd) wd).past.length } else { wo1 s o wd with step := (wo1 s o wd).step + 1, stage := c.steps.getD ((wo1 s o wd).step + 1) "" }) := by
      rw [hst]
      split
      · rename_i el
        exact ⟨fun _ => hv, fun _ _ => el, fun k => absurd (hk.symm.trans k) (by decide +kernel), fun _ => rfl⟩
      · rename_i nl
        have lt : o.step + 1 < c.steps.length := by omega
        exact ⟨fun _ => hv, fun _ e => absurd e (stage_ne O lt), fun k => absurd (hk.symm.trans k) (by decide +kernel), fun e => absurd e (stage_ne O lt)⟩
    intro u hu
    rcases List.mem_or_eq_of_mem_set hu with z | z
    · rw [wr3_ops.1, wr2_ops.1, wr1_ops.1] at z
      split at z
      · rename_i est
        have hu2 : (s.ops.set k { o with version := some (s.db + 1) }).set k (if (wo1 s o wd).step + 1 = c.steps.length then { wo1 s o wd with step := (wo1 s o wd).step + 1, stage := "ended", over := some (wr3 c (wr2 c (wr1 s k o wd) (wo1 s o wd) wd) (wo1 s o wd) wd).past.length } else { wo1 s o wd with step := (wo1 s o wd).step + 1, stage := c.steps.getD ((wo1 s o wd).step + 1) "" }) = s.ops.set k _ := List.set_set ..
        rw [wr3_ops.1, wr2_ops.1, wr1_ops.1, if_pos est, hu2] at hu
        exact h.set nw u hu
      · exact h.cf u z
    · rw [z]; exact nw
  · rename_i kd
    have kr : o.kind = "read" := p.kd.resolve_right kd
    have rd := p.read O kd n1 n2 hn
    have ne : ∀ {st : Str} {P : Prop}, ¬ st = "ended" → st = "ended" → P := fun a b => absurd b a
    unfold readH
    split
    · rename_i z
      rw [end_ops]
      show IOL c ((s.ops.set k _).set k _)
      rw [List.set_set]
      exact h.set (.read kr fun _ => ⟨z.2, rfl⟩)
    split
    · exact h.set (.read kr fun e => ne (by decide +kernel) (show ("waits" : Str) = "ended" from e))
    split
    · exact h.set (.read kr fun e => ne (by decide +kernel) (show ("fetch" : Str) = "ended" from e))
    split
    · split
      · rw [end_ops]
        show IOL c ((s.ops.set k _).set k _)
        rw [List.set_set]
        exact h.set (.read kr fun _ => ⟨rfl, rfl⟩)
      · exact h.set (.read kr fun e => ne (by decide +kernel) (show ("fill" : Str) = "ended" from e))
    split
    · rename_i q1 q2 q3 q4 q5
      rw [end_ops]
      show IOL c ((s.ops.set k _).set k _)
      rw [List.set_set]
      refine h.set (.read kr fun _ => ⟨?_, rfl⟩)
      rcases rd with ⟨e, _⟩ | ⟨e, _⟩ | ⟨e, _⟩ | ⟨_, ew, l, q, el, eq⟩
      · exact absurd e q3
      · exact absurd e q4
      · rw [e] at q5; exact absurd q5 (by decide +kernel)
      · have es : q.stage = "ended" := by
          unfold nextOf at hn
          rw [if_pos ew, el] at hn
          simp only [eq] at hn
          split at hn
          · assumption
          · cases hn
        show (leadV s o).isSome = true
        have : leadV s o = q.version := by
          unfold leadV
          rw [el]
          simp only [eq]
        rw [this]
        exact (h q (List.mem_of_getElem? eq)).ended O (W.ops l q eq).kd es
    · rename_i q1 q2 q3 q4 q5
      have hv : o.version.isSome = true := by
        rcases rd with ⟨e, _⟩ | ⟨e, _⟩ | ⟨_, _, v⟩ | ⟨e, _⟩
        · exact absurd e q3
        · exact absurd e q4
        · exact v
        · exact absurd e q5
      rw [end_ops]
      split
      · rw [hold_ops]
        exact h.set (.read kr fun _ => ⟨hv, rfl⟩)
      · exact h.set (.read kr fun _ => ⟨hv, rfl⟩)
theorem io_new {c : Conf} {s : HS} {w : Str} (O : c.Ok) (h : w = "look" ∨ w = firstW c) : IO c (newOp s w) := by
  have n := (new_next (s := s) (s' := s) O h).1
  refine ⟨fun _ ⟨j, hj, _⟩ => absurd hj (Nat.not_lt_zero _), fun _ e => absurd e n, fun _ e => absurd e n, fun e => absurd e n⟩
theorem Reach.io {c : Conf} {s : HS} (O : c.Ok) (r : Reach c s) : IOL c s.ops := by
  induction r with
  | begin => intro o h; cases h
  | @step s e r h ih =>
    have W := (r.wf O).1
    show IOL c (doE c s e).ops
    cases ev_case W h with
    | evict z =>
      have zL : doE c s evictE = { s with cache := none, mark := 0 } := if_pos rfl
      rw [zL]
      exact ih
    | copy z =>
      have zL : doE c s copyE = { s with rep := s.rep + 1 } := by
        unfold doE
        rw [if_neg (by decide +kernel), if_pos rfl]
      rw [zL]
      exact ih
    | new w hw =>
      have eo : (preH s w s.ops.length).ops[s.ops.length]? = some (newOp s w) := by
        rw [pre_new]
        show (s.ops ++ [newOp s w])[s.ops.length]? = _
        rw [List.getElem?_append_right (Nat.le_refl _), Nat.sub_self]
        rfl
      rw [doE_at eo]
      obtain ⟨a, b, d⟩ := new_next (s := s) (s' := preH s w s.ops.length) O hw
      refine io_op O (W.pre O hw) ?_ eo (.inr ⟨a, b, d⟩)
      rw [pre_new]
      intro u hu
      rcases List.mem_append.mp hu with z | z
      · exact ih u z
      · simp at z
        rw [z]
        exact io_new O hw
    | step k o w eo h1 h2 h3 =>
      rw [doE_at (by rw [pre_old eo]; exact eo), pre_old eo]
      exact io_op O W ih eo (.inr ⟨h1, h2, h3⟩)
    | stop k o eo h1 h2 h3 =>
      rw [doE_at (by rw [pre_old eo]; exact eo), pre_old eo]
      exact io_op O W ih eo (.inl rfl)
end Ca

set_option Elab.async false
set_option linter.all false
set_option maxRecDepth 100000
set_option maxHeartbeats 4000000
namespace Ca
open PySem L2
theorem RunC.imp {K : PySem.W.Frag} {C D CB : Addr} {c : Conf} {H : Hp} {r : Addr} {Q Q1 : VK} {E E1 : XK} (h : RunC K C D CB c H r Q E) (hq : ∀ v H', Q v H' → Q1 v H') (he : ∀ dd H', E (.ref CB) (some dd) H' → E1 (.ref CB) (some dd) H') : RunC K C D CB c H r Q1 E1 := by
  cases h with
  | lst ys h e => exact .lst ys h fun dd H' a b => he _ _ (e dd H' a b)
  | run xs es h X R l q => exact .run xs es h X R l fun p A H' a b d => hq _ _ (q p A H' a b d)
  | odd xs es v d fl h X R l i s g n e => exact .odd xs es v d fl h X R l i s g n fun dd H' a b => he _ _ (e dd H' a b)
/-- a run that stands as a tuple of events -/
structure Ran (H : Hp) (c : Conf) (d w r : Addr) (es : List Ev) : Prop where
  dd : H d = some (dT c)
  ww : H w = some (wT c)
  ok : c.Ok
  at_ : ∃ xs, H r = some (.tup xs) ∧ EvsAt H xs es ∧ xs.length ≤ 60
  run : RunP c es
theorem Ran.c {K : PySem.W.Frag} {C D CB : Addr} {H : Hp} {c : Conf} {d w r : Addr} {es : List Ev} {Q : VK} {E : XK} (R : Ran H c d w r es) (q : ∀ p A H', Same H H' → (∀ b, PF p A b → H b = none) → Play0 C D c H' p A (runS c es) → Q (.ref p) H') : RunC K C D CB c H r Q E := by
  obtain ⟨xs, h, X, l⟩ := R.at_
  exact .run xs es h X R.run l q
end Ca

set_option Elab.async false
set_option linter.all false
set_option maxRecDepth 100000
set_option maxHeartbeats 4000000
namespace Ca
open PySem L2
/-! ### the law's cache and the program's go hand in hand -/
def lookS (c : Conf) : List Str := if c.guard = "never" then ["look", "fetch"] else ["look", "fetch", "fill"]
def fetchS (c : Conf) : List Str := if c.guard = "never" then ["fetch"] else ["fetch", "fill"]
def fillS : List Str := ["fill"]
def takeS : List Str := ["take"]
def live (o : OpS) : Prop := ¬ o.stage = "ended" ∧ ¬ o.stage = "stopped"
structure RelOp (c : Conf) (w : Nat) (o : OpS) (q : POp) : Prop where
  kind : q.kind = o.kind
  ver : q.version = o.version
  stop : q.stopped = decide (o.stage = "stopped")
  ne : q.steps = [] ↔ o.stage = "ended"
  seen : live o → q.seen ≤ w
  wr : o.kind = "write" → live o → q.steps = c.steps.drop o.step
  rk : o.kind = "read" → o.stage = "look" → q.steps = lookS c ∧ o.clean = true
  rf : o.kind = "read" → o.stage = "fetch" → q.steps = fetchS c ∧ o.clean = decide (q.seen = w)
  rl : o.kind = "read" → o.stage = "fill" → q.steps = fillS ∧ o.clean = decide (q.seen = w) ∧ ¬ c.guard = "never"
  rw : o.kind = "read" → o.stage = "waits" → q.steps = takeS ∧ q.awaited = o.leader
  aw : live o → ¬ o.stage = "waits" → q.awaited = none
structure RelL (c : Conf) (w : Nat) (l : List OpS) (m : List POp) : Prop where
  len : l.length = m.length
  op : ∀ (k : Nat) o q, l[k]? = some o → m[k]? = some q → RelOp c w o q
structure Lead (c : Conf) (opn leader : Option Nat) (m : List POp) : Prop where
  ld : ∀ l, opn = some l → leader = some l ∧ endedAt m (some l) = false
  ln : opn = none → endedAt m leader = true
  fl : ¬ c.flight = "shared" → opn = none
  rg : ∀ l, leader = some l → l < m.length
structure Rel (c : Conf) (s : HS) (t : PSt) : Prop where
  db : t.db = s.db
  rep : t.rep = s.rep
  cache : t.cache = s.cache
  mark : t.mark = s.mark
  ops : RelL c t.wipes s.ops t.ops
  lead : Lead c s.opn t.leader t.ops
section
variable {c : Conf} {w k : Nat} {l : List OpS} {m : List POp} {o o' : OpS} {q q' : POp} {opn leader : Option Nat}
theorem RelL.set (R : RelL c w l m) (h : RelOp c w o' q') : RelL c w (l.set k o') (m.set k q') := by
  refine ⟨by rw [List.length_set, List.length_set, R.len], fun j u v e1 e2 => ?_⟩
  by_cases hj : k = j
  · subst hj
    by_cases hl : k < l.length
    · rw [List.getElem?_set_self hl] at e1
      rw [List.getElem?_set_self (by rw [← R.len]; exact hl)] at e2
      cases e1
      cases e2
      exact h
    · have := (List.getElem?_eq_some_iff.mp e1).1
      rw [List.length_set] at this
      exact absurd this hl
  · rw [List.getElem?_set_ne hj] at e1
    rw [List.getElem?_set_ne hj] at e2
    exact R.op j u v e1 e2
theorem RelL.snoc (R : RelL c w l m) (h : RelOp c w o' q') : RelL c w (l ++ [o']) (m ++ [q']) := by
  refine ⟨by rw [List.length_append, List.length_append, R.len]; rfl, fun j u v e1 e2 => ?_⟩
  by_cases hj : j < l.length
  · rw [List.getElem?_append_left hj] at e1
    rw [List.getElem?_append_left (by rw [← R.len]; exact hj)] at e2
    exact R.op j u v e1 e2
  · rw [List.getElem?_append_right (by omega)] at e1
    rw [List.getElem?_append_right (by rw [← R.len]; omega), ← R.len] at e2
    have e0 : j - l.length = 0 := by
      have := (List.getElem?_eq_some_iff.mp e1).1
      simp at this
      omega
    rw [e0] at e1 e2
    cases e1
    cases e2
    exact h
theorem RelOp.cf (h : RelOp c w o q) (n : ¬ o.stage = "look" ∨ ¬ o.kind = "read") : RelOp c (w + 1) (cf o) q := by
  have f : live o → (false : Bool) = decide (q.seen = w + 1) := fun lv => (decide_eq_false (by have := h.seen lv; omega)).symm
  have lf : ∀ {x : Str}, o.stage = x → ¬ x = "ended" → ¬ x = "stopped" → live o := fun e a b => ⟨by rw [e]; exact a, by rw [e]; exact b⟩
  refine ⟨h.kind, h.ver, h.stop, h.ne, fun lv => (by have := h.seen lv; omega), h.wr, fun a b => ?_, fun a b => ⟨(h.rf a b).1, f (lf b (by decide +kernel) (by decide +kernel))⟩, fun a b => ⟨(h.rl a b).1, f (lf b (by decide +kernel) (by decide +kernel)), (h.rl a b).2.2⟩, h.rw, h.aw⟩
  rcases n with n | n
  · exact absurd b n
  · exact absurd a n
theorem RelL.cf (R : RelL c w l m) (n : ∀ o ∈ l, ¬ o.stage = "look" ∨ ¬ o.kind = "read") : RelL c (w + 1) (l.map cf) m := by
  refine ⟨by rw [List.length_map, R.len], fun j u v e1 e2 => ?_⟩
  rw [List.getElem?_map] at e1
  cases e : l[j]? with
  | none => rw [e] at e1; cases e1
  | some o =>
    rw [e] at e1
    cases e1
    exact (R.op j o v e e2).cf (n o (List.mem_of_getElem? e))
theorem ended_set (hq : m[k]? = some q) {j : Nat} : endedAt (m.set k q') (some j) = if j = k then q'.ended else endedAt m (some j) := by
  show (match (m.set k q')[j]? with | some q => q.ended | none => true) = _
  by_cases hj : j = k
  · subst hj
    rw [if_pos rfl, List.getElem?_set_self (List.getElem?_eq_some_iff.mp hq).1]
  · rw [if_neg hj, List.getElem?_set_ne (Ne.symm hj)]
    rfl
theorem ended_at (hq : m[k]? = some q) : endedAt m (some k) = q.ended := by
  show (match m[k]? with | some q => q.ended | none => true) = _
  rw [hq]
/-- an operation goes on -/
theorem Lead.on (L : Lead c opn leader m) (hq : m[k]? = some q) (n0 : q.ended = false) (n1 : q'.ended = false) : Lead c opn leader (m.set k q') := by
  have e : ∀ l, endedAt (m.set k q') l = endedAt m l := fun l => by
    cases l with
    | none => rfl
    | some j =>
      rw [ended_set hq]
      split
      · rename_i z
        rw [z, ended_at hq, n0, n1]
      · rfl
  exact ⟨fun l h => by rw [e]; exact L.ld l h, fun h => by rw [e]; exact L.ln h, L.fl, fun l h => by rw [List.length_set]; exact L.rg l h⟩
/-- an operation ends -/
theorem Lead.fin (L : Lead c opn leader m) (hq : m[k]? = some q) (n0 : q.ended = false) (n1 : q'.ended = true) : Lead c (if opn = some k then none else opn) leader (m.set k q') := by
  refine ⟨fun l h => ?_, fun h => ?_, fun h => (by rw [L.fl h]; simp), fun l h => by rw [List.length_set]; exact L.rg l h⟩
  · split at h
    · cases h
    · rename_i z
      obtain ⟨a, b⟩ := L.ld l h
      refine ⟨a, ?_⟩
      rw [ended_set hq, if_neg (fun y => z (by rw [h, y]))]
      exact b
  · by_cases z : opn = some k
    · rw [(L.ld k z).1, ended_set hq, if_pos rfl]
      exact n1
    · rw [if_neg z] at h
      have y := L.ln h
      cases leader with
      | none => rfl
      | some j =>
        rw [ended_set hq]
        split
        · exact n1
        · exact y
theorem end_f {s : HS} {st : Str} : (endH s k o st).db = s.db ∧ (endH s k o st).rep = s.rep ∧ (endH s k o st).cache = s.cache ∧ (endH s k o st).mark = s.mark ∧ (endH s k o st).opn = (if st = "ended" then (if s.opn = some o.number then none else s.opn) else s.opn) := by
  simp only [endH]
  by_cases h : st = "ended" ∧ s.opn = some o.number
  · rw [if_pos h, if_pos h.1, if_pos h.2]
    exact ⟨rfl, rfl, rfl, rfl, rfl⟩
  · rw [if_neg h]
    refine ⟨rfl, rfl, rfl, rfl, ?_⟩
    by_cases h1 : st = "ended"
    · rw [if_pos h1, if_neg (fun z => h ⟨h1, z⟩)]
      rfl
    · rw [if_neg h1]
      rfl
def o5 (c : Conf) (s3 : HS) (o : OpS) : OpS := if o.step + 1 = c.steps.length then { o with step := o.step + 1, stage := "ended", over := some s3.past.length } else { o with step := o.step + 1, stage := c.steps.getD (o.step + 1) "" }
theorem wr4_f {s : HS} : (wr4 c s k o).db = s.db ∧ (wr4 c s k o).rep = s.rep ∧ (wr4 c s k o).cache = s.cache ∧ (wr4 c s k o).mark = s.mark ∧ (wr4 c s k o).ops = s.ops.set k (o5 c s o) ∧ (wr4 c s k o).opn = (if o.step + 1 = c.steps.length then (if s.opn = some o.number then none else s.opn) else s.opn) := by
  unfold wr4 o5
  by_cases h : o.step + 1 = c.steps.length
  · rw [if_pos h, if_pos h, if_pos h]
    obtain ⟨a, b, d, e, f⟩ := end_f (k := k) (o := { o with step := o.step + 1 }) (s := s.put k { o with step := o.step + 1 }) (st := "ended")
    refine ⟨a, b, d, e, ?_, ?_⟩
    · rw [end_ops]
      show (s.ops.set k _).set k _ = _
      rw [List.set_set]
      rfl
    · rw [f, if_pos rfl]
      rfl
  · rw [if_neg h, if_neg h, if_neg h]
    exact ⟨rfl, rfl, rfl, rfl, rfl, rfl⟩
theorem not_wait (O : c.Ok) {j : Nat} (h : j < c.steps.length) : ¬ c.steps.getD j "" = "waits" ∧ ¬ c.steps.getD j "" = "ended" ∧ ¬ c.steps.getD j "" = "stopped" ∧ ¬ c.steps.getD j "" = "look" := by
  rcases step_word O h with e | e | e <;> rw [e] <;> decide +kernel
theorem rel_o5 {s3 : HS} {w0 w5 : Nat} {v : Option Nat} {cl : Bool} (O : c.Ok) (h : RelOp c w0 o q) (kd : o.kind = "write") (lv : live o) (nw : ¬ o.stage = "waits") (hs : o.step < c.steps.length) (hw : w0 ≤ w5) :
    RelOp c w5 (o5 c s3 { o with version := v, clean := cl }) { tailP q with version := v } := by
  have st := h.wr kd lv
  have sd : (tailP q).steps = c.steps.drop (o.step + 1) := by
    show q.steps.drop 1 = _
    rw [st, List.drop_drop]
  have kr : ∀ {P : Prop}, o.kind = "read" → P := fun z => by rw [kd] at z; exact absurd z (by decide +kernel)
  have qs : q.stopped = false := by rw [h.stop]; exact decide_eq_false lv.2
  have qa := h.aw lv nw
  have hse := h.seen lv
  unfold o5
  by_cases e : o.step + 1 = c.steps.length
  · rw [if_pos (show ({ o with version := v, clean := cl } : OpS).step + 1 = c.steps.length from e)]
    have z : (tailP q).steps = [] := by rw [sd]; exact List.drop_eq_nil_of_le (by omega)
    exact ⟨h.kind, rfl, by show q.stopped = decide (("ended" : Str) = "stopped"); rw [qs]; decide +kernel, ⟨fun _ => rfl, fun _ => z⟩, fun _ => (by show q.seen ≤ w5; omega), fun _ y => absurd rfl y.1, fun a _ => kr a, fun a _ => kr a, fun a _ => kr a, fun a _ => kr a, fun y _ => absurd rfl y.1⟩
  · rw [if_neg (show ¬ ({ o with version := v, clean := cl } : OpS).step + 1 = c.steps.length from e)]
    have hl : o.step + 1 < c.steps.length := by omega
    obtain ⟨n1, n2, n3, n4⟩ := not_wait O hl
    have z : ¬ (tailP q).steps = [] := by
      rw [sd]
      intro y
      have := List.drop_eq_nil_iff.mp y
      omega
    exact ⟨h.kind, rfl, by show q.stopped = decide (c.steps.getD (o.step + 1) "" = "stopped"); rw [qs, decide_eq_false n3], ⟨fun y => absurd y z, fun y => absurd y n2⟩, fun _ => (by show q.seen ≤ w5; omega), fun _ _ => sd, fun a _ => kr a, fun a _ => kr a, fun a _ => kr a, fun a _ => kr a, fun _ _ => qa⟩
structure RelX (c : Conf) (w k : Nat) (l : List OpS) (m : List POp) : Prop where
  len : l.length = m.length
  op : ∀ (j : Nat) o q, ¬ j = k → l[j]? = some o → m[j]? = some q → RelOp c w o q
theorem RelL.x (R : RelL c w l m) : RelX c w k l m := ⟨R.len, fun j o q _ => R.op j o q⟩
theorem RelX.seta (R : RelX c w k l m) : RelX c w k (l.set k o') m := ⟨by rw [List.length_set]; exact R.len, fun j u v n e1 e2 => by
  rw [List.getElem?_set_ne (Ne.symm n)] at e1
  exact R.op j u v n e1 e2⟩
theorem RelX.set (R : RelX c w k l m) (h : RelOp c w o' q') : RelL c w (l.set k o') (m.set k q') := by
  refine ⟨by rw [List.length_set, List.length_set, R.len], fun j u v e1 e2 => ?_⟩
  by_cases hj : k = j
  · subst hj
    by_cases hl : k < l.length
    · rw [List.getElem?_set_self hl] at e1
      rw [List.getElem?_set_self (by rw [← R.len]; exact hl)] at e2
      cases e1
      cases e2
      exact h
    · have := (List.getElem?_eq_some_iff.mp e1).1
      rw [List.length_set] at this
      exact absurd this hl
  · rw [List.getElem?_set_ne hj] at e1
    rw [List.getElem?_set_ne hj] at e2
    exact R.op j u v (Ne.symm hj) e1 e2
theorem hold_f {s : HS} {v : Nat} : (holdH c s v).db = s.db ∧ (holdH c s v).rep = s.rep ∧ (holdH c s v).cache = some v ∧ (holdH c s v).mark = (if c.guard = "mark" then max s.mark v else s.mark) ∧ (holdH c s v).opn = s.opn := by
  unfold holdH
  split <;> exact ⟨rfl, rfl, rfl, rfl, rfl⟩
theorem holdP_f {t : PSt} {v : Nat} : (holdP c t v).db = t.db ∧ (holdP c t v).rep = t.rep ∧ (holdP c t v).cache = some v ∧ (holdP c t v).mark = (if c.guard = "mark" then max t.mark v else t.mark) ∧ (holdP c t v).ops = t.ops ∧ (holdP c t v).leader = t.leader ∧ (holdP c t v).wipes = t.wipes := by
  unfold holdP markP
  split <;> exact ⟨rfl, rfl, rfl, rfl, rfl, rfl, rfl⟩
/-- the end of a write's step -/
theorem fin_write {s s3 : HS} {t t' : PSt} {v : Option Nat} {cl : Bool} (O : c.Ok) (R : Rel c s t) (num : o.number = k) (eq : t.ops[k]? = some q) (h : RelOp c t.wipes o q) (kd : o.kind = "write") (lv : live o) (nw : ¬ o.stage = "waits") (hs : o.step < c.steps.length)
    (hdb : t'.db = s3.db) (hrep : t'.rep = s3.rep) (hca : t'.cache = s3.cache) (hma : t'.mark = s3.mark) (hop : s3.opn = s.opn) (hle : t'.leader = t.leader) (hm : t'.ops = t.ops.set k { tailP q with version := v }) (hw : t.wipes ≤ t'.wipes) (X : RelX c t'.wipes k s3.ops t.ops) :
    Rel c (wr4 c s3 k { o with version := v, clean := cl }) t' := by
  obtain ⟨f1, f2, f3, f4, f5, f6⟩ := wr4_f (c := c) (k := k) (s := s3) (o := { o with version := v, clean := cl })
  have r5 := rel_o5 (s3 := s3) (w5 := t'.wipes) (v := v) (cl := cl) O h kd lv nw hs hw
  have n0 : q.ended = false := by
    unfold POp.ended
    cases z : q.steps with
    | nil => exact absurd (h.ne.mp z) lv.1
    | cons _ _ => rfl
  refine ⟨by rw [f1]; exact hdb, by rw [f2]; exact hrep, by rw [f3]; exact hca, by rw [f4]; exact hma, by rw [f5, hm]; exact X.set r5, ?_⟩
  rw [f6, hop, hle, hm]
  by_cases e : o.step + 1 = c.steps.length
  · rw [if_pos (show ({ o with version := v, clean := cl } : OpS).step + 1 = c.steps.length from e), show ({ o with version := v, clean := cl } : OpS).number = k from num]
    refine R.lead.fin eq n0 ?_
    have z : ({ tailP q with version := v } : POp).steps = [] := r5.ne.mpr (by
      unfold o5
      rw [if_pos (show ({ o with version := v, clean := cl } : OpS).step + 1 = c.steps.length from e)])
    unfold POp.ended
    rw [z]
    rfl
  · rw [if_neg (show ¬ ({ o with version := v, clean := cl } : OpS).step + 1 = c.steps.length from e)]
    refine R.lead.on eq n0 ?_
    have hl : o.step + 1 < c.steps.length := by omega
    have z : ¬ ({ tailP q with version := v } : POp).steps = [] := fun y => by
      have y2 := r5.ne.mp y
      unfold o5 at y2
      rw [if_neg (show ¬ ({ o with version := v, clean := cl } : OpS).step + 1 = c.steps.length from e)] at y2
      exact (not_wait O hl).2.1 y2
    unfold POp.ended
    cases y : ({ tailP q with version := v } : POp).steps with
    | nil => exact absurd y z
    | cons _ _ => rfl
theorem Rel.write {s : HS} {t : PSt} {wd : Str} (O : c.Ok) (W : Wf c s) (R : Rel c s t) (NL : ∀ o ∈ s.ops, ¬ o.stage = "look" ∨ ¬ o.kind = "read") (eo : s.ops[k]? = some o) (eq : t.ops[k]? = some q) (kd : o.kind = "write") (lv : live o) (hn : nextOf s o = some wd) :
    Rel c (writeH c s k o wd) (opP c (t.put k (tailP q)) k (tailP q) wd) := by
  have p := W.ops k o eo
  obtain ⟨hs, hw, hst, hset⟩ := p.write O kd lv.1 lv.2 hn
  have h := R.ops.op k o q eo eq
  have nw : ¬ o.stage = "waits" := by rw [hst, hw]; exact (not_wait O hs).1
  have hw' := step_word O hs
  rw [← hw] at hw'
  unfold writeH
  rcases hw' with e | e | e
  · -- drop
    subst e
    have d1 : wr1 s k o "drop" = { s with ops := s.ops.map cf } := if_neg (by decide +kernel)
    have d2 : wo1 s o "drop" = cf o := if_neg (by decide +kernel)
    have d3 : ∀ s2 o2, wr3 c s2 o2 "drop" = s2 := fun s2 o2 => if_neg (by decide +kernel)
    have d4 : opP c (t.put k (tailP q)) k (tailP q) "drop" = dropP c (t.put k (tailP q)) k (tailP q) := by
      unfold opP
      rw [if_neg (by decide +kernel), if_neg (by decide +kernel), if_neg (by decide +kernel), if_neg (by decide +kernel), if_neg (by decide +kernel), if_pos rfl]
    rw [d1, d2, d3, d4]
    have d5 : ∀ s2, wr2 c s2 (cf o) "drop" = (if c.guard = "mark" ∧ o.version.isSome then { s2 with cache := none, mark := max s2.mark (o.version.getD 0) } else { s2 with cache := none }) := fun s2 => if_pos rfl
    rw [d5]
    have X : RelX c (t.wipes + 1) k (s.ops.map cf) t.ops := (R.ops.cf NL).x
    have vq : (tailP q).version = o.version := h.ver
    cases ev : o.version with
    | none =>
      have zP : dropP c (t.put k (tailP q)) k (tailP q) = { t.put k (tailP q) with cache := none, wipes := t.wipes + 1 } := by
        unfold dropP
        rw [vq, ev]
        rfl
      rw [zP]
      rw [if_neg (by rintro ⟨_, z⟩; cases z)]
      have ec : cf o = { o with version := none, clean := false } := by unfold cf; rw [← ev]
      rw [ec]
      exact fin_write O R p.num eq h kd lv nw hs R.db R.rep rfl R.mark rfl rfl (by show t.ops.set k (tailP q) = _; rw [show ({ tailP q with version := none } : POp) = tailP q from by rw [← ev, ← vq]]) (Nat.le_succ _) X
    | some v =>
      have ec : cf o = { o with version := some v, clean := false } := by unfold cf; rw [← ev]
      rw [ec]
      have eq5 : ({ tailP q with version := some v } : POp) = tailP q := by rw [← ev, ← vq]
      have zP : dropP c (t.put k (tailP q)) k (tailP q) = (if c.guard = "mark" then { t.put k (tailP q) with cache := none, wipes := t.wipes + 1, mark := max t.mark v } else { t.put k (tailP q) with cache := none, wipes := t.wipes + 1 }) := by
        unfold dropP
        rw [vq, ev]
        rfl
      rw [zP]
      by_cases g : c.guard = "mark"
      · rw [if_pos g, if_pos ⟨g, rfl⟩]
        exact fin_write O R p.num eq h kd lv nw hs R.db R.rep rfl (by show max t.mark v = max s.mark v; rw [R.mark]) rfl rfl (by show t.ops.set k (tailP q) = _; rw [eq5]) (Nat.le_succ _) X
      · rw [if_neg g, if_neg (fun z => g z.1)]
        exact fin_write O R p.num eq h kd lv nw hs R.db R.rep rfl R.mark rfl rfl (by show t.ops.set k (tailP q) = _; rw [eq5]) (Nat.le_succ _) X
  · -- store
    subst e
    have d1 : wr1 s k o "store" = { s with db := s.db + 1, ops := s.ops.set k { o with version := some (s.db + 1) } } := if_pos rfl
    have d2 : wo1 s o "store" = { o with version := some (s.db + 1), clean := o.clean } := if_pos rfl
    have d3 : ∀ s2 o2, wr3 c s2 o2 "store" = s2 := fun s2 o2 => if_neg (by decide +kernel)
    have d4 : opP c (t.put k (tailP q)) k (tailP q) "store" = storeP c (t.put k (tailP q)) k (tailP q) := by
      unfold opP
      rw [if_neg (by decide +kernel), if_neg (by decide +kernel), if_neg (by decide +kernel), if_neg (by decide +kernel), if_pos rfl]
    have d5 : ∀ s2 o2, wr2 c s2 o2 "store" = s2 := fun s2 o2 => if_neg (by decide +kernel)
    rw [d1, d2, d3, d4, d5]
    unfold storeP
    refine fin_write O R p.num eq h kd lv nw hs (by show t.db + 1 = s.db + 1; rw [R.db]) R.rep R.cache R.mark rfl rfl ?_ (Nat.le_refl _) R.ops.x.seta
    show ((t.ops.set k (tailP q)).set k _) = _
    rw [List.set_set]
    show t.ops.set k { tailP q with version := some (t.db + 1) } = _
    rw [R.db]
  · -- set
    subst e
    have d1 : wr1 s k o "set" = { s with ops := s.ops.map cf } := if_neg (by decide +kernel)
    have d2 : wo1 s o "set" = cf o := if_neg (by decide +kernel)
    have d4 : opP c (t.put k (tailP q)) k (tailP q) "set" = putP c (t.put k (tailP q)) k (tailP q) := by
      unfold opP
      rw [if_neg (by decide +kernel), if_neg (by decide +kernel), if_neg (by decide +kernel), if_neg (by decide +kernel), if_neg (by decide +kernel), if_neg (by decide +kernel)]
    have d5 : ∀ s2 o2, wr2 c s2 o2 "set" = s2 := fun s2 o2 => if_neg (by decide +kernel)
    have d3 : ∀ s2 o2, wr3 c s2 o2 "set" = (if setsB c s2 (o2.version.getD 0) then holdH c s2 (o2.version.getD 0) else s2) := fun s2 o2 => if_pos rfl
    rw [d1, d2, d4, d5, d3]
    have X : RelX c (t.wipes + 1) k (s.ops.map cf) t.ops := (R.ops.cf NL).x
    obtain ⟨v, ev⟩ := Option.isSome_iff_exists.mp (hset rfl)
    have ec : cf o = { o with version := some v, clean := false } := by unfold cf; rw [← ev]
    have vq : (tailP q).version = some v := h.ver.trans ev
    have eq5 : ({ tailP q with version := some v } : POp) = tailP q := by rw [← vq]
    rw [ec]
    unfold putP
    rw [vq]
    have eb : inP c { t.put k (tailP q) with wipes := t.wipes + 1 } v = setsB c { s with ops := s.ops.map cf } v := by
      unfold inP setsB newerB
      show (if c.guard = "newer" then (match t.cache with | none => true | some x => decide (x < v)) else if c.guard = "mark" then decide (t.mark ≤ v) else true) = (if c.guard = "mark" then decide (s.mark ≤ v) else !decide (c.guard = "newer") || (match s.cache with | none => true | some x => decide (x < v)))
      rw [R.cache, R.mark]
      by_cases g1 : c.guard = "newer"
      · rw [if_pos g1, if_neg (by rw [g1]; decide +kernel), decide_eq_true g1]
        rfl
      · rw [if_neg g1, decide_eq_false g1]
        rfl
    show Rel c (wr4 c (if setsB c { s with ops := s.ops.map cf } v then holdH c { s with ops := s.ops.map cf } v else { s with ops := s.ops.map cf }) k _) (if inP c { t.put k (tailP q) with wipes := t.wipes + 1 } v then holdP c { t.put k (tailP q) with wipes := t.wipes + 1 } v else { t.put k (tailP q) with wipes := t.wipes + 1 })
    rw [eb]
    by_cases b : setsB c { s with ops := s.ops.map cf } v = true
    · rw [if_pos b, if_pos b]
      obtain ⟨a1, a2, a3, a4, a5⟩ := hold_f (c := c) (s := { s with ops := s.ops.map cf }) (v := v)
      obtain ⟨b1, b2, b3, b4, b5, b6, b7⟩ := holdP_f (c := c) (t := { t.put k (tailP q) with wipes := t.wipes + 1 }) (v := v)
      refine fin_write O R p.num eq h kd lv nw hs (by rw [a1, b1]; exact R.db) (by rw [a2, b2]; exact R.rep) (by rw [a3, b3]) (by rw [a4, b4]; show (if _ then max t.mark v else t.mark) = (if _ then max s.mark v else s.mark); rw [R.mark]) (by rw [a5]) (by rw [b6]; rfl) (by rw [b5]; show t.ops.set k (tailP q) = _; rw [eq5]) (by rw [b7]; exact Nat.le_succ _) (by rw [hold_ops, b7]; exact X)
    · rw [if_neg b, if_neg b]
      exact fin_write O R p.num eq h kd lv nw hs R.db R.rep R.cache R.mark rfl rfl (by show t.ops.set k (tailP q) = _; rw [eq5]) (Nat.le_succ _) X
end
end Ca

set_option Elab.async false
set_option linter.all false
set_option maxRecDepth 100000
set_option maxHeartbeats 4000000
namespace Ca
open PySem L2
section
variable {c : Conf} {w k : Nat} {l : List OpS} {m : List POp} {o o' : OpS} {q q' : POp} {opn leader : Option Nat}
theorem rel_end {x : Option Nat} (h1 : q'.kind = o.kind) (h2 : q'.version = o.version) (h3 : q'.stopped = false) (h4 : q'.steps = []) (h5 : q'.seen ≤ w) : RelOp c w { o with stage := "ended", over := x } q' := by
  have n : ∀ {P : Prop} {st : Str}, ¬ ("ended" : Str) = st → ("ended" : Str) = st → P := fun a b => absurd b a
  exact ⟨h1, h2, by rw [h3]; show false = decide (("ended" : Str) = "stopped"); decide +kernel, ⟨fun _ => rfl, fun _ => h4⟩, fun _ => h5, fun _ y => absurd rfl y.1, fun _ b => n (by decide +kernel) b, fun _ b => n (by decide +kernel) b, fun _ b => n (by decide +kernel) b, fun _ b => n (by decide +kernel) b, fun y _ => absurd rfl y.1⟩
theorem end_none {st : List Str} (h : q.steps = st) : q.ended = st.isEmpty := by
  unfold POp.ended
  rw [h]
theorem not_ended (h : RelOp c w o q) (lv : live o) : q.ended = false := by
  unfold POp.ended
  cases z : q.steps with
  | nil => exact absurd (h.ne.mp z) lv.1
  | cons _ _ => rfl
/-- an operation's last step -/
theorem fin_end {s s1 : HS} {t t' : PSt} (R : Rel c s t) (num : o.number = k) (eq : t.ops[k]? = some q) (n0 : q.ended = false)
    (hdb : t'.db = s1.db) (hrep : t'.rep = s1.rep) (hca : t'.cache = s1.cache) (hma : t'.mark = s1.mark) (hop : s1.opn = s.opn) (hle : t'.leader = t.leader) (hm : t'.ops = t.ops.set k q') (X : RelX c t'.wipes k s1.ops t.ops)
    (h1 : q'.kind = o.kind) (h2 : q'.version = o.version) (h3 : q'.stopped = false) (h4 : q'.steps = []) (h5 : q'.seen ≤ t'.wipes) : Rel c (endH s1 k o "ended") t' := by
  obtain ⟨f1, f2, f3, f4, f5⟩ := end_f (k := k) (o := o) (s := s1) (st := "ended")
  refine ⟨by rw [f1]; exact hdb, by rw [f2]; exact hrep, by rw [f3]; exact hca, by rw [f4]; exact hma, by rw [end_ops, hm]; exact X.set (rel_end h1 h2 h3 h4 h5), ?_⟩
  rw [f5, if_pos rfl, hop, num, hle, hm]
  exact R.lead.fin eq n0 (by rw [end_none h4]; rfl)
theorem Rel.read {s : HS} {t : PSt} {wd : Str} (O : c.Ok) (W : Wf c s) (R : Rel c s t) (eo : s.ops[k]? = some o) (eq : t.ops[k]? = some q) (kd : ¬ o.kind = "write") (lv : live o) (hn : nextOf s o = some wd) :
    Rel c (readH c s k o wd) (opP c (t.put k (tailP q)) k (tailP q) wd) := by
  have p := W.ops k o eo
  have kr : o.kind = "read" := p.kd.resolve_right kd
  have h := R.ops.op k o q eo eq
  have n0 := not_ended h lv
  have st0 : q.stopped = false := by rw [h.stop]; exact decide_eq_false lv.2
  have kW : ∀ {P : Prop}, o.kind = "write" → P := fun z => absurd z kd
  have pp : ∀ {q1 : POp}, (t.put k (tailP q)).put k q1 = t.put k q1 := fun {q1} => put_pP
  rcases p.read O kd lv.1 lv.2 hn with ⟨e, es⟩ | ⟨e, es⟩ | ⟨e, es, hv⟩ | ⟨e, es, l, u, el, eu⟩
  · -- look
    subst e
    obtain ⟨hst, hcl⟩ := h.rk kr es
    have d4 : opP c (t.put k (tailP q)) k (tailP q) "look" = lookP c (t.put k (tailP q)) k (tailP q) := if_pos rfl
    rw [d4]
    have tl : (tailP q).steps = fetchS c := by
      show q.steps.drop 1 = _
      rw [hst]
      unfold lookS fetchS
      split <;> rfl
    have tne : (tailP q).ended = false := by
      rw [end_none tl]
      unfold fetchS
      split <;> rfl
    have aw0 : q.awaited = none := h.aw lv (by rw [es]; decide +kernel)
    cases ec : s.cache with
    | some v =>
      have zL : readH c s k o "look" = endH (s.put k { o with version := some v }) k { o with version := some v } "ended" := by
        unfold readH
        rw [if_pos ⟨rfl, by rw [ec]; rfl⟩, ec]
      have zP : lookP c (t.put k (tailP q)) k (tailP q) = t.put k { tailP q with seen := t.wipes, version := some v, steps := [] } := by
        have tc : (t.put k (tailP q)).cache = some v := R.cache.trans ec
        unfold lookP
        rw [tc]
        exact pp
      rw [zL, zP]
      exact fin_end (q' := { tailP q with seen := t.wipes, version := some v, steps := [] }) R p.num eq n0 R.db R.rep R.cache R.mark rfl rfl rfl R.ops.x.seta h.kind rfl st0 rfl (Nat.le_refl _)
    | none =>
      have zP : lookP c (t.put k (tailP q)) k (tailP q) = (if c.flight = "shared" then shareP c (t.put k { tailP q with seen := t.wipes }) k { tailP q with seen := t.wipes } else t.put k { tailP q with seen := t.wipes }) := by
        have tc : (t.put k (tailP q)).cache = none := R.cache.trans ec
        unfold lookP
        rw [tc]
        show (if c.flight = "shared" then shareP c ((t.put k (tailP q)).put k { tailP q with seen := t.wipes }) k { tailP q with seen := t.wipes } else (t.put k (tailP q)).put k { tailP q with seen := t.wipes }) = _
        rw [pp]
      have eE : ∀ x, endedAt (t.put k { tailP q with seen := t.wipes }).ops x = endedAt t.ops x := fun x => by
        cases x with
        | none => rfl
        | some j =>
          show endedAt (t.ops.set k _) (some j) = _
          rw [ended_set eq]
          split
          · rename_i z
            rw [z, ended_at eq, n0]
            exact tne
          · rfl
      have rf : RelOp c t.wipes { o with stage := "fetch" } { tailP q with seen := t.wipes } := by
        have n : ∀ {P : Prop} {st : Str}, ¬ ("fetch" : Str) = st → ("fetch" : Str) = st → P := fun a b => absurd b a
        refine ⟨h.kind, h.ver, by show q.stopped = decide (("fetch" : Str) = "stopped"); rw [st0]; decide +kernel, ⟨fun z => ?_, fun z => n (by decide +kernel) z⟩, fun _ => Nat.le_refl _, fun a _ => kW a, fun _ b => n (by decide +kernel) b, fun _ _ => ⟨tl, ?_⟩, fun _ b => n (by decide +kernel) b, fun _ b => n (by decide +kernel) b, fun _ _ => aw0⟩
        · have z2 : (tailP q).steps = [] := z
          rw [end_none z2] at tne
          cases tne
        · show o.clean = decide (t.wipes = t.wipes)
          rw [hcl, decide_eq_true rfl]
      cases eopn : s.opn with
      | some l =>
        obtain ⟨hl1, hl2⟩ := R.lead.ld l eopn
        have fs : c.flight = "shared" := by
          apply Classical.byContradiction
          intro z
          rw [R.lead.fl z] at eopn
          cases eopn
        have zL : readH c s k o "look" = s.put k { o with stage := "waits", leader := some l } := by
          unfold readH
          rw [if_neg (by rw [ec]; rintro ⟨_, z⟩; cases z), if_pos ⟨rfl, by rw [eopn]; rfl⟩, eopn]
        have zP2 : shareP c (t.put k { tailP q with seen := t.wipes }) k { tailP q with seen := t.wipes } = t.put k { tailP q with seen := t.wipes, awaited := some l, steps := takeS } := by
          have tl1 : (t.put k { tailP q with seen := t.wipes }).leader = some l := hl1
          unfold shareP
          rw [tl1, eE, hl2, if_neg (by decide), put_pP]
          rfl
        rw [zL, zP, if_pos fs, zP2]
        have rq : RelOp c t.wipes { o with stage := "waits", leader := some l } { tailP q with seen := t.wipes, awaited := some l, steps := takeS } := by
          have n : ∀ {P : Prop} {st : Str}, ¬ ("waits" : Str) = st → ("waits" : Str) = st → P := fun a b => absurd b a
          exact ⟨h.kind, h.ver, by show q.stopped = decide (("waits" : Str) = "stopped"); rw [st0]; decide +kernel, ⟨fun z => (by cases z), fun z => n (by decide +kernel) z⟩, fun _ => Nat.le_refl _, fun a _ => kW a, fun _ b => n (by decide +kernel) b, fun _ b => n (by decide +kernel) b, fun _ b => n (by decide +kernel) b, fun _ _ => ⟨rfl, rfl⟩, fun _ b => absurd rfl b⟩
        exact ⟨R.db, R.rep, R.cache, R.mark, R.ops.set rq, R.lead.on eq n0 rfl⟩
      | none =>
        have zL : readH c s k o "look" = { s.put k { o with stage := "fetch" } with opn := if c.flight = "shared" then some o.number else none } := by
          unfold readH
          rw [if_neg (by rw [ec]; rintro ⟨_, z⟩; cases z), if_neg (by rw [eopn]; rintro ⟨_, z⟩; cases z), if_pos rfl]
        rw [zL, zP]
        by_cases fs : c.flight = "shared"
        · have zP2 : shareP c (t.put k { tailP q with seen := t.wipes }) k { tailP q with seen := t.wipes } = { t.put k { tailP q with seen := t.wipes } with leader := some k } := by
            unfold shareP
            rw [if_pos (by rw [eE]; exact R.lead.ln eopn)]
          rw [if_pos fs, if_pos fs, zP2]
          refine ⟨R.db, R.rep, R.cache, R.mark, R.ops.set rf, ⟨fun l z => ?_, fun z => (by cases z), fun z => absurd fs z, fun l z => (by cases z; show k < (t.ops.set k _).length; rw [List.length_set]; exact (List.getElem?_eq_some_iff.mp eq).1)⟩⟩
          have z : some o.number = some l := z
          rw [p.num] at z
          cases z
          refine ⟨rfl, ?_⟩
          show endedAt (t.ops.set k _) (some k) = false
          rw [ended_set eq, if_pos rfl]
          exact tne
        · rw [if_neg fs, if_neg fs]
          refine ⟨R.db, R.rep, R.cache, R.mark, R.ops.set rf, ?_⟩
          have := R.lead.on (q' := { tailP q with seen := t.wipes }) eq n0 tne
          rw [eopn] at this
          exact this
  · -- fetch
    subst e
    obtain ⟨hst, hcl⟩ := h.rf kr es
    have d4 : opP c (t.put k (tailP q)) k (tailP q) "fetch" = fetchP c (t.put k (tailP q)) k (tailP q) := by
      unfold opP
      rw [if_neg (by decide +kernel), if_pos rfl]
    have zP : fetchP c (t.put k (tailP q)) k (tailP q) = t.put k { tailP q with version := some (if c.source = "replica" then s.rep else s.db) } := by
      unfold fetchP
      rw [pp]
      show t.put k { tailP q with version := some (if c.source = "replica" then t.rep else t.db) } = _
      rw [R.rep, R.db]
    rw [d4, zP]
    have aw0 : q.awaited = none := h.aw lv (by rw [es]; decide +kernel)
    by_cases g : c.guard = "never"
    · have zL : readH c s k o "fetch" = endH (s.put k { o with version := some (if c.source = "replica" then s.rep else s.db), stage := "fill" }) k { o with version := some (if c.source = "replica" then s.rep else s.db), stage := "fill" } "ended" := by
        unfold readH
        rw [if_neg (by rintro ⟨z, _⟩; exact absurd z (by decide +kernel)), if_neg (by rintro ⟨z, _⟩; exact absurd z (by decide +kernel)), if_neg (by decide +kernel), if_pos rfl, if_pos g]
      rw [zL]
      have ts : (tailP q).steps = [] := by
        show q.steps.drop 1 = []
        rw [hst]
        unfold fetchS
        rw [if_pos g]
        rfl
      exact fin_end (q' := { tailP q with version := some (if c.source = "replica" then s.rep else s.db) }) R p.num eq n0 R.db R.rep R.cache R.mark rfl rfl rfl R.ops.x.seta h.kind rfl st0 ts (h.seen lv)
    · have zL : readH c s k o "fetch" = s.put k { o with version := some (if c.source = "replica" then s.rep else s.db), stage := "fill" } := by
        unfold readH
        rw [if_neg (by rintro ⟨z, _⟩; exact absurd z (by decide +kernel)), if_neg (by rintro ⟨z, _⟩; exact absurd z (by decide +kernel)), if_neg (by decide +kernel), if_pos rfl, if_neg g]
      rw [zL]
      have ts : (tailP q).steps = fillS := by
        show q.steps.drop 1 = _
        rw [hst]
        unfold fetchS
        rw [if_neg g]
        rfl
      have n : ∀ {P : Prop} {st : Str}, ¬ ("fill" : Str) = st → ("fill" : Str) = st → P := fun a b => absurd b a
      have rq : RelOp c t.wipes { o with version := some (if c.source = "replica" then s.rep else s.db), stage := "fill" } { tailP q with version := some (if c.source = "replica" then s.rep else s.db) } := by
        refine ⟨h.kind, rfl, by show q.stopped = decide (("fill" : Str) = "stopped"); rw [st0]; decide +kernel, ⟨fun z => ?_, fun z => n (by decide +kernel) z⟩, fun _ => h.seen lv, fun a _ => kW a, fun _ b => n (by decide +kernel) b, fun _ b => n (by decide +kernel) b, fun _ _ => ⟨ts, hcl, g⟩, fun _ b => n (by decide +kernel) b, fun _ _ => aw0⟩
        have z2 : (tailP q).steps = [] := z
        rw [ts] at z2
        cases z2
      exact ⟨R.db, R.rep, R.cache, R.mark, R.ops.set rq, R.lead.on eq n0 (by rw [end_none (q := { tailP q with version := some (if c.source = "replica" then s.rep else s.db) }) ts]; rfl)⟩
  · -- fill
    subst e
    obtain ⟨hst, hcl, hg⟩ := h.rl kr es
    obtain ⟨v, ev⟩ := Option.isSome_iff_exists.mp hv
    have d4 : opP c (t.put k (tailP q)) k (tailP q) "fill" = fillP c (t.put k (tailP q)) k (tailP q) := by
      unfold opP
      rw [if_neg (by decide +kernel), if_neg (by decide +kernel), if_pos rfl]
    have vq : (tailP q).version = some v := h.ver.trans ev
    have eb : fillB c (t.put k (tailP q)) (tailP q) v = letsB c s o v := by
      unfold fillB letsB inP newerB
      show (if c.guard = "empty" then t.cache.isNone else if c.guard = "token" then decide (q.seen = t.wipes) else if c.guard = "newer" then (match t.cache with | none => true | some x => decide (x < v)) else if c.guard = "mark" then decide (t.mark ≤ v) else true) = (if c.guard = "token" then o.clean else if c.guard = "mark" then decide (s.mark ≤ v) else decide (c.guard = "always") || (if c.guard = "newer" then (match s.cache with | none => true | some x => decide (x < v)) else s.cache.isNone))
      rw [R.cache, R.mark, hcl]
      have hgs := O.g
      simp only [guardsL, List.mem_cons, List.not_mem_nil, or_false] at hgs
      rcases hgs with z | z | z | z | z | z
      · rw [z, if_neg (by decide +kernel), if_neg (by decide +kernel), if_neg (by decide +kernel), if_neg (by decide +kernel), if_neg (by decide +kernel), if_neg (by decide +kernel), decide_eq_true rfl, Bool.true_or]
      · rw [z, if_pos rfl, if_neg (by decide +kernel), if_neg (by decide +kernel), if_neg (by decide +kernel), show decide (("empty" : Str) = "always") = false by decide +kernel, Bool.false_or]
      · rw [z, if_neg (by decide +kernel), if_neg (by decide +kernel), if_neg (by decide +kernel), if_pos rfl, if_neg (by decide +kernel), if_pos rfl]
      · exact absurd z hg
      · rw [z, if_neg (by decide +kernel), if_neg (by decide +kernel), if_pos rfl, if_neg (by decide +kernel), if_neg (by decide +kernel), if_pos rfl, show decide (("newer" : Str) = "always") = false by decide +kernel, Bool.false_or]
      · rw [z, if_neg (by decide +kernel), if_pos rfl, if_pos rfl]
    have zP : fillP c (t.put k (tailP q)) k (tailP q) = (if letsB c s o v then holdP c (t.put k (tailP q)) v else t.put k (tailP q)) := by
      unfold fillP
      rw [vq]
      show (if fillB c (t.put k (tailP q)) (tailP q) v then holdP c (t.put k (tailP q)) v else t.put k (tailP q)) = _
      rw [eb]
    have zL : readH c s k o "fill" = endH (if letsB c s o v then holdH c s v else s) k o "ended" := by
      unfold readH
      rw [if_neg (by rintro ⟨z, _⟩; exact absurd z (by decide +kernel)), if_neg (by rintro ⟨z, _⟩; exact absurd z (by decide +kernel)), if_neg (by decide +kernel), if_neg (by decide +kernel), if_neg (by decide +kernel), ev]
      rfl
    have ts : (tailP q).steps = [] := by
      show q.steps.drop 1 = []
      rw [hst]
      rfl
    rw [d4, zP, zL]
    by_cases b : letsB c s o v = true
    · rw [if_pos b, if_pos b]
      obtain ⟨a1, a2, a3, a4, a5⟩ := hold_f (c := c) (s := s) (v := v)
      obtain ⟨b1, b2, b3, b4, b5, b6, b7⟩ := holdP_f (c := c) (t := t.put k (tailP q)) (v := v)
      refine fin_end (q' := tailP q) R p.num eq n0 (by rw [a1, b1]; exact R.db) (by rw [a2, b2]; exact R.rep) (by rw [a3, b3]) (by rw [a4, b4]; show (if _ then max t.mark v else t.mark) = _; rw [R.mark]) a5 b6 b5 (by rw [hold_ops, b7]; exact R.ops.x) h.kind h.ver st0 ts (by rw [b7]; exact (h.seen lv))
    · rw [if_neg b, if_neg b]
      exact fin_end (q' := tailP q) R p.num eq n0 R.db R.rep R.cache R.mark rfl rfl rfl R.ops.x h.kind h.ver st0 ts (h.seen lv)
  · -- take
    subst e
    obtain ⟨hst, haw⟩ := h.rw kr es
    have d4 : opP c (t.put k (tailP q)) k (tailP q) "take" = takeP c (t.put k (tailP q)) k (tailP q) := by
      unfold opP
      rw [if_neg (by decide +kernel), if_neg (by decide +kernel), if_neg (by decide +kernel), if_pos rfl]
    have vl : leadV s o = u.version := by
      unfold leadV
      rw [el]
      show (match s.ops[l]? with | some q => q.version | none => none) = _
      rw [eu]
    have hlt : l < t.ops.length := by
      rw [← R.ops.len]
      exact (List.getElem?_eq_some_iff.mp eu).1
    obtain ⟨ql, eql⟩ : ∃ ql, t.ops[l]? = some ql := ⟨_, List.getElem?_eq_getElem hlt⟩
    have vt : versionAt (t.put k (tailP q)).ops (tailP q).awaited = u.version := by
      show versionAt (t.ops.set k (tailP q)) q.awaited = _
      rw [haw, el]
      show ((t.ops.set k (tailP q))[l]?).bind (·.version) = _
      by_cases hlk : l = k
      · subst hlk
        rw [List.getElem?_set_self hlt]
        rw [eu] at eo
        cases eo
        exact h.ver
      · rw [List.getElem?_set_ne (Ne.symm hlk), eql]
        exact (R.ops.op l u ql eu eql).ver
    have zP : takeP c (t.put k (tailP q)) k (tailP q) = t.put k { tailP q with version := u.version } := by
      unfold takeP
      rw [pp, vt]
    have zL : readH c s k o "take" = endH (s.put k { o with version := u.version }) k { o with version := u.version } "ended" := by
      unfold readH
      rw [if_neg (by rintro ⟨z, _⟩; exact absurd z (by decide +kernel)), if_neg (by rintro ⟨z, _⟩; exact absurd z (by decide +kernel)), if_neg (by decide +kernel), if_neg (by decide +kernel), if_pos rfl, vl]
    have ts : (tailP q).steps = [] := by
      show q.steps.drop 1 = []
      rw [hst]
      rfl
    rw [d4, zP, zL]
    exact fin_end (q' := { tailP q with version := u.version }) R p.num eq n0 R.db R.rep R.cache R.mark rfl rfl rfl R.ops.x.seta h.kind rfl st0 ts (h.seen lv)
end
end Ca

set_option Elab.async false
set_option linter.all false
set_option maxRecDepth 100000
set_option maxHeartbeats 4000000
namespace Ca
open PySem L2
section
variable {c : Conf} {w k : Nat} {l : List OpS} {m : List POp} {o o' : OpS} {q q' : POp} {opn leader : Option Nat} {s : HS} {t : PSt} {wd : Str}
def NL1 (o : OpS) : Prop := ¬ o.stage = "look" ∨ ¬ o.kind = "read"
def NLx (k : Nat) (l : List OpS) : Prop := ∀ (j : Nat) o, ¬ j = k → l[j]? = some o → NL1 o
theorem NLx.seta (h : NLx k l) : NLx k (l.set k o') := fun j u n e => by
  rw [List.getElem?_set_ne (Ne.symm n)] at e
  exact h j u n e
theorem NLx.cf (h : NLx k l) : NLx k (l.map cf) := fun j u n e => by
  rw [List.getElem?_map] at e
  cases z : l[j]? with
  | none => rw [z] at e; cases e
  | some o =>
    rw [z] at e
    cases e
    exact h j o n z
theorem NLx.set (h : NLx k l) (n1 : NL1 o') : ∀ o ∈ l.set k o', NL1 o := fun o ho => by
  obtain ⟨j, hj, e⟩ := List.getElem_of_mem ho
  have e' : (l.set k o')[j]? = some o := by rw [List.getElem?_eq_getElem hj, e]
  by_cases hk : k = j
  · subst hk
    rw [List.length_set] at hj
    rw [List.getElem?_set_self hj] at e'
    cases e'
    exact n1
  · rw [List.getElem?_set_ne hk] at e'
    exact h j o (Ne.symm hk) e'
theorem NLx.all (h : NLx k l) (eo : l[k]? = some o) (n1 : NL1 o) : ∀ u ∈ l, NL1 u := fun u hu => by
  obtain ⟨j, hj, e⟩ := List.getElem_of_mem hu
  have e' : l[j]? = some u := by rw [List.getElem?_eq_getElem hj, e]
  by_cases hk : j = k
  · subst hk
    rw [eo] at e'
    cases e'
    exact n1
  · exact h j u hk e'
theorem nl_end {s1 : HS} {st : Str} (h : NLx k s1.ops) (n : ¬ st = "look") : ∀ u ∈ (endH s1 k o st).ops, NL1 u := by
  rw [end_ops]
  exact h.set (.inl n)
theorem nl_op (O : c.Ok) (h : NLx k s.ops) : ∀ u ∈ (doOp c s k o wd).ops, NL1 u := by
  unfold doOp
  split
  · exact nl_end h (by decide +kernel)
  split
  · rename_i kd
    unfold writeH
    rw [(wr4_f (c := c) (k := k)).2.2.2.2.1]
    have hk : (wo1 s o wd).kind = o.kind := by unfold wo1; split <;> rfl
    have h3 : NLx k (wr3 c (wr2 c (wr1 s k o wd) (wo1 s o wd) wd) (wo1 s o wd) wd).ops := by
      rw [wr3_ops.1, wr2_ops.1, wr1_ops.1]
      split
      · exact h.seta
      · exact h.cf
    refine h3.set (.inr fun z => ?_)
    have z2 : (wo1 s o wd).kind = "read" := by
      unfold o5 at z
      split at z <;> exact z
    rw [hk, kd] at z2
    exact absurd z2 (by decide +kernel)
  · unfold readH
    split
    · exact nl_end h.seta (by decide +kernel)
    split
    · exact h.set (.inl (by show ¬ ("waits" : Str) = "look"; decide +kernel))
    split
    · exact h.set (.inl (by show ¬ ("fetch" : Str) = "look"; decide +kernel))
    split
    · split
      · exact nl_end h.seta (by decide +kernel)
      · exact h.set (.inl (by show ¬ ("fill" : Str) = "look"; decide +kernel))
    split
    · exact nl_end h.seta (by decide +kernel)
    · split
      · exact nl_end (by rw [hold_ops]; exact h) (by decide +kernel)
      · exact nl_end h (by decide +kernel)
theorem Rel.stop (R : Rel c s t) (eo : s.ops[k]? = some o) (eq : t.ops[k]? = some q) (lv : live o) : Rel c (endH s k o "stopped") (stopP t k) := by
  have h := R.ops.op k o q eo eq
  have n0 := not_ended h lv
  have z : stopP t k = t.put k { q with stopped := true, left := some t.past.length } := by
    unfold stopP
    rw [eq]
  rw [z]
  obtain ⟨f1, f2, f3, f4, f5⟩ := end_f (k := k) (o := o) (s := s) (st := "stopped")
  have n : ∀ {P : Prop} {st : Str}, ¬ ("stopped" : Str) = st → ("stopped" : Str) = st → P := fun a b => absurd b a
  have rq : RelOp c t.wipes { o with stage := "stopped", over := some s.past.length } { q with stopped := true, left := some t.past.length } := by
    refine ⟨h.kind, h.ver, by show true = decide (("stopped" : Str) = "stopped"); decide +kernel, ⟨fun z => ?_, fun z => n (by decide +kernel) z⟩, fun _ => h.seen lv, fun _ y => absurd rfl y.2, fun _ b => n (by decide +kernel) b, fun _ b => n (by decide +kernel) b, fun _ b => n (by decide +kernel) b, fun _ b => n (by decide +kernel) b, fun y _ => absurd rfl y.2⟩
    have z2 : q.steps = [] := z
    rw [end_none z2] at n0
    cases n0
  refine ⟨by rw [f1]; exact R.db, by rw [f2]; exact R.rep, by rw [f3]; exact R.cache, by rw [f4]; exact R.mark, by rw [end_ops]; exact R.ops.set rq, ?_⟩
  rw [f5, if_neg (by decide +kernel)]
  exact R.lead.on eq n0 n0
theorem Lead.snoc (L : Lead c opn leader m) : Lead c opn leader (m ++ [q']) := by
  have e : ∀ l, l < m.length → endedAt (m ++ [q']) (some l) = endedAt m (some l) := fun l h => by
    show (match (m ++ [q'])[l]? with | some q => q.ended | none => true) = (match m[l]? with | some q => q.ended | none => true)
    rw [List.getElem?_append_left h]
  refine ⟨fun l h => ?_, fun h => ?_, L.fl, fun l h => by rw [List.length_append]; exact Nat.lt_of_lt_of_le (L.rg l h) (Nat.le_add_right _ _)⟩
  · obtain ⟨a, b⟩ := L.ld l h
    exact ⟨a, by rw [e l (L.rg l a)]; exact b⟩
  · cases leader with
    | none => rfl
    | some j =>
      rw [e j (L.rg j rfl)]
      exact L.ln h
theorem rel_new {n : Nat} (O : c.Ok) (h : wd = "look" ∨ wd = firstW c) : RelOp c w (newOp s wd) (newP c wd n) := by
  rcases h with e | e
  · subst e
    have z1 : newP c "look" n = ⟨"read", lookS c, n, none, false, none, none, 0⟩ := if_pos rfl
    have z2 : newOp s "look" = ⟨s.ops.length, "read", "look", none, s.past.length, none, 0, true, none⟩ := rfl
    have n : ∀ {P : Prop} {st : Str}, ¬ ("look" : Str) = st → ("look" : Str) = st → P := fun a b => absurd b a
    rw [z1, z2]
    refine ⟨rfl, rfl, by show false = decide (("look" : Str) = "stopped"); decide +kernel, ⟨fun z => ?_, fun z => n (by decide +kernel) z⟩, fun _ => Nat.zero_le _, fun a _ => absurd a (by show ¬ ("read" : Str) = "write"; decide +kernel), fun _ _ => ⟨rfl, rfl⟩, fun _ b => n (by decide +kernel) b, fun _ b => n (by decide +kernel) b, fun _ b => n (by decide +kernel) b, fun _ _ => rfl⟩
    have z : lookS c = [] := z
    unfold lookS at z
    split at z <;> cases z
  · obtain ⟨n1, n2, n3, n4, n5, n6, n7⟩ := fst_ne O
    have z1 : newP c wd n = ⟨"write", c.steps, n, none, false, none, none, 0⟩ := if_neg (by rw [e]; exact n1)
    have z2 : newOp s wd = ⟨s.ops.length, "write", wd, none, s.past.length, none, 0, true, none⟩ := by
      unfold newOp
      rw [if_neg (by rw [e]; exact n1)]
    rw [z1, z2]
    have kr : ∀ {P : Prop}, ("write" : Str) = "read" → P := fun z => absurd z (by decide +kernel)
    refine ⟨rfl, rfl, by show false = decide (wd = "stopped"); rw [e, decide_eq_false n6], ⟨fun z => ?_, fun z => absurd (e ▸ z) n5⟩, fun _ => Nat.zero_le _, fun _ _ => rfl, fun a _ => kr a, fun a _ => kr a, fun a _ => kr a, fun a _ => kr a, fun _ _ => rfl⟩
    have z : c.steps = [] := z
    have := O.slen.1
    rw [z] at this
    cases this
theorem Rel.new {n : Nat} (O : c.Ok) (R : Rel c s t) (h : wd = "look" ∨ wd = firstW c) : Rel c { s with ops := s.ops ++ [newOp s wd] } { t with ops := t.ops ++ [newP c wd n] } :=
  ⟨R.db, R.rep, R.cache, R.mark, R.ops.snoc (rel_new O h), R.lead.snoc⟩
theorem Rel.op (O : c.Ok) (W : Wf c s) (R : Rel c s t) (NL : NLx k s.ops) (eo : s.ops[k]? = some o) (eq : t.ops[k]? = some q) (lv : live o) (hn : nextOf s o = some wd) (ns : ¬ wd = "stop") :
    Rel c (doOp c s k o wd) (opP c (t.put k (tailP q)) k (tailP q) wd) := by
  unfold doOp
  rw [if_neg ns]
  by_cases kd : o.kind = "write"
  · rw [if_pos kd]
    exact R.write O W (NL.all eo (.inr (by rw [kd]; decide +kernel))) eo eq kd lv hn
  · rw [if_neg kd]
    exact R.read O W eo eq kd lv hn
end
end Ca

set_option Elab.async false
set_option linter.all false
set_option maxRecDepth 100000
set_option maxHeartbeats 4000000
namespace Ca
open PySem L2
section
variable {c : Conf} {w k : Nat} {o o' : OpS} {q q' : POp} {s : HS} {t : PSt} {wd : Str}
/-- the events of one operation -/
def bOf (s : HS) (o : OpS) : List Ev := if endedB o then [] else (match evBf s o with | some e => [e] | none => [])
def cOf (c : Conf) (o : OpS) : List Ev := if endedB o then [] else if c.stop = "stops" then [("stop", some (o.number : Int))] else []
def bL (s : HS) (l : List OpS) : List Ev := (l.filter fun o => !endedB o).filterMap (evBf s)
def cL (c : Conf) (l : List OpS) : List Ev := if c.stop = "stops" then ((l.filter fun o => !endedB o).map fun o => (("stop" : Str), some (o.number : Int))) else []
theorem bL_snoc {l : List OpS} : bL s (l ++ [o]) = bL s l ++ bOf s o := by
  unfold bL bOf
  rw [List.filter_append, List.filterMap_append]
  congr 1
  cases e : endedB o with
  | true => simp [e]
  | false =>
    cases h : evBf s o <;> simp [e, h]
theorem cL_snoc {l : List OpS} : cL c (l ++ [o]) = cL c l ++ cOf c o := by
  unfold cL cOf
  by_cases h : c.stop = "stops"
  · rw [if_pos h, if_pos h, List.filter_append, List.map_append]
    congr 1
    cases e : endedB o <;> simp [e, h]
  · rw [if_neg h, if_neg h]
    cases e : endedB o <;> simp [h]
theorem ended_lv : endedB o = false ↔ live o := by
  unfold endedB live
  by_cases h1 : o.stage = "ended" <;> by_cases h2 : o.stage = "stopped" <;> simp [h1, h2]
theorem under_lv (h : RelOp c w o q) : q.under = !endedB o := by
  unfold POp.under
  rw [h.stop]
  cases e : endedB o with
  | false =>
    have lv := ended_lv.mp e
    rw [decide_eq_false lv.2, not_ended h lv]
    rfl
  | true =>
    unfold endedB at e
    by_cases h2 : o.stage = "stopped"
    · rw [decide_eq_true h2]
      rfl
    · have h1 : o.stage = "ended" := by simpa [h2] using e
      rw [end_none (h.ne.mpr h1)]
      simp
/-- the next word -/
theorem next_word (O : c.Ok) (W : Wf c s) (R : Rel c s t) (NL : ∀ o ∈ s.ops, NL1 o) (eo : s.ops[k]? = some o) (eq : t.ops[k]? = some q) (lv : live o) : nextOf s o = if endedAt t.ops q.awaited then some (q.steps.getD 0 "") else none := by
  have p := W.ops k o eo
  have h := R.ops.op k o q eo eq
  have nl := NL o (List.mem_of_getElem? eo)
  by_cases hw : o.stage = "waits"
  · have wk := p.wait O hw
    obtain ⟨l, u, el, eu⟩ := wk
    have kr : o.kind = "read" := by
      rcases p.kd with z | z
      · exact z
      · obtain ⟨a, b, _⟩ := p.wr z lv.1 lv.2
        rw [hw] at b
        exact absurd b.symm (not_wait O a).1
    obtain ⟨hst, haw⟩ := h.rw kr hw
    have hlt : l < t.ops.length := by
      rw [← R.ops.len]
      exact (List.getElem?_eq_some_iff.mp eu).1
    obtain ⟨ql, eql⟩ : ∃ ql, t.ops[l]? = some ql := ⟨_, List.getElem?_eq_getElem hlt⟩
    have hl := R.ops.op l u ql eu eql
    have z1 : nextOf s o = if u.stage = "ended" then some ("take" : Str) else none := by
      unfold nextOf
      rw [if_pos hw, el]
      show (match s.ops[l]? with | some q => if q.stage = "ended" then some ("take" : Str) else none | none => none) = _
      rw [eu]
    rw [z1, haw, el, ended_at eql, hst]
    by_cases e : u.stage = "ended"
    · rw [if_pos e, end_none (hl.ne.mpr e)]
      rfl
    · have : ql.ended = false := by
        unfold POp.ended
        cases z : ql.steps with
        | nil => exact absurd (hl.ne.mp z) e
        | cons _ _ => rfl
      rw [if_neg e, this, if_neg (by decide)]
  · rw [h.aw lv hw]
    have z1 : nextOf s o = some o.stage := if_neg hw
    have z2 : endedAt t.ops none = true := rfl
    rw [z1, z2, if_pos rfl]
    congr 1
    rcases p.kd with kr | kw
    · rcases p.rd kr with y | y | ⟨y, _⟩ | ⟨y, _⟩ | y | y
      · rcases nl with z | z
        · exact absurd y z
        · exact absurd kr z
      · rw [(h.rf kr y).1, y]
        unfold fetchS
        split <;> rfl
      · rw [(h.rl kr y).1, y]
        rfl
      · exact absurd y hw
      · exact absurd y lv.1
      · exact absurd y lv.2
    · obtain ⟨a, b, _⟩ := p.wr kw lv.1 lv.2
      rw [h.wr kw lv, b, List.getD_eq_getElem?_getD, List.getD_eq_getElem?_getD, List.getElem?_drop]
      rfl
theorem evOp_perm (O : c.Ok) (W : Wf c s) (R : Rel c s t) (NL : ∀ o ∈ s.ops, NL1 o) (eo : s.ops[k]? = some o) (eq : t.ops[k]? = some q) : evOp c t k q = bOf s o ++ cOf c o := by
  have h := R.ops.op k o q eo eq
  have hu := under_lv h
  have num := (W.ops k o eo).num
  unfold evOp bOf cOf canStep evBf
  rw [hu, num]
  cases e : endedB o with
  | true => simp
  | false =>
    have lv := ended_lv.mp e
    rw [next_word O W R NL eo eq lv]
    cases z : endedAt t.ops q.awaited <;> by_cases st : c.stop = "stops" <;> simp [st]
theorem ops_perm (O : c.Ok) (W : Wf c s) (R : Rel c s t) (NL : ∀ o ∈ s.ops, NL1 o) : ∀ n, n ≤ s.ops.length → (opsEv c t n).Perm (bL s (s.ops.take n) ++ cL c (s.ops.take n))
  | 0, _ => by
    rw [List.take_zero]
    unfold cL
    split <;> exact List.Perm.refl _
  | n + 1, hn => by
    have ih := ops_perm O W R NL n (by omega)
    obtain ⟨o, eo⟩ : ∃ o, s.ops[n]? = some o := ⟨_, List.getElem?_eq_getElem (by omega)⟩
    obtain ⟨q, eq⟩ : ∃ q, t.ops[n]? = some q := ⟨_, List.getElem?_eq_getElem (by rw [← R.ops.len]; omega)⟩
    have z : opsEv c t (n + 1) = opsEv c t n ++ evOp c t n q := by
      show opsEv c t n ++ (match t.ops[n]? with | some o => evOp c t n o | none => []) = _
      rw [eq]
    rw [z, evOp_perm O W R NL eo eq, take_snoc eo, bL_snoc, cL_snoc]
    refine (ih.append_right _).trans ?_
    rw [List.append_assoc, List.append_assoc]
    refine List.Perm.append_left _ ?_
    rw [← List.append_assoc, ← List.append_assoc]
    exact List.Perm.append_right _ List.perm_append_comm
theorem ev_perm (O : c.Ok) (W : Wf c s) (R : Rel c s t) (NL : ∀ o ∈ s.ops, NL1 o) : (evP c t).Perm (evList c s) := by
  have h := ops_perm O W R NL s.ops.length (Nat.le_refl _)
  rw [List.take_length] at h
  have e1 : evPA c t = evA c s := by
    unfold evPA evA
    rw [R.ops.len]
  have e2 : (if copyP c t then [copyE] else []) = evE c s := by
    unfold copyP evE canCopy
    rw [R.rep, R.db]
    rfl
  have e3 : (if evictP c t then [evictE] else []) = evD c s := by
    unfold evictP evD canEvict
    rw [R.cache, R.mark]
    rfl
  have e4 : bL s s.ops = evB s := rfl
  have e5 : cL c s.ops = evC c s := rfl
  unfold evP evList
  rw [e1, e2, e3, ← R.ops.len]
  rw [e4, e5] at h
  refine (h.append_left _).trans ?_
  rw [List.append_assoc, List.append_assoc, List.append_assoc, List.append_assoc, List.append_assoc]
  refine List.Perm.append_left _ ?_
  -- E ++ (D ++ (B ++ C)) ~ B ++ (C ++ (D ++ E))
  have p1 : (evE c s ++ (evD c s ++ (evB s ++ evC c s))).Perm ((evB s ++ evC c s) ++ (evD c s ++ evE c s)) := by
    rw [← List.append_assoc]
    refine List.perm_append_comm.trans ?_
    exact List.Perm.append_left _ List.perm_append_comm
  refine p1.trans ?_
  rw [List.append_assoc]
end
end Ca

set_option Elab.async false
set_option linter.all false
set_option maxRecDepth 100000
set_option maxHeartbeats 4000000
namespace Ca
open PySem L2
section
variable {c : Conf} {w k : Nat} {o o' : OpS} {q q' : POp} {s : HS} {t : PSt} {wd : Str}
structure Sim (c : Conf) (s : HS) (t : PSt) : Prop where
  rel : Rel c s t
  nl : ∀ o ∈ s.ops, NL1 o
theorem NLx.of (h : ∀ o ∈ s.ops, NL1 o) : NLx k s.ops := fun j u _ e => h u (List.mem_of_getElem? e)
theorem step_pre (O : c.Ok) (W : Wf c s) (R : Rel c s t) (eo : s.ops[k]? = some o) (eq : t.ops[k]? = some q) (lv : live o) (hn : nextOf s o = some wd) : StepPre q wd := by
  have p := W.ops k o eo
  have h := R.ops.op k o q eo eq
  have n0 := not_ended h lv
  have ne : q.steps ≠ [] := fun z => by
    rw [end_none z] at n0
    cases n0
  have vis : o.version.isSome = true → ∃ v, q.version = some v := fun z => by
    obtain ⟨v, ev⟩ := Option.isSome_iff_exists.mp z
    exact ⟨v, h.ver.trans ev⟩
  rcases p.kd with kr | kw
  · rcases p.read O (by rw [kr]; decide +kernel) lv.1 lv.2 hn with ⟨e, _⟩ | ⟨e, _⟩ | ⟨e, _, hv⟩ | ⟨e, es, l, u, el, _⟩
    · subst e
      exact ⟨ne, fun z => absurd z (by decide +kernel), fun z => absurd z (by decide +kernel), fun n => absurd rfl n⟩
    · subst e
      exact ⟨ne, fun z => absurd z (by decide +kernel), fun z => absurd z (by decide +kernel), fun _ n => absurd rfl n⟩
    · subst e
      exact ⟨ne, fun _ => vis hv, fun z => absurd z (by decide +kernel), fun _ _ n => absurd rfl n⟩
    · subst e
      exact ⟨ne, fun z => absurd z (by decide +kernel), fun _ => ⟨l, (h.rw kr es).2.trans el⟩, fun _ _ _ n => absurd rfl n⟩
  · obtain ⟨a, b, _, hs⟩ := p.write O kw lv.1 lv.2 hn
    rcases step_word O a with e | e | e <;> rw [← b] at e <;> subst e
    · exact ⟨ne, fun z => absurd z (by decide +kernel), fun z => absurd z (by decide +kernel), fun _ _ _ _ _ n => absurd rfl n⟩
    · exact ⟨ne, fun z => absurd z (by decide +kernel), fun z => absurd z (by decide +kernel), fun _ _ _ _ n => absurd rfl n⟩
    · exact ⟨ne, fun z => absurd z (by decide +kernel), fun z => absurd z (by decide +kernel), fun _ _ _ _ _ _ => vis (hs rfl)⟩
theorem word_ne (O : c.Ok) (W : Wf c s) (eo : s.ops[k]? = some o) (lv : live o) (hn : nextOf s o = some wd) : ¬ wd = "copy" ∧ ¬ wd = "evict" ∧ ¬ wd = "stop" := by
  have p := W.ops k o eo
  rcases p.kd with kr | kw
  · rcases p.read O (by rw [kr]; decide +kernel) lv.1 lv.2 hn with ⟨e, _⟩ | ⟨e, _⟩ | ⟨e, _⟩ | ⟨e, _⟩ <;> rw [e] <;> decide +kernel
  · obtain ⟨a, b, _⟩ := p.write O kw lv.1 lv.2 hn
    rcases step_word O a with e | e | e <;> rw [b, e] <;> decide +kernel
theorem stepP_at (eq : (preP c t wd k).ops[k]? = some q) : stepP c t wd k = leaveP (opP c ((preP c t wd k).put k (tailP q)) k (tailP q) wd) k := by
  unfold stepP
  rw [eq]
theorem RelOp.left {x : Option Nat} (h : RelOp c w o q) : RelOp c w o { q with left := x } := ⟨h.kind, h.ver, h.stop, h.ne, h.seen, h.wr, h.rk, h.rf, h.rl, h.rw, h.aw⟩
theorem Rel.note {e : Ev} (R : Rel c s t) : Rel c s (noteP t e) := ⟨R.db, R.rep, R.cache, R.mark, R.ops, R.lead⟩
theorem Rel.leave (R : Rel c s t) : Rel c s (leaveP t k) := by
  unfold leaveP
  split
  · rename_i q eq
    split
    · rename_i en
      have hk : k < s.ops.length := by
        rw [R.ops.len]
        exact (List.getElem?_eq_some_iff.mp eq).1
      refine ⟨R.db, R.rep, R.cache, R.mark, ?_, ?_⟩
      · have z := R.ops.set (k := k) ((R.ops.op k _ q (List.getElem?_eq_getElem hk) eq).left (x := some t.past.length))
        rw [List.set_getElem_self] at z
        exact z
      · have e : ∀ l, endedAt (t.ops.set k { q with left := some t.past.length }) l = endedAt t.ops l := fun l => by
          cases l with
          | none => rfl
          | some j =>
            rw [ended_set eq]
            split
            · rename_i z
              rw [z, ended_at eq]
              rfl
            · rfl
        exact ⟨fun l h => by show _ ∧ endedAt (t.ops.set k _) _ = _; rw [e]; exact R.lead.ld l h, fun h => by show endedAt (t.ops.set k _) _ = _; rw [e]; exact R.lead.ln h, R.lead.fl, fun l h => by show l < (t.ops.set k _).length; rw [List.length_set]; exact R.lead.rg l h⟩
    · exact R
  · exact R
/-- one event on either side -/
structure Both (c : Conf) (s : HS) (t : PSt) (e : Ev) : Prop where
  sim : Sim c (doH c s e) (doP c t e)
  pre : DoPre c t e
theorem Rel.past {l : List Ev} (R : Rel c s t) : Rel c { s with past := l } t := ⟨R.db, R.rep, R.cache, R.mark, R.ops, R.lead⟩
theorem both_step (O : c.Ok) {s1 : HS} {t1 : PSt} (es1 : preH s wd k = s1) (et1 : preP c (noteP t (wd, some (k : Int))) wd k = t1) (W : Wf c s1) (R : Rel c s1 t1) (NL : NLx k s1.ops) (eo : s1.ops[k]? = some o) (lv : live o) (hn : nextOf s1 o = some wd) (hk : k ≤ t.ops.length) :
    Both c s t (wd, some (k : Int)) := by
  obtain ⟨n1, n2, n3⟩ := word_ne O W eo lv hn
  obtain ⟨q, eq⟩ : ∃ q, t1.ops[k]? = some q := ⟨_, List.getElem?_eq_getElem (by rw [← R.ops.len]; exact (List.getElem?_eq_some_iff.mp eo).1)⟩
  have zL : doE c s (wd, some (k : Int)) = doOp c s1 k o wd := by
    rw [doE_at (by rw [es1]; exact eo), es1]
  have zP : doP c t (wd, some (k : Int)) = leaveP (opP c (t1.put k (tailP q)) k (tailP q) wd) k := by
    unfold doP doG actP
    rw [if_neg n1, if_neg n2]
    show (if wd = "stop" then stopP (noteP t (wd, some (k : Int))) (0 + (k : Int).toNat) else stepP c (noteP t (wd, some (k : Int))) wd (0 + (k : Int).toNat)) = _
    rw [if_neg n3, Int.toNat_natCast, Nat.zero_add, stepP_at (by rw [et1]; exact eq), et1]
  refine ⟨⟨?_, ?_⟩, .step wd k n1 n2 n3 (by rw [Nat.zero_add]; exact hk) fun q' eq' => ?_⟩
  · unfold doH
    rw [zP]
    rw [zL]
    exact (R.op O W NL eo eq lv hn n3).leave.past
  · unfold doH
    show ∀ o ∈ (doE c s (wd, some (k : Int))).ops, NL1 o
    rw [zL]
    exact nl_op O NL
  · rw [Nat.zero_add, et1, eq] at eq'
    cases eq'
    exact step_pre O W R eo eq lv hn
theorem both (O : c.Ok) (W : Wf c s) (S : Sim c s t) {e : Ev} (he : e ∈ evList c s) : Both c s t e := by
  have R := S.rel
  cases ev_case W he with
  | evict z =>
    have zL : doE c s evictE = { s with cache := none, mark := 0 } := if_pos rfl
    have zP : doP c t evictE = { noteP t evictE with cache := none, mark := 0 } := by
      unfold doP doG actP
      rw [if_neg (by decide +kernel), if_pos (by decide +kernel)]
    refine ⟨⟨?_, ?_⟩, .evict⟩
    · unfold doH
      rw [zL, zP]
      exact ⟨R.db, R.rep, rfl, rfl, R.ops, R.lead⟩
    · unfold doH
      rw [zL]
      exact S.nl
  | copy z =>
    have zL : doE c s copyE = { s with rep := s.rep + 1 } := by
      unfold doE
      rw [if_neg (by decide +kernel), if_pos rfl]
    have zP : doP c t copyE = { noteP t copyE with rep := t.rep + 1 } := by
      unfold doP doG actP
      rw [if_pos (by decide +kernel)]
      rfl
    refine ⟨⟨?_, ?_⟩, .copy⟩
    · unfold doH
      rw [zL, zP]
      exact ⟨R.db, by show t.rep + 1 = s.rep + 1; rw [R.rep], R.cache, R.mark, R.ops, R.lead⟩
    · unfold doH
      rw [zL]
      exact S.nl
  | new w h =>
    have e1 : s.ops.length = t.ops.length := R.ops.len
    have zp : preP c (noteP t (w, some (s.ops.length : Int))) w s.ops.length = { noteP t (w, some (s.ops.length : Int)) with ops := t.ops ++ [newP c w (t.past ++ [(w, some (s.ops.length : Int))]).length] } := if_pos e1
    obtain ⟨a, b, d⟩ := new_next (s := s) (s' := { s with ops := s.ops ++ [newOp s w] }) O h
    have WN := W.pre O h
    rw [pre_new] at WN
    refine both_step O pre_new zp WN (R.note.new O h) (fun j u n e' => ?_) ?_ ⟨a, b⟩ d (Nat.le_of_eq e1)
    · have e2 : (s.ops ++ [newOp s w])[j]? = some u := e'
      have hj : j < s.ops.length := by
        have := (List.getElem?_eq_some_iff.mp e2).1
        rw [List.length_append] at this
        have : j < s.ops.length + 1 := this
        omega
      rw [List.getElem?_append_left hj] at e2
      exact S.nl u (List.mem_of_getElem? e2)
    · show (s.ops ++ [newOp s w])[s.ops.length]? = some (newOp s w)
      rw [List.getElem?_append_right (Nat.le_refl _), Nat.sub_self]
      rfl
  | step k o w eo h1 h2 h3 =>
    have hlt := (List.getElem?_eq_some_iff.mp eo).1
    have zp : preP c (noteP t (w, some (k : Int))) w k = noteP t (w, some (k : Int)) := if_neg (by show ¬ k = t.ops.length; rw [← R.ops.len]; omega)
    exact both_step O (pre_old eo) zp W R.note (NLx.of S.nl) eo ⟨h1, h2⟩ h3 (by rw [← R.ops.len]; omega)
  | stop k o eo h1 h2 h3 =>
    have hlt := (List.getElem?_eq_some_iff.mp eo).1
    obtain ⟨q, eq⟩ : ∃ q, t.ops[k]? = some q := ⟨_, List.getElem?_eq_getElem (by rw [← R.ops.len]; exact hlt)⟩
    have zL : doE c s ("stop", some (k : Int)) = endH s k o "stopped" := by
      rw [doE_at (by rw [pre_old eo]; exact eo), pre_old eo]
      exact if_pos rfl
    have zP : doP c t ("stop", some (k : Int)) = stopP (noteP t ("stop", some (k : Int))) k := by
      unfold doP doG actP
      rw [if_neg (by show ¬ ("stop" : Str) = "copy"; decide +kernel), if_neg (by show ¬ ("stop" : Str) = "evict"; decide +kernel)]
      show (if ("stop" : Str) = "stop" then stopP (noteP t ("stop", some (k : Int))) (0 + (k : Int).toNat) else stepP c (noteP t ("stop", some (k : Int))) "stop" (0 + (k : Int).toNat)) = _
      rw [if_pos rfl, Int.toNat_natCast, Nat.zero_add]
    refine ⟨⟨?_, ?_⟩, .stop k (by rw [Nat.zero_add, ← R.ops.len]; exact hlt)⟩
    · unfold doH
      rw [zL, zP]
      exact (R.note.stop eo eq ⟨h1, h2⟩).past
    · unfold doH
      show ∀ o ∈ (doE c s ("stop", some (k : Int))).ops, NL1 o
      rw [zL]
      exact nl_end (NLx.of S.nl) (by decide +kernel)
theorem sim_begin : Sim c HS.begin PSt.begin := by
  refine ⟨⟨rfl, rfl, rfl, rfl, ⟨rfl, fun k o q e => by simp [HS.begin] at e⟩, ⟨fun l e => by simp [HS.begin] at e, fun _ => rfl, fun _ => rfl, fun l e => by simp [PSt.begin] at e⟩⟩, fun o h => by simp [HS.begin] at h⟩
theorem good_of (O : c.Ok) (W : Wf c s) (S : Sim c s t) : GoodP c t := fun e he => (do_ok W O ((ev_perm O W S.rel S.nl).mem_iff.mp he)).str
/-- all of it -/
theorem reach_sim (O : c.Ok) (r : Reach c s) : Sim c s (runS c s.past) ∧ RunP c s.past := by
  induction r with
  | begin => exact ⟨sim_begin, ⟨fun i e h => by simp [HS.begin] at h⟩⟩
  | step r h ih =>
    rename_i s e
    obtain ⟨S, P⟩ := ih
    have W := (r.wf O).1
    obtain ⟨B1, B2⟩ := both O W S h
    have ep : (doH c s e).past = s.past ++ [e] := rfl
    have er : runS c (s.past ++ [e]) = doP c (runS c s.past) e := by
      unfold runS
      rw [List.foldl_append]
      rfl
    rw [ep, er]
    refine ⟨B1, ⟨fun i f hf => ?_⟩⟩
    by_cases hi : i < s.past.length
    · rw [List.getElem?_append_left hi] at hf
      rw [List.take_append_of_le_length (by omega)]
      exact P.step i f hf
    · have hl := (List.getElem?_eq_some_iff.mp hf).1
      rw [List.length_append] at hl
      have hl : i < s.past.length + 1 := hl
      have e0 : i = s.past.length := by omega
      subst e0
      rw [List.getElem?_append_right (Nat.le_refl _), Nat.sub_self] at hf
      cases hf
      rw [List.take_append_of_le_length (Nat.le_refl _), List.take_length]
      exact ⟨good_of O W S, (ev_perm O W S.rel S.nl).mem_iff.mpr h, B2⟩
theorem stage_eq (O : c.Ok) (W : Wf c s) (S : Sim c s t) (eo : s.ops[k]? = some o) (eq : t.ops[k]? = some q) : q.stage = o.stage := by
  have p := W.ops k o eo
  have h := S.rel.ops.op k o q eo eq
  have nl := S.nl o (List.mem_of_getElem? eo)
  unfold POp.stage
  rw [h.stop]
  by_cases h2 : o.stage = "stopped"
  · rw [decide_eq_true h2, if_pos rfl, h2]
  rw [decide_eq_false h2, if_neg (by decide)]
  by_cases h1 : o.stage = "ended"
  · rw [end_none (h.ne.mpr h1), h1]
    rfl
  have lv : live o := ⟨h1, h2⟩
  rw [not_ended h lv, if_neg (by decide)]
  by_cases hw : o.stage = "waits"
  · obtain ⟨l, u, el, eu⟩ := p.wait O hw
    have kr : o.kind = "read" := by
      rcases p.kd with z | z
      · exact z
      · obtain ⟨a, b, _⟩ := p.wr z lv.1 lv.2
        rw [hw] at b
        exact absurd b.symm (not_wait O a).1
    rw [(h.rw kr hw).2, el, hw]
    rfl
  · rw [h.aw lv hw]
    show q.steps.getD 0 "" = o.stage
    rcases p.kd with kr | kw
    · rcases p.rd kr with y | y | ⟨y, _⟩ | ⟨y, _⟩ | y | y
      · rcases nl with z | z
        · exact absurd y z
        · exact absurd kr z
      · rw [(h.rf kr y).1, y]
        unfold fetchS
        split <;> rfl
      · rw [(h.rl kr y).1, y]
        rfl
      · exact absurd y hw
      · exact absurd y lv.1
      · exact absurd y lv.2
    · obtain ⟨a, b, _⟩ := p.wr kw lv.1 lv.2
      rw [h.wr kw lv, b, List.getD_eq_getElem?_getD, List.getD_eq_getElem?_getD, List.getElem?_drop]
      rfl
end
end Ca

set_option Elab.async false
set_option linter.all false
set_option maxRecDepth 100000
set_option maxHeartbeats 4000000
namespace Ca
open PySem L2
/-! ### recipes: what a play does word by word -/
/-- what a run leads to -/
structure Go (c : Conf) (t : PSt) : Prop where
  ch : ChainH c t.past
  eq : runS c t.past = t
section
variable {c : Conf} {t : PSt} {e : Ev}
theorem Go.begin : Go c PSt.begin := ⟨⟨fun i e h => by simp [PSt.begin] at h⟩, rfl⟩
theorem Go.sim (O : c.Ok) (G : Go c t) : ∃ s, Reach c s ∧ runH c t.past = s ∧ s.past = t.past ∧ Wf c s ∧ Sim c s t := by
  obtain ⟨r, p⟩ := G.ch.all
  have S := (reach_sim O r).1
  rw [p, G.eq] at S
  exact ⟨_, r, rfl, p, (r.wf O).1, S⟩
theorem Go.good (O : c.Ok) (G : Go c t) : GoodP c t := by
  obtain ⟨s, r, _, p, W, S⟩ := G.sim O
  exact good_of O W S
theorem Go.run (O : c.Ok) (G : Go c t) : RunP c t.past := by
  obtain ⟨r, p⟩ := G.ch.all
  have z := (reach_sim O r).2
  rw [p] at z
  exact z
theorem ChainH.snoc {es : List Ev} (C : ChainH c es) (h : e ∈ evList c (runH c es)) : ChainH c (es ++ [e]) := ⟨fun i f hf => by
  by_cases hi : i < es.length
  · rw [List.getElem?_append_left hi] at hf
    rw [List.take_append_of_le_length (by omega)]
    exact C.step i f hf
  · have hl := (List.getElem?_eq_some_iff.mp hf).1
    rw [List.length_append, List.length_singleton] at hl
    have e0 : i = es.length := by omega
    subst e0
    rw [List.getElem?_append_right (Nat.le_refl _), Nat.sub_self] at hf
    cases hf
    rw [List.take_append_of_le_length (Nat.le_refl _), List.take_length]
    exact h⟩
theorem Go.step (O : c.Ok) (G : Go c t) (h : e ∈ evP c t) : DoPre c t e ∧ Go c (doP c t e) := by
  obtain ⟨s, r, er, p, W, S⟩ := G.sim O
  have he := (ev_perm O W S.rel S.nl).mem_iff.mp h
  refine ⟨(both O W S he).pre, ⟨?_, ?_⟩⟩
  · rw [doP_past]
    exact G.ch.snoc (by rw [er]; exact he)
  · rw [doP_past]
    unfold runS
    rw [List.foldl_append]
    show doP c (runS c t.past) e = _
    rw [G.eq]
theorem Go.ops_le (G : Go c t) : t.ops.length ≤ t.past.length := by
  have z := runS_len (c := c) (es := t.past) t.past.length
  rw [List.take_length, G.eq] at z
  exact z
/-! events that can come -/
theorem new_evP {w : Str} (h : w = "look" ∨ w = firstW c) : (w, some (t.ops.length : Int)) ∈ evP c t := by
  unfold evP
  refine List.mem_append_left _ (List.mem_append_left _ (List.mem_append_left _ ?_))
  unfold evPA
  rcases h with z | z
  · rw [z]; exact List.mem_cons_self ..
  · rw [z]; exact List.mem_cons_of_mem _ (List.mem_cons_self ..)
theorem opsEv_mem {k : Nat} {o : POp} (eo : t.ops[k]? = some o) (h : e ∈ evOp c t k o) : ∀ n, k < n → e ∈ opsEv c t n
  | 0, z => by omega
  | n + 1, z => by
    unfold opsEv
    by_cases hn : k < n
    · exact List.mem_append_left _ (opsEv_mem eo h n hn)
    · have : k = n := by omega
      subst this
      rw [eo]
      exact List.mem_append_right _ h
theorem step_evP {k : Nat} {o : POp} (eo : t.ops[k]? = some o) (h : canStep t.ops o = true) : (o.steps.getD 0 "", some (k : Int)) ∈ evP c t := by
  unfold evP
  refine List.mem_append_right _ (opsEv_mem eo ?_ _ (List.getElem?_eq_some_iff.mp eo).1)
  unfold evOp
  rw [if_pos h]
  exact List.mem_append_left _ (List.mem_cons_self ..)
end
/-! an operation does its steps until it can do none -/
def carryT (c : Conf) (k : Nat) : Nat → PSt → Option PSt
  | 0, _ => none
  | n + 1, t => match t.ops[k]? with
    | some o => if canStep t.ops o then carryT c k n (doP c t (o.steps.getD 0 "", some (k : Int))) else some t
    | none => none
def startT (c : Conf) (kd : Str) (k : Nat) (t : PSt) : PSt := if k = t.ops.length then doP c t ((if kd = "read" then "look" else firstW c), some (k : Int)) else t
def carryA (c : Conf) (kd : Str) (k : Nat) (t : PSt) : Option PSt := carryT c k 6 (startT c kd k t)
/-! the numbers of the names -/
abbrev Nms := List (List Key × Nat)
def nmV (nm : Nms) : List (List Key × V) := nm.map fun p => (p.1, V.int (p.2 : Int))
def nget (nm : Nms) (k : List Key) : Option Nat := (nm.find? fun p => decide (p.1 = k)).map (·.2)
def nput (nm : Nms) (k : List Key) (n : Nat) : Nms := if (nm.any fun p => decide (p.1 = k)) = true then nm.map (fun p => if p.1 = k then (p.1, n) else p) else nm ++ [(k, n)]
theorem nget_v (nm : Nms) (k : List Key) : valV (nmV nm) k = (nget nm k).map fun n : Nat => V.int (n : Int) := by
  unfold valV nmV nget
  rw [List.find?_map, Option.map_map, Option.map_map]
  rfl
theorem nput_v (nm : Nms) (k : List Key) (n : Nat) : putK (nmV nm) k (V.int (n : Int)) = nmV (nput nm k n) := by
  unfold putK nmV nput
  rw [List.any_map]
  show (if (nm.any fun p => decide (p.1 = k)) = true then _ else _) = _
  split
  · rw [List.map_map, List.map_map]
    refine List.map_congr_left fun p _ => ?_
    show (if p.1 = k then (p.1, V.int (n : Int)) else (p.1, V.int (p.2 : Int))) = _
    simp only [Function.comp]
    split <;> rfl
  · rw [List.map_append]
    rfl
theorem nput_len (nm : Nms) (k : List Key) (n : Nat) : (nput nm k n).length ≤ nm.length + 1 := by
  unfold nput
  split
  · rw [List.length_map]; omega
  · rw [List.length_append]; exact Nat.le_refl _
/-! one word of a recipe -/
def evT (w : Str) (n : Nat) : Ev := if w = "copy" ∨ w = "evict" then (w, none) else (w, some (n : Int))
def comeT (c : Conf) (t : PSt) (e : Ev) : Bool := (evP c t).any fun f => decide (f = e)
def numT (t : PSt) (nm : Nms) (k : List Key) : Nat := (nget nm k).getD t.ops.length
def wordT (c : Conf) (w : Str) (n : Nat) (t : PSt) : Option PSt := if w = "read" ∨ w = "write" then carryA c w n t else some (if comeT c t (evT w n) then doP c t (evT w n) else t)
def followT (c : Conf) (w : Str) (k : List Key) (st : PSt × Nms) : Option (PSt × Nms) :=
  (wordT c w (numT st.1 st.2 k) st.1).map fun t => (t, if numT st.1 st.2 k < t.ops.length then nput st.2 k (numT st.1 st.2 k) else st.2)
/-! what carrying out keeps -/
section
variable {c : Conf}
theorem Go.carryT (O : c.Ok) {k : Nat} : ∀ (n : Nat) (t t' : PSt), Go c t → Ca.carryT c k n t = some t' → Go c t' ∧ t'.past.length ≤ t.past.length + n
  | 0, t, t', _, h => by cases h
  | n + 1, t, t', G, h => by
    unfold Ca.carryT at h
    split at h
    · rename_i o eo
      split at h
      · rename_i hc
        obtain ⟨G', l⟩ := Go.carryT O n _ _ (G.step O (step_evP eo hc)).2 h
        rw [doP_past, List.length_append, List.length_singleton] at l
        exact ⟨G', by omega⟩
      · cases h
        exact ⟨G, by omega⟩
    · cases h
theorem Go.start (O : c.Ok) {k : Nat} {kd : Str} {t : PSt} (G : Go c t) : Go c (startT c kd k t) ∧ (startT c kd k t).past.length ≤ t.past.length + 1 := by
  unfold startT
  split
  · rename_i e
    refine ⟨(G.step O ?_).2, by rw [doP_past, List.length_append]; exact Nat.le_refl _⟩
    rw [e]
    exact new_evP (by split <;> simp)
  · exact ⟨G, by omega⟩
theorem Go.carryA (O : c.Ok) {k : Nat} {kd : Str} {t t' : PSt} (G : Go c t) (h : Ca.carryA c kd k t = some t') : Go c t' ∧ t'.past.length ≤ t.past.length + 7 := by
  obtain ⟨G1, l1⟩ := G.start O (k := k) (kd := kd)
  obtain ⟨G2, l2⟩ := G1.carryT O _ _ _ h
  exact ⟨G2, by omega⟩
theorem comeT_mem {t : PSt} {e : Ev} (h : comeT c t e = true) : e ∈ evP c t := by
  unfold comeT at h
  rw [List.any_eq_true] at h
  obtain ⟨f, hf, z⟩ := h
  rw [← of_decide_eq_true z]
  exact hf
theorem Go.wordT (O : c.Ok) {k : Nat} {w : Str} {t t' : PSt} (G : Go c t) (h : Ca.wordT c w k t = some t') : Go c t' ∧ t'.past.length ≤ t.past.length + 7 := by
  unfold Ca.wordT at h
  split at h
  · exact G.carryA O h
  · cases h
    split
    · rename_i hc
      refine ⟨(G.step O (comeT_mem hc)).2, ?_⟩
      rw [doP_past, List.length_append, List.length_singleton]
      omega
    · exact ⟨G, by omega⟩
end
end Ca

set_option Elab.async false
set_option linter.all false
set_option maxRecDepth 100000
set_option maxHeartbeats 4000000
namespace Ca
open PySem L2
/-! ### a recipe can always be followed -/
section
variable {c : Conf} {t : PSt} {k : Nat} {o : POp} {w : Str}
def restL : List Str := ["fetch", "fill", "take", "store", "drop", "set"]
/-- an operation behind its first step -/
def StepsOk (s : List Str) : Prop := (∀ w ∈ s, w ∈ restL) ∧ s.length ≤ 2
def OpsOk (t : PSt) : Prop := ∀ o ∈ t.ops, StepsOk o.steps
theorem StepsOk.drop {s : List Str} (h : StepsOk s) : StepsOk (s.drop 1) := ⟨fun w hw => h.1 w (List.mem_of_mem_drop hw), by rw [List.length_drop]; have := h.2; omega⟩
theorem StepsOk.nil : StepsOk [] := ⟨fun w hw => (by cases hw), by decide⟩
theorem StepsOk.take : StepsOk (["take"] : List Str) := ⟨by decide +kernel, by decide⟩
theorem set_some {α : Type} {l : List α} {a : α} {k : Nat} (e : l[k]? = some a) : l.set k a = l := by
  obtain ⟨h, e⟩ := List.getElem?_eq_some_iff.mp e
  rw [← e, List.set_getElem_self]
theorem markP_ops {v : Nat} : (markP c t v).ops = t.ops := by
  unfold markP
  split <;> rfl
theorem holdP_ops {v : Nat} : (holdP c t v).ops = t.ops := by
  unfold holdP
  rw [markP_ops]
abbrev StepsTo (s s' : List Str) : Prop := s' = s ∨ s' = [] ∨ s' = (["take"] : List Str)
theorem opP_ops (e : t.ops[k]? = some o) : ∃ o' : POp, StepsTo o.steps o'.steps ∧ (¬ w = "look" → o'.steps = o.steps) ∧ (opP c t k o w).ops = t.ops.set k o' := by
  have same : ∀ t' : PSt, t'.ops = t.ops → ∃ o' : POp, StepsTo o.steps o'.steps ∧ (¬ w = "look" → o'.steps = o.steps) ∧ t'.ops = t.ops.set k o' := fun t' h => ⟨o, .inl rfl, fun _ => rfl, by rw [h, set_some e]⟩
  unfold opP
  split
  · rename_i hw
    have no : ∀ {A : Prop}, (¬ w = "look" → A) := fun z => absurd hw z
    unfold lookP
    split
    · refine ⟨_, ?_, no, rfl⟩
      exact .inr (.inl rfl)
    · split
      · unfold shareP
        split
        · refine ⟨_, ?_, no, rfl⟩
          exact .inl rfl
        · refine ⟨_, ?_, no, List.set_set _⟩
          exact .inr (.inr rfl)
      · refine ⟨_, ?_, no, rfl⟩
        exact .inl rfl
  · split
    · refine ⟨_, ?_, ?_, rfl⟩ <;> first | exact .inl rfl | exact fun _ => rfl
    · split
      · unfold fillP
        split
        · split
          · exact same _ holdP_ops
          · exact same _ rfl
        · exact same _ rfl
      · split
        · refine ⟨_, ?_, ?_, rfl⟩ <;> first | exact .inl rfl | exact fun _ => rfl
        · split
          · refine ⟨_, ?_, ?_, rfl⟩ <;> first | exact .inl rfl | exact fun _ => rfl
          · split
            · unfold dropP
              split
              · exact same _ markP_ops
              · exact same _ rfl
            · unfold putP
              split
              · split
                · exact same _ holdP_ops
                · exact same _ rfl
              · exact same _ rfl
theorem leaveP_ops (e : t.ops[k]? = some o) : ∃ o' : POp, o'.steps = o.steps ∧ (leaveP t k).ops = t.ops.set k o' := by
  unfold leaveP
  rw [e]
  dsimp only
  split
  · refine ⟨_, ?_, rfl⟩
    rfl
  · exact ⟨o, rfl, (set_some e).symm⟩
theorem stepP_ops (e : (preP c t w k).ops[k]? = some o) : ∃ o' : POp, StepsTo (o.steps.drop 1) o'.steps ∧ (¬ w = "look" → o'.steps = o.steps.drop 1) ∧ (stepP c t w k).ops = (preP c t w k).ops.set k o' := by
  have hk := (List.getElem?_eq_some_iff.mp e).1
  have e1 : ((preP c t w k).put k (tailP o)).ops[k]? = some (tailP o) := List.getElem?_set_self hk
  obtain ⟨o1, s1, n1, z1⟩ := opP_ops (c := c) (w := w) e1
  have e2 : (opP c ((preP c t w k).put k (tailP o)) k (tailP o) w).ops[k]? = some o1 := by
    rw [z1]
    exact List.getElem?_set_self (by show k < (List.set _ _ _).length; rw [List.length_set]; exact hk)
  obtain ⟨o2, s2, z2⟩ := leaveP_ops e2
  refine ⟨o2, by rw [s2]; exact s1, fun n => by rw [s2]; exact n1 n, ?_⟩
  unfold stepP
  rw [e]
  show (leaveP _ k).ops = _
  rw [z2, z1]
  show List.set (List.set (List.set _ _ _) _ _) _ _ = _
  rw [List.set_set, List.set_set]
theorem steps_rest (O : c.Ok) : StepsOk (c.steps.drop 1) := by
  have hp := O.p
  unfold Conf.steps
  have z : ∀ p ∈ pathsL, (∀ w ∈ (Txt.split p " ").drop 1, w ∈ restL) ∧ ((Txt.split p " ").drop 1).length ≤ 2 := by decide +kernel
  exact z _ hp
theorem new_rest {n : Nat} (O : c.Ok) : StepsOk ((newP c w n).steps.drop 1) := by
  unfold newP
  split
  · show StepsOk (List.drop 1 (if _ then _ else _))
    split
    · exact ⟨by decide +kernel, by decide +kernel⟩
    · exact ⟨by decide +kernel, by decide +kernel⟩
  · exact steps_rest O
theorem StepsTo.ok {s s' : List Str} (h : StepsOk s) (z : StepsTo s s') : StepsOk s' := by
  rcases z with z | z | z <;> rw [z]
  · exact h
  · exact .nil
  · exact .take
theorem set_all {α : Type} {P : α → Prop} {l : List α} {k : Nat} {a : α} (h : ∀ x ∈ l, P x) (ha : P a) : ∀ x ∈ l.set k a, P x := fun x hx => by
  rcases List.mem_or_eq_of_mem_set hx with z | z
  · exact h x z
  · rw [z]; exact ha
theorem stepP_ok (O : c.Ok) (h : OpsOk t) : OpsOk (stepP c t w k) ∧ t.ops.length ≤ (stepP c t w k).ops.length ∧ (k = t.ops.length → (stepP c t w k).ops.length = k + 1) := by
  cases e : (preP c t w k).ops[k]? with
  | none =>
    have hk : ¬ k = t.ops.length := fun z => by
      unfold preP at e
      rw [if_pos z] at e
      rw [z, List.getElem?_append_right (Nat.le_refl _), Nat.sub_self] at e
      cases e
    have e0 : stepP c t w k = preP c t w k := by
      unfold stepP
      rw [e]
    have e1 : preP c t w k = t := if_neg hk
    rw [e0, e1]
    exact ⟨h, Nat.le_refl _, fun z => absurd z hk⟩
  | some o =>
    obtain ⟨o', s, _, z⟩ := stepP_ops e
    unfold OpsOk
    rw [z, List.length_set]
    by_cases hk : k = t.ops.length
    · have ep : (preP c t w k).ops = t.ops ++ [newP c w t.past.length] := by
        unfold preP
        rw [if_pos hk]
      have eo : o = newP c w t.past.length := by
        rw [ep, hk, List.getElem?_append_right (Nat.le_refl _), Nat.sub_self] at e
        cases e
        rfl
      have so : StepsOk o'.steps := by
        refine StepsTo.ok ?_ s
        rw [eo]
        exact new_rest O
      rw [ep]
      refine ⟨fun x hx => ?_, by rw [List.length_append]; exact Nat.le_add_right _ _, fun _ => by rw [List.length_append, hk]; rfl⟩
      rw [hk, List.set_append_right _ _ (Nat.le_refl _), Nat.sub_self] at hx
      rcases List.mem_append.mp hx with y | y
      · exact h x y
      · have : x = o' := by simpa using y
        rw [this]
        exact so
    · have ep : preP c t w k = t := if_neg hk
      rw [ep] at e ⊢
      refine ⟨set_all h (StepsTo.ok (h o (List.mem_of_getElem? e)).drop s), Nat.le_refl _, fun z => absurd z hk⟩
theorem stopP_ok (h : OpsOk t) : OpsOk (stopP t k) ∧ t.ops.length ≤ (stopP t k).ops.length := by
  unfold stopP
  split
  · rename_i o e
    refine ⟨set_all h ?_, by show _ ≤ (List.set _ _ _).length; rw [List.length_set]; exact Nat.le_refl _⟩
    exact h o (List.mem_of_getElem? e)
  · exact ⟨h, Nat.le_refl _⟩
theorem doP_ok {e : Ev} (O : c.Ok) (h : OpsOk t) : OpsOk (doP c t e) ∧ t.ops.length ≤ (doP c t e).ops.length := by
  unfold doP doG actP
  split
  · exact ⟨h, Nat.le_refl _⟩
  · split
    · exact ⟨h, Nat.le_refl _⟩
    · split
      · exact ⟨h, Nat.le_refl _⟩
      · split
        · exact stopP_ok (t := noteP t e) h
        · obtain ⟨a, b, _⟩ := stepP_ok (t := noteP t e) (w := e.1) (k := 0 + Int.toNat _) O h
          exact ⟨a, b⟩
theorem doP_step (n1 : ¬ w = "copy") (n2 : ¬ w = "evict") (n3 : ¬ w = "stop") : doP c t (w, some (k : Int)) = stepP c (noteP t (w, some (k : Int))) w k := by
  unfold doP doG actP
  rw [if_neg n1, if_neg n2]
  show (if w = "stop" then stopP (noteP t (w, some (k : Int))) (0 + (k : Int).toNat) else stepP c (noteP t (w, some (k : Int))) w (0 + (k : Int).toNat)) = _
  rw [if_neg n3, Int.toNat_natCast, Nat.zero_add]
theorem rest_ne (h : w ∈ restL) : ¬ w = "copy" ∧ ¬ w = "evict" ∧ ¬ w = "stop" ∧ ¬ w = "look" := (by decide +kernel : ∀ w ∈ restL, ¬ w = ("copy" : Str) ∧ ¬ w = ("evict" : Str) ∧ ¬ w = ("stop" : Str) ∧ ¬ w = ("look" : Str)) w h
theorem first_rest (O : c.Ok) : firstW c ∈ restL := by
  have z : ∀ p ∈ pathsL, (Txt.split p " ").getD 0 "" ∈ restL := by decide +kernel
  have := z _ O.p
  exact this
/-- an event that can come: its word and its number -/
def wordsT : List Str := "look" :: "stop" :: restL
def SmallEv (n : Nat) (e : Ev) : Prop := e = copyE ∨ e = evictE ∨ ∃ (x : Str) (k : Nat), x ∈ wordsT ∧ k ≤ n ∧ e = (x, some (k : Int))
theorem ev_small {c : Conf} {t : PSt} {e : Ev} (O : c.Ok) (h : OpsOk t) (he : e ∈ evP c t) : SmallEv t.ops.length e := by
  have lk : ∀ {w : Str} {k : Nat}, (w = "look" ∨ w = "stop" ∨ w ∈ restL) → k ≤ t.ops.length → SmallEv t.ops.length (w, some (k : Int)) := fun {w k} hw hk => .inr (.inr ⟨w, k, by unfold wordsT; simpa using hw, hk, rfl⟩)
  unfold evP at he
  rcases List.mem_append.mp he with y | y
  · rcases List.mem_append.mp y with y | y
    · rcases List.mem_append.mp y with y | y
      · unfold evPA at y
        rcases List.mem_cons.mp y with rfl | y
        · exact lk (.inl rfl) (Nat.le_refl _)
        · have := List.mem_singleton.mp y
          subst this
          exact lk (.inr (.inr (first_rest O))) (Nat.le_refl _)
      · split at y
        · rename_i hv
          have := List.mem_singleton.mp y
          subst this
          exact .inl rfl
        · cases y
    · split at y
      · have := List.mem_singleton.mp y
        subst this
        exact .inr (.inl rfl)
      · cases y
  · have all : ∀ n, n ≤ t.ops.length → e ∈ opsEv c t n → SmallEv t.ops.length e := fun n => by
      induction n with
      | zero => intro _ z; cases z
      | succ n ih =>
        intro hn z
        unfold opsEv at z
        rcases List.mem_append.mp z with x | x
        · exact ih (by omega) x
        · split at x
          · rename_i o eo
            unfold evOp at x
            rcases List.mem_append.mp x with v | v
            · split at v
              · rename_i hc
                have := List.mem_singleton.mp v
                subst this
                have so := h o (List.mem_of_getElem? eo)
                have hw : o.steps.getD 0 "" ∈ restL := by
                  cases es : o.steps with
                  | nil =>
                    unfold canStep POp.under POp.ended at hc
                    rw [es] at hc
                    simp at hc
                  | cons w r => exact so.1 w (by rw [es]; exact List.mem_cons_self ..)
                exact lk (.inr (.inr hw)) (by omega)
              · cases v
            · split at v
              · have := List.mem_singleton.mp v
                subst this
                exact lk (.inr (.inl rfl)) (by omega)
              · cases v
          · cases x
    exact all _ (Nat.le_refl _) y
end
end Ca

set_option Elab.async false
set_option linter.all false
set_option maxRecDepth 100000
set_option maxHeartbeats 4000000
namespace L2
open PySem
/-- a dict made over a list that stays -/
theorem dc_list {K : PySem.W.Frag} {a : Addr} {xs : List V} {g : TG} {tt : TT} {tk tv : TE} {vs : List Nat} {σ : St} {H1 : Hp} {D : Addr} {Qd : Hp → Prop} (Pv : Nat → Hp → Prop) (h0 : Pv 0 (upd H1 D (.dK []))) (hl : ∀ i H, i ≤ xs.length → Pv i H → SqL K H a xs)
    (hs : ∀ i x H, xs[i]? = some x → Pv i H → g x (wipe σ vs) H fun σ2 H2 => wipe σ2 vs = wipe σ vs ∧ tt σ2 H2 fun b H3 =>
      if b = true then tk σ2 H3 fun y H4 => tv σ2 H4 fun z H5 => ∃ kvs k, y = kV k ∧ H5 D = some (.dK kvs) ∧ kvs.length < sizeLine ∧ Pv (i + 1) (upd H5 D (.dK (putK kvs k z))) else Pv (i + 1) H3) (hd : ∀ H, Pv xs.length H → Qd H) :
    ∃ W : Nat → Nat → Hp → Prop, (∃ m, W 0 m (upd H1 D (.dK []))) ∧ ∀ i m H, W i m H →
      ((Itl K a).stop i H ∧ Qd H) ∨ ((Itl K a).go i H ∧ ∃ Nx : Hp → Prop, (∀ H', Nx H' → ∃ m', m' < m ∧ W (i + 1) m' H') ∧ ∀ x H', (Itl K a).yld i H x H' → g x (wipe σ vs) H' fun σ2 H2 => wipe σ2 vs = wipe σ vs ∧ tt σ2 H2 fun b H3 =>
        if b = true then tk σ2 H3 fun y H4 => tv σ2 H4 fun z H5 => ∃ kvs k, y = kV k ∧ H5 D = some (.dK kvs) ∧ kvs.length < sizeLine ∧ Nx (upd H5 D (.dK (putK kvs k z))) else Nx H3) := by
  refine ⟨fun i m H => m = xs.length - i ∧ i ≤ xs.length ∧ Pv i H, ⟨xs.length, by simp, Nat.zero_le _, h0⟩, ?_⟩
  rintro i m H ⟨rfl, hi, p⟩
  have q := hl i H hi p
  by_cases hlt : i < xs.length
  · refine .inr ⟨⟨xs, xs[i], q, by simp [hlt]⟩, Pv (i + 1), fun H' p' => ⟨xs.length - (i + 1), by omega, rfl, hlt, p'⟩, fun x H' y => ?_⟩
    obtain ⟨e, y⟩ := y
    subst e
    exact hs i x _ (y xs q) p
  · have e : i = xs.length := by omega
    subst e
    exact .inl ⟨⟨xs, q, Nat.le_refl _⟩, hd H p⟩
end L2
namespace Ca
open PySem L2
/-! ### the events that can come, by their texts -/
structure TxAt (H : Hp) (kvs : List (Key × V)) (es : List Ev) : Prop where
  has : ∀ e ∈ es, ∃ f ∈ es, textOf f = textOf e ∧ ∃ a, valV kvs (Sum.inr (textOf e)) = some (.ref a) ∧ H a = some (.tup (evV f))
  non : ∀ line : Str, (∀ e ∈ es, textOf e ≠ line) → valV kvs (Sum.inr line) = none
theorem TxAt.nil {H : Hp} : TxAt H [] [] := ⟨fun e h => (by cases h), fun line _ => valV_nil⟩
theorem TxAt.put {H H' : Hp} {kvs : List (Key × V)} {es : List Ev} {e : Ev} {a : Addr} (T : TxAt H kvs es) (h : H' a = some (.tup (evV e))) (k : ∀ b xs, H b = some (.tup xs) → H' b = some (.tup xs)) : TxAt H' (putK kvs (Sum.inr (textOf e)) (.ref a)) (es ++ [e]) := by
  refine ⟨fun f hf => ?_, fun line hn => ?_⟩
  · rw [valV_put]
    by_cases z : textOf f = textOf e
    · refine ⟨e, List.mem_append_right _ (List.mem_singleton.mpr rfl), z.symm, a, ?_, h⟩
      rw [if_pos (by rw [z])]
    · rcases List.mem_append.mp hf with hf | hf
      · obtain ⟨g, hg, eg, b, hb, Hb⟩ := T.has f hf
        refine ⟨g, List.mem_append_left _ hg, eg, b, ?_, k _ _ Hb⟩
        rw [if_neg (fun y => z (Sum.inr.inj y))]
        exact hb
      · exact absurd (by rw [List.mem_singleton.mp hf]) z
  · rw [valV_put, if_neg (fun y => hn e (List.mem_append_right _ (List.mem_singleton.mpr rfl)) (Sum.inr.inj y).symm)]
    exact T.non line fun f hf => hn f (List.mem_append_left _ hf)
theorem TxAt.ex {H H' : Hp} {kvs : List (Key × V)} {es : List Ev} (T : TxAt H kvs es) (k : ∀ b xs, H b = some (.tup xs) → H' b = some (.tup xs)) : TxAt H' kvs es := ⟨fun e he => by
  obtain ⟨f, hf, ef, a, ha, Ha⟩ := T.has e he
  exact ⟨f, hf, ef, a, ha, k _ _ Ha⟩, T.non⟩
theorem putK_len9 {l : List (Key × V)} {k : Key} {v : V} : (putK l k v).length ≤ l.length + 1 := by
  unfold putK
  split <;> simp
theorem opsEv_len (c : Conf) (t : PSt) : ∀ n, (opsEv c t n).length ≤ 2 * n
  | 0 => by simp [opsEv]
  | n + 1 => by
    have ih := opsEv_len c t n
    unfold opsEv
    rw [List.length_append]
    split
    · rename_i o _
      have : (evOp c t n o).length ≤ 2 := by
        unfold evOp
        rw [List.length_append]
        split <;> split <;> simp
      omega
    · simp only [List.length_nil]
      omega
theorem evP_len (c : Conf) (t : PSt) : (evP c t).length ≤ 4 + 2 * t.ops.length := by
  have h := opsEv_len c t t.ops.length
  unfold evP evPA
  simp only [List.length_append, List.length_cons, List.length_nil]
  split <;> split <;> simp <;> omega
@[irreducible] def spEvTxt (C D : Addr) : Sp := fun vs H Q _ => ∃ (c : Conf) (p : Addr) (A : PL) (t : PSt), vs = [.ref p] ∧ c.Ok ∧ Play0 C D c H p A t ∧ t.ops.length ≤ 100 ∧ OpsOk t ∧
  ∀ q kvs es H', Same H H' → H q = none → H' q = some (.dK kvs) → TxAt H' kvs es → es.Perm (evP c t) → Q (.ref q) H'
theorem evtxt_i {C D : Addr} {c : Conf} {p : Addr} {A : PL} {t : PSt} {H : Hp} {Q : VK} {E : XK} (O : c.Ok) (L : Play0 C D c H p A t) (l : t.ops.length ≤ 100) (o : OpsOk t)
    (q : ∀ q kvs es H', Same H H' → H q = none → H' q = some (.dK kvs) → TxAt H' kvs es → es.Perm (evP c t) → Q (.ref q) H') : spEvTxt C D [.ref p] H Q E := by
  unfold spEvTxt
  exact ⟨c, p, A, t, rfl, O, L, l, o, q⟩
theorem textof_i {a : Addr} {e : Ev} {H : Hp} {Q : VK} {E : XK} (h : H a = some (.tup (evV e))) (l : e.1.length ≤ 100) (l2 : ∀ i, e.2 = some i → i.natAbs < 2 ^ 60) (q : ∀ H', Evl.Ex H H' → Q (.str (textOf e)) H') : spTextOf [.ref a] H Q E := by
  unfold spTextOf
  exact ⟨a, e, rfl, h, l, l2, q⟩
theorem SmallEv.sizes {n : Nat} {e : Ev} (h : SmallEv n e) (hn : n ≤ 1000) : e.1.length ≤ 100 ∧ ∀ i, e.2 = some i → i.natAbs < 2 ^ 60 := by
  rcases h with rfl | rfl | ⟨x, k, hx, hk, rfl⟩
  · exact ⟨by decide +kernel, fun i h => by cases h⟩
  · exact ⟨by decide +kernel, fun i h => by cases h⟩
  · refine ⟨(by decide +kernel : ∀ x ∈ wordsT, x.length ≤ 100) x hx, fun i h => ?_⟩
    cases h
    rw [Int.natAbs_natCast]
    omega
section
variable {P : Program} {w : World} {K : PySem.W.Frag} {mg : Str → Option Value} {base : Heap}
theorem ok_events_by_text (T : Txt K mg) : FnOk P w K mg base CX0 6 T.f_events_by_text T.fd_events_by_text ["play"] (spEvTxt T.C_Operation T.C_Play) := by
  refine T.F_events_by_text.ok sc_events_by_text (fun vs H Q E h => ?_) (fun cdv A outer s H vs Q E hr h => ?_)
  · unfold spEvTxt at h
    obtain ⟨c, p, A, t, rfl, _⟩ := h
    rfl
  · unfold spEvTxt at h
    obtain ⟨c, p, A, t, rfl, O, L, ln, oo, q⟩ := h
    refine ⟨_, (pss_one (ps_ret (pe_dc (own := [("event", 1)]) rfl sc_events_by_text.nd (pi_list (pe_meth0 (pv 0) T.c_Play T.M_Play_events (ok_Play_events T) (hr.mono (by decide)) (b_Play_events T) .nil pass0)) (blkOk_by (N := ["play", "event"]) (sc := defScope s_events_by_text) (by decide +kernel)) (fun _ _ _ _ _ => (pg_name (i := 1) sc_events_by_text.nd rfl (Or.inl rfl))) (fun _ _ _ _ _ => pts_nil) (fun _ _ _ _ _ => (pe_call (ok_text_of_event T) (hr.mono (by decide)) rfl T.m_text_of_event T.F_text_of_event.kp (b_text_of_event T) .nil pass0 (pa_cons (pv 1) pa_nil))) (fun _ _ _ _ _ => (pv 1))))), ?_⟩
    refine ⟨_, rfl, _, _, _, rfl, L.at_, ln_Play_events, ?_⟩
    refine evp_i O L ln fun q0 xs es H1 S1 nq0 hq0 X SR pm => ?_
    have xl : xs.length ≤ 1000 := by
      have z1 : xs.length = es.length := X.length
      have z2 := pm.length_eq
      have z3 := evP_len c t
      omega
    refine ⟨q0, rfl, ⟨_, SqL.of hq0⟩, fun D nD => ?_⟩
    refine dc_list (xs := xs) (fun i H' => Evl.Ex H1 H' ∧ ∃ kvs, H' D = some (.dK kvs) ∧ kvs.length ≤ i ∧ TxAt H' kvs (es.take i)) ⟨Evl.Ex.new nD, [], upd_same, Nat.le_refl _, .nil⟩ (fun i H' _ p => SqL.of (p.1 _ _ hq0)) ?_ ?_
    · rintro i x H2 hi ⟨e2, kvs, hD, kl, TX⟩
      obtain ⟨ev, ee, a, rfl, ha⟩ := Ca.pget X hi
      have il := (List.getElem?_eq_some_iff.mp hi).1
      have sz := (ev_small O oo (pm.mem_iff.mp (List.mem_of_getElem? ee))).sizes (by omega)
      refine ⟨rfl, ?_⟩
      simp only [tYes, reduceIte]
      refine ⟨_, rfl, ?_⟩
      refine textof_i (e2 _ _ ha) sz.1 sz.2 fun H3 e3 => ?_
      have hD3 := e3 _ _ hD
      have tk : ∀ {b : Addr} {ys : List V} {u : HO}, H3 b = some (.tup ys) → (upd H3 D u) b = some (.tup ys) := fun {b ys u} h => by
        rw [upd_ne (fun z => by rw [z, hD3] at h; cases h)]
        exact h
      refine ⟨_, rfl, kvs, Sum.inr (textOf ev), rfl, hD3, Nat.lt_of_le_of_lt (show kvs.length ≤ 1000 by omega) (by decide), ?_, _, upd_same, ?_, ?_⟩
      · exact fun b o z => sN' (show Same H1 H3 from fun b o z => e3 b o (e2 b o z)) nD b o z
      · exact Nat.le_trans putK_len9 (Nat.succ_le_succ kl)
      · rw [take_snoc ee]
        exact TX.put (tk (e3 _ _ (e2 _ _ ha))) fun b ys z => tk (e3 _ _ z)
    · rintro H2 ⟨e2, kvs, hD, kl, TX⟩
      have xe : xs.length = es.length := X.length
      rw [xe, List.take_length] at TX
      exact q D kvs es H2 (fun b o z => e2 b o (S1 b o z)) (S1.free nD) hD TX pm
end
end Ca

set_option Elab.async false
set_option linter.all false
set_option maxRecDepth 100000
set_option maxHeartbeats 4000000
namespace Ca
open PySem PySem.Spec PyProof.Rows L2
/-! ### comprehensions of three clauses without tests -/
/-- a turn: the next item, its store, what comes then -/
def turnOf (p : Pos) (tg : Expr) (it : Value) (env : Env) (rest : Sem PySem.Fin) : Sem PySem.Fin := do
  standAt p
  match ← pyNext it with
  | none => pure (.done .next)
  | some v =>
    letOwnedTupleGo tg it v
    assign tg env v
    rest
/-- what comes then where a further clause stands -/
def deeper (e : Expr) (iter : Expr) (k : Nat) (it acc : Value) (env : Env) : Sem PySem.Fin := do
  let x ← eval iter env
  standAt iter.pos
  let y ← foldedSetIterable iter env x
  let _ ← runOwn (.compStart e (k + 1) (← holding [y] (pyIter y)) acc env) env
  again (.compLoop e k it acc env)
/-- .. where none does -/
def laid (e elt : Expr) (k : Nat) (it acc : Value) (env : Env) : Sem PySem.Fin := do
  (do let _ ← call (.builtin "list.append") [acc, ← eval elt env])
  again (.compLoop e k it acc env)
abbrev lc3 (elt t0 i0 t1 i1 t2 i2 : Expr) (scope : Scope) (pos : Pos) : Expr := .ListComp elt [⟨t0, i0, [], 0⟩, ⟨t1, i1, [], 0⟩, ⟨t2, i2, [], 0⟩] scope pos
section
variable {elt t0 i0 t1 i1 t2 i2 : Expr} {scope : Scope} {pos : Pos} {it acc : Value} {env : Env}
theorem turn3_0 : compTurn (lc3 elt t0 i0 t1 i1 t2 i2 scope pos) 0 it acc env = turnOf i0.pos t0 it env (deeper (lc3 elt t0 i0 t1 i1 t2 i2 scope pos) i1 0 it acc env) := by rfl
theorem turn3_1 : compTurn (lc3 elt t0 i0 t1 i1 t2 i2 scope pos) 1 it acc env = turnOf i1.pos t1 it env (deeper (lc3 elt t0 i0 t1 i1 t2 i2 scope pos) i2 1 it acc env) := by rfl
theorem turn3_2 : compTurn (lc3 elt t0 i0 t1 i1 t2 i2 scope pos) 2 it acc env = turnOf i2.pos t2 it env (laid (lc3 elt t0 i0 t1 i1 t2 i2 scope pos) elt 2 it acc env) := by rfl
end
section
variable {prog : Program} {w : World} {A : Around} {R : Result → Shared → Prop} {s : Shared} {elt t0 i0 t1 i1 t2 i2 : Expr} {scope : Scope} {pos : Pos} {it acc : Value} {env : Env}
theorem start3_1 (h0 : codeAny (model prog w) A (.compLoop (lc3 elt t0 i0 t1 i1 t2 i2 scope pos) 1 it acc env) R s)
    (h : wpAny (model prog w) A (pyIter it) (fun j s1 => codeAny (model prog w) A (.compLoop (lc3 elt t0 i0 t1 i1 t2 i2 scope pos) 1 j acc env) R s1) (notedBy (model prog w) A env fun x s1 => R (.error x) s1) s) :
    codeAny (model prog w) A (.compStart (lc3 elt t0 i0 t1 i1 t2 i2 scope pos) 1 it acc env) R s := by
  refine codeAny_of_tree ?_
  show wpAny _ _ ((compStart (lc3 elt t0 i0 t1 i1 t2 i2 scope pos) 1 it acc env).onRaise fun x => do noteFrame x env; standAt theWindowsPlace) _ _ s
  refine wpAny_notedAt ?_
  unfold compStart
  show wpAny _ _ (ask >>= _) _ _ s
  refine wpAny_bind (wpAny_askSetting (wpAny_ite ?_))
  split
  · first | exact wpAny_bind (wpAny_pure (wpAny_pure ⟨rfl, h0⟩)) | exact wpAny_pure ⟨rfl, h0⟩
  · refine wpAny_bind (wpAny_rule ?_)
    show wpAny _ _ (standAt i1.pos >>= _) _ _ s
    exact wpAny_bind (wpAny_standAt (wpAny_bind (wpAny_mono h (fun j s1 q => wpAny_pure ⟨rfl, q⟩) fun _ _ q => q)))
theorem start3_2 (h0 : codeAny (model prog w) A (.compLoop (lc3 elt t0 i0 t1 i1 t2 i2 scope pos) 2 it acc env) R s)
    (h : wpAny (model prog w) A (pyIter it) (fun j s1 => codeAny (model prog w) A (.compLoop (lc3 elt t0 i0 t1 i1 t2 i2 scope pos) 2 j acc env) R s1) (notedBy (model prog w) A env fun x s1 => R (.error x) s1) s) :
    codeAny (model prog w) A (.compStart (lc3 elt t0 i0 t1 i1 t2 i2 scope pos) 2 it acc env) R s := by
  refine codeAny_of_tree ?_
  show wpAny _ _ ((compStart (lc3 elt t0 i0 t1 i1 t2 i2 scope pos) 2 it acc env).onRaise fun x => do noteFrame x env; standAt theWindowsPlace) _ _ s
  refine wpAny_notedAt ?_
  unfold compStart
  show wpAny _ _ (ask >>= _) _ _ s
  refine wpAny_bind (wpAny_askSetting (wpAny_ite ?_))
  split
  · first | exact wpAny_bind (wpAny_pure (wpAny_pure ⟨rfl, h0⟩)) | exact wpAny_pure ⟨rfl, h0⟩
  · refine wpAny_bind (wpAny_rule ?_)
    show wpAny _ _ (standAt i2.pos >>= _) _ _ s
    exact wpAny_bind (wpAny_standAt (wpAny_bind (wpAny_mono h (fun j s1 q => wpAny_pure ⟨rfl, q⟩) fun _ _ q => q)))
end
/-- what a further clause leaves: the block's slots but those of its own targets, and what was wished -/
def After (B : Cx) (pins : List (Addr × Obj)) (σ : L2.St) (vs : List Nat) (Nx : Hp → Prop) (s : Shared) : Prop :=
  ∃ (σ' : L2.St) (H' : Hp), Inv B pins σ' H' s ∧ σ'.length = σ.length ∧ (∀ (j : Nat) v, j ∉ vs → σ[j]? = some (some v) → σ'[j]? = some (some v)) ∧ Nx H'
/-- a clause's loop, by the reading of what a turn does -/
def tLoop (g : TG) (tb : L2.St → Hp → (Hp → Prop) → Prop) (vs : List Nat) (σ : L2.St) (J : It) (H : Hp) (Nx : Hp → Prop) : Prop :=
  ∃ W : Nat → Nat → Hp → Prop, (∃ m, W 0 m H) ∧ ∀ i m H, W i m H → (J.stop i H ∧ Nx H) ∨ (J.go i H ∧ ∃ N1 : Hp → Prop, (∀ H', N1 H' → ∃ m', m' < m ∧ W (i + 1) m' H') ∧
    ∀ x H', J.yld i H x H' → g x (wipe σ vs) H' fun σ2 H2 => wipe σ2 vs = wipe σ vs ∧ tb σ2 H2 N1)
section
variable {B : Cx} {pins : List (Addr × Obj)} {σ : L2.St} {H : Hp} {s : Shared} {R : Result → Shared → Prop} {Nx : Hp → Prop}
theorem loop_gen {e : Expr} {k : Nat} {p : Pos} {tg : Expr} {it : Addr} {acc : Value} {rest : Sem PySem.Fin} {g : TG} {tb : L2.St → Hp → (Hp → Prop) → Prop} {vs vi : List Nat} {fp : List Addr} {tn : Nat → Heap → Prop} {J : It}
    (hq : (Code.compLoop e k (.ref it) acc B.env).quiet = true) (hu : B.A.under (Code.compLoop e k (.ref it) acc B.env) = B.A) (hd : (model B.prog B.w).den (Code.compLoop e k (.ref it) acc B.env) = (compTurn e k (.ref it) acc B.env).onRaise fun x => do noteFrame x B.env; theTreesLotGoes x) (he : compTurn e k (.ref it) acc B.env = turnOf p tg (.ref it) B.env rest) (hx : B.xe = fun _ _ => False) (hc : B.calm = true) (T : Turn B.prog B.w B.K tg J fp it tn) (pg : PG B tg g) (hv : ∀ i ∈ vi, i ∈ vs)
    (body : ∀ (pins : List (Addr × Obj)) (s : Shared) (σ : L2.St) (H : Hp) (N1 : Hp → Prop), Inv B pins σ H s → tb σ H N1 → wpAny (model B.prog B.w) B.A rest (fun f s1 => f = .again (.compLoop e k (.ref it) acc B.env) ∧ After B pins σ vi N1 s1) (fun _ _ => False) s)
    (I : Inv B pins (wipe σ vs) H s) (st : tn 0 s.heap) (hf : ∀ b ∈ fp, FpOk B pins H b) (h : tLoop g tb vs σ J H Nx) (fin : ∀ s1 H1, Inv B pins (wipe σ vs) H1 s1 → Nx H1 → R (.ok .next) s1) :
    codeAny (model B.prog B.w) B.A (.compLoop e k (.ref it) acc B.env) R s := by
  obtain ⟨W, ⟨m0, w0⟩, turn⟩ := h
  have bot : ∀ {P : Prop}, False → P := fun z => z.elim
  refine codeAny_loop hq (fun n s1 => ∃ i H1, Inv B pins (wipe σ vs) H1 s1 ∧ tn i s1.heap ∧ (∀ b ∈ fp, H1 b = none) ∧ W i n H1) (fun n s1 hI => ?_) m0 ⟨0, H, I, st, fun b hb => (hf b hb).1, w0⟩
  rw [hu, hd]
  refine wpAny_noted ?_
  rw [he]
  unfold turnOf
  refine wpAny_bind (wpAny_standAt (wpAny_bind ?_))
  obtain ⟨i, H1, I1, st1, n1, w1⟩ := hI
  have ok1 : ∀ b ∈ fp, FpOk B pins H1 b := fun b hb => ⟨n1 b hb, (hf b hb).2⟩
  rcases turn i n H1 w1 with ⟨stop, nx⟩ | ⟨go, N1, hN, step⟩
  · refine wpAny_mono (T.done B rfl rfl rfl hc i pins s1 _ H1 (fun _ _ => False) I1 ok1 st1 stop) (fun r s2 q => ?_) fun _ _ z => bot z
    obtain ⟨rfl, I2⟩ := q
    exact wpAny_pure (fin s2 H1 I2 nx)
  · refine wpAny_mono (T.item B rfl rfl rfl hc i pins s1 _ H1 (fun _ _ => False) I1 ok1 st1 go) (fun r s2 q => ?_) fun _ _ z => bot z
    obtain ⟨u, rfl, q⟩ := q
    refine wpAny_bind (wpAny_mono q (fun _ s3 q3 => ?_) fun _ _ z => bot z)
    obtain ⟨x, H3, I3, r3, y3, st3, n3⟩ := q3
    have P3 := I3.pinned (fun b hb => ⟨n3 b hb, (hf b hb).2⟩) (T.obj _ _ st3)
    have z3 := pg.run _ s3 _ H3 x u _ P3 r3 (step x H3 y3)
    rw [hx] at z3
    refine wpAny_bind (wpAny_mono z3 (fun _ s4 q4 => ?_) fun _ _ z => bot z)
    obtain ⟨σ4, H4, I4, hw4, t4⟩ := q4
    refine wpAny_mono (body _ s4 σ4 H4 N1 I4 t4) (fun f s5 q5 => ?_) fun _ _ z => bot z
    obtain ⟨rfl, σ5, H5, I5, l5, k5, x5⟩ := q5
    obtain ⟨m, lt, w5⟩ := hN H5 x5
    have pin : ∀ b ∈ fp, ∀ o, s3.heap.get? b = some o → s5.heap.get? b = some o ∧ H5 b = none := fun b hb o eo =>
      let z := I5.pin (b, o) (List.mem_append_right _ (List.mem_append_right _ (mem_pinsAt hb eo)))
      ⟨z.1, z.2.1⟩
    refine ⟨rfl, m, lt, i + 1, H5, (I5.unpinned).weak ?_ (fun j v ej => ?_), T.keep _ _ _ st3 fun b hb o eo => (pin b hb o eo).1, fun b hb => ?_, w5⟩
    · rw [← hw4, wipe_length, l5]
    · rw [← hw4] at ej
      obtain ⟨a1, a2⟩ := wipe_some ej
      exact k5 j v (fun z => a2 (hv j z)) a1
    · obtain ⟨o, eo, _⟩ := T.obj _ _ st3 b hb
      exact (pin b hb o eo).2
/-- the last clause's body -/
theorem laid_ok {e elt : Expr} {k : Nat} {it : Value} {te : TE} {D : Addr} (hx : B.xe = fun _ _ => False) (pe : PE B elt te) (N1 : Hp → Prop) (I : Inv B pins σ H s)
    (h : te σ H fun y H1 => ∃ acc, H1 D = some (.lst acc) ∧ acc.length < sizeLine ∧ N1 (upd H1 D (.lst (acc ++ [y])))) :
    wpAny (model B.prog B.w) B.A (laid e elt k it (.ref D) B.env) (fun f s1 => f = .again (.compLoop e k it (.ref D) B.env) ∧ After B pins σ [] N1 s1) (fun _ _ => False) s := by
  unfold laid
  have z := pe.run pins s σ H _ I h
  rw [hx] at z
  refine wpAny_bind (wpAny_bind (wpAny_mono z (fun v s1 q => ?_) fun _ _ z => z))
  obtain ⟨y, H1, I1, r1, acc, hD, hl, nx⟩ := q
  refine wpAny_bind (wpAny_mono (app_ok (X := B) (E := fun _ _ => False) (Q := fun _ s2 => After B pins σ [] N1 s2) I1 hD hl r1 fun s2 I2 => ⟨σ, _, I2, rfl, fun _ _ _ a => a, nx⟩) (fun _ s2 q => ?_) fun _ _ z => z)
  exact wpAny_pure (wpAny_pure ⟨rfl, q⟩)
/-- a further clause's body -/
theorem deeper_ok {e iter tg : Expr} {k : Nat} {it acc : Value} {wi : TI} {vi : List Nat} {tl : L2.St → It → Hp → (Hp → Prop) → Prop} (hx : B.xe = fun _ _ => False) (hs : ∀ x, foldedSetIterable iter B.env x = pure x) (pi : PI B tg iter wi) (N1 : Hp → Prop) (I : Inv B pins σ H s)
    (h : wi σ H fun J H1 => tl σ J H1 N1)
    (go : ∀ (it1 : Addr) (fp : List Addr) (tn : Nat → Heap → Prop) (J : It) (H1 : Hp) (s1 : Shared), Inv B pins σ H1 s1 → Turn B.prog B.w B.K tg J fp it1 tn → tn 0 s1.heap → (∀ b ∈ fp, FpOk B pins H1 b) → tl σ J H1 N1 →
      codeAny (model B.prog B.w) B.A (.compStart e (k + 1) (.ref it1) acc B.env) (fun r s2 => match r with
        | .ok _ => After B pins σ vi N1 s2
        | .error _ => False) s1) :
    wpAny (model B.prog B.w) B.A (deeper e iter k it acc B.env) (fun f s1 => f = .again (.compLoop e k it acc B.env) ∧ After B pins σ vi N1 s1) (fun _ _ => False) s := by
  unfold deeper
  have z := pi.run pins s σ H _ I h
  rw [hx] at z
  refine wpAny_bind (wpAny_mono z (fun x s1 q => ?_) fun _ _ z => z)
  refine wpAny_bind (wpAny_standAt (wpAny_bind (wpAny_of_eq (hs x) (wpAny_bind (wpAny_holding (wpAny_mono q (fun j s2 q2 => ?_) fun _ _ z => z))))))
  obtain ⟨it1, fp, tn, J, H1, rfl, I1, T, st, f1, q1⟩ := q2
  refine wpAny_bind (wpAny_runOwn ?_)
  rw [Around.mark_none]
  refine codeAny_mono (go it1 fp tn J H1 s2 I1 T st f1 q1) fun r s3 hr => ?_
  cases r with
  | ok f => first | exact wpAny_pure ⟨rfl, hr⟩ | exact wpAny_bind (wpAny_pure (wpAny_pure ⟨rfl, hr⟩))
  | error x => exact hr.elim
end

def tLast (D : Addr) (te : TE) : L2.St → Hp → (Hp → Prop) → Prop := fun σ H N => te σ H fun y H1 => ∃ acc, H1 D = some (.lst acc) ∧ acc.length < sizeLine ∧ N (upd H1 D (.lst (acc ++ [y])))
def tDeep (wi : TI) (g : TG) (tb : L2.St → Hp → (Hp → Prop) → Prop) (vs : List Nat) : L2.St → Hp → (Hp → Prop) → Prop := fun σ H N => wi σ H fun J H1 => tLoop g tb vs σ J H1 N
/-- [elt for .. in .. for .. in .. for .. in ..]: each clause's loop within the one ahead of it -/
def tLc3 (w0 : TI) (g0 : TG) (w1 : TI) (g1 : TG) (w2 : TI) (g2 : TG) (te : TE) (vs vs1 vs2 : List Nat) : TE := fun σ H Q => w0 σ H fun J H1 => ∀ D, H1 D = none → tLoop g0 (tDeep w1 g1 (tDeep w2 g2 (tLast D te) vs2) vs1) vs σ J (upd H1 D (.lst [])) fun H2 => Q (.ref D) H2
abbrev BlkA (X : Cx) (scope : Scope) (P : Cx → Prop) : Prop := ∀ (s : Shared) (H : Hp) (C : Addr) (cl : List (Str × Addr)) (fp : List Addr), P (X.blk s H scope (compEnvC scope cl C X.env) fp)
theorem pe_lc3 {X : Cx} {elt t0 i0 t1 i1 t2 i2 : Expr} {scope : Scope} {own : List (Str × Nat)} {vs1 vs2 : List Nat} {pos : Pos} {w0 w1 w2 : TI} {g0 g1 g2 : TG} {te : TE} (hc : X.calm = true) (hN : X.N.Nodup) (p0 : PI X t0 i0 w0) (ok : BlkOk X.N X.env.scope scope own)
    (hv1 : ∀ i ∈ vs1, i ∈ own.map (·.2)) (hv2 : ∀ i ∈ vs2, i ∈ vs1) (q0 : BlkA X scope fun B => PG B t0 g0) (p1 : BlkA X scope fun B => PI B t1 i1 w1) (q1 : BlkA X scope fun B => PG B t1 g1) (p2 : BlkA X scope fun B => PI B t2 i2 w2) (q2 : BlkA X scope fun B => PG B t2 g2) (pe : BlkA X scope fun B => PE B elt te)
    (h0 : ∀ x, foldedSetIterable i0 X.env x = pure x := by intro _; rfl) (h1 : ∀ env x, foldedSetIterable i1 env x = pure x := by intro _ _; rfl) (h2 : ∀ env x, foldedSetIterable i2 env x = pure x := by intro _ _; rfl) :
    PE X (lc3 elt t0 i0 t1 i1 t2 i2 scope pos) (tLc3 w0 g0 w1 g1 w2 g2 te (own.map (·.2)) vs1 vs2) := by
  refine ⟨fun pins s σ H Q I h => ?_⟩
  rw [eval_ListComp]
  have free : ∀ y ∈ scope.names, y.2 = .free → ∃ c, X.env.cells.lookup y.1 = some c := fun y hy e => (ok.free y hy e).elim (fun k => I.ok.has _ (.inl k)) fun k => I.ok.has _ (.inr k)
  refine wpAny_comprehension_free rfl h0 (closure_ok free) ok.kind (fun y hy e => (ok.uniq y hy).trans (by rw [e])) (thn (p0.run pins s σ H _ I h) fun xv s1 z => thn z fun jv s2 z2 => ?_)
  obtain ⟨it, fp, tn, J, HA, rfl, IA, T, stA, fA, q⟩ := z2
  refine wpAny_newObj_type (newEnv_comp ?_) (Nat.zero_le _)
  generalize hD : s2.heap.objs.size = D
  have nD : HA D = none := IA.hok.fresh (Nat.le_of_eq hD)
  have rd := q D nD
  generalize hsB : ({ s2 with heap := s2.heap.push { cls := .type "list", data := .seq ([] : List Value).toArray } } : Shared) = sB
  have hB : sB.heap = s2.heap.push { cls := .type "list", data := .seq ([] : List Value).toArray } := by rw [← hsB]
  have IB : Inv X pins σ (upd HA D (.lst [])) sB := by
    subst hsB
    refine IA.laid (t' := s2.toks) (fun b o e => Heap.get?_push_of_some _ e) (Nat.le_of_eq hD) ⟨Nat.zero_le _, [], 0, .nil, ?_⟩
    subst hD
    exact Heap.get?_push_size _ rfl
  have lt : ∀ b ∈ fp, b < s2.heap.objs.size := fun b hb => let ⟨_, e, _⟩ := T.obj _ _ stA b hb; Heap.lt_size e
  have fB : ∀ b ∈ fp, FpOk X pins (upd HA D (.lst [])) b ∧ b < sB.heap.objs.size := fun b hb => by
    have l := lt b hb
    refine ⟨⟨?_, (fA b hb).2⟩, ?_⟩
    · rw [upd_ne (fun z => by rw [z, ← hD] at l; exact Nat.lt_irrefl _ l)]
      exact (fA b hb).1
    · rw [hB, Heap.size_push]
      exact Nat.lt_succ_of_lt l
  have stB : tn 0 sB.heap := T.keep _ _ _ stA fun b _ o e => by rw [hB]; exact Heap.get?_push_of_some _ e
  have IC := block_start IB ok hN fB
  generalize hHB : upd HA D (.lst []) = HB at IB IC rd fB
  show codeAny _ _ (.compStart (lc3 elt t0 i0 t1 i1 t2 i2 scope pos) 0 (.ref it) (.ref D) (compEnvC scope (cellsFrom (sB.heap.objs.size + 1) scope.names (cloFrom X.env.cells scope.names [])) sB.heap.objs.size X.env)) (compPost (model X.prog X.w) X.A X.xe none (EP X pins σ Q) (.ref D) sB.heap.objs.size) { sB with heap := pushCells (sB.heap.push { cls := .type "dict", data := .dict #[] }) scope.names }
  have P0 := q0 sB HB sB.heap.objs.size (cellsFrom (sB.heap.objs.size + 1) scope.names (cloFrom X.env.cells scope.names [])) fp
  have P1 := p1 sB HB sB.heap.objs.size (cellsFrom (sB.heap.objs.size + 1) scope.names (cloFrom X.env.cells scope.names [])) fp
  have Q1 := q1 sB HB sB.heap.objs.size (cellsFrom (sB.heap.objs.size + 1) scope.names (cloFrom X.env.cells scope.names [])) fp
  have P2 := p2 sB HB sB.heap.objs.size (cellsFrom (sB.heap.objs.size + 1) scope.names (cloFrom X.env.cells scope.names [])) fp
  have Q2 := q2 sB HB sB.heap.objs.size (cellsFrom (sB.heap.objs.size + 1) scope.names (cloFrom X.env.cells scope.names [])) fp
  have PL := pe sB HB sB.heap.objs.size (cellsFrom (sB.heap.objs.size + 1) scope.names (cloFrom X.env.cells scope.names [])) fp
  generalize hce : compEnvC scope (cellsFrom (sB.heap.objs.size + 1) scope.names (cloFrom X.env.cells scope.names [])) sB.heap.objs.size X.env = ce at IC P0 P1 Q1 P2 Q2 PL ⊢
  have cL : ce.locals = sB.heap.objs.size := by subst hce; rfl
  generalize hsC : ({ sB with heap := pushCells (sB.heap.push { cls := .type "dict", data := .dict #[] }) scope.names } : Shared) = sC at IC ⊢
  have stC : tn 0 sC.heap := T.keep _ _ _ stB fun b _ o e => by subst hsC; exact pushCells_keeps _ _ _ _ (Heap.get?_push_of_some _ e)
  have fC : ∀ b ∈ fp, FpOk (X.blk sB HB scope ce fp) [] HB b := fun b hb => ⟨(fB b hb).1.1, (IC.ok.exf b hb).1, IC.ok.exfs b hb, .inl hb, fun x c e => (IC.ok.exf b hb).2 x c e, fun p hp => absurd (show p ∈ ([] : List (Addr × Obj)) ++ [] from hp) (by simp)⟩
  -- the third clause, the second
  have lv2 : ∀ (pins : List (Addr × Obj)) (s : Shared) (σ : L2.St) (H : Hp) (N : Hp → Prop) (jt : Value), Inv (X.blk sB HB scope ce fp) pins σ H s → tDeep w2 g2 (tLast D te) vs2 σ H N →
      wpAny (model X.prog X.w) X.A (deeper (lc3 elt t0 i0 t1 i1 t2 i2 scope pos) i2 1 jt (.ref D) ce) (fun f s1 => f = .again (.compLoop (lc3 elt t0 i0 t1 i1 t2 i2 scope pos) 1 jt (.ref D) ce) ∧ After (X.blk sB HB scope ce fp) pins σ vs2 N s1) (fun _ _ => False) s := fun pins s σ H N jt I h =>
    deeper_ok (B := X.blk sB HB scope ce fp) (tl := fun σ J H1 N => tLoop g2 (tLast D te) vs2 σ J H1 N) rfl (h2 ce) P2 N I h fun it1 fp1 tn1 J1 H1 s1 I1 T1 st1 f1 rd1 => by
      have lp := loop_gen (e := lc3 elt t0 i0 t1 i1 t2 i2 scope pos) (B := X.blk sB HB scope ce fp) (acc := .ref D) (Nx := N) (R := fun r s2 => match r with
        | .ok _ => After (X.blk sB HB scope ce fp) pins σ vs2 N s2
        | .error _ => False) rfl rfl rfl turn3_2 rfl hc T1 Q2 (vi := []) (fun i hi => (nomatch hi)) (fun pins s σ H N1 I h => laid_ok (B := X.blk sB HB scope ce fp) rfl PL N1 I h) (I1.weak (wipe_length _ _) fun j v e => (wipe_some e).1) st1 f1 rd1 fun s2 H2 I2 nx => ⟨_, H2, I2, wipe_length _ _, fun j v hj e => (wipe_out hj).trans e, nx⟩
      exact start3_2 lp (T1.self X.A 0 _ _ _ st1 lp)
  have lv1 : ∀ (pins : List (Addr × Obj)) (s : Shared) (σ : L2.St) (H : Hp) (N : Hp → Prop) (jt : Value), Inv (X.blk sB HB scope ce fp) pins σ H s → tDeep w1 g1 (tDeep w2 g2 (tLast D te) vs2) vs1 σ H N →
      wpAny (model X.prog X.w) X.A (deeper (lc3 elt t0 i0 t1 i1 t2 i2 scope pos) i1 0 jt (.ref D) ce) (fun f s1 => f = .again (.compLoop (lc3 elt t0 i0 t1 i1 t2 i2 scope pos) 0 jt (.ref D) ce) ∧ After (X.blk sB HB scope ce fp) pins σ vs1 N s1) (fun _ _ => False) s := fun pins s σ H N jt I h =>
    deeper_ok (B := X.blk sB HB scope ce fp) (tl := fun σ J H1 N => tLoop g1 (tDeep w2 g2 (tLast D te) vs2) vs1 σ J H1 N) rfl (h1 ce) P1 N I h fun it1 fp1 tn1 J1 H1 s1 I1 T1 st1 f1 rd1 => by
      have lp := loop_gen (e := lc3 elt t0 i0 t1 i1 t2 i2 scope pos) (B := X.blk sB HB scope ce fp) (acc := .ref D) (Nx := N) (R := fun r s2 => match r with
        | .ok _ => After (X.blk sB HB scope ce fp) pins σ vs1 N s2
        | .error _ => False) rfl rfl rfl turn3_1 rfl hc T1 Q1 (vi := vs2) hv2 (fun pins s σ H N1 I h => lv2 pins s σ H N1 _ I h) (I1.weak (wipe_length _ _) fun j v e => (wipe_some e).1) st1 f1 rd1 fun s2 H2 I2 nx => ⟨_, H2, I2, wipe_length _ _, fun j v hj e => (wipe_out hj).trans e, nx⟩
      exact start3_1 lp (T1.self X.A 0 _ _ _ st1 lp)
  have lp := loop_gen (e := lc3 elt t0 i0 t1 i1 t2 i2 scope pos) (B := X.blk sB HB scope ce fp) (acc := .ref D) (Nx := fun H2 => Q (.ref D) H2) (R := compPost (model X.prog X.w) X.A X.xe none (EP X pins σ Q) (.ref D) sB.heap.objs.size) rfl rfl rfl turn3_0 rfl hc T P0 (vi := vs1) hv1 (fun pins s σ H N1 I h => lv1 pins s σ H N1 _ I h) IC stC fC rd fun s3 H3 I3 qq => by
    have IX : Inv X pins σ H3 s3 := IB.call' (ch := fp) I3.os I3.base I3.hok I3.bare fun b hb => ⟨(fB b hb).1.2.2.2.1, (fB b hb).1.2.1, (fB b hb).1.2.2.2.2.1, (fB b hb).1.2.2.2.2.2⟩
    have nC : H3 sB.heap.objs.size = none := by
      have z : H3 ce.locals = none := I3.free
      rw [cL] at z
      exact z
    obtain ⟨m, hn, _⟩ := I3.loc
    have hn : s3.heap.Ns ce.locals m := hn
    rw [cL] at hn
    obtain ⟨f0, f1, f2, f3, f4, f5⟩ := IB.fpOk (Nat.le_refl _) nC
    exact ⟨m, hn, fun h'' sb => ⟨.ref D, H3, IX.turned (t' := s3.toks) (fun b o hb e => (sb.2 b hb).trans e) f0 f1 f3 f4 f5, rfl, qq⟩⟩
  exact codeAny_compStart_list lp (T.self X.A 0 _ _ _ stC lp)
end Ca

set_option Elab.async false
set_option linter.all false
set_option maxRecDepth 100000
set_option maxHeartbeats 4000000
namespace Ca
open PySem L2
/-! ### the law's lists of all designs, all worlds -/
theorem prd_app {α β : Type} {R : α → β → Prop} : ∀ {xs ys : List α} {as bs : List β}, Paired R xs as → Paired R ys bs → Paired R (xs ++ ys) (as ++ bs)
  | _, _, _, _, .nil, h => h
  | _, _, _, _, .cons h t, r => .cons h (prd_app t r)
abbrev T3 := Str × Str × Str
abbrev tT (t : T3) : HO := .tup [.str t.1, .str t.2.1, .str t.2.2]
/-- the items are these triples, one after the other -/
abbrev TriX (H : Hp) (xs : List V) (l : List T3) : Prop := Paired (fun x t => ∃ a, x = V.ref a ∧ H a = some (tT t)) xs l
theorem TriX.ex {H H' : Hp} {xs : List V} {l : List T3} (h : TriX H xs l) (e : Evl.Ex H H') : TriX H' xs l := Paired.mapP h fun _ _ ⟨a, z, y⟩ => ⟨a, z, e _ _ y⟩
theorem TriX.app2 {H : Hp} {xs : List V} {l : List T3} {t1 t2 : Addr} {u v : T3} (h : TriX H xs l) (h1 : H t1 = some (tT u)) (h2 : H t2 = some (tT v)) : TriX H (xs ++ [.ref t1, .ref t2]) (l ++ [u, v]) := prd_app h (.cons ⟨_, rfl, h1⟩ (.cons ⟨_, rfl, h2⟩ .nil))
def tri2 (x : Str) (ys : List Str) (a b : Str) : List T3 := ys.flatMap fun y => [(x, y, a), (x, y, b)]
def tri3 (xs ys : List Str) (a b : Str) : List T3 := xs.flatMap fun x => tri2 x ys a b
theorem tri2_succ {x y a b : Str} {ys : List Str} {i : Nat} (h : ys[i]? = some y) : tri2 x (ys.take (i + 1)) a b = tri2 x (ys.take i) a b ++ [(x, y, a), (x, y, b)] := by
  unfold tri2
  rw [List.take_succ, h, List.flatMap_append]
  simp
theorem tri3_succ {x a b : Str} {xs ys : List Str} {i : Nat} (h : xs[i]? = some x) : tri3 (xs.take (i + 1)) ys a b = tri3 (xs.take i) ys a b ++ tri2 x ys a b := by
  unfold tri3
  rw [List.take_succ, h, List.flatMap_append]
  simp
theorem tri2_len {x a b : Str} : ∀ ys : List Str, (tri2 x ys a b).length = 2 * ys.length
  | [] => rfl
  | y :: ys => by
    have ih := tri2_len (x := x) (a := a) (b := b) ys
    unfold tri2 at ih ⊢
    rw [List.flatMap_cons, List.length_append, ih]
    show 2 + 2 * ys.length = 2 * (ys.length + 1)
    omega
theorem tri3_len {a b : Str} {ys : List Str} : ∀ xs : List Str, (tri3 xs ys a b).length = xs.length * (2 * ys.length)
  | [] => by simp [tri3]
  | x :: xs => by
    have ih := tri3_len (a := a) (b := b) (ys := ys) xs
    unfold tri3 at ih ⊢
    rw [List.flatMap_cons, List.length_append, ih, tri2_len]
    show _ = (xs.length + 1) * (2 * ys.length)
    rw [Nat.add_comm (2 * ys.length), Nat.add_mul, Nat.one_mul]
theorem map_at {l : List Str} {i : Nat} {x : V} (h : (l.map V.str)[i]? = some x) : ∃ s, l[i]? = some s ∧ x = .str s := by
  rw [List.getElem?_map, Option.map_eq_some_iff] at h
  obtain ⟨s, a, b⟩ := h
  exact ⟨s, a, b.symm⟩
def sourcesL : List Str := ["primary", "replica"]
def evictsL : List Str := ["evicts", "keeps"]
def stopsL : List Str := ["finishes", "stops"]
def designs3 : List T3 := tri3 pathsL guardsL "alone" "shared"
def worlds3 : List T3 := tri3 sourcesL evictsL "finishes" "stops"
@[irreducible] def spAllX (l : List T3) : Sp := fun vs H Q _ => vs = [] ∧ ∀ (p : Addr) (xs : List V) (H' : Hp), H p = none → Evl.Ex H H' → H' p = some (.lst xs) → TriX H' xs l → Q (.ref p) H'
theorem allX_i {l : List T3} {H : Hp} {Q : VK} {E : XK} (k : ∀ (p : Addr) (xs : List V) (H' : Hp), H p = none → Evl.Ex H H' → H' p = some (.lst xs) → TriX H' xs l → Q (.ref p) H') : spAllX l [] H Q E := by
  unfold spAllX
  exact ⟨rfl, k⟩
theorem at_mem {α : Type} {l : List α} {i : Nat} {x : α} (h : l[i]? = some x) : x ∈ l := List.mem_of_getElem? h
section
variable {P : Program} {w : World} {K : PySem.W.Frag} {mg : Str → Option Value} {base : Heap}
end
end Ca

set_option Elab.async false
set_option linter.all false
set_option maxRecDepth 100000
set_option maxHeartbeats 4000000
namespace Ca
open PySem L2
/-! ### all triples of three tuples of words -/
theorem pi_tupK {X : Cx} {K : PySem.W.Frag} {tg l : Expr} {tl : TE} (h : X.K = K) (hl : PE X l tl) : PI X tg l (iTup K tl) := h ▸ pi_tup hl
theorem loop_tup {K : PySem.W.Frag} {a : Addr} {xs : List V} {g : TG} {tb : L2.St → Hp → (Hp → Prop) → Prop} {vs : List Nat} {σ : L2.St} {H : Hp} {Nx : Hp → Prop} (Pv : Nat → Hp → Prop) (h0 : Pv 0 H) (hl : ∀ i H, i ≤ xs.length → Pv i H → SqT K H a xs)
    (hs : ∀ i x H, xs[i]? = some x → Pv i H → g x (wipe σ vs) H fun σ2 H2 => wipe σ2 vs = wipe σ vs ∧ tb σ2 H2 (Pv (i + 1))) (hd : ∀ H, Pv xs.length H → Nx H) : tLoop g tb vs σ (Itt K a) H Nx := by
  refine ⟨fun i m H => m = xs.length - i ∧ i ≤ xs.length ∧ Pv i H, ⟨xs.length, by simp, Nat.zero_le _, h0⟩, ?_⟩
  rintro i m H ⟨rfl, hi, p⟩
  have q := hl i H hi p
  by_cases lt : i < xs.length
  · refine .inr ⟨⟨xs, xs[i], q, List.getElem?_eq_getElem lt⟩, Pv (i + 1), fun H' p' => ⟨xs.length - (i + 1), by omega, rfl, lt, p'⟩, fun x H' y => ?_⟩
    obtain ⟨rfl, y⟩ := y
    exact hs i x _ (y xs q) p
  · have e : i = xs.length := by omega
    subst e
    exact .inl ⟨⟨xs, q, Nat.le_refl _⟩, hd H p⟩
def all1 (x y : Str) (zs : List Str) : List T3 := zs.map fun z => (x, y, z)
def all2 (x : Str) (ys zs : List Str) : List T3 := ys.flatMap fun y => all1 x y zs
def all3 (xs ys zs : List Str) : List T3 := xs.flatMap fun x => all2 x ys zs
theorem all1_succ {x y z : Str} {zs : List Str} {i : Nat} (h : zs[i]? = some z) : all1 x y (zs.take (i + 1)) = all1 x y (zs.take i) ++ [(x, y, z)] := by
  unfold all1
  rw [List.take_succ, h, List.map_append]
  rfl
theorem all2_succ {x y : Str} {ys zs : List Str} {i : Nat} (h : ys[i]? = some y) : all2 x (ys.take (i + 1)) zs = all2 x (ys.take i) zs ++ all1 x y zs := by
  unfold all2
  rw [List.take_succ, h, List.flatMap_append]
  simp
theorem all3_succ {x : Str} {xs ys zs : List Str} {i : Nat} (h : xs[i]? = some x) : all3 (xs.take (i + 1)) ys zs = all3 (xs.take i) ys zs ++ all2 x ys zs := by
  unfold all3
  rw [List.take_succ, h, List.flatMap_append]
  simp
theorem all1_len {x y : Str} {zs : List Str} : (all1 x y zs).length = zs.length := List.length_map _
theorem all2_len {x : Str} {zs : List Str} : ∀ ys : List Str, (all2 x ys zs).length = ys.length * zs.length
  | [] => by simp [all2]
  | y :: ys => by
    have ih := all2_len (x := x) (zs := zs) ys
    unfold all2 at ih ⊢
    rw [List.flatMap_cons, List.length_append, ih, all1_len]
    show _ = (ys.length + 1) * zs.length
    rw [Nat.add_mul, Nat.one_mul, Nat.add_comm]
theorem all3_len {ys zs : List Str} : ∀ xs : List Str, (all3 xs ys zs).length = xs.length * (ys.length * zs.length)
  | [] => by simp [all3]
  | x :: xs => by
    have ih := all3_len (ys := ys) (zs := zs) xs
    unfold all3 at ih ⊢
    rw [List.flatMap_cons, List.length_append, ih, all2_len]
    show _ = (xs.length + 1) * (ys.length * zs.length)
    rw [Nat.add_mul, Nat.one_mul, Nat.add_comm]
theorem all_designs3 : all3 pathsL guardsL flightsL = designs3 := rfl
theorem all_worlds3 : all3 sourcesL evictsL stopsL = worlds3 := rfl
@[irreducible] def spAll3 (K : PySem.W.Frag) : Sp := fun vs H Q _ => ∃ (a b c : Addr) (l1 l2 l3 : List Str), vs = [.ref a, .ref b, .ref c] ∧ SqT K H a (l1.map V.str) ∧ SqT K H b (l2.map V.str) ∧ SqT K H c (l3.map V.str) ∧ l1.length ≤ 9 ∧ l2.length ≤ 9 ∧ l3.length ≤ 9 ∧
  ∀ (p : Addr) (xs : List V) (H' : Hp), H p = none → Evl.Ex H H' → H' p = some (.tup xs) → TriX H' xs (all3 l1 l2 l3) → Q (.ref p) H'
theorem all3_i {K : PySem.W.Frag} {a b c : Addr} {l1 l2 l3 : List Str} {H : Hp} {Q : VK} {E : XK} (h1 : SqT K H a (l1.map V.str)) (h2 : SqT K H b (l2.map V.str)) (h3 : SqT K H c (l3.map V.str)) (n1 : l1.length ≤ 9) (n2 : l2.length ≤ 9) (n3 : l3.length ≤ 9)
    (k : ∀ (p : Addr) (xs : List V) (H' : Hp), H p = none → Evl.Ex H H' → H' p = some (.tup xs) → TriX H' xs (all3 l1 l2 l3) → Q (.ref p) H') : spAll3 K [.ref a, .ref b, .ref c] H Q E := by
  unfold spAll3
  exact ⟨a, b, c, l1, l2, l3, rfl, h1, h2, h3, n1, n2, n3, k⟩
@[irreducible] def spAllU (l : List T3) : Sp := fun vs H Q _ => vs = [] ∧ ∀ (p : Addr) (xs : List V) (H' : Hp), H p = none → Evl.Ex H H' → H' p = some (.tup xs) → TriX H' xs l → Q (.ref p) H'
theorem allU_i {l : List T3} {H : Hp} {Q : VK} {E : XK} (k : ∀ (p : Addr) (xs : List V) (H' : Hp), H p = none → Evl.Ex H H' → H' p = some (.tup xs) → TriX H' xs l → Q (.ref p) H') : spAllU l [] H Q E := by
  unfold spAllU
  exact ⟨rfl, k⟩
section
variable {P : Program} {w : World} {K : PySem.W.Frag} {mg : Str → Option Value} {base : Heap}
theorem ok_all_triples (T : Txt K mg) : FnOk P w K mg base CX0 1 T.f_all_triples T.fd_all_triples ["firsts", "seconds", "thirds"] (spAll3 K) := by
  refine T.F_all_triples.ok sc_all_triples (fun vs H Q E h => ?_) (fun cdv A outer s H vs Q E hr h => ?_)
  · unfold spAll3 at h
    obtain ⟨a, b, c, l1, l2, l3, rfl, _⟩ := h
    rfl
  · unfold spAll3 at h
    obtain ⟨a, b, c, l1, l2, l3, rfl, h1, h2, h3, n1, n2, n3, q⟩ := h
    refine ⟨_, (pss_one (ps_ret (pe_callTy call_tuple_of (by rfl) T.n_tuple (by decide +kernel) (pa_cons (pe_lc3 (own := [("one", 3), ("two", 4), ("three", 5)]) (vs1 := [4, 5]) (vs2 := [5]) rfl sc_all_triples.nd (pi_tup (pv 0)) (blkOk_by (N := ["firsts", "seconds", "thirds", "one", "two", "three"]) (sc := defScope s_all_triples) (by decide +kernel)) (by decide) (by decide) (fun _ _ _ _ _ => (pg_name (i := 3) sc_all_triples.nd rfl (Or.inl rfl))) (fun _ _ _ _ _ => (pi_tupK (K := K) rfl (pv 1))) (fun _ _ _ _ _ => (pg_name (i := 4) sc_all_triples.nd rfl (Or.inl rfl))) (fun _ _ _ _ _ => (pi_tupK (K := K) rfl (pv 2))) (fun _ _ _ _ _ => (pg_name (i := 5) sc_all_triples.nd rfl (Or.inl rfl))) (fun _ _ _ _ _ => (pe_tup (pa_cons (pv 3) (pa_cons (pv 4) (pa_cons (pv 5) pa_nil)))))) pa_nil)))), ?_⟩
    refine ⟨_, rfl, a, rfl, ⟨_, h1⟩, fun D nD => ?_⟩
    refine loop_tup (xs := l1.map V.str) (fun i H' => ∃ acc, Evl.Ex H H' ∧ H' D = some (.lst acc) ∧ TriX H' acc (all3 (l1.take i) l2 l3)) ⟨[], Evl.Ex.new nD, upd_same, .nil⟩ (fun i H' _ ⟨_, e, _⟩ => Evl.ex_t e h1) ?_ ?_
    · rintro i x H1 hi ⟨acc1, e1, d1, t1⟩
      obtain ⟨x, hx, rfl⟩ := map_at hi
      refine ⟨rfl, ?_⟩
      refine ⟨_, rfl, b, rfl, ⟨_, Evl.ex_t e1 h2⟩, ?_⟩
      refine loop_tup (xs := l2.map V.str) (fun j H' => ∃ acc, Evl.Ex H H' ∧ H' D = some (.lst acc) ∧ TriX H' acc (all3 (l1.take i) l2 l3 ++ all2 x (l2.take j) l3)) ⟨acc1, e1, d1, ?_⟩ (fun j H' _ ⟨_, e, _⟩ => Evl.ex_t e h2) ?_ ?_
      · show TriX H1 acc1 (_ ++ [])
        rw [List.append_nil]
        exact t1
      · rintro j y H2 hj ⟨acc2, e2, d2, t2⟩
        obtain ⟨y, hy, rfl⟩ := map_at hj
        refine ⟨rfl, ?_⟩
        refine ⟨_, rfl, c, rfl, ⟨_, Evl.ex_t e2 h3⟩, ?_⟩
        refine loop_tup (xs := l3.map V.str) (fun k H' => ∃ acc, Evl.Ex H H' ∧ H' D = some (.lst acc) ∧ TriX H' acc (all3 (l1.take i) l2 l3 ++ all2 x (l2.take j) l3 ++ all1 x y (l3.take k))) ⟨acc2, e2, d2, ?_⟩ (fun k H' _ ⟨_, e, _⟩ => Evl.ex_t e h3) ?_ ?_
        · show TriX H2 acc2 (_ ++ [])
          rw [List.append_nil]
          exact t2
        · rintro k z H3 hk ⟨acc3, e3, d3, t3⟩
          obtain ⟨z, hz, rfl⟩ := map_at hk
          refine ⟨rfl, ?_⟩
          have al : acc3.length < sizeLine := by
            have z : acc3.length ≤ 9 * (9 * 9) + 9 * 9 + 9 := by
              rw [t3.length, List.length_append, List.length_append, all3_len, all2_len, all1_len, List.length_take, List.length_take, List.length_take]
              refine Nat.add_le_add (Nat.add_le_add (Nat.mul_le_mul (by omega) (Nat.mul_le_mul n2 n3)) (Nat.mul_le_mul (by omega) n3)) (by omega)
            exact Nat.lt_of_le_of_lt z (by decide)
          refine ⟨_, rfl, _, rfl, _, rfl, (by show 3 ≤ sizeLine; decide), fun t nt => ?_⟩
          have e4 := Evl.Ex.new (o := .tup [.str x, .str y, .str z]) nt
          refine ⟨acc3, e4 _ _ d3, al, acc3 ++ [.ref t], Evl.Ex.mut (e3.trans e4) nD, upd_same, ?_⟩
          rw [all1_succ hz, ← List.append_assoc]
          have ht : (upd H3 t (.tup [.str x, .str y, .str z])) t = some (tT (x, y, z)) := upd_same
          have keepD : ∀ {b : Addr} {u : T3}, (upd H3 t (.tup [.str x, .str y, .str z])) b = some (tT u) → (upd (upd H3 t (.tup [.str x, .str y, .str z])) D (.lst (acc3 ++ [.ref t]))) b = some (tT u) := fun {b u} hb => by
            rw [upd_ne fun z => ?_]
            · exact hb
            · rw [z, e4 _ _ d3] at hb
              cases hb
          exact prd_app (Paired.mapP (t3.ex e4) fun _ _ ⟨b, r, hb⟩ => ⟨b, r, keepD hb⟩) (.cons ⟨t, rfl, keepD ht⟩ .nil)
        · rintro H3 ⟨acc3, e3, d3, t3⟩
          rw [List.length_map, List.take_length] at t3
          refine ⟨acc3, e3, d3, ?_⟩
          rw [all2_succ hy, ← List.append_assoc]
          exact t3
      · rintro H3 ⟨acc3, e3, d3, t3⟩
        rw [List.length_map, List.take_length] at t3
        refine ⟨acc3, e3, d3, ?_⟩
        rw [all3_succ hx]
        exact t3
    · rintro H3 ⟨acc3, e3, d3, t3⟩
      rw [List.length_map, List.take_length] at t3
      refine ⟨_, _, rfl, .inl ⟨SqL.of d3, fun p np => ?_⟩⟩
      have e4 := Evl.Ex.new (o := .tup acc3) np
      exact q p acc3 _ (Evl.fresh_back e3 np) (e3.trans e4) upd_same (t3.ex e4)
theorem ok_all_designs (T : Txt K mg) (U : TxtC K mg) : FnOk P w K mg base CX0 2 T.f_all_designs T.fd_all_designs [] (spAllU designs3) := by
  refine T.F_all_designs.ok sc_all_designs (fun vs H Q E h => ?_) (fun cdv A outer s H vs Q E hr h => ?_)
  · unfold spAllU at h
    obtain ⟨rfl, _⟩ := h
    rfl
  · unfold spAllU at h
    obtain ⟨rfl, q⟩ := h
    refine ⟨_, (pss_one (ps_ret (pe_call (ok_all_triples T) (hr.mono (by decide)) rfl T.m_all_triples T.F_all_triples.kp (b_all_triples T) .nil pass0 (pa_cons (pe_glob (v := .ref U.v_PATHS) rfl U.m_PATHS rfl) (pa_cons (pe_glob (v := .ref U.v_GUARDS) rfl U.m_GUARDS rfl) (pa_cons (pe_glob (v := .ref U.v_FLIGHTS) rfl U.m_FLIGHTS rfl) pa_nil)))))), ?_⟩
    exact all3_i (U.s_PATHS H) (U.s_GUARDS H) (U.s_FLIGHTS H) (by decide) (by decide) (by decide) q
theorem ok_all_worlds (T : Txt K mg) (U : TxtC K mg) : FnOk P w K mg base CX0 2 T.f_all_worlds T.fd_all_worlds [] (spAllU worlds3) := by
  refine T.F_all_worlds.ok sc_all_worlds (fun vs H Q E h => ?_) (fun cdv A outer s H vs Q E hr h => ?_)
  · unfold spAllU at h
    obtain ⟨rfl, _⟩ := h
    rfl
  · unfold spAllU at h
    obtain ⟨rfl, q⟩ := h
    refine ⟨_, (pss_one (ps_ret (pe_call (ok_all_triples T) (hr.mono (by decide)) rfl T.m_all_triples T.F_all_triples.kp (b_all_triples T) .nil pass0 (pa_cons (pe_glob (v := .ref U.v_SOURCES) rfl U.m_SOURCES rfl) (pa_cons (pe_glob (v := .ref U.v_EVICTIONS) rfl U.m_EVICTIONS rfl) (pa_cons (pe_glob (v := .ref U.v_STOPS) rfl U.m_STOPS rfl) pa_nil)))))), ?_⟩
    exact all3_i (l1 := sourcesL) (l2 := evictsL) (l3 := stopsL) (U.s_SOURCES H) (U.s_EVICTIONS H) (U.s_STOPS H) (by decide) (by decide) (by decide) q
end
theorem tri_at {H : Hp} {xs : List V} {l : List T3} {i : Nat} {x : V} (T : TriX H xs l) (h : xs[i]? = some x) : ∃ t a, l[i]? = some t ∧ x = .ref a ∧ H a = some (tT t) := by
  obtain ⟨t, e, a, r, z⟩ := pget T h
  exact ⟨t, a, e, r, z⟩
/-- a design's and a world's three words -/
def cf3 (d w : T3) : Conf := ⟨d.1, d.2.1, d.2.2, w.1, w.2.1, w.2.2⟩
theorem cf3_ok {d w : T3} (hd : d ∈ designs3) (hw : w ∈ worlds3) : (cf3 d w).Ok := by
  have d3 : ∀ d ∈ designs3, d.1 ∈ pathsL ∧ d.2.1 ∈ guardsL ∧ d.2.2 ∈ flightsL := by
    intro d h
    unfold designs3 tri3 at h
    obtain ⟨x, hx, h⟩ := List.mem_flatMap.mp h
    unfold tri2 at h
    obtain ⟨y, hy, h⟩ := List.mem_flatMap.mp h
    simp only [List.mem_cons, List.not_mem_nil, or_false] at h
    rcases h with rfl | rfl <;> exact ⟨hx, hy, by simp [flightsL]⟩
  have w3 : ∀ d ∈ worlds3, d.1 ∈ sourcesL ∧ d.2.1 ∈ evictsL ∧ d.2.2 ∈ stopsL := by
    intro d h
    unfold worlds3 tri3 at h
    obtain ⟨x, hx, h⟩ := List.mem_flatMap.mp h
    unfold tri2 at h
    obtain ⟨y, hy, h⟩ := List.mem_flatMap.mp h
    simp only [List.mem_cons, List.not_mem_nil, or_false] at h
    rcases h with rfl | rfl <;> exact ⟨hx, hy, by simp [stopsL]⟩
  obtain ⟨a, b, c⟩ := d3 d hd
  obtain ⟨e, f, g⟩ := w3 w hw
  have e : w.1 = "primary" ∨ w.1 = "replica" := by simpa [sourcesL] using e
  have f : w.2.1 = "evicts" ∨ w.2.1 = "keeps" := by simpa [evictsL] using f
  have g : w.2.2 = "finishes" ∨ w.2.2 = "stops" := by simpa [stopsL] using g
  exact ⟨a, b, c, e, f, g⟩
theorem cf3_dT {d w : T3} : dT (cf3 d w) = tT d := rfl
theorem cf3_wT {d w : T3} : wT (cf3 d w) = tT w := rfl
end Ca

set_option Elab.async false
set_option linter.all false
set_option maxRecDepth 100000
set_option maxHeartbeats 4000000
/-! InvalidText, made with its line -/
namespace PySem
namespace InvX
open PySem.W PySem.Calls PyProof.Rows PySem.HandSPX
open PySem.BadX (Fmt one_size call_bwV ldX fmt_run fmt_join)
abbrev qI : Str := "InvalidText.__init__"
def iA (p1 p2 : Pos) : Arguments := { posonlyargs := [], args := [{ arg := "self", annotation := none, pos := p1 }, { arg := "line", annotation := none, pos := p2 }], vararg := none, kwonlyargs := [], kw_defaults := [], kwarg := none, defaults := [] }
def iB (k : Nat) (q0 q1 q2 q3 q4 q5 q6 q7 q8 r1 r2 r3 r4 : Pos) : List Stmt :=
  [.Expr (.Call (.Attribute (.Call (.Name "super" q0) [] [] q1) "__init__" q2) [.JoinedStr [.Constant (.str "invalid text: line ") k q3, .FormattedValue (.Name "line" q4) (-1) none q5] q6] [] q7) q8,
   .Assign [.Attribute (.Name "self" r1) "line" r2] (.Name "line" r3) r4]
def iS : Scope := { kind := .function, names := [(PySem.Str.ofString "self", .local), (PySem.Str.ofString "line", .local), (PySem.Str.ofString "__class__", .free), (PySem.Str.ofString "super", .globalImplicit)], isGenerator := false, isCoroutine := false, more := [] }
/-- what the written part says of InvalidText, at C, and of its __init__, at fI -/
structure InvTxt (P : Program) (K : Frag) (mg : Str → Option Value) (C fI : Addr) : Prop where
  gC : mg "InvalidText" = some (.ref C)
  gS : mg "super" = none
  cls : ∃ nm q N bs bm sn sub ab col dd k0 k1 k2 k3 k5, K.lookup C = some (excClassObj nm q C N bs bm true sn sub ab col dd k0 k1 k2 k3 k5 "ValueError.__new__") ∧ refsVE bm = true ∧ alongIn K "__init__" bm = some (some (.builtin "ValueError.__init__"))
  sa : findIn K (.ref C) "__setattr__" = some (some (.builtin "object.__setattr__"))
  ga : findIn K (.ref C) "__getattribute__" = some (some (.builtin "BaseException.__getattribute__"))
  gg : findIn K (.ref C) "__getattr__" = some none
  noN : findIn K (.ref C) "line" = some none
  iC : findIn K (.ref C) "__init__" = some (some (.ref fI))
  tC : typeIn K (.ref C) = some (.type "type")
  kC : keepIn K (.ref C) = true
  tF : typeIn K (.ref fI) = some (.type "function")
  exC : subIn K (.ref C) (.type "BaseException") = some true
  exV : subIn K (.ref C) (.type "ValueError") = some true
  exS : mroIn K C (.ref C) = some true
  hdC : hasDictIn K C = true
  te : exmOne K (.ref C) (.ref C) = some true
  opq : nsIn K cStatics "thirdparty.any" = some none
  top : (P.main.scope.names.lookup ("super" : Str)).isSome = false
  fn : ∃ (oc : Value) (od : Option Addr) (doc pm : Value) (an : Option Addr) (cda : Addr) (ct : Value) (osl : Array (Option Value)) (cc : Addr) (k : Nat) (p1 p2 q0 q1 q2 q3 q4 q5 q6 q7 q8 r1 r2 r3 r4 : Pos),
    K.lookup fI = some ⟨oc, od, .func (ksFn "__init__" qI (iA p1 p2) (iB k q0 q1 q2 q3 q4 q5 q6 q7 q8 r1 r2 r3 r4) iS .none .none doc pm an (.ref cda) ct cc), osl⟩ ∧ codeIn K (.ref cda) qI = true ∧ (q2.endLine == q7.line) = true ∧
    (∃ (ccl : Value) (cdd : Option Addr) (vs : Array Value) (ccs : Array (Option Value)) (file : Str) (tf : Tok), K.lookup cda = some ⟨ccl, cdd, .fields vs, ccs⟩ ∧ vs[2]? = some (.str file tf) ∧ ((P.main.file : Str) == file) = true) ∧
    (∃ (cl : Value) (cld : Option Addr) (csl : Array (Option Value)), K.lookup cc = some ⟨cl, cld, .cell (some (.ref C)), csl⟩)
/-- what __init__ leaves of a fresh exception at x -/
structure InitEnd (h h' : Heap) (x C dx : Addr) (v : Value) : Prop where
  keep : ∀ b o, b ≠ x → h.get? b = some o → h'.get? b = some o
  obj : ∃ t1 : Addr, h'.get? x = some { cls := .ref C, dict := some dx, data := .fields #[.ref t1, .none, .none, .none, .bool false, .none] }
  dbig : h.objs.size ≤ dx
  dne : dx ≠ x
  ns : h'.Ns1 dx (fun y => if y = "line" then some v else none)
/-- a made InvalidText -/
structure OwnMade (h h' : Heap) (e C d : Addr) (v : Value) : Prop where
  keep : ∀ b o, h.get? b = some o → h'.get? b = some o
  new : h.objs.size ≤ e
  obj : ∃ oe vs, h'.get? e = some oe ∧ oe.cls = .ref C ∧ oe.dict = some d ∧ oe.data = .fields vs ∧ vs[1]? = some .none
  dbig : h.objs.size ≤ d
  dne : d ≠ e
  ns : h'.Ns1 d (fun y => if y = "line" then some v else none)
section
variable {prog : Program} {w : World} {A : Around} {E : Value → Shared → Prop} {R : Result → Shared → Prop} {s : Shared} {K : Frag} {mg : Str → Option Value} {C fI : Addr}
theorem inv_init (T : InvTxt prog K mg C fI) {base : Heap} {x t0 : Addr} {v : Value} (hv : Fmt v) (hM : L2.Mod K mg base) (hb : ∀ b o, base.get? b = some o → s.heap.get? b = some o) (hx : s.heap.get? x = some (excO C t0)) (hnx : K.lookup x = none) (hroom : A.depth < recursionLimit)
    (hq : ∀ h' tk dx, InitEnd s.heap h' x C dx v → R (.ok (.ret .none)) { s with heap := h', toks := tk }) :
    codeAny (model prog w) A (.call (.ref fI) ⟨[.ref x, v], []⟩) R s := by
  have X : K.In s.heap := hM.kin.keeps hb
  have hlim : s.heap.NoLimit := hM.nolimit.keeps hb
  obtain ⟨oc, od, doc, pm, an, cda, ct, osl, cc, k, p1, p2, q0, q1, q2, q3, q4, q5, q6, q7, q8, r1, r2, r3, r4, ho, hcd, hline, ⟨ccl, cdd, vs, ccs, file, tf, hcode, hvs, hfile⟩, ⟨cl, cld, csl, hcell⟩⟩ := T.fn
  obtain ⟨nm, q, N, bs, bm, sn, sub, ab, col, dd, k0, k1, k2, k3, k5, hC, hbm, hal⟩ := T.cls
  have hcl : clsIn K C = some { name := nm, bases := bs, mro := .ref C :: bm, ns := N, qualname := q, hasDict := true, slotNames := sn, subclasses := sub, abstract := ab, collection := col, hasDel := false } := by unfold clsIn; rw [hC] <;> rfl
  refine ks_codeAny_call_defAt (body := iB k q0 q1 q2 q3 q4 q5 q6 q7 q8 r1 r2 r3 r4) (binds := [("self", .ref x), ("line", v)]) hroom (X _ _ ho) rfl hlim (codeRec_of X hcd) rfl (BindsTo.of_eq (by first | rfl | with_unfolding_all rfl)) (fun y hy => (by decide : ∀ y ∈ iS.names, y.2 ≠ .cell) y hy) (by first | decide | (intro y hy; simp at hy; rcases hy with rfl | rfl <;> rfl)) (fun h₁ hn kk => ?_) rfl rfl rfl
  obtain ⟨hp, g, dr, tk, os⟩ := s
  have hxL : hp.objs.size ≠ x := Nat.ne_of_gt (Heap.lt_size hx)
  have X₁ : K.In h₁ := X.keeps kk
  have hx₁ := kk _ _ hx
  have hxC : x ≠ C := fun z => by rw [z, hC] at hnx; cases hnx
  have I₁ : InstAt h₁ x (excO C t0) C none := ⟨hx₁, rfl, rfl, trivial⟩
  obtain ⟨mb, hmb, hbb⟩ := hM.blt
  have hC₁ := X₁ _ _ hC
  have he : ∀ env : Env, eval (.Call (.Attribute (.Call (.Name "super" q0) [] [] q1) "__init__" q2) [.JoinedStr [.Constant (.str "invalid text: line ") k q3, .FormattedValue (.Name "line" q4) (-1) none q5] q6] [] q7) env = (do
      let ov ← attributeBase (.Call (.Name "super" q0) [] [] q1) "__init__" env (eval (.Call (.Name "super" q0) [] [] q1) env)
      standAt q2.atName
      let (f, first) ← holding [ov] (getMethod ov "__init__" (L2.plainOf (.Call (.Name "super" q0) [] [] q1) env))
      callWith q7 f first (backTo q7 (starEach [.JoinedStr [.Constant (.str "invalid text: line ") k q3, .FormattedValue (.Name "line" q4) (-1) none q5] q6] env)) []) := fun env => by
    rw [arm_eval_Call]
    have e3 := fun ov => L2.mcall_line (o := .Call (.Name "super" q0) [] [] q1) (m := "__init__") (apos := q2) (pos := q7) (env := env) (ov := ov) (n := 1) (args := backTo q7 (starEach [.JoinedStr [.Constant (.str "invalid text: line ") k q3, .FormattedValue (.Name "line" q4) (-1) none q5] q6] env)) (kws := []) rfl hline
    show (do
      let ov ← attributeBase (.Call (.Name "super" q0) [] [] q1) "__init__" env (eval (.Call (.Name "super" q0) [] [] q1) env)
      standAt q2.atName
      methodCall (.Call (.Name "super" q0) [] [] q1) "__init__" q2 q7 env ov 1 (backTo q7 (starEach [.JoinedStr [.Constant (.str "invalid text: line ") k q3, .FormattedValue (.Name "line" q4) (-1) none q5] q6] env)) []) = _
    simp only [e3]
  refine ks_wpAt_execs_cons (ks_wpAt_Expr_any (ks_wpAt_MethodCall (pl := L2.plainOf (.Call (.Name "super" q0) [] [] q1) _) ?_ (he _)) rfl rfl)
  refine ks_wpAt_super_base rfl rfl (by decide) rfl (X₁ _ _ ho) rfl rfl rfl (X₁ _ _ hcode) rfl hvs hfile T.top ?_
  have hsup : mb "super" = some (.type "super") := (hbb "super" (by decide)).trans (by first | boot_by_name | rfl | kernel_rfl)
  refine ks_loadName_global rfl rfl (loadGlobal_builtin (mg := mg) (mb := mb) ((hM.glob.keeps hb).keeps kk) T.gS ((hmb.keeps hb).keeps kk) hsup ⟨rfl, ?_⟩)
  refine wpAny_loadName_free (c := cc) (v := .ref C) rfl rfl rfl ⟨_, X₁ _ _ hcell, rfl⟩ ?_
  refine wpAny_loadName_local rfl rfl hn (v := .ref x) (by first | rfl | with_unfolding_all rfl | kernel_rfl) ?_
  refine ks_wpAny_isType_cls (X₁ _ _ hC) rfl ⟨rfl, ?_⟩
  refine ks_wpAny_call_super (X₁ _ _ hC) rfl hx₁ rfl (fun c e => by cases e) (looks_mroIn X₁ T.exS) (fun h2 e2 k2 => ?_)
  have X₂ : K.In h2 := X₁.keeps k2
  have hx₂ := k2 _ _ hx₁
  have I₂ : InstAt h2 x (excO C t0) C none := ⟨hx₂, rfl, rfl, trivial⟩
  refine kxs_getMethod kxs_ValueError e2 (looks_opaque X₂ T.opq) (l₀ := .ref C :: bm) (l := bm) ?_ ?_ X₂ hal (I₂.type.andThen (looks_subIn X₂ T.exV)) hxC (by decide) ?_
  · exact fun A Q E s k q => wpAny_bind ((looks_clsIn X₂ hcl) A _ E s k (wpAny_pure q))
  · exact PySem.ESX.drop_own C bm
  have k3 : ∀ b o, h2.get? b = some o → (h2.push (kxs_mw "ValueError.__init__" x)).get? b = some o := fun b o e => Heap.get?_push_of_some _ e
  have hu : (h2.push (kxs_mw "ValueError.__init__" x)).get? h2.objs.size = some (kxs_mw "ValueError.__init__" x) := Heap.get?_push_at rfl rfl
  have hn3 := (hn.keeps k2).keeps k3
  have X₃ : K.In (h2.push (kxs_mw "ValueError.__init__" x)) := X₂.keeps k3
  have hx₃ := k3 _ _ hx₂
  refine kxs_callWith (i := "ValueError.__init__") (x := x) (by first | rfl | decide) (evalArgs_plain (PyProof.Rows.spliced_more (fmt_join (m := fun y => (([("self", .ref x), ("line", v)] : List (Str × Value)).reverse).lookup y) hv (by decide) hn3 (by first | rfl | with_unfolding_all rfl | kernel_rfl) rfl rfl (by decide) fun y ty s4 h4 g4 d4 o4 => ?_) rfl))
  obtain ⟨hh4, gg4, dd4, tk4, os4⟩ := s4
  dsimp only at h4 g4 d4 o4
  subst h4 g4 d4 o4
  refine PyProof.Rows.spliced_none ⟨hu, ?_⟩
  refine call_bwV (X₃ _ _ hC) hx₃ hu (one_size _) fun h5 t5 k5' hx₅ => ?_
  refine wpAt_of_wpAny ?_
  have old5 : ∀ b o, b ≠ x → hp.get? b = some o → h5.get? b = some o := fun b o hb' e => k5' b o hb' (k3 b o (k2 b o (kk b o e)))
  have hnx' : ∀ b o, K.lookup b = some o → b ≠ x := fun b o e z => by rw [z, hnx] at e; cases e
  have X₅ : K.In h5 := fun b o e => k5' b o (hnx' b o e) (X₃ b o e)
  have hn5 : h5.Ns hp.objs.size (fun y => (([("self", .ref x), ("line", v)] : List (Str × Value)).reverse).lookup y) := by
    obtain ⟨oL, es, ep, hL, r⟩ := hn3
    exact ⟨oL, es, ep, k5' _ _ hxL hL, r⟩
  refine wpAny_execs_cons (plainObj_wpAny_Assign_Attribute ?_)
  refine ldX (v := v) hn5 (by first | rfl | with_unfolding_all rfl | kernel_rfl) (ldX (v := .ref x) hn5 (by first | rfl | with_unfolding_all rfl | kernel_rfl) ?_)
  refine set_plain X₅ (ox := excO C t5) (od := none) ⟨hx₅, rfl, rfl, trivial⟩ T.sa ?_
  refine exc_osa X₅ hx₅ hcl (show refsVE (.ref C :: bm) = true from hbm) rfl T.noN (fun h₆ tk₆ dx k₆ dn dne hx₆ hn₆ => ?_)
  show wpAny _ _ (execs _ _) _ _ _
  have z1 : hp.objs.size < h₁.objs.size := hn.lt
  have z2 : hp.objs.size ≤ h5.objs.size := Nat.le_of_lt hn5.lt
  exact wpAny_execs_nil (hq h₆ tk₆ dx ⟨fun b o hb' e => k₆ b o hb' (old5 b o hb' e), ⟨_, hx₆⟩, Nat.le_trans z2 dn, dne, hn₆⟩)
theorem inv_made (T : InvTxt prog K mg C fI) {base : Heap} {v : Value} (hv : Fmt v) (hM : L2.Mod K mg base) (hb : ∀ b o, base.get? b = some o → s.heap.get? b = some o) (hroom : A.depth + 1 < recursionLimit)
    (hq : ∀ h' tk e d, OwnMade s.heap h' e C d v → R (.ok (.ret (.ref e))) { s with heap := h', toks := tk }) :
    codeAny (model prog w) A (.call (.ref C) ⟨[v], []⟩) R s := by
  obtain ⟨nm, q, N, bs, bm, sn, sub, ab, col, dd, k0, k1, k2, k3, k5, hC, hbm, hal⟩ := T.cls
  obtain ⟨hp, g, dr, tk, os⟩ := s
  have X : K.In hp := hM.kin.keeps hb
  have k : ∀ b o, hp.get? b = some o → ((hp.push (kdv_tup [v])).push (excO C hp.objs.size)).get? b = some o := fun b o e => Heap.get?_push_of_some _ (Heap.get?_push_of_some _ e)
  have hget : ((hp.push (kdv_tup [v])).push (excO C hp.objs.size)).get? (hp.objs.size + 1) = some (excO C hp.objs.size) := by heap_get
  have hnx : K.lookup (hp.objs.size + 1) = none := by
    cases e : K.lookup (hp.objs.size + 1) with
    | none => rfl
    | some o =>
      have z : hp.get? (hp.objs.size + 1) = some o := X _ _ e
      exact absurd (Nat.lt_of_succ_lt (Heap.lt_size z)) (Nat.lt_irrefl _)
  refine call_own F.excBase_ValueError (fun X => refsVE_contains X bm hbm) (X _ _ hC) (looks_findIn X T.iC) (fun self => bind_fn X self T.tF) (one_size v) ?_
  refine inv_init (s := ⟨(hp.push (kdv_tup [v])).push (excO C hp.objs.size), g, dr, tk, os⟩) T hv hM (fun b o e => k b o (hb b o e)) hget hnx ?_ fun h' tk' dx ⟨k', ⟨t1, hx⟩, dn, dne, hns⟩ => ?_
  · show A.depth + 1 < recursionLimit
    exact hroom
  · have old : ∀ b o, hp.get? b = some o → h'.get? b = some o := fun b o e => k' b o (Nat.ne_of_lt (Nat.lt_succ_of_lt (Heap.lt_size e))) (k b o e)
    have z : hp.objs.size + 1 + 1 ≤ dx := by
      first
        | (simpa only [Heap.size_push] using dn)
        | exact dn
        | (have q := dn; rw [Heap.size_push, Heap.size_push] at q; exact q)
    exact ⟨rfl, hq h' tk' (hp.objs.size + 1) dx ⟨old, Nat.le_succ _, ⟨_, _, hx, rfl, rfl, rfl, rfl⟩, Nat.le_trans (Nat.le_trans (Nat.le_succ _) (Nat.le_succ _)) z, dne, hns⟩⟩
end
end InvX
end PySem

namespace L2
open PySem PySem.Spec PyProof.Rows
theorem relO_inv {v : V} {v' : Value} (r : RelV v v') (f : Str) : RelO (List.lookup f [(("line" : Str), v)]) (if f = "line" then some v' else none) := by
  by_cases hw : f = "line"
  · subst hw
    rw [if_pos rfl]
    have q : List.lookup ("line" : Str) [(("line" : Str), v)] = some v := by simp [List.lookup]
    rw [q]
    exact r
  · rw [if_neg hw]
    have qw : (f == ("line" : Str)) = false := by simpa using hw
    have q2 : List.lookup f [(("line" : Str), v)] = none := by simp [List.lookup, qw]
    rw [q2]
    trivial
section
variable {X : Cx} {C fI : Addr}
/-- InvalidText(e) -/
def tMkInv (C : Addr) (ta : TA) : St → Hp → XK → Prop := fun σ H Q => ta σ H fun vs H1 => ∃ v, vs = [v] ∧ FmtV v ∧ ∀ d, H1 d = none → Q (.ref C) (some d) (upd H1 d (.xd [(("line" : Str), v)]))
theorem pmk_inv {a : Expr} {ta : TA} {p pos : Pos} {k : Nat} (T : PySem.InvX.InvTxt X.prog X.K X.mg C fI) (hr : Room k X.A) (ha : PA X [a] ta) (hg : Gl X "InvalidText" := by rfl)
    (he : starEach (a :: []) X.env = (false, eval a X.env) :: starEach [] X.env := by rfl) (hpl : (backTo pos (starEach [] X.env)).any (·.1) = false := by rfl) :
    PMk X (.Call (.Name "InvalidText" p) [a] [] pos) (tMkInv C ta) := by
  intro pins s σ H Q I h
  refine wpAny_Call_Name_kw (ld_glob I hg T.gC ?_)
  refine PySem.W.callWith_K (h₀ := X.base) I.ok.mod.kin T.kC (thn (ha.run pos pins s σ H _ I h) fun us s1 hh => ?_) he hpl
  obtain ⟨vs, H1, I1, r1, v, ev, hf, q1⟩ := hh
  subst ev
  refine ⟨I1.kIn, ?_⟩
  cases r1 with
  | cons rv rn =>
    rename_i v' us'
    cases rn
    show wpAny _ _ (call (.ref C) [v']) _ _ _
    obtain ⟨hp, g, dr, tk, os⟩ := s1
    refine wpAny_call (PySem.InvX.inv_made T (hf.val rv) I1.mod I1.bk (by have := hr.dp; omega) fun h' tk' e d M => ?_)
    show MkP X pins σ Q (.ref e) ⟨h', g, dr, tk', os⟩
    obtain ⟨oe, fv, hoe, hc, hd, hdat, h1⟩ := M.obj
    have hns := M.ns
    obtain ⟨G', g1, g2⟩ := restrict h' fun b => decide (b ≠ e)
    have gk : ∀ b, b ≠ e → G'.get? b = h'.get? b := fun b hb => g1 b (decide_eq_true hb)
    have ge : G'.get? e = none := g2 e (by simp)
    have old : ∀ b o, hp.get? b = some o → G'.get? b = some o := fun b o q => (gk b (Nat.ne_of_lt (Nat.lt_of_lt_of_le (Heap.lt_size q) M.new))).trans (M.keep b o q)
    have ob : ObjOk X.prog X.w (upd H1 d (.xd [(("line" : Str), v)])) G' d (.xd [(("line" : Str), v)]) :=
      ⟨_, hns.at (fun o q => (gk d M.dne).trans q), fun f => relO_inv rv f⟩
    have J : Inv X pins σ (upd H1 d (.xd [(("line" : Str), v)])) ⟨G', g, dr, tk', os⟩ := I1.laid (t' := tk') old M.dbig ob
    refine ⟨e, oe, fv, ⟨G', g, dr, tk', os⟩, _, .ref C, some d, rfl, J, fun b o q => ?_, ge, hoe, ⟨hc, hd⟩, hdat, h1, ?_, rfl, I1.bare, raises_own T.exC T.tC, q1 d (I1.hok.fresh M.dbig)⟩
    · by_cases hb : b = e
      · have q' : G'.get? b = some o := q
        rw [hb, ge] at q'; cases q'
      · exact (gk b hb).symm.trans q
    · rw [upd_ne (Ne.symm M.dne)]
      exact I1.hok.fresh M.new
/-- raise InvalidText(e) -/
def tRaiseInv (C : Addr) (W : WX) (ta : TA) : TS := fun _ σ H => tMkInv C ta σ H fun cls d H' => W cls d σ H'
theorem ps_raiseInv {a : Expr} {ta : TA} {W : WX} {p pos pos2 : Pos} {k : Nat} (hc : X.calm = true) (T : PySem.InvX.InvTxt X.prog X.K X.mg C fI) (hr : Room k X.A) (tk : Takes X W) (ha : PA X [a] ta) (hg : Gl X "InvalidText" := by rfl)
    (he : starEach (a :: []) X.env = (false, eval a X.env) :: starEach [] X.env := by rfl) (hpl : (backTo pos (starEach [] X.env)).any (·.1) = false := by rfl) :
    PS X (.Raise (some (.Call (.Name "InvalidText" p) [a] [] pos)) none pos2) (tRaiseInv C W ta) := ps_raise hc tk (pmk_inv T hr ha hg he hpl)
end
end L2

set_option Elab.async false
set_option linter.all false
set_option maxRecDepth 100000
set_option maxHeartbeats 4000000
namespace Ca
open PySem L2
/-! ### own errors without __init__ -/
/-- what the written part says of such a class -/
structure OwnE (K : PySem.W.Frag) (mg : Str → Option Value) (x : Str) where
  C : Addr
  g : mg x = some (.ref C)
  x : PySem.W.excIn K C [.type "ValueError", .type "Exception", .type "BaseException", .type "object"] "ValueError.__new__" = true
  k : PySem.W.keepIn K (.ref C) = true
  b : PySem.W.subIn K (.ref C) (.type "BaseException") = some true
  t : PySem.W.typeIn K (.ref C) = some (.type "type")
  e : ExcC K C
structure ErrT (K : PySem.W.Frag) (mg : Str → Option Value) where
  B : Addr
  gB : mg "CacheError" = some (.ref B)
  e_NotText : OwnE K mg "NotText"
  m_NotText : PySem.W.exmOne K (.ref e_NotText.C) (.ref B) = some true
  k_NotText_NotText : PySem.W.kitOne K (.ref e_NotText.C) (.ref e_NotText.C) = some true
theorem OwnE.mk1 {X : Cx} {x : Str} {e : Expr} {ta : TE} {p pos : Pos} (R : OwnE X.K X.mg x) (he : PE X e ta) (hg : Gl X x := by rfl) (hs : starEach [e] X.env = (false, eval e X.env) :: starEach [] X.env := by rfl) (hdb : (x == ("__debug__" : Str)) = false := by decide) :
    PMk X (.Call (.Name x p) [e] [] pos) (fun σ H Q => ta σ H fun _ H1 => Q (.ref R.C) none H1) :=
  SkE.pmk_own1 PySem.F.excBase_ValueError R.x R.g R.k (raises_own R.b R.t) hg he hs hdb
/-! ### texts asked for -/
inductive NoStr : V → Prop where
  | non : NoStr .non
  | int (i : Int) : NoStr (.int i)
@[irreducible] def spChTxt (CN : Addr) : Sp := fun vs H Q E => ∃ v : V, vs = [v] ∧ ((∃ s, v = .str s ∧ Q .non H) ∨ (NoStr v ∧ E (.ref CN) none H))
theorem chtxt_s {CN : Addr} {s : Str} {H : Hp} {Q : VK} {E : XK} (q : Q .non H) : spChTxt CN [.str s] H Q E := by
  unfold spChTxt
  exact ⟨_, rfl, .inl ⟨s, rfl, q⟩⟩
theorem chtxt_no {CN : Addr} {v : V} {H : Hp} {Q : VK} {E : XK} (n : NoStr v) (e : E (.ref CN) none H) : spChTxt CN [v] H Q E := by
  unfold spChTxt
  exact ⟨_, rfl, .inr ⟨n, e⟩⟩
/-! ### texts of three words -/
def textT (t : T3) : Str := Txt.join ", " [t.1, t.2.1, t.2.2]
structure Small3 (t : T3) : Prop where
  a : t.1.length ≤ 100
  b : t.2.1.length ≤ 100
  c : t.2.2.length ≤ 100
@[irreducible] def spTextT : Sp := fun vs H Q _ => ∃ (a : Addr) (t : T3), vs = [.ref a] ∧ H a = some (tT t) ∧ Small3 t ∧ Q (.str (textT t)) H
theorem textT_i {a : Addr} {t : T3} {H : Hp} {Q : VK} {E : XK} (h : H a = some (tT t)) (s : Small3 t) (q : Q (.str (textT t)) H) : spTextT [.ref a] H Q E := by
  unfold spTextT
  exact ⟨a, t, rfl, h, s, q⟩
/-- a reader's answer: the first of the choices of this text, or an error -/
inductive RdC (CN CI : Addr) (l : List T3) (H : Hp) (Q : VK) (E : XK) : V → Prop where
  | no {v : V} (n : NoStr v) (e : ∀ H', Evl.Ex H H' → E (.ref CN) none H') : RdC CN CI l H Q E v
  | one (i : Nat) (t : T3) (h : l[i]? = some t) (f : ∀ (j : Nat) (u : T3), j < i → l[j]? = some u → textT u ≠ textT t) (q : ∀ a H', Evl.Ex H H' → H' a = some (tT t) → Q (.ref a) H') : RdC CN CI l H Q E (.str (textT t))
  | bad (s : Str) (f : ∀ u ∈ l, textT u ≠ s) (e : ∀ dd H', Evl.Ex H H' → H' dd = some (.xd [(("line" : Str), .int 1)]) → E (.ref CI) (some dd) H') : RdC CN CI l H Q E (.str s)
theorem RdC.mono {CN CI : Addr} {l : List T3} {H H1 : Hp} {Q : VK} {E : XK} {v : V} (h : RdC CN CI l H Q E v) (x : Evl.Ex H H1) : RdC CN CI l H1 Q E v := by
  cases h with
  | no n e => exact .no n fun H' z => e H' (x.trans z)
  | one i t h f q => exact .one i t h f fun a H' z => q a H' (x.trans z)
  | bad s f e => exact .bad s f fun dd H' z => e dd H' (x.trans z)
@[irreducible] def spRdW (CN CI : Addr) : Sp := fun vs H Q E => ∃ (v : V) (p : Addr) (xs : List V) (l : List T3), vs = [v, .ref p] ∧ H p = some (.tup xs) ∧ TriX H xs l ∧ (∀ t ∈ l, Small3 t) ∧ RdC CN CI l H Q E v
@[irreducible] def spRd (CN CI : Addr) (l : List T3) : Sp := fun vs H Q E => ∃ v : V, vs = [v] ∧ RdC CN CI l H Q E v
@[irreducible] def spWr (f : Conf → T3) : Sp := fun vs H Q _ => ∃ (c : Conf) (a : Addr), vs = [.ref a] ∧ H a = some (tT (f c)) ∧ c.Ok ∧ Q (.str (textT (f c))) H
def Conf.d3 (c : Conf) : T3 := (c.path, c.guard, c.flight)
def Conf.w3 (c : Conf) : T3 := (c.source, c.evict, c.stop)
theorem d3_in {c : Conf} (O : c.Ok) : c.d3 ∈ designs3 := by
  rw [← all_designs3]
  unfold all3 all2
  exact List.mem_flatMap.mpr ⟨c.path, O.p, List.mem_flatMap.mpr ⟨c.guard, O.g, List.mem_map.mpr ⟨c.flight, O.f, rfl⟩⟩⟩
theorem w3_in {c : Conf} (O : c.Ok) : c.w3 ∈ worlds3 := by
  unfold Conf.w3
  rcases O.s with h1 | h1 <;> rcases O.e with h2 | h2 <;> rcases O.t with h3 | h3 <;> rw [h1, h2, h3] <;> decide +kernel
theorem small_d : ∀ t ∈ designs3, t.1.length ≤ 100 ∧ t.2.1.length ≤ 100 ∧ t.2.2.length ≤ 100 := by decide +kernel
theorem small_w : ∀ t ∈ worlds3, t.1.length ≤ 100 ∧ t.2.1.length ≤ 100 ∧ t.2.2.length ≤ 100 := by decide +kernel
section
variable {P : Program} {w : World} {K : PySem.W.Frag} {mg : Str → Option Value} {base : Heap} {CI fI : Addr}
theorem ok_check_text (T : Txt K mg) (R : ErrT K mg) : FnOk P w K mg base (L2.CX P w) 1 T.f_check_text T.fd_check_text ["value"] (spChTxt R.e_NotText.C) := by
  refine T.F_check_text.okX sc_check_text (fun vs H Q E h => ?_) (fun cdv A outer s H vs Q E hr h => ?_)
  · unfold spChTxt at h
    obtain ⟨v, rfl, _⟩ := h
    rfl
  · unfold spChTxt at h
    obtain ⟨v, rfl, h⟩ := h
    refine ⟨_, (pss_one (ps_if (pt_not (pt_val (pe_callB call_isi (by rfl) T.n_isinstance (by decide +kernel) (pa_cons (pv 0) (pa_cons (pe_bltn (v := .ty "str") (by rfl) T.n_str (by decide +kernel) rfl) pa_nil))))) (pss_one (ps_raise rfl (takes_of rfl rfl rfl rfl) (R.e_NotText.mk1 pe_str))) pss_nil)), ?_⟩
    rcases h with ⟨s', rfl, q⟩ | ⟨n, e⟩
    · refine ⟨_, rfl, _, _, _, _, true, rfl, .ty _, .base (.str s'), kit_ty (by decide +kernel), _, rfl, ?_⟩
      exact iteF q
    · cases n with
      | non =>
        refine ⟨_, rfl, _, _, _, _, false, rfl, .ty _, .base .non, kit_ty (by decide +kernel), _, rfl, ?_⟩
        exact iteT e
      | int i =>
        refine ⟨_, rfl, _, _, _, _, false, rfl, .ty _, .base (.int i), kit_ty (by decide +kernel), _, rfl, ?_⟩
        exact iteT e
theorem ok_text_of_words (T : Txt K mg) : FnOk P w K mg base CX0 1 T.f_text_of_words T.fd_text_of_words ["words"] spTextT := by
  refine T.F_text_of_words.ok sc_text_of_words (fun vs H Q E h => ?_) (fun cdv A outer s H vs Q E hr h => ?_)
  · unfold spTextT at h
    obtain ⟨a, t, rfl, _⟩ := h
    rfl
  · unfold spTextT at h
    obtain ⟨a, t, rfl, ha, sm, q⟩ := h
    refine ⟨_, (pss_one (ps_ret (pe_join pe_str (pv 0)))), ?_⟩
    refine ⟨⟨_, rfl⟩, _, rfl, _, a, [t.1, t.2.1, t.2.2], rfl, rfl, .inr (SqT.of ha), ?_, q⟩
    have z1 := sm.a
    have z2 := sm.b
    have z3 := sm.c
    show t.1.length + (t.2.1.length + (t.2.2.length + 0)) + 3 * 2 ≤ 16777216
    omega
theorem ok_read_words (T : Txt K mg) (R : ErrT K mg) (I : PySem.InvX.InvTxt P K mg CI fI) : FnOk P w K mg base (L2.CX P w) 4 T.f_read_words T.fd_read_words ["text", "choices"] (spRdW R.e_NotText.C CI) := by
  refine T.F_read_words.okX sc_read_words (fun vs H Q E h => ?_) (fun cdv A outer s H vs Q E hr h => ?_)
  · unfold spRdW at h
    obtain ⟨v, p, xs, l, rfl, _⟩ := h
    rfl
  · unfold spRdW at h
    obtain ⟨v, p, xs, l, rfl, hp, X, sm, h⟩ := h
    refine ⟨_, (pss_cons (ps_expr (by exact (pe_callS (ok_check_text T R) (hr.mono (by decide)) rfl T.m_check_text T.F_check_text.kp (b_check_text T) (fun σ => passAt (takes_of rfl rfl rfl rfl) σ) (pa_cons (pv 0) pa_nil))))
      (pss_cons (ps_for (passes_of rfl) rfl (pi_tup (pv 1)) (pg_name (i := 2) sc_read_words.nd rfl (Or.inl rfl)) (pss_one (ps_if (pt_cmpR op_eq (pe_call (ok_text_of_words T) (hr.mono (by decide)) rfl T.m_text_of_words T.F_text_of_words.kp (b_text_of_words T) .nil pass0 (pa_cons (pv 2) pa_nil)) (pv 0) (nomark _)) (pss_one (ps_ret (pv 2))) pss_nil)))
      (pss_one (ps_raiseInv rfl I (hr.mono (by decide : 1 ≤ _)) (takes_of rfl rfl rfl rfl) (by exact (pa_cons pe_int pa_nil)))))), ?_⟩
    refine ⟨_, rfl, ?_⟩
    have h' : (NoStr v ∧ E (.ref R.e_NotText.C) none H) ∨ ∃ z : Str, v = .str z ∧ (∀ (j : Nat) (u : T3) (a : Addr), l[j]? = some u → H a = some (tT u) → (∀ (k : Nat) (y : T3), k < j → l[k]? = some y → textT y ≠ z) → textT u = z → Q (.ref a) H) ∧
        ((∀ (k : Nat) (y : T3), l[k]? = some y → textT y ≠ z) → ∀ dd H', Evl.Ex H H' → H' dd = some (.xd [(("line" : Str), .int 1)]) → E (.ref CI) (some dd) H') := by
      cases h with
      | no n e => exact .inl ⟨n, e _ (Evl.Ex.refl _)⟩
      | one i t h f q =>
        refine .inr ⟨_, rfl, fun j u a hu ha fl e => ?_, fun n => absurd rfl (n i t h)⟩
        by_cases z1 : j < i
        · exact absurd e (f j u z1 hu)
        · by_cases z2 : i < j
          · exact absurd rfl (fl i t z2 h)
          · have : j = i := by omega
            subst this
            rw [h] at hu
            cases hu
            exact q a _ (Evl.Ex.refl _) ha
      | bad s f e => exact .inr ⟨s, rfl, fun j u a hu ha fl z => absurd z (f u (List.mem_of_getElem? hu)), fun _ => e⟩
    clear h
    rcases h' with ⟨n, e⟩ | ⟨z, rfl, ans, fin⟩
    · exact chtxt_no n e
    · refine chtxt_s ?_
      refine ⟨_, rfl, p, rfl, ⟨_, SqT.of hp⟩, for_tup (xs := xs) (fun j σ' H' => ∃ x2, σ' = [some (.str z), some (.ref p), x2] ∧ H' = H ∧ ∀ (k : Nat) (u : T3), k < j → l[k]? = some u → textT u ≠ z) ⟨_, rfl, rfl, fun k u h => absurd h (Nat.not_lt_zero _)⟩ (fun j σ' H' _ ⟨_, _, e, _⟩ => by rw [e]; exact SqT.of hp) ?_ ?_⟩
      · rintro j x σ' H' hj ⟨x2, rfl, rfl, fl⟩
        obtain ⟨u, a, hu, rfl, ha⟩ := tri_at X hj
        refine ⟨_, rfl, ?_⟩
        refine textT_i ha (sm u (List.mem_of_getElem? hu)) ?_
        refine ⟨_, rfl, rfl, _, rfl, ?_⟩
        refine iteB (fun e => ?_) (fun e => ?_)
        · exact ⟨_, rfl, ans j u a hu ha fl (V.str.inj (of_decide_eq_true e))⟩
        · refine ⟨_, rfl, rfl, fun k y hk ey => ?_⟩
          by_cases hkj : k < j
          · exact fl k y hkj ey
          · have : k = j := by omega
            subst this
            rw [hu] at ey
            cases ey
            exact fun z2 => of_decide_eq_false e (congrArg V.str z2)
      · rintro σ' H' ⟨x2, rfl, rfl, fl⟩
        have xl : xs.length = l.length := X.length
        refine ⟨_, rfl, .int (by decide), fun dd nd => fin (fun k y ey => fl k y ?_ ey) dd _ (Evl.Ex.new nd) upd_same⟩
        rw [xl]
        exact (List.getElem?_eq_some_iff.mp ey).1
end
end Ca

set_option Elab.async false
set_option linter.all false
set_option maxRecDepth 100000
set_option maxHeartbeats 4000000
namespace Ca
open PySem L2
/-! ### the readers and writers of designs and worlds -/
theorem sm_d (t : T3) (h : t ∈ designs3) : Small3 t := ⟨(small_d t h).1, (small_d t h).2.1, (small_d t h).2.2⟩
theorem sm_w (t : T3) (h : t ∈ worlds3) : Small3 t := ⟨(small_w t h).1, (small_w t h).2.1, (small_w t h).2.2⟩
theorem text_d : ∀ t ∈ designs3, ∀ u ∈ designs3, textT u = textT t → u = t := by decide +kernel
theorem text_w : ∀ t ∈ worlds3, ∀ u ∈ worlds3, textT u = textT t → u = t := by decide +kernel
section
variable {CN CI : Addr} {H : Hp} {Q : VK} {E : XK} {v : V}
theorem rdw_i {p : Addr} {xs : List V} {l : List T3} (hp : H p = some (.tup xs)) (X : TriX H xs l) (sm : ∀ t ∈ l, Small3 t) (h : RdC CN CI l H Q E v) : spRdW CN CI [v, .ref p] H Q E := by
  unfold spRdW
  exact ⟨v, p, xs, l, rfl, hp, X, sm, h⟩
theorem rd_i {l : List T3} (h : RdC CN CI l H Q E v) : spRd CN CI l [v] H Q E := by
  unfold spRd
  exact ⟨v, rfl, h⟩
theorem wr_i {f : Conf → T3} {c : Conf} {a : Addr} (h : H a = some (tT (f c))) (O : c.Ok) (q : Q (.str (textT (f c))) H) : spWr f [.ref a] H Q E := by
  unfold spWr
  exact ⟨c, a, rfl, h, O, q⟩
/-- a design's text read -/
theorem rdC_in {l : List T3} (inj : ∀ t ∈ l, ∀ u ∈ l, textT u = textT t → u = t) (nd : l.Nodup) {t : T3} (h : t ∈ l) (q : ∀ a H', Evl.Ex H H' → H' a = some (tT t) → Q (.ref a) H') : RdC CN CI l H Q E (.str (textT t)) := by
  obtain ⟨i, hi, e⟩ := List.getElem_of_mem h
  have ei : l[i]? = some t := by rw [List.getElem?_eq_getElem hi, e]
  refine .one i t ei (fun j u hj eu z => ?_) q
  have := inj t h u (List.mem_of_getElem? eu) z
  subst this
  have hj2 := (List.getElem?_eq_some_iff.mp eu).1
  rw [List.getElem?_eq_getElem hj2] at eu
  rw [List.getElem?_eq_getElem hi] at ei
  exact (List.pairwise_iff_getElem.mp nd) j i hj2 hi hj (by rw [Option.some.inj eu, Option.some.inj ei])
end
theorem nd_d : designs3.Nodup := by decide +kernel
theorem nd_w : worlds3.Nodup := by decide +kernel
section
variable {P : Program} {w : World} {K : PySem.W.Frag} {mg : Str → Option Value} {base : Heap} {CI fI : Addr}
theorem ok_read_design (T : Txt K mg) (U : TxtC K mg) (R : ErrT K mg) (I : PySem.InvX.InvTxt P K mg CI fI) : FnOk P w K mg base (L2.CX P w) 5 T.f_read_design T.fd_read_design ["text"] (spRd R.e_NotText.C CI designs3) := by
  refine T.F_read_design.okX sc_read_design (fun vs H Q E h => ?_) (fun cdv A outer s H vs Q E hr h => ?_)
  · unfold spRd at h
    obtain ⟨v, rfl, _⟩ := h
    rfl
  · unfold spRd at h
    obtain ⟨v, rfl, h⟩ := h
    refine ⟨_, (pss_one (ps_ret (pe_callS (ok_read_words T R I) (hr.mono (by decide)) rfl T.m_read_words T.F_read_words.kp (b_read_words T) (fun σ => passAt (takes_of rfl rfl rfl rfl) σ) (pa_cons (pv 0) (pa_cons (pe_call0 (ok_all_designs T U) (hr.mono (by decide)) rfl T.m_all_designs T.F_all_designs.kp (b_all_designs T) .nil pass0) pa_nil))))), ?_⟩
    refine ⟨_, rfl, allU_i fun p xs H1 np e1 hp X => ?_⟩
    exact rdw_i hp X sm_d (h.mono e1)
theorem ok_read_world (T : Txt K mg) (U : TxtC K mg) (R : ErrT K mg) (I : PySem.InvX.InvTxt P K mg CI fI) : FnOk P w K mg base (L2.CX P w) 5 T.f_read_world T.fd_read_world ["text"] (spRd R.e_NotText.C CI worlds3) := by
  refine T.F_read_world.okX sc_read_world (fun vs H Q E h => ?_) (fun cdv A outer s H vs Q E hr h => ?_)
  · unfold spRd at h
    obtain ⟨v, rfl, _⟩ := h
    rfl
  · unfold spRd at h
    obtain ⟨v, rfl, h⟩ := h
    refine ⟨_, (pss_one (ps_ret (pe_callS (ok_read_words T R I) (hr.mono (by decide)) rfl T.m_read_words T.F_read_words.kp (b_read_words T) (fun σ => passAt (takes_of rfl rfl rfl rfl) σ) (pa_cons (pv 0) (pa_cons (pe_call0 (ok_all_worlds T U) (hr.mono (by decide)) rfl T.m_all_worlds T.F_all_worlds.kp (b_all_worlds T) .nil pass0) pa_nil))))), ?_⟩
    refine ⟨_, rfl, allU_i fun p xs H1 np e1 hp X => ?_⟩
    exact rdw_i hp X sm_w (h.mono e1)
theorem ok_write_design (T : Txt K mg) (U : TxtC K mg) : FnOk P w K mg base CX0 5 T.f_write_design T.fd_write_design ["design"] (spWr Conf.d3) := by
  refine T.F_write_design.ok sc_write_design (fun vs H Q E h => ?_) (fun cdv A outer s H vs Q E hr h => ?_)
  · unfold spWr at h
    obtain ⟨c, a, rfl, _⟩ := h
    rfl
  · unfold spWr at h
    obtain ⟨c, a, rfl, ha, O, q⟩ := h
    refine ⟨_, (pss_cons (ps_expr (pe_call (ok_check_design T U) (hr.mono (by decide)) rfl T.m_check_design T.F_check_design.kp (b_check_design T) .nil pass0 (pa_cons (pv 0) pa_nil)))
      (pss_one (ps_ret (pe_call (ok_text_of_words T) (hr.mono (by decide)) rfl T.m_text_of_words T.F_text_of_words.kp (b_text_of_words T) .nil pass0 (pa_cons (pv 0) pa_nil))))), ?_⟩
    refine ⟨_, rfl, ?_⟩
    refine chd_i ha O ?_
    exact ⟨_, rfl, textT_i ha (sm_d _ (d3_in O)) q⟩
theorem ok_write_world (T : Txt K mg) (U : TxtC K mg) : FnOk P w K mg base CX0 5 T.f_write_world T.fd_write_world ["world"] (spWr Conf.w3) := by
  refine T.F_write_world.ok sc_write_world (fun vs H Q E h => ?_) (fun cdv A outer s H vs Q E hr h => ?_)
  · unfold spWr at h
    obtain ⟨c, a, rfl, _⟩ := h
    rfl
  · unfold spWr at h
    obtain ⟨c, a, rfl, ha, O, q⟩ := h
    refine ⟨_, (pss_cons (ps_expr (pe_call (ok_check_world T U) (hr.mono (by decide)) rfl T.m_check_world T.F_check_world.kp (b_check_world T) .nil pass0 (pa_cons (pv 0) pa_nil)))
      (pss_one (ps_ret (pe_call (ok_text_of_words T) (hr.mono (by decide)) rfl T.m_text_of_words T.F_text_of_words.kp (b_text_of_words T) .nil pass0 (pa_cons (pv 0) pa_nil))))), ?_⟩
    refine ⟨_, rfl, ?_⟩
    refine chw_i ha O ?_
    exact ⟨_, rfl, textT_i ha (sm_w _ (w3_in O)) q⟩
end
end Ca

set_option Elab.async false
set_option linter.all false
set_option maxRecDepth 100000
set_option maxHeartbeats 4000000
namespace Ca
open PySem L2
@[irreducible] def spIsRun (K : PySem.W.Frag) (C D CB : Addr) : Sp := fun vs H Q _ => ∃ (c : Conf) (d w r : Addr), vs = [.ref d, .ref w, .ref r] ∧ H d = some (dT c) ∧ H w = some (wT c) ∧ c.Ok ∧ RunC K C D CB c H r (fun _ H' => Q (.bl true) H') (fun _ _ H' => Q (.bl false) H')
@[irreducible] def spFollow : Sp := fun vs H Q _ => ∃ (c : Conf) (d w r : Addr) (es : List Ev), vs = [.ref d, .ref w, .ref r] ∧ Ran H c d w r es ∧
  ∀ q ys fs H', Same H H' → H q = none → H' q = some (.tup ys) → EvsAt H' ys fs → Srt fs → fs.Perm (evP c (runS c es)) → Q (.ref q) H'
@[irreducible] def spState : Sp := fun vs H Q _ => ∃ (c : Conf) (d w r : Addr) (es : List Ev), vs = [.ref d, .ref w, .ref r] ∧ Ran H c d w r es ∧
  ∀ q H', Same H H' → H q = none → H' q = some (.tup [.int ((runS c es).db : Int), .int ((runS c es).rep : Int), on (runS c es).cache, .int ((runS c es).mark : Int)]) → Q (.ref q) H'
abbrev OpsV (H : Hp) (xs : List V) (ops : List POp) : Prop := Paired (fun x o => ∃ t, x = V.ref t ∧ H t = some (.tup [.str o.kind, .str o.stage, on o.version])) xs ops
@[irreducible] def spOps : Sp := fun vs H Q _ => ∃ (c : Conf) (d w r : Addr) (es : List Ev), vs = [.ref d, .ref w, .ref r] ∧ Ran H c d w r es ∧
  ∀ q ys H', Same H H' → H q = none → H' q = some (.tup ys) → OpsV H' ys (runS c es).ops → Q (.ref q) H'
section
variable {K : PySem.W.Frag} {C D CB : Addr} {c : Conf} {d w r : Addr} {H : Hp} {es : List Ev} {Q : VK} {E : XK}
theorem isrun_i (h1 : H d = some (dT c)) (h2 : H w = some (wT c)) (O : c.Ok) (h : RunC K C D CB c H r (fun _ H' => Q (.bl true) H') (fun _ _ H' => Q (.bl false) H')) : spIsRun K C D CB [.ref d, .ref w, .ref r] H Q E := by
  unfold spIsRun
  exact ⟨c, d, w, r, rfl, h1, h2, O, h⟩
theorem follow_i (R : Ran H c d w r es) (q : ∀ q ys fs H', Same H H' → H q = none → H' q = some (.tup ys) → EvsAt H' ys fs → Srt fs → fs.Perm (evP c (runS c es)) → Q (.ref q) H') : spFollow [.ref d, .ref w, .ref r] H Q E := by
  unfold spFollow
  exact ⟨c, d, w, r, es, rfl, R, q⟩
theorem state_i (R : Ran H c d w r es) (q : ∀ q H', Same H H' → H q = none → H' q = some (.tup [.int ((runS c es).db : Int), .int ((runS c es).rep : Int), on (runS c es).cache, .int ((runS c es).mark : Int)]) → Q (.ref q) H') : spState [.ref d, .ref w, .ref r] H Q E := by
  unfold spState
  exact ⟨c, d, w, r, es, rfl, R, q⟩
theorem ops_i (R : Ran H c d w r es) (q : ∀ q ys H', Same H H' → H q = none → H' q = some (.tup ys) → OpsV H' ys (runS c es).ops → Q (.ref q) H') : spOps [.ref d, .ref w, .ref r] H Q E := by
  unfold spOps
  exact ⟨c, d, w, r, es, rfl, R, q⟩
end
section
variable {P : Program} {w : World} {K : PySem.W.Frag} {mg : Str → Option Value} {base : Heap} {CB fB : Addr}
end
end Ca

set_option Elab.async false
set_option linter.all false
set_option maxRecDepth 100000
set_option maxHeartbeats 4000000
namespace Ca
open PySem L2
/-! ### runs written -/
theorem runS_opsok {c : Conf} (O : c.Ok) (es : List Ev) : OpsOk (runS c es) := by
  have all : ∀ i, i ≤ es.length → OpsOk (runS c (es.take i)) := fun i => by
    induction i with
    | zero => intro _ q hq; cases hq
    | succ i ih =>
      intro hi
      rw [runS_snoc (List.getElem?_eq_getElem (show i < es.length by omega))]
      exact (doP_ok O (ih (by omega))).1
  have := all es.length (Nat.le_refl _)
  rw [List.take_length] at this
  exact this
theorem RunP.small {c : Conf} {es : List Ev} (O : c.Ok) (R : RunP c es) : ∀ (i : Nat) (e : Ev), es[i]? = some e → SmallEv i e := fun i e h => by
  have := ev_small O (runS_opsok O _) (R.step i e h).2.1
  have l := runS_len (c := c) (es := es) i
  rcases this with z | z | ⟨x, k, hx, hk, z⟩
  · exact .inl z
  · exact .inr (.inl z)
  · exact .inr (.inr ⟨x, k, hx, by omega, z⟩)
def runT (es : List Ev) : Str := Txt.join "\n" (es.map textOf)
theorem textOf_none (x : Str) : textOf (x, none) = x := rfl
theorem textOf_some (x : Str) (k : Int) : textOf (x, some k) = x ++ " " ++ (toString k : Str) := (StrLaws.glued_eq_join " " [x, (toString k : Str)]).trans rfl
theorem textOf_len {n : Nat} {e : Ev} (h : SmallEv n e) (hn : n ≤ 1000) : (textOf e).length ≤ 5000 := by
  have z := h.sizes hn
  rcases h with rfl | rfl | ⟨x, k, hx, hk, rfl⟩
  · exact (by decide +kernel : (textOf copyE).length ≤ 5000)
  · exact (by decide +kernel : (textOf evictE).length ≤ 5000)
  · rw [textOf_some, PySem.Str.length_append, PySem.Str.length_append]
    have e := int_text_length_le (k := 1920) (by decide) (log_small (z.2 (k : Int) rfl))
    have e2 : (toString (k : Int) : Str).length = (toString (k : Int)).length := ofString_length _
    have e3 : x.length ≤ 100 := z.1
    have e4 : (" " : Str).length = 1 := rfl
    omega
theorem sum_le {m : Nat} : ∀ {l : List Nat}, (∀ x ∈ l, x ≤ m) → l.sum ≤ l.length * m
  | [], _ => by simp
  | a :: l, h => by
    have ih := sum_le (l := l) fun x hx => h x (List.mem_cons_of_mem _ hx)
    have := h a (List.mem_cons_self ..)
    rw [List.sum_cons, List.length_cons, Nat.add_mul]
    omega
@[irreducible] def spWrRun : Sp := fun vs H Q _ => ∃ (c : Conf) (d w r : Addr) (xs : List V) (es : List Ev), vs = [.ref d, .ref w, .ref r] ∧ H d = some (dT c) ∧ H w = some (wT c) ∧ c.Ok ∧ H r = some (.tup xs) ∧ EvsAt H xs es ∧ RunP c es ∧ es.length ≤ 60 ∧ ∀ H', Same H H' → Q (.str (runT es)) H'
section
variable {P : Program} {w : World} {K : PySem.W.Frag} {mg : Str → Option Value} {base : Heap} {CB fB : Addr}
theorem ok_write_run (T : Txt K mg) (U : TxtC K mg) (B : PySem.BadX.BadTxt P K mg CB fB) : FnOk P w K mg base CX0 10 T.f_write_run T.fd_write_run ["design", "world", "run"] spWrRun := by
  refine T.F_write_run.ok sc_write_run (fun vs H Q E h => ?_) (fun cdv A outer s H vs Q E hr h => ?_)
  · unfold spWrRun at h
    obtain ⟨c, d, w, r, xs, es, rfl, _⟩ := h
    rfl
  · unfold spWrRun at h
    obtain ⟨c, d, w', r, xs, es, rfl, hd, hw, O, hr0, X, R, ln, q⟩ := h
    refine ⟨_, (pss_cons (ps_set (i := 3) sc_write_run.nd rfl (Or.inl rfl) (pe_call (ok_played T U B) (hr.mono (by decide)) rfl T.m_played T.F_played.kp (b_played T) .nil passL (pa_cons (pv 0) (pa_cons (pv 1) (pa_cons (pv 2) pa_nil)))))
      (pss_one (ps_ret (pe_join pe_str (pe_lc (own := [("event", 4)]) rfl sc_write_run.nd (pi_list (pe_fld (pv 3) rfl)) (blkOk_by (N := ["design", "world", "run", "play", "event"]) (sc := defScope s_write_run) (by decide +kernel)) (fun _ _ _ _ _ => (pg_name (i := 4) sc_write_run.nd rfl (Or.inl rfl))) (fun _ _ _ _ _ => pts_nil) (fun _ _ _ _ _ => (pe_call (ok_text_of_event T) (hr.mono (by decide)) rfl T.m_text_of_event T.F_text_of_event.kp (b_text_of_event T) .nil pass0 (pa_cons (pv 4) pa_nil)))))))), ?_⟩
    refine ⟨_, rfl, _, rfl, _, rfl, ?_⟩
    refine played_i hd hw O (.run xs es hr0 X R (by rw [X.length]; exact ln) fun p A H1 S1 fp L => ?_)
    have el : (A.eas.map V.ref).length = es.length := by rw [L.evs.length, runS_past]
    have EV : EvsAt H1 (A.eas.map V.ref) es := by
      have z := L.evs
      rw [runS_past] at z
      exact z
    have sm : ∀ e ∈ es, SmallEv 60 e := fun e he => by
      obtain ⟨i, hi, ee⟩ := List.getElem_of_mem he
      have hi2 : es[i]? = some e := by rw [List.getElem?_eq_getElem hi, ee]
      rcases R.small O i e hi2 with z | z | ⟨x, k, hx, hk, z⟩
      · exact .inl z
      · exact .inr (.inl z)
      · exact .inr (.inr ⟨x, k, hx, by omega, z⟩)
    refine ⟨⟨_, rfl⟩, _, rfl, _, _, _, _, _, rfl, L.at_, T.c_Play, T.a_Play_past, l_Play_past, A.pa, rfl, ⟨_, SqL.of L.pa⟩, fun D nD => ?_⟩
    refine lc_list (xs := A.eas.map V.ref) (fun i H' => Evl.Ex H1 H' ∧ H' D = some (.lst (((es.take i).map textOf).map V.str))) ⟨Evl.Ex.new nD, upd_same⟩ (fun i H' _ z => SqL.of (z.1 _ _ L.pa)) ?_ ?_
    · rintro i x H2 hi ⟨e2, hD⟩
      obtain ⟨ev, ee, a, rfl, ha⟩ := Ca.pget EV hi
      have sz := (sm ev (List.mem_of_getElem? ee)).sizes (by omega)
      refine ⟨rfl, ?_⟩
      simp only [tYes, reduceIte]
      refine ⟨_, rfl, ?_⟩
      refine textof_i (e2 _ _ ha) sz.1 sz.2 fun H3 e3 => ?_
      refine ⟨_, e3 _ _ hD, ?_, fun b o z => sN' (show Same H1 H3 from fun b o z => e3 b o (e2 b o z)) nD b o z, ?_⟩
      · rw [List.length_map, List.length_map, List.length_take]
        exact Nat.lt_of_le_of_lt (show min i es.length ≤ 60 by omega) (by decide)
      · rw [upd_same, take_snoc ee, List.map_append, List.map_append]
        rfl
    · rintro H2 ⟨e2, hD⟩
      rw [el, List.take_length] at hD
      refine ⟨_, D, es.map textOf, rfl, rfl, .inl (SqL.of hD), ?_, q _ fun b o z => e2 b o (S1 b o z)⟩
      have := sum_le (l := (es.map textOf).map fun x => x.length) (m := 5000) fun y hy => by
        obtain ⟨x, hx, rfl⟩ := List.mem_map.mp hy
        obtain ⟨e, he, rfl⟩ := List.mem_map.mp hx
        exact textOf_len (sm e he) (by omega)
      rw [List.length_map, List.length_map] at this
      rw [List.length_map]
      have e4 : ("\n" : Str).length = 1 := rfl
      rw [e4]
      omega
end
end Ca

set_option Elab.async false
set_option linter.all false
set_option maxRecDepth 100000
set_option maxHeartbeats 4000000
namespace Ca
open PySem L2
/-! ### texts of events tell them apart -/
theorem cut_list {c : Nat} : ∀ {l1 l2 r1 r2 : List Nat}, c ∉ l1 → c ∉ l2 → l1 ++ c :: r1 = l2 ++ c :: r2 → l1 = l2 ∧ r1 = r2
  | [], [], _, _, _, _, h => ⟨rfl, (List.cons.inj h).2⟩
  | [], a :: l2, _, _, _, n2, h => absurd (List.mem_cons.mpr (.inl (List.cons.inj h).1)) n2
  | a :: l1, [], _, _, n1, _, h => absurd (List.mem_cons.mpr (.inl (List.cons.inj h).1.symm)) n1
  | a :: l1, b :: l2, _, _, n1, n2, h => by
    obtain ⟨e, h⟩ := List.cons.inj h
    obtain ⟨z1, z2⟩ := cut_list (fun z => n1 (List.mem_cons_of_mem _ z)) (fun z => n2 (List.mem_cons_of_mem _ z)) h
    exact ⟨by rw [e, z1], z2⟩
theorem str_list {a b : Str} (h : a.cps.toList = b.cps.toList) : a = b := Str.ext' (Array.toList_inj.mp h)
theorem cat_list (a b : Str) : (a ++ b).cps.toList = a.cps.toList ++ b.cps.toList := by
  show (a.cps ++ b.cps).toList = _
  rw [Array.toList_append]
theorem cut_space {x y s t : Str} (n1 : 32 ∉ x.cps.toList) (n2 : 32 ∉ y.cps.toList) (h : x ++ " " ++ s = y ++ " " ++ t) : x = y ∧ s = t := by
  have e := congrArg (fun z : Str => z.cps.toList) h
  have e32 : (" " : Str).cps.toList = [32] := rfl
  simp only [cat_list, e32, List.append_assoc, List.singleton_append] at e
  obtain ⟨z1, z2⟩ := cut_list n1 n2 e
  exact ⟨str_list z1, str_list z2⟩
theorem words_sp : ∀ x ∈ wordsT, 32 ∉ x.cps.toList := by decide +kernel
theorem num_inj : ∀ k < 101, ∀ j < 101, (toString ((k : Nat) : Int) : Str) = (toString ((j : Nat) : Int) : Str) → k = j := by decide +kernel
theorem textOf_sp (x : Str) (k : Int) : 32 ∈ (textOf (x, some k)).cps.toList := by
  have e32 : (" " : Str).cps.toList = [32] := rfl
  rw [textOf_some, cat_list, cat_list, e32]
  simp
theorem textOf_inj {n : Nat} {e f : Ev} (h1 : SmallEv n e) (h2 : SmallEv n f) (hn : n ≤ 100) (h : textOf e = textOf f) : e = f := by
  have ce : 32 ∉ (textOf copyE).cps.toList := by decide +kernel
  have ee : 32 ∉ (textOf evictE).cps.toList := by decide +kernel
  have ne : ¬ textOf copyE = textOf evictE := by decide +kernel
  rcases h1 with rfl | rfl | ⟨x, k, hx, hk, rfl⟩
  · rcases h2 with rfl | rfl | ⟨y, j, hy, hj, rfl⟩
    · rfl
    · exact absurd h ne
    · exact absurd (by rw [h]; exact textOf_sp y _) ce
  · rcases h2 with rfl | rfl | ⟨y, j, hy, hj, rfl⟩
    · exact absurd h.symm ne
    · rfl
    · exact absurd (by rw [h]; exact textOf_sp y _) ee
  · rcases h2 with rfl | rfl | ⟨y, j, hy, hj, rfl⟩
    · exact absurd (by rw [← h]; exact textOf_sp x _) ce
    · exact absurd (by rw [← h]; exact textOf_sp x _) ee
    · rw [textOf_some, textOf_some] at h
      obtain ⟨rfl, z⟩ := cut_space (words_sp x hx) (words_sp y hy) h
      have := num_inj k (by omega) j (by omega) z
      rw [this]
/-! ### lines -/
def linesOf (s : Str) : List Str := if s = "" then [] else Txt.split s "\n"
theorem glue_inj {c : Nat} : ∀ {l m : List Str}, l ≠ [] → m ≠ [] → (∀ x ∈ l, c ∉ x.cps.toList) → (∀ x ∈ m, c ∉ x.cps.toList) → Str.join ⟨#[c]⟩ l = Str.join ⟨#[c]⟩ m → l = m
  | [x], [y], _, _, _, _, h => by
    have h : x = y := h
    rw [h]
  | [x], y :: z :: m, _, _, h1, _, h => by
    have h : x = y ++ ⟨#[c]⟩ ++ Str.join ⟨#[c]⟩ (z :: m) := h
    refine absurd ?_ (h1 x (List.mem_singleton.mpr rfl))
    rw [h, cat_list, cat_list]
    simp
  | x :: z :: l, [y], _, _, _, h2, h => by
    have h : x ++ ⟨#[c]⟩ ++ Str.join ⟨#[c]⟩ (z :: l) = y := h
    refine absurd ?_ (h2 y (List.mem_singleton.mpr rfl))
    rw [← h, cat_list, cat_list]
    simp
  | x :: z :: l, y :: u :: m, _, _, h1, h2, h => by
    have h : x ++ ⟨#[c]⟩ ++ Str.join ⟨#[c]⟩ (z :: l) = y ++ ⟨#[c]⟩ ++ Str.join ⟨#[c]⟩ (u :: m) := h
    have e := congrArg (fun z : Str => z.cps.toList) h
    have ec : (⟨#[c]⟩ : Str).cps.toList = [c] := rfl
    simp only [cat_list, ec, List.append_assoc, List.singleton_append] at e
    obtain ⟨z1, z2⟩ := cut_list (h1 x (List.mem_cons_self ..)) (h2 y (List.mem_cons_self ..)) e
    rw [str_list z1, glue_inj (List.cons_ne_nil _ _) (List.cons_ne_nil _ _) (fun w hw => h1 w (List.mem_cons_of_mem _ hw)) (fun w hw => h2 w (List.mem_cons_of_mem _ hw)) (str_list z2)]
theorem split_ne (s y : Str) : Txt.split s y ≠ [] := by
  unfold Txt.split
  split
  · exact List.cons_ne_nil _ _
  · split
    · exact List.cons_ne_nil _ _
    · rw [StrLaws.partsBetween_eq]
      obtain ⟨p, q, e⟩ := StrLaws.partsFrom_ne s y.length 0 (Builtin.Str.occurrences s y 0 s.length (s.length + 1))
      rw [e]
      exact List.cons_ne_nil _ _
/-- lines joined and cut again -/
theorem lines_join {l : List Str} (h0 : l ≠ []) (h : ∀ x ∈ l, 10 ∉ x.cps.toList) : Txt.split (Txt.join "\n" l) "\n" = l := by
  have e1 : ("\n" : Str) = ⟨#[10]⟩ := rfl
  refine glue_inj (c := 10) (split_ne _ _) h0 (fun x hx => ?_) h ?_
  · rw [e1] at hx
    exact StrLaws.split_free _ 10 x hx
  · rw [← e1, StrLaws.join_split]
    exact StrLaws.glued_eq_join _ _
end Ca

set_option Elab.async false
set_option linter.all false
set_option maxRecDepth 100000
set_option maxHeartbeats 4000000
/-! enumerate(list, start=k) -/
namespace PyProof.Rows
open PySem
section
variable {M : Model} {A : Around} {E : Value → Shared → Prop} {s : Shared} {env : Env}
theorem callWith_type_kwT {pos : Pos} {id : String} {first : List Value} {args : List (Bool × Sem Value)} {keywords : List (Option Str × Sem Value)} {Q : Value → Shared → Prop}
    (hplain : args.any (·.1) = false) (hkw : keywords.any (·.1.isNone) = false)
    (h : wpAny M A (evalArgs (.type id) true args keywords) (fun a s₁ => wpAny M A (call (.type id) (first ++ a.pos) a.kw) Q E s₁) E s) :
    wpAny M A (callWith pos (.type id) first args keywords) Q E s := by
  unfold callWith
  refine wpAny_bind (wpAny_holding (wpAny_mono h (fun a s₁ h₁ => wpAny_bind (wpAny_standAt ?_)) fun _ _ x => x))
  simp only [hplain, hkw, Bool.or_false]
  refine wpAny_bind (wpAny_pure ?_)
  exact wpAny_bind (wpAny_mono h₁ (fun r s₂ hr => wpAny_bind (wpAny_holding (wpAny_point (wpAny_pure hr)))) fun _ _ x => x)
theorem callWith_kwT {pos : Pos} {id : String} {e : Expr} {rest : List Expr} {kws : List Keyword} {Q : Value → Shared → Prop}
    (h : wpAny M A (spliced (backTo pos (starEach (e :: rest) env))) (fun vs s₁ => wpAny M A (evalAll ((backToKw pos (keywordEach kws env)).map (·.2)))
      (fun kvs s₂ => wpAny M A (call (.type id) vs (((backToKw pos (keywordEach kws env)).filterMap (·.1)).zip kvs)) Q E s₂) E s₁) E s)
    (he : backTo pos (starEach (e :: rest) env) = (false, eval e env) :: backTo pos (starEach rest env) := by rfl)
    (hplain : (backTo pos (starEach (e :: rest) env)).any (·.1) = false := by rfl)
    (hall : (backToKw pos (keywordEach kws env)).all (·.1.isSome) = true := by rfl)
    (hkw : (backToKw pos (keywordEach kws env)).any (·.1.isNone) = false := by rfl) :
    wpAny M A (callWith pos (.type id) [] (backTo pos (starEach (e :: rest) env)) (backToKw pos (keywordEach kws env))) Q E s := by
  refine callWith_type_kwT hplain hkw ?_
  rw [he] at h ⊢
  exact evalArgs_kwB hall h
end
end PyProof.Rows
namespace L2
open PySem PySem.Spec PyProof.Rows
/-- the tuple at a, each item in a new pair -/
def IteS (k : Nat) (K : PySem.W.Frag) (a : Addr) : It :=
  ⟨fun i H => ∃ (xs : List V) (x : V), SqL K H a xs ∧ xs[i]? = some x, fun i H v H' => ∃ T x, v = .ref T ∧ H T = none ∧ H' = upd H T (.tup [.int ((i + k : Nat) : Int), x]) ∧ ∀ xs, SqL K H a xs → xs[i]? = some x, fun i H => ∃ xs : List V, SqL K H a xs ∧ xs.length ≤ i⟩
theorem turn_enumS {P : Program} {w : World} {K : PySem.W.Frag} {elts : List Expr} {kk : Nat} {tpos : Pos} (k a e it : Nat) (ha : a ≠ it) (hae : a ≠ e) :
    Turn P w K (.Tuple elts kk tpos) (IteS k K a) [e, it] e (fun i h => (∃ old, IsEnum h e it ((i + k : Nat) : Int) old) ∧ h.IsListIter it a i ∧ e ≠ it) where
  mem := by simp
  obj := fun i h st b hb => by
    obtain ⟨⟨old, he⟩, ⟨o, ho, hc, hd⟩, _⟩ := st
    have e' : b = e ∨ b = it := by simpa using hb
    rcases e' with z | z
    · rw [z]; exact ⟨_, he, fun v q => nomatch q⟩
    · rw [z]; exact ⟨o, ho, fun v q => by rw [hd] at q; cases q⟩
  keep := fun i h h' st kk => let ⟨⟨old, he⟩, hi, hne⟩ := st; ⟨⟨old, kk e (by simp) _ he⟩, hi.at fun o q => kk it (by simp) o q, hne⟩
  item := by
    intro X hP hw hK hc i pins s σ H E I hf st hg
    subst hP hw hK
    obtain ⟨⟨old, he⟩, hit, hne⟩ := st
    obtain ⟨xs, x, hq, hx⟩ := hg
    obtain ⟨its, rv, p, hz⟩ := I.list hq
    obtain ⟨u, hu, ru⟩ := rv.get hx
    have hel : e < s.heap.objs.size := Heap.lt_size he
    have hil : it < s.heap.objs.size := by obtain ⟨_, q, _⟩ := hit; exact Heap.lt_size q
    have hT0 : s.heap.IsList a its.toArray := p.isList
    have hlt : i < its.toArray.size := by
      have := (List.getElem?_eq_some_iff.mp hu).1
      simpa using this
    refine wpAny_pyNext_enum_itemC (Draws.list (A := X.A.in1) (show X.A.in1.handled = none from I.ok.hd hc) it a ha its.toArray) he ⟨hit, hT0⟩ hlt hne (by simp [hne, Ne.symm hae]) fun y h' tk hy ho hst' hT hsz hk => ?_
    have ey : y = u := by
      have : its[i]? = some y := by simpa using hy
      rw [hu] at this
      exact (Option.some.inj this).symm
    subst ey
    obtain ⟨hit', _⟩ := hst'
    refine ⟨_, rfl, wpAny_letOwnedTupleGo_enum (s := { s with heap := h', toks := tk + 1 }) ho fun h'' he' sb => ?_⟩
    have hT2 : h''.get? s.heap.objs.size = some { cls := .type "tuple", data := .seq #[.int ((i + k : Nat) : Int) tk, y] } := (sb.2 _ (Nat.ne_of_gt hel)).trans hT
    have new : ObjOk X.prog X.w (upd H s.heap.objs.size (.tup [.int ((i + k : Nat) : Int), x])) h'' s.heap.objs.size (.tup [.int ((i + k : Nat) : Int), x]) :=
      ⟨by show 2 ≤ sizeLine; decide, [.int ((i + k : Nat) : Int) tk, y], .cons ⟨_, rfl⟩ (.cons ru .nil), ⟨_, hT2, rfl, _, rfl⟩⟩
    have I1 : Inv X pins σ (upd H s.heap.objs.size (.tup [.int ((i + k : Nat) : Int), x])) { s with heap := h'', toks := tk + 1 } :=
      I.turnedNew (ch := [e, it]) (fun b ob hb q => (sb.2 b (fun z => hb (by simp [z]))).trans (hk b ob (fun z => hb (by simp [z])) (fun z => hb (by simp [z])) q)) hf (Nat.le_refl _) new
    refine ⟨.ref s.heap.objs.size, _, I1, rfl, ⟨_, x, rfl, I.hok.fresh (Nat.le_refl _), rfl, fun ys hy => by rw [I.list_inj hy hq]; exact hx⟩, ⟨⟨y, ?_⟩, hit'.at fun o q => (sb.2 it (Ne.symm hne)).trans q, hne⟩, fun b hb => ?_⟩
    · have e1 : ((i + 1 + k : Nat) : Int) = ((i + k : Nat) : Int) + 1 := by omega
      rw [e1]; exact he'
    · have hb' : b < s.heap.objs.size := by
        have e' : b = e ∨ b = it := by simpa using hb
        rcases e' with z | z
        · rw [z]; exact hel
        · rw [z]; exact hil
      rw [upd_ne (Nat.ne_of_lt hb')]
      exact (hf b hb).1
  done := by
    intro X hP hw hK hc i pins s σ H E I hf st hg
    subst hP hw hK
    obtain ⟨⟨old, he⟩, hit, hne⟩ := st
    obtain ⟨xs, hq, hx⟩ := hg
    obtain ⟨its, rv, p, hz⟩ := I.list hq
    obtain ⟨f0, f1, f2, f3, f4, f5⟩ := hf it (by simp)
    have hl := rv.length
    have hT0 : s.heap.IsList a its.toArray := p.isList
    have hz2 : its.toArray.size ≤ i := by simp; omega
    have D : Draws X.prog X.w X.A.in1 it [it, a] i (fun _ _ => True) (fun j h => j = i ∧ h.IsListIter it a i ∧ h.IsList a its.toArray) := {
      live := fun _ _ st => let ⟨o, ho, _⟩ := st.2.1; ⟨o, ho⟩
      frame := fun _ _ _ st hk => ⟨st.1, st.2.1.at fun o e => hk it (by simp) o e, st.2.2.at fun o e => hk a (by simp) o e⟩
      item := fun j s Q E hi st hQ => absurd st.1 (Nat.ne_of_lt hi)
      done := fun s Q E st hE => wpAny_nextOf_list_end (show X.A.in1.handled = none from I.ok.hd hc) st.2.1 st.2.2 (by simpa using hz2) hE }
    exact wpAny_pyNext_enum_endD D he ⟨rfl, hit, hT0⟩ fun h' eb => ⟨rfl, I.turned (t' := s.toks) (fun b o hb q => eb b o hb q) f0 f1 f3 f4 f5⟩
  self := fun A i s Q E st h => let ⟨⟨_, he⟩, _⟩ := st; wpAny_pyIter_enum he h
def iEnumS (k : Nat) (K : PySem.W.Frag) (ta : TA) : TI := fun σ H R => ta σ H fun vs H1 => ∃ a xs, vs = [.ref a] ∧ SqL K H1 a xs ∧ R (IteS k K a) H1
theorem pi_enumS {X : Cx} {e : Expr} {ta : TA} {p pos vp pos2 tpos : Pos} {elts : List Expr} {kk : Nat} (hg : Gl X "enumerate") (hm : X.mg "enumerate" = none) (ha : PA X [e] ta) (hs : starEach [e] X.env = [(false, eval e X.env)] := by rfl)
    (he : backTo pos (starEach (e :: []) X.env) = (false, eval e X.env) :: backTo pos (starEach [] X.env) := by rfl) :
    PI X (.Tuple elts kk tpos) (.Call (.Name "enumerate" p) [e] [⟨some "start", .Constant (.int 1) 0 vp, pos2⟩] pos) (iEnumS 1 X.K ta) := by
  refine ⟨fun pins s σ H R I h => ?_⟩
  refine wpAny_Call_Name_kw (ld_blt I hg hm boot_enumerate (PyProof.Rows.callWith_kwT (thn (ha.run pos pins s σ H _ I h) fun us s1 ⟨vs, H1, I1, r1, q1⟩ => ?_) he (by rw [he]; rfl) rfl rfl))
  obtain ⟨a, xs, ex, hq, q⟩ := q1
  subst ex
  refine kws_cons (wpAny_Constant_int (kws_nil ?_))
  have I2 : Inv X pins σ H1 { s1 with toks := s1.toks + 1 } := I1.tok _
  generalize { s1 with toks := s1.toks + 1 } = s2 at I2 ⊢
  cases r1 with
  | cons r rr =>
    cases rr
    cases r
    obtain ⟨its, rv, p', hz⟩ := I2.list hq
    have hL0 : s2.heap.IsList a its.toArray := p'.isList
    refine enum_begins_start (k := 1) (begins_list a its.toArray) hL0 (by decide) (by decide) fun h' he' hit hsz hk => wpAny_pyIter_enum he' ?_
    have I3 : Inv X pins σ H1 { s2 with heap := h' } := I2.kept (t' := s2.toks) hk
    have hal : a < s2.heap.objs.size := p'.lt
    refine ⟨s2.heap.objs.size + 1, [s2.heap.objs.size + 1, s2.heap.objs.size], _, _, H1, rfl, I3, turn_enumS 1 a (s2.heap.objs.size + 1) s2.heap.objs.size (Nat.ne_of_lt hal) (Nat.ne_of_lt (Nat.lt_succ_of_lt hal)), ⟨⟨.none, he'⟩, ⟨_, hit, rfl, rfl⟩, Nat.succ_ne_self _⟩, fun b hb => ?_, q⟩
    have e' : b = s2.heap.objs.size + 1 ∨ b = s2.heap.objs.size := by simpa using hb
    have hle : s2.heap.objs.size ≤ b := by
      rcases e' with z | z
      · rw [z]; exact Nat.le_add_right _ _
      · rw [z]; exact Nat.le_refl _
    exact I2.fpOk hle (I2.hok.fresh hle)
end L2

set_option Elab.async false
set_option linter.all false
set_option maxRecDepth 100000
set_option maxHeartbeats 4000000
namespace Ca
open PySem L2
/-! ### runs read -/
inductive RrC (CN CI : Addr) (c : Conf) (H : Hp) (Q : VK) (E : XK) : V → Prop
  | no {v : V} (n : NoStr v) (e : E (.ref CN) none H) : RrC CN CI c H Q E v
  | ok (s : Str) (es : List Ev) (sl : s.length ≤ 1000000) (hs : linesOf s = es.map textOf) (R : RunP c es) (l : es.length ≤ 60) (q : ∀ p xs H', Same H H' → H' p = some (.tup xs) → EvsAt H' xs es → Q (.ref p) H') : RrC CN CI c H Q E (.str s)
  | bad (s : Str) (es : List Ev) (line : Str) (rest : List Str) (sl : s.length ≤ 1000000) (hs : linesOf s = es.map textOf ++ line :: rest) (R : RunP c es) (l : es.length ≤ 60) (b : es.length = 60 ∨ ∀ f ∈ evP c (runS c es), textOf f ≠ line)
      (e : ∀ dd H', Same H H' → H' dd = some (.xd [(("line" : Str), .int ((es.length + 1 : Nat) : Int))]) → E (.ref CI) (some dd) H') : RrC CN CI c H Q E (.str s)
@[irreducible] def spRdRun (CN CI : Addr) : Sp := fun vs H Q E => ∃ (c : Conf) (d w : Addr) (v : V), vs = [.ref d, .ref w, v] ∧ H d = some (dT c) ∧ H w = some (wT c) ∧ c.Ok ∧ RrC CN CI c H Q E v
theorem lines_i {K : PySem.W.Frag} {σ : L2.St} {H : Hp} {Q : VK} {z : Str} (h2 : σ[2]? = some (some (.str z))) (sl : z.length ≤ 1000000) (q : ∀ a H', Evl.Ex H H' → H a = none → H' a = some (.lst ((linesOf z).map V.str)) → Q (.ref a) H') :
    tIf (fun σ H_1 Q => tVar 2 σ H_1 fun x H' => ∃ k, TruV K x H' k ∧ Q k H') (tM1 (fun x xs H Q => ∃ a b, x = V.str a ∧ xs = [V.str b] ∧ (b.length == 0) = false ∧ a.length + 2 ≤ sizeLine ∧ rNewStrs (Txt.split a b) H Q) (tVar 2) (tC (V.str "\n"))) (tLst tNil) σ H Q := by
  refine ⟨_, h2, _, ⟨Nat.le_trans (show z.length ≤ 1000000 from sl) (by decide), rfl⟩, ?_⟩
  refine iteB (fun e => ?_) (fun e => ?_)
  · have n : ¬ z = "" := fun y => by rw [y] at e; exact absurd e (by decide)
    refine ⟨_, h2, ⟨_, rfl⟩, z, "\n", rfl, rfl, rfl, Nat.le_trans (show z.length + 2 ≤ 1000002 by omega) (by decide), fun a na => ?_⟩
    refine q a _ (Evl.Ex.new na) na ?_
    rw [upd_same]
    unfold linesOf
    rw [if_neg n]
  · have n : z = "" := by
      have l0 : z.length = 0 := by
        have : ((z.length : Int) != 0) = false := e
        have := (bne_eq_false_iff_eq).mp this
        omega
      have : z.cps.size = 0 := l0
      exact Str.ext' (by rw [Array.size_eq_zero_iff.mp this]; rfl)
    refine ⟨Nat.zero_le _, fun a na => ?_⟩
    refine q a _ (Evl.Ex.new na) na ?_
    rw [upd_same]
    unfold linesOf
    rw [if_pos n]
    rfl
theorem for_enumS {k : Nat} {K : PySem.W.Frag} {a : Addr} {xs : List V} {g : TG} {tb : TS} {D : Ends} {σ : L2.St} {H : Hp} (Pv : Nat → L2.St → Hp → Prop) (h0 : Pv 0 σ H) (hl : ∀ i σ H, i ≤ xs.length → Pv i σ H → SqL K H a xs)
    (hs : ∀ i x σ H T, xs[i]? = some x → Pv i σ H → H T = none → g (.ref T) σ (upd H T (.tup [.int ((i + k : Nat) : Int), x])) fun σ2 H2 => tb { D with nx := Pv (i + 1), ct := Pv (i + 1), bk := D.nx } σ2 H2) (hd : ∀ σ H, Pv xs.length σ H → D.nx σ H) :
    ∃ W : Nat → Nat → L2.St → Hp → Prop, (∃ m, W 0 m σ H) ∧ ∀ i m σ H, W i m σ H →
      ((IteS k K a).stop i H ∧ D.nx σ H) ∨ ((IteS k K a).go i H ∧ ∃ N : L2.St → Hp → Prop, (∀ σ' H', N σ' H' → ∃ m', m' < m ∧ W (i + 1) m' σ' H') ∧ ∀ x H', (IteS k K a).yld i H x H' → g x σ H' fun σ2 H2 => tb { D with nx := N, ct := N, bk := D.nx } σ2 H2) := by
  refine ⟨fun i m σ H => m = xs.length - i ∧ i ≤ xs.length ∧ Pv i σ H, ⟨xs.length, by simp, Nat.zero_le _, h0⟩, ?_⟩
  rintro i m σ H ⟨rfl, hi, p⟩
  have q := hl i σ H hi p
  by_cases hlt : i < xs.length
  · refine .inr ⟨⟨xs, xs[i], q, by simp [hlt]⟩, Pv (i + 1), fun σ' H' p' => ⟨xs.length - (i + 1), by omega, rfl, hlt, p'⟩, fun v H' y => ?_⟩
    obtain ⟨T, x, rfl, nT, rfl, y⟩ := y
    exact hs i x σ _ T (y xs q) p nT
  · have e : i = xs.length := by omega
    subst e
    exact .inl ⟨⟨xs, q, Nat.le_refl _⟩, hd σ H p⟩
section
variable {P : Program} {w : World} {K : PySem.W.Frag} {mg : Str → Option Value} {base : Heap} {CI fI : Addr}
theorem ok_read_run (T : Txt K mg) (U : TxtC K mg) (R : ErrT K mg) (I : PySem.InvX.InvTxt P K mg CI fI) : FnOk P w K mg base (L2.CX P w) 10 T.f_read_run T.fd_read_run ["design", "world", "text"] (spRdRun R.e_NotText.C CI) := by
  refine T.F_read_run.okX sc_read_run (fun vs H Q E h => ?_) (fun cdv A outer s H vs Q E hr h => ?_)
  · unfold spRdRun at h
    obtain ⟨c, d, w, v, rfl, _⟩ := h
    rfl
  · unfold spRdRun at h
    obtain ⟨c, d, w', v, rfl, hd, hw, O, h⟩ := h
    have hu := hu_of hr
    refine ⟨_, (pss_cons (ps_expr (pe_call (ok_check_design T U) (hr.mono (by decide)) rfl T.m_check_design T.F_check_design.kp (b_check_design T) .nil pass0 (pa_cons (pv 0) pa_nil)))
      (pss_cons (ps_expr (pe_call (ok_check_world T U) (hr.mono (by decide)) rfl T.m_check_world T.F_check_world.kp (b_check_world T) .nil pass0 (pa_cons (pv 1) pa_nil)))
      (pss_cons (ps_expr (by exact (pe_callS (ok_check_text T R) (hr.mono (by decide)) rfl T.m_check_text T.F_check_text.kp (b_check_text T) (fun σ => passAt (takes_of rfl rfl rfl rfl) σ) (pa_cons (pv 2) pa_nil))))
      (pss_cons (ps_set (i := 3) sc_read_run.nd rfl (Or.inl rfl) (pe_make T.k_Play (ok_Play_init T U) (hr.mono (by decide)) rfl T.m_Play (b_Play_init T) .nil pass0 (pa_cons (pv 0) (pa_cons (pv 1) pa_nil))))
      (pss_cons (ps_set (i := 4) sc_read_run.nd rfl (Or.inl rfl) (pe_ifExp (pt_truth (pv 2) (by intro _; rfl)) (pe_split (pv 2) pe_str) (pe_lst pa_nil)))
      (pss_cons (ps_for (passes_of rfl) rfl (pi_enumS (by rfl) T.n_enumerate (pa_cons (pv 4) pa_nil)) (pg_tup rfl (pgs_cons (pg_name (i := 5) sc_read_run.nd rfl (Or.inl rfl)) (pgs_cons (pg_name (i := 6) sc_read_run.nd rfl (Or.inl rfl)) pgs_nil))) (pss_cons (ps_set (i := 7) sc_read_run.nd rfl (Or.inl rfl) (pe_call (ok_events_by_text T) (hr.mono (by decide)) rfl T.m_events_by_text T.F_events_by_text.kp (b_events_by_text T) .nil pass0 (pa_cons (pv 3) pa_nil)))
      (pss_cons (ps_if (PW.pt (pw_or (pt_cmpR op_gt (pv 5) (pe_glob (v := .int 60) rfl U.m_MOST_EVENTS ⟨_, rfl⟩) (nomark _)) (pw_or1 (pt_cmp (pc_dnotin hu (pv 6) (pv 7)))))) (pss_one (ps_raiseInv rfl I (hr.mono (by decide : 1 ≤ _)) (takes_of rfl rfl rfl rfl) (by exact (pa_cons (pv 5) pa_nil)))) pss_nil)
      (pss_one (ps_expr (pe_meth (pv 3) T.c_Play T.M_Play_do (ok_Play_do T) (hr.mono (by decide)) (b_Play_do T) .nil pass0 (pa_cons (pe_dget hu (pv 7) (pv 6) (fun _ _ => rfl)) pa_nil)))))))
      (pss_one (ps_ret (pe_callTy call_tuple_of (by rfl) T.n_tuple (by decide +kernel) (pa_cons (pe_fld (pv 3) rfl) pa_nil)))))))))), ?_⟩
    refine ⟨_, rfl, ?_⟩
    refine chd_i hd O ?_
    refine ⟨_, rfl, ?_⟩
    refine chw_i hw O ?_
    refine ⟨_, rfl, ?_⟩
    have h' : (NoStr v ∧ E (.ref R.e_NotText.C) none H) ∨ ∃ (z : Str) (es : List Ev), v = .str z ∧ z.length ≤ 1000000 ∧ RunP c es ∧ es.length ≤ 60 ∧
        ((linesOf z = es.map textOf ∧ ∀ p xs H', Same H H' → H' p = some (.tup xs) → EvsAt H' xs es → Q (.ref p) H') ∨
          ∃ (line : Str) (rest : List Str), linesOf z = es.map textOf ++ line :: rest ∧ (es.length = 60 ∨ ∀ f ∈ evP c (runS c es), textOf f ≠ line) ∧
            ∀ dd H', Same H H' → H' dd = some (.xd [(("line" : Str), .int ((es.length + 1 : Nat) : Int))]) → E (.ref CI) (some dd) H') := by
      cases h with
      | no n e => exact .inl ⟨n, e⟩
      | ok s es sl hs R l q => exact .inr ⟨s, es, rfl, sl, R, l, .inl ⟨hs, q⟩⟩
      | bad s es line rest sl hs R l b e => exact .inr ⟨s, es, rfl, sl, R, l, .inr ⟨line, rest, hs, b, e⟩⟩
    clear h
    rcases h' with ⟨n, e⟩ | ⟨z, es, rfl, sl, RP, ln, alt⟩
    · exact chtxt_no n e
    · refine chtxt_s ?_
      refine ⟨_, rfl, _, rfl, fun p dx np ndx ne => ?_⟩
      have S1 : Same H (upd (upd H dx (.own p)) p (.ins T.C_Play dx [])) := fun b o e => by
        rw [upd_ne (ne_of_none e np), upd_ne (ne_of_none e ndx)]
        exact e
      refine play_i upd_same (S1 _ _ hd) (S1 _ _ hw) O fun A0 H2 oas0 eas0 ed0 ew0 nlo0 npa0 L0 K2 => ⟨rfl, ?_⟩
      have S2 : Same H H2 := fun b o e => K2 b o (S1 b o e) (ne_of_none e np)
      have nlo0 : H A0.lo = none := S1.free nlo0
      have npa0 : H A0.pa = none := S1.free npa0
      refine lines_i rfl sl fun q H3 e3 nq hq => ?_
      have S3 : Same H H3 := fun b o z => e3 b o (S2 b o z)
      have L3 := L0.same (fun b o z => e3 b o z)
      have qp : q ≠ p := fun z => by rw [z, L0.at_] at nq; cases nq
      have ql : q ≠ A0.lo := fun z => by rw [z, L0.lo0] at nq; cases nq
      have qa : q ≠ A0.pa := fun z => by rw [z, L0.pa] at nq; cases nq
      have lslen : ∀ i, i < es.length → (linesOf z)[i]? = (es[i]?).map textOf := fun i hi => by
        rcases alt with ⟨hs, _⟩ | ⟨line, rest, hs, _⟩
        · rw [hs, List.getElem?_map]
        · rw [hs, List.getElem?_append_left (by rw [List.length_map]; exact hi), List.getElem?_map]
      refine ⟨_, rfl, q, (linesOf z).map V.str, rfl, SqL.of hq, ?_⟩
      refine for_enumS (k := 1) (xs := (linesOf z).map V.str) (fun i σ' H' => i ≤ es.length ∧ ∃ A x5 x6 x7, σ' = [some (.ref d), some (.ref w'), some (.str z), some (.ref p), some (.ref q), x5, x6, x7] ∧ Same H H' ∧ H' q = some (.lst ((linesOf z).map V.str)) ∧ q ≠ A.lo ∧ q ≠ A.pa ∧ q ∉ A.oas ∧ H A.lo = none ∧ H A.pa = none ∧ (∀ b ∈ A.oas, H b = none) ∧ Play0 T.C_Operation T.C_Play c H' p A (runS c (es.take i)))
        ⟨Nat.zero_le _, A0, none, none, none, rfl, S3, hq, ql, qa, (by rw [oas0]; intro hb; cases hb), nlo0, npa0, (by rw [oas0]; intro b hb; cases hb), L3⟩ (fun i σ' H' _ ⟨_, _, _, _, _, _, _, e, _⟩ => SqL.of e) ?_ ?_
      · rintro i y σ' H' tt hi ⟨hle, A, x5, x6, x7, rfl, S, hq', nl, na, no, nlo, npa, noa, L⟩ ntt
        obtain ⟨line, el, rfl⟩ : ∃ line, (linesOf z)[i]? = some line ∧ y = .str line := by
          rw [List.getElem?_map, Option.map_eq_some_iff] at hi
          obtain ⟨u, h1, h2⟩ := hi
          exact ⟨u, h1, h2.symm⟩
        refine ⟨tt, _, rfl, SqT.of upd_same, rfl, _, _, rfl, _, _, rfl, rfl, ?_⟩
        have S' := sN S (o := .tup [.int ((i + 1 : Nat) : Int), .str line]) ntt
        have L' := L.new (u := .tup [.int ((i + 1 : Nat) : Int), .str line]) ntt
        have hq3 := sN (show Same H' H' from fun _ _ z => z) (o := .tup [.int ((i + 1 : Nat) : Int), .str line]) ntt _ _ hq'
        generalize upd H' tt (.tup [.int ((i + 1 : Nat) : Int), .str line]) = H4 at S' L' hq3
        have len : (runS c (es.take i)).ops.length ≤ 100 := by
          have := runS_len (c := c) (es := es) i
          omega
        have len2 : (runS c (es.take i)).past.length ≤ 1000 := by
          rw [runS_past, List.length_take]
          omega
        refine ⟨_, rfl, ?_⟩
        refine evtxt_i O L' len (runS_opsok O _) fun q7 kvs es7 H5 S5 nq7 hq7 TX pm => ?_
        have L5 := L'.same S5
        have S6 := S'.trans S5
        have hq5 := S5 _ _ hq3
        by_cases hi2 : i < es.length
        · obtain ⟨e, ee⟩ : ∃ e, es[i]? = some e := ⟨_, List.getElem?_eq_getElem hi2⟩
          have lt : line = textOf e := by
            rw [lslen i hi2, ee] at el
            exact (Option.some.inj el).symm
          subst lt
          obtain ⟨g, m, dp⟩ := RP.step i e ee
          obtain ⟨f, hf, tf, a, ha, Ha⟩ := TX.has e (pm.mem_iff.mpr m)
          have fe : f = e := textOf_inj (ev_small O (runS_opsok O _) (pm.mem_iff.mp hf)) (ev_small O (runS_opsok O _) m) len tf
          subst fe
          refine ⟨_, rfl, _, _, rfl, rfl, _, rfl, ?_⟩
          rw [show decide ((60 : Int) < ((i + 1 : Nat) : Int)) = false from decide_eq_false (by omega)]
          refine iteF ⟨_, rfl, _, rfl, q7, _, rfl, DGet.k (k := Sum.inr (textOf f)) hq7, _, rfl, ?_⟩
          rw [ha]
          refine iteF ?_
          refine ⟨_, rfl, _, _, _, rfl, L5.at_, ln_Play_do, _, rfl, _, rfl, q7, .ref a, rfl, (by have z := DGet.k (k := Sum.inr (textOf f)) hq7; rw [ha] at z; exact z), ?_⟩
          refine dop_i Ha L5.toPlayAt len len2 (by rw [L5.g0]; exact dp) fun H6 A6 L6 gr K6 => ?_
          have npf : ¬ PF p A q := fun z => by
            rcases z with z | z | z | z
            · exact qp z
            · exact nl z
            · exact na z
            · exact no (List.mem_of_mem_drop z)
          refine ⟨hi2, A6, _, _, _, rfl, K6.same S6 (fun b hb => ?_), K6 _ _ hq5 npf, by rw [gr.lo]; exact nl, by rw [gr.pa]; exact na, fun hb => ?_, by rw [gr.lo]; exact nlo, by rw [gr.pa]; exact npa, fun b hb => ?_, ?_⟩
          · rcases hb with z | z | z | z
            · rw [z]; exact np
            · rw [z]; exact nlo
            · rw [z]; exact npa
            · exact noa b (List.mem_of_mem_drop z)
          · rcases gr.oas q (by rw [gr.g, L5.g0]; exact hb) with z | z
            · exact no (List.mem_of_mem_drop z)
            · rw [hq5] at z; cases z
          · rcases gr.oas b (by rw [gr.g, L5.g0]; exact hb) with z | z
            · exact noa b (List.mem_of_mem_drop z)
            · exact S6.free z
          · rw [runS_snoc ee]
            rw [L5.g0] at L6
            exact ⟨L6, gr.g.trans L5.g0⟩
        · rcases alt with ⟨hs, _⟩ | ⟨line', rest, hs, hb, ex⟩
          · rw [hs] at el
            have := (List.getElem?_eq_some_iff.mp el).1
            rw [List.length_map] at this
            omega
          · have ei : i = es.length := by omega
            have elne : line = line' := by
              rw [hs, List.getElem?_append_right (by rw [List.length_map]; omega), List.length_map, ei, Nat.sub_self] at el
              exact (Option.some.inj el).symm
            subst elne
            subst ei
            rw [List.take_length] at pm
            have fin : ∀ dd (Hn : Hp), Same H5 Hn → Hn dd = some (.xd [(("line" : Str), .int ((es.length + 1 : Nat) : Int))]) → E (.ref CI) (some dd) Hn := fun dd Hn Sn hn => ex dd Hn (S6.trans Sn) hn
            have fmt : FmtV (.int ((es.length + 1 : Nat) : Int)) := .int (log_small (by rw [Int.natAbs_natCast]; omega))
            refine ⟨_, rfl, _, _, rfl, rfl, _, rfl, ?_⟩
            by_cases h60 : es.length = 60
            · rw [show decide ((60 : Int) < ((es.length + 1 : Nat) : Int)) = true from decide_eq_true (by omega)]
              refine iteT (iteT ?_)
              exact ⟨_, rfl, _, rfl, fmt, fun dd nd => fin dd _ (same_new nd) upd_same⟩
            · rw [show decide ((60 : Int) < ((es.length + 1 : Nat) : Int)) = false from decide_eq_false (by omega)]
              refine iteF ⟨_, rfl, _, rfl, q7, _, rfl, DGet.k (k := Sum.inr line) hq7, _, rfl, ?_⟩
              rw [TX.non line fun f hf => (hb.resolve_left h60) f (pm.mem_iff.mp hf)]
              refine iteT ?_
              exact ⟨_, rfl, _, rfl, fmt, fun dd nd => fin dd _ (same_new nd) upd_same⟩
      · rintro σ' H' ⟨hle, A, x5, x6, x7, rfl, S, hq', nl, na, no, nlo, npa, noa, L⟩
        rw [List.length_map] at hle L
        rcases alt with ⟨hs, qq⟩ | ⟨line, rest, hs, _⟩
        · rw [hs, List.length_map, List.take_length] at L
          have EV : EvsAt H' (A.eas.map V.ref) es := by
            have z := L.evs
            rw [runS_past] at z
            exact z
          refine ⟨_, rfl, _, _, _, _, _, rfl, L.at_, T.c_Play, T.a_Play_past, l_Play_past, _, _, rfl, .inl ⟨SqL.of L.pa, fun t nt => ?_⟩⟩
          exact qq t _ _ (sN S nt) upd_same (EV.same (same_new nt))
        · rw [hs, List.length_append, List.length_map, List.length_cons] at hle
          omega
end
end Ca

set_option Elab.async false
set_option linter.all false
set_option maxRecDepth 100000
set_option maxHeartbeats 4000000
namespace Ca
open PySem L2
/-! ### what the law asks: pure facts -/
/-- sixty looks -/
def looks : Nat → List Ev
  | 0 => []
  | n + 1 => looks n ++ [(("look" : Str), some (n : Int))]
theorem looks_len : ∀ n, (looks n).length = n
  | 0 => rfl
  | n + 1 => by
    unfold looks
    rw [List.length_append, looks_len n]
    rfl
theorem looks_go {c : Conf} (O : c.Ok) : ∀ n, ∃ t, Go c t ∧ t.past = looks n ∧ t.ops.length = n ∧ OpsOk t
  | 0 => ⟨PSt.begin, .begin, rfl, rfl, fun _ h => by cases h⟩
  | n + 1 => by
    obtain ⟨t, G, p, l, o⟩ := looks_go O n
    have m : (("look" : Str), some (n : Int)) ∈ evP c t := by
      have z := new_evP (c := c) (t := t) (w := "look") (.inl rfl)
      rw [l] at z
      exact z
    refine ⟨doP c t ("look", some (n : Int)), (G.step O m).2, ?_, ?_, (doP_ok O o).1⟩
    · rw [doP_past, p]
      rfl
    · rw [doP_step (by decide +kernel) (by decide +kernel) (by decide +kernel)]
      exact (stepP_ok O (show OpsOk (noteP t ("look", some (n : Int))) from o)).2.2 l.symm
theorem looks_run {c : Conf} (O : c.Ok) (n : Nat) : RunP c (looks n) := by
  obtain ⟨t, G, p, _⟩ := looks_go O n
  rw [← p]
  exact G.run O
theorem looks_at : ∀ {n i : Nat}, i < n → (looks n)[i]? = some (("look" : Str), some (i : Int))
  | n + 1, i, h => by
    unfold looks
    by_cases hi : i < n
    · rw [List.getElem?_append_left (by rw [looks_len]; exact hi)]
      exact looks_at hi
    · have : i = n := by omega
      subst this
      rw [List.getElem?_append_right (Nat.le_of_eq (looks_len i)), looks_len, Nat.sub_self]
      rfl
/-- no event's text has a line's end -/
theorem words_nl : ∀ x ∈ wordsT, 10 ∉ x.cps.toList := by decide +kernel
theorem num_nl : ∀ k < 101, 10 ∉ (toString ((k : Nat) : Int) : Str).cps.toList := by decide +kernel
theorem textOf_nl {n : Nat} {e : Ev} (h : SmallEv n e) (hn : n ≤ 100) : 10 ∉ (textOf e).cps.toList := by
  rcases h with rfl | rfl | ⟨x, k, hx, hk, rfl⟩
  · decide +kernel
  · decide +kernel
  · have e32 : (" " : Str).cps.toList = [32] := rfl
    rw [textOf_some, cat_list, cat_list, e32]
    intro z
    rcases List.mem_append.mp z with z | z
    · rcases List.mem_append.mp z with z | z
      · exact words_nl x hx z
      · exact absurd (List.mem_singleton.mp z) (by decide)
    · exact num_nl k (by omega) z
/-- a line that is no event's -/
def notEv (n : Nat) (line : Str) : Prop := ∀ e, SmallEv n e → textOf e ≠ line
theorem notEv_sp {n : Nat} {line : Str} (h : 32 ∉ line.cps.toList) (h1 : line ≠ "copy") (h2 : line ≠ "evict") : notEv n line := fun e s z => by
  rcases s with rfl | rfl | ⟨x, k, hx, hk, rfl⟩
  · exact h1 z.symm
  · exact h2 z.symm
  · rw [← z] at h
    exact h (textOf_sp x _)
theorem notEv_word {n : Nat} {x s : Str} (h : x ∉ wordsT) (h1 : 32 ∉ x.cps.toList) : notEv n (x ++ " " ++ s) := fun e z y => by
  have cp : 32 ∉ (textOf copyE).cps.toList := by decide +kernel
  have ev : 32 ∉ (textOf evictE).cps.toList := by decide +kernel
  have sp : 32 ∈ (x ++ " " ++ s).cps.toList := by
    have e32 : (" " : Str).cps.toList = [32] := rfl
    rw [cat_list, cat_list, e32]
    simp
  rcases z with rfl | rfl | ⟨u, k, hu, hk, rfl⟩
  · rw [← y] at sp
    exact cp sp
  · rw [← y] at sp
    exact ev sp
  · rw [textOf_some] at y
    exact h ((cut_space (words_sp u hu) h1 y).1 ▸ hu)
theorem notEv_num {n : Nat} {x s : Str} (h1 : 32 ∉ x.cps.toList) (hs : ∀ k ≤ n, (toString ((k : Nat) : Int) : Str) ≠ s) : notEv n (x ++ " " ++ s) := fun e z y => by
  have cp : 32 ∉ (textOf copyE).cps.toList := by decide +kernel
  have ev : 32 ∉ (textOf evictE).cps.toList := by decide +kernel
  have sp : 32 ∈ (x ++ " " ++ s).cps.toList := by
    have e32 : (" " : Str).cps.toList = [32] := rfl
    rw [cat_list, cat_list, e32]
    simp
  rcases z with rfl | rfl | ⟨u, k, hu, hk, rfl⟩
  · rw [← y] at sp
    exact cp sp
  · rw [← y] at sp
    exact ev sp
  · rw [textOf_some] at y
    exact hs k hk (cut_space (words_sp u hu) h1 y).2
theorem zero_num : ∀ m < 101, ∀ k < 101, (toString ((k : Nat) : Int) : Str) ≠ "0" ++ (toString ((m : Nat) : Int) : Str) := by decide +kernel
theorem sp_num : ∀ k < 101, 32 ∉ (toString ((k : Nat) : Int) : Str).cps.toList := by decide +kernel
theorem neg_num : ∀ k < 101, (toString ((k : Nat) : Int) : Str) ≠ "-1" := by decide +kernel
/-- texts that are no design's, no world's -/
theorem odd_d : ∀ s ∈ (["", "store", "store drop,token, alone", "store drop, token, alone ", "Store drop, token, alone", "token, store drop, alone", "store drop, token", "store  drop, token, alone", "store drop, token, alone, alone", "primary, keeps, stops", "drop, token, alone"] : List Str), ∀ t ∈ designs3, textT t ≠ s := by decide +kernel
theorem rev_w : ∀ t ∈ worlds3, ∀ u ∈ worlds3, textT u ≠ textT (t.2.2, t.2.1, t.1) := by decide +kernel
end Ca

set_option Elab.async false
set_option linter.all false
set_option maxRecDepth 100000
set_option maxHeartbeats 4000000
namespace Ca
open PySem L2
/-- some triple of words is drawn; the row is turned, some lists are made -/
@[irreducible] def spTriple (K : PySem.W.Frag) (C1 C2 C3 : Str → Prop) : Sp := fun vs H Q _ => ∃ (H0 : Hp) (a r : Addr), vs = [.ref r] ∧ RowAt K H0 a r H ∧
  ∀ (p : Addr) (H' : Hp) (x y z : Str), C1 x → C2 y → C3 z → RowAt K H0 a r H' → Keep (fun b => b = r) H H' → H p = none → H' p = some (.tup [.str x, .str y, .str z]) → Q (.ref p) H'
section
variable {P : Program} {w : World} {K : PySem.W.Frag} {mg : Str → Option Value} {base : Heap}
theorem ok_Lworld (T : Txt K mg) : FnOk P w K mg base CX0 3 T.f_Lworld T.fd_Lworld ["row"] (spTriple K (fun x => x = "primary" ∨ x = "replica") (fun x => x = "evicts" ∨ x = "keeps") (fun x => x = "finishes" ∨ x = "stops")) := by
  refine T.F_Lworld.ok sc_Lworld (fun vs H Q E h => ?_) (fun cdv A outer s H vs Q E hr h => ?_)
  · unfold spTriple at h
    obtain ⟨H0, a, r, rfl, _⟩ := h
    rfl
  · unfold spTriple at h
    obtain ⟨H0, a, r, rfl, R, k⟩ := h
    refine ⟨_, (pss_one (ps_ret (pe_tup (pa_cons (pe_call (ok_Lpick T) (hr.mono (by decide)) rfl T.m_Lpick T.F_Lpick.kp (b_Lpick T) .nil pass0 (pa_cons (pv 0) (pa_cons (pe_lst (pa_cons pe_str (pa_cons pe_str pa_nil))) pa_nil))) (pa_cons (pe_call (ok_Lpick T) (hr.mono (by decide)) rfl T.m_Lpick T.F_Lpick.kp (b_Lpick T) .nil pass0 (pa_cons (pv 0) (pa_cons (pe_lst (pa_cons pe_str (pa_cons pe_str (pa_cons pe_str pa_nil)))) pa_nil))) (pa_cons (pe_call (ok_Lpick T) (hr.mono (by decide)) rfl T.m_Lpick T.F_Lpick.kp (b_Lpick T) .nil pass0 (pa_cons (pv 0) (pa_cons (pe_lst (pa_cons pe_str (pa_cons pe_str (pa_cons pe_str pa_nil)))) pa_nil))) pa_nil)))))), ?_⟩
    refine ⟨_, rfl, (by show 2 ≤ sizeLine; decide), fun l1 n1 => ?_⟩
    refine pick_lst R n1 [.str "primary", .str "replica"] (by simp) (by show 2 ≤ 1000; decide) fun x1 H1 m1 R1 K1 => ?_
    refine ⟨_, rfl, (by show 3 ≤ sizeLine; decide), fun l2 n2 => ?_⟩
    refine pick_lst R1 n2 [.str "evicts", .str "keeps", .str "keeps"] (by simp) (by show 3 ≤ 1000; decide) fun x2 H2 m2 R2 K2 => ?_
    refine ⟨_, rfl, (by show 3 ≤ sizeLine; decide), fun l3 n3 => ?_⟩
    refine pick_lst R2 n3 [.str "finishes", .str "finishes", .str "stops"] (by simp) (by show 3 ≤ 1000; decide) fun x3 H3 m3 R3 K3 => ?_
    have K3 := (K1.trans K2).trans K3
    refine ⟨(by show 3 ≤ sizeLine; decide), fun p np => ?_⟩
    have q1 : ∃ x, x1 = V.str x ∧ (x = "primary" ∨ x = "replica") := by
      simp only [List.mem_cons, List.not_mem_nil, or_false] at m1
      rcases m1 with rfl | rfl <;> exact ⟨_, rfl, by simp⟩
    have q2 : ∃ x, x2 = V.str x ∧ (x = "evicts" ∨ x = "keeps") := by
      simp only [List.mem_cons, List.not_mem_nil, or_false] at m2
      rcases m2 with rfl | rfl | rfl <;> exact ⟨_, rfl, by simp⟩
    have q3 : ∃ x, x3 = V.str x ∧ (x = "finishes" ∨ x = "stops") := by
      simp only [List.mem_cons, List.not_mem_nil, or_false] at m3
      rcases m3 with rfl | rfl | rfl <;> exact ⟨_, rfl, by simp⟩
    obtain ⟨x, rfl, c1⟩ := q1
    obtain ⟨y, rfl, c2⟩ := q2
    obtain ⟨z, rfl, c3⟩ := q3
    exact k p _ x y z c1 c2 c3 (R3.new np) (K3.new np) (K3.free np (R3.ne np)) upd_same
theorem ok_Ldesign (T : Txt K mg) : FnOk P w K mg base CX0 3 T.f_Ldesign T.fd_Ldesign ["row"] (spTriple K (fun x => x ∈ pathsL) (fun x => x ∈ guardsL) (fun x => x ∈ flightsL)) := by
  refine T.F_Ldesign.ok sc_Ldesign (fun vs H Q E h => ?_) (fun cdv A outer s H vs Q E hr h => ?_)
  · unfold spTriple at h
    obtain ⟨H0, a, r, rfl, _⟩ := h
    rfl
  · unfold spTriple at h
    obtain ⟨H0, a, r, rfl, R, k⟩ := h
    refine ⟨_, (pss_cons (ps_set (i := 1) sc_Ldesign.nd rfl (Or.inl rfl) (pe_call (ok_Lpick T) (hr.mono (by decide)) rfl T.m_Lpick T.F_Lpick.kp (b_Lpick T) .nil pass0 (pa_cons (pv 0) (pa_cons (pe_lst (pa_cons pe_str (pa_cons pe_str (pa_cons pe_str (pa_cons pe_str (pa_cons pe_str (pa_cons pe_str (pa_cons pe_str (pa_cons pe_str (pa_cons pe_str pa_nil)))))))))) pa_nil))))
      (pss_one (ps_ret (pe_tup (pa_cons (pe_call (ok_Lpick T) (hr.mono (by decide)) rfl T.m_Lpick T.F_Lpick.kp (b_Lpick T) .nil pass0 (pa_cons (pv 0) (pa_cons (pe_op op_cat (pe_call0 (ok_Lpaths T) (hr.mono (by decide)) rfl T.m_Lpaths T.F_Lpaths.kp (b_Lpaths T) .nil pass0) (pe_lst (pa_cons pe_str (pa_cons pe_str pa_nil)))) pa_nil))) (pa_cons (pv 1) (pa_cons (pe_call (ok_Lpick T) (hr.mono (by decide)) rfl T.m_Lpick T.F_Lpick.kp (b_Lpick T) .nil pass0 (pa_cons (pv 0) (pa_cons (pe_lst (pa_cons pe_str (pa_cons pe_str (pa_cons pe_str pa_nil)))) pa_nil))) pa_nil))))))), ?_⟩
    refine ⟨_, rfl, (by show 9 ≤ sizeLine; decide), fun l1 n1 => ?_⟩
    refine pick_lst R n1 [.str "always", .str "empty", .str "mark", .str "mark", .str "never", .str "newer", .str "newer", .str "token", .str "token"] (by simp) (by show 9 ≤ 1000; decide) fun x1 H1 m1 R1 K1 => ?_
    refine ⟨_, rfl, ?_⟩
    refine paths_i fun l2 n2 => ?_
    refine ⟨(by show 2 ≤ sizeLine; decide), fun l3 n3 => ?_⟩
    have R2 := R1.new (o := .lst [.str "drop store", .str "drop store drop", .str "store", .str "store drop", .str "store set"]) n2
    have K2 := K1.new (o := .lst [.str "drop store", .str "drop store drop", .str "store", .str "store drop", .str "store set"]) n2
    have h23 : (upd (upd H1 l2 (.lst [.str "drop store", .str "drop store drop", .str "store", .str "store drop", .str "store set"])) l3 (.lst [.str "store drop", .str "store set"])) l2 = some (.lst [.str "drop store", .str "drop store drop", .str "store", .str "store drop", .str "store set"]) := by
      rw [upd_ne (ne_of_none upd_same n3)]
      exact upd_same
    have R3 := R2.new (o := .lst [.str "store drop", .str "store set"]) n3
    have K3 := K2.new (o := .lst [.str "store drop", .str "store set"]) n3
    refine ⟨_, _, _, _, rfl, rfl, h23, upd_same, (by show 7 ≤ sizeLine; decide), fun l4 n4 => ?_⟩
    refine pick_lst R3 n4 ([.str "drop store", .str "drop store drop", .str "store", .str "store drop", .str "store set"] ++ [.str "store drop", .str "store set"]) (by simp) (by show 7 ≤ 1000; decide) fun x2 H4 m2 R4 K4 => ?_
    refine ⟨_, rfl, _, rfl, (by show 3 ≤ sizeLine; decide), fun l5 n5 => ?_⟩
    refine pick_lst R4 n5 [.str "alone", .str "alone", .str "shared"] (by simp) (by show 3 ≤ 1000; decide) fun x3 H5 m3 R5 K5 => ?_
    have K5 := (K3.trans K4).trans K5
    refine ⟨(by show 3 ≤ sizeLine; decide), fun p np => ?_⟩
    have q1 : ∃ x, x1 = V.str x ∧ x ∈ guardsL := by
      simp only [List.mem_cons, List.not_mem_nil, or_false] at m1
      rcases m1 with rfl | rfl | rfl | rfl | rfl | rfl | rfl | rfl | rfl <;> exact ⟨_, rfl, by simp [guardsL]⟩
    have q2 : ∃ x, x2 = V.str x ∧ x ∈ pathsL := by
      simp only [List.mem_append, List.mem_cons, List.not_mem_nil, or_false] at m2
      rcases m2 with (rfl | rfl | rfl | rfl | rfl) | rfl | rfl <;> exact ⟨_, rfl, by simp [pathsL]⟩
    have q3 : ∃ x, x3 = V.str x ∧ x ∈ flightsL := by
      simp only [List.mem_cons, List.not_mem_nil, or_false] at m3
      rcases m3 with rfl | rfl | rfl <;> exact ⟨_, rfl, by simp [flightsL]⟩
    obtain ⟨x, rfl, c1⟩ := q1
    obtain ⟨y, rfl, c2⟩ := q2
    obtain ⟨z, rfl, c3⟩ := q3
    exact k p _ y x z c2 c1 c3 (R5.new np) (K5.new np) (K5.free np (R5.ne np)) upd_same
end
end Ca

set_option Elab.async false
set_option linter.all false
set_option maxRecDepth 100000
set_option maxHeartbeats 4000000
namespace Ca
open PySem L2
theorem triple_i {K : PySem.W.Frag} {C1 C2 C3 : Str → Prop} {H0 H : Hp} {a r : Addr} {Q : VK} {E : XK} (R : RowAt K H0 a r H) (q : ∀ (p : Addr) (H' : Hp) (x y z : Str), C1 x → C2 y → C3 z → RowAt K H0 a r H' → Keep (fun b => b = r) H H' → H p = none → H' p = some (.tup [.str x, .str y, .str z]) → Q (.ref p) H') :
    spTriple K C1 C2 C3 [.ref r] H Q E := by
  unfold spTriple
  exact ⟨H0, a, r, rfl, R, q⟩
theorem past_at {c : Conf} {H : Hp} {h : Addr} {A : LA} {s : HS} (L : LawAt c H h A s) : EvsAt H (A.eas.map V.ref) s.past := by
  have key : ∀ (n : Nat) (as : List Addr) (es : List Ev), as.length = es.length → (∀ (i : Nat) (a : Addr) (e : Ev), as[i]? = some a → es[i]? = some e → H a = some (.tup (evV e))) → EvsAt H (as.map V.ref) es := by
    intro n as
    induction as with
    | nil =>
      intro es hl _
      cases es with
      | nil => exact .nil
      | cons _ _ => cases hl
    | cons a as ih =>
      intro es hl hg
      cases es with
      | nil => cases hl
      | cons e es => exact .cons ⟨a, rfl, hg 0 a e rfl rfl⟩ (ih es (by simpa using hl) fun i x y p q => hg (i + 1) x y p q)
  exact key 0 _ _ L.el L.eg
theorem dt_str {H : Hp} {n : Nat} {x : Str} : Dt H n (.str x) (.str x) := by cases n <;> exact rfl
theorem dt_int {H : Hp} {n : Nat} {x : Int} : Dt H n (.int x) (.int x) := by cases n <;> exact rfl
def onD : Option Nat → PyData
  | none => .none
  | some k => .int (k : Int)
theorem dt_on {H : Hp} {n : Nat} {x : Option Nat} : Dt H n (on x) (onD x) := by cases x <;> cases n <;> first | exact trivial | exact rfl
theorem ev_dt {H : Hp} {t : Addr} {e : Ev} {n : Nat} (h : H t = some (.tup (evV e))) : Dt H (n + 1) (.ref t) (evD' e) := by
  obtain ⟨w, k⟩ := e
  cases k with
  | none => exact (show ∃ xs, _ from ⟨_, h, by show 1 ≤ 1000; decide, .cons dt_str .nil⟩)
  | some k => exact (show ∃ xs, _ from ⟨_, h, by show 2 ≤ 1000; decide, .cons dt_str (.cons dt_int .nil)⟩)
theorem evs_dt {H : Hp} {n : Nat} : ∀ {xs : List V} {es : List Ev}, EvsAt H xs es → Paired (Dt H (n + 1)) xs (es.map evD')
  | _, _, .nil => .nil
  | _, _, .cons ⟨t, e, h⟩ r => by
    subst e
    exact .cons (ev_dt h) (evs_dt r)
theorem tup_dt {H : Hp} {n : Nat} {p : Addr} {xs : List V} {ds : List PyData} (h : H p = some (.tup xs)) (l : xs.length ≤ 1000) (r : Paired (Dt H n) xs ds) : Dt H (n + 1) (.ref p) (.tuple ds) := (show ∃ xs, _ from ⟨xs, h, l, r⟩)
end Ca

set_option Elab.async false
set_option linter.all false
set_option maxRecDepth 100000
set_option maxHeartbeats 4000000
namespace Ca
open PySem L2
/-! ### the texts that the law reads -/
theorem cat_assoc (a b c : Str) : a ++ b ++ c = a ++ (b ++ c) := str_list (by rw [cat_list, cat_list, cat_list, cat_list, List.append_assoc])
theorem join_len {m : Nat} (s : Str) : ∀ (l : List Str), (∀ x ∈ l, x.length ≤ m) → (Str.join s l).length ≤ l.length * (m + s.length)
  | [], _ => Nat.zero_le _
  | [x], h => by
    have z := h x (List.mem_singleton.mpr rfl)
    show x.length ≤ 1 * (m + s.length)
    omega
  | x :: y :: r, h => by
    have ih := join_len s (y :: r) fun u hu => h u (List.mem_cons_of_mem _ hu)
    have z := h x (List.mem_cons_self ..)
    show (x ++ s ++ Str.join s (y :: r)).length ≤ _
    rw [PySem.Str.length_append, PySem.Str.length_append]
    rw [List.length_cons, Nat.add_mul, Nat.one_mul]
    omega
theorem tjoin_len {m : Nat} (s : Str) (l : List Str) (h : ∀ x ∈ l, x.length ≤ m) : (Txt.join s l).length ≤ l.length * (m + s.length) := by
  rw [show Txt.join s l = Str.join s l from StrLaws.glued_eq_join s l]
  exact join_len s l h
theorem linesOf_join {l : List Str} (h : ∀ x ∈ l, 10 ∉ x.cps.toList) (h1 : l ≠ ([""] : List Str)) : linesOf (Txt.join "\n" l) = l := by
  unfold linesOf
  cases l with
  | nil => exact if_pos (by decide +kernel)
  | cons x r =>
    have z := lines_join (List.cons_ne_nil x r) h
    split
    · rename_i e
      rw [e] at z
      exact absurd (z.symm.trans (by decide +kernel : Txt.split "" "\n" = ([""] : List Str))) h1
    · exact z
theorem textOf_ne {n : Nat} {e : Ev} (h : SmallEv n e) : textOf e ≠ "" := fun z => by
  rcases h with rfl | rfl | ⟨x, k, hx, hk, rfl⟩
  · exact absurd z (by decide +kernel)
  · exact absurd z (by decide +kernel)
  · have := textOf_sp x (k : Int)
    rw [z] at this
    exact absurd this (by decide +kernel)
theorem RunP.sm {c : Conf} {es : List Ev} (O : c.Ok) (R : RunP c es) (l : es.length ≤ 60) : ∀ e ∈ es, SmallEv 60 e := fun e he => by
  obtain ⟨i, hi, ee⟩ := List.getElem_of_mem he
  rcases R.small O i e (by rw [List.getElem?_eq_getElem hi, ee]) with z | z | ⟨x, k, hx, hk, z⟩
  · exact .inl z
  · exact .inr (.inl z)
  · exact .inr (.inr ⟨x, k, hx, by omega, z⟩)
theorem lines_nl {es : List Ev} (sm : ∀ e ∈ es, SmallEv 60 e) : ∀ x ∈ es.map textOf, 10 ∉ x.cps.toList := fun x hx => by
  obtain ⟨e, he, rfl⟩ := List.mem_map.mp hx
  exact textOf_nl (sm e he) (by omega)
theorem lines_5 {es : List Ev} (sm : ∀ e ∈ es, SmallEv 60 e) : ∀ x ∈ es.map textOf, x.length ≤ 5000 := fun x hx => by
  obtain ⟨e, he, rfl⟩ := List.mem_map.mp hx
  exact textOf_len (sm e he) (by omega)
theorem lines_sum {es : List Ev} (sm : ∀ e ∈ es, SmallEv 60 e) (l : es.length ≤ 61) : ((es.map textOf).map (·.length)).sum + (es.map textOf).length * ("\n" : Str).length ≤ 16777216 := by
  have := sum_le (l := (es.map textOf).map (·.length)) (m := 5000) fun y hy => by
    obtain ⟨x, hx, rfl⟩ := List.mem_map.mp hy
    exact lines_5 sm x hx
  rw [List.length_map, List.length_map] at this
  rw [List.length_map]
  have e4 : ("\n" : Str).length = 1 := rfl
  rw [e4]
  omega
theorem lines_ok {es : List Ev} (sm : ∀ e ∈ es, SmallEv 60 e) (l : es.length ≤ 60) : linesOf (runT es) = es.map textOf ∧ (runT es).length ≤ 1000000 := by
  refine ⟨linesOf_join (lines_nl sm) fun z => ?_, ?_⟩
  · cases es with
    | nil => cases z
    | cons e r => exact textOf_ne (sm e (List.mem_cons_self ..)) (List.cons.inj z).1
  · have z := tjoin_len "\n" (es.map textOf) (lines_5 sm)
    have e4 : ("\n" : Str).length = 1 := rfl
    rw [List.length_map, e4] at z
    show (Txt.join "\n" (es.map textOf)).length ≤ 1000000
    omega
/-- lines of a run, then others: cut again as they were -/
theorem lines_bad {l : List Str} (nl : ∀ x ∈ l, 10 ∉ x.cps.toList) (h5 : ∀ x ∈ l, x.length ≤ 5000) (hl : l.length ≤ 62) (h1 : l ≠ ([""] : List Str)) : linesOf (Txt.join "\n" l) = l ∧ (Txt.join "\n" l).length ≤ 1000000 ∧ (l.map (·.length)).sum + l.length * ("\n" : Str).length ≤ 16777216 := by
  refine ⟨linesOf_join nl h1, ?_, ?_⟩
  · have z := tjoin_len "\n" l h5
    have e4 : ("\n" : Str).length = 1 := rfl
    rw [e4] at z
    omega
  · have := sum_le (l := l.map (·.length)) (m := 5000) fun y hy => by
      obtain ⟨x, hx, rfl⟩ := List.mem_map.mp hy
      exact h5 x hx
    rw [List.length_map] at this
    have e4 : ("\n" : Str).length = 1 := rfl
    rw [e4]
    omega
def numS (n : Nat) : Str := (toString (n : Int) : Str)
theorem numS_nl {n : Nat} (h : n < 101) : 10 ∉ (numS n).cps.toList := num_nl n h
theorem num_len : ∀ k < 101, (toString ((k : Nat) : Int) : Str).length ≤ 10 := by decide +kernel
/-- the wrong lines -/
def wrongL (n : Nat) : List Str := ["look " ++ numS (n + 1), "look 0" ++ numS n, "look", "evict 0", "copy ", " look " ++ numS n, "hum", "", "fill " ++ numS n, "look -1", "look  " ++ numS n, "Evict"]
theorem wrong_small {n : Nat} (h : n ≤ 60) : ∀ x ∈ wrongL n, 10 ∉ x.cps.toList ∧ x.length ≤ 5000 := by
  have a1 := numS_nl (n := n) (by omega)
  have a2 := numS_nl (n := n + 1) (by omega)
  have b1 : (numS n).length ≤ 10 := num_len n (by omega)
  have b2 : (numS (n + 1)).length ≤ 10 := num_len (n + 1) (by omega)
  have two : ∀ {x s : Str}, 10 ∉ x.cps.toList → x.length ≤ 10 → 10 ∉ s.cps.toList → s.length ≤ 10 → 10 ∉ (x ++ s).cps.toList ∧ (x ++ s).length ≤ 5000 := fun {x s} h1 h2 h3 h4 => by
    refine ⟨?_, by rw [PySem.Str.length_append]; omega⟩
    rw [cat_list]
    intro z
    exact (List.mem_append.mp z).elim h1 h3
  have one : ∀ x ∈ (["look", "evict 0", "copy ", "hum", "", "look -1", "Evict"] : List Str), 10 ∉ x.cps.toList ∧ x.length ≤ 5000 := by decide +kernel
  intro x hx
  unfold wrongL at hx
  simp only [List.mem_cons, List.not_mem_nil, or_false] at hx
  rcases hx with rfl | rfl | rfl | rfl | rfl | rfl | rfl | rfl | rfl | rfl | rfl | rfl
  · exact two (by decide +kernel) (by decide +kernel) a2 b2
  · exact two (by decide +kernel) (by decide +kernel) a1 b1
  · exact one _ (by simp)
  · exact one _ (by simp)
  · exact one _ (by simp)
  · exact two (by decide +kernel) (by decide +kernel) a1 b1
  · exact one _ (by simp)
  · exact one _ (by simp)
  · exact two (by decide +kernel) (by decide +kernel) a1 b1
  · exact one _ (by simp)
  · exact two (by decide +kernel) (by decide +kernel) a1 b1
  · exact one _ (by simp)
theorem hum_not {n : Nat} : notEv n "hum" := notEv_sp (by decide +kernel) (by decide +kernel) (by decide +kernel)
theorem wrong_not {n : Nat} (h : n ≤ 60) {x : Str} (hx : x ∈ wrongL n) : notEv n x ∨ x = "fill " ++ numS n := by
  unfold wrongL at hx
  simp only [List.mem_cons, List.not_mem_nil, or_false] at hx
  rcases hx with rfl | rfl | rfl | rfl | rfl | rfl | rfl | rfl | rfl | rfl | rfl | rfl
  · refine .inl ?_
    rw [show ("look " : Str) = "look" ++ " " by decide +kernel]
    exact notEv_num (by decide +kernel) fun k hk z => absurd (num_inj k (by omega) (n + 1) (by omega) z) (by omega)
  · refine .inl ?_
    rw [show ("look 0" : Str) = "look" ++ " " ++ "0" by decide +kernel, cat_assoc]
    exact notEv_num (by decide +kernel) fun k hk => zero_num n (by omega) k (by omega)
  · exact .inl (notEv_sp (by decide +kernel) (by decide +kernel) (by decide +kernel))
  · refine .inl ?_
    rw [show ("evict 0" : Str) = "evict" ++ " " ++ "0" by decide +kernel]
    exact notEv_word (by decide +kernel) (by decide +kernel)
  · refine .inl ?_
    rw [show ("copy " : Str) = "copy" ++ " " ++ "" by decide +kernel]
    exact notEv_word (by decide +kernel) (by decide +kernel)
  · refine .inl ?_
    rw [show (" look " : Str) = "" ++ " " ++ "look " by decide +kernel, cat_assoc]
    exact notEv_word (by decide +kernel) (by decide +kernel)
  · exact .inl hum_not
  · exact .inl (notEv_sp (by decide +kernel) (by decide +kernel) (by decide +kernel))
  · exact .inr rfl
  · refine .inl ?_
    rw [show ("look -1" : Str) = "look" ++ " " ++ "-1" by decide +kernel]
    exact notEv_num (by decide +kernel) fun k hk => neg_num k (by omega)
  · refine .inl ?_
    rw [show ("look  " : Str) = "look" ++ " " ++ " " by decide +kernel, cat_assoc]
    refine notEv_num (by decide +kernel) fun k hk z => sp_num k (by omega) ?_
    rw [z, cat_list]
    exact List.mem_append_left _ (by decide +kernel)
  · exact .inl (notEv_sp (by decide +kernel) (by decide +kernel) (by decide +kernel))
/-- no event that can come has one of these texts -/
theorem wrong_no {c : Conf} {st : HS} {t : PSt} (O : c.Ok) (W : Wf c st) (o : OpsOk t) (el : t.ops.length = st.ops.length) (pm : (evP c t).Perm (evList c st)) (h : st.ops.length ≤ 60) {x : Str} (hx : x ∈ wrongL st.ops.length) : ∀ f ∈ evP c t, textOf f ≠ x := fun f hf z => by
  have sm := ev_small O o hf
  rw [el] at sm
  rcases wrong_not h hx with n | e
  · exact n f sm z
  · have e2 : textOf f = textOf ("fill", some (st.ops.length : Int)) := by
      rw [z, e, textOf_some, show ("fill " : Str) = "fill" ++ " " by decide +kernel]
      rfl
    have s2 : SmallEv st.ops.length (("fill" : Str), some (st.ops.length : Int)) := .inr (.inr ⟨_, _, by decide +kernel, Nat.le_refl _, rfl⟩)
    have := textOf_inj sm s2 (by omega) e2
    subst this
    have z := ev_case W (pm.mem_iff.mp hf)
    generalize hg : ((("fill" : Str), some (st.ops.length : Int)) : Ev) = g at z
    cases z with
    | evict h => cases hg
    | copy h => cases hg
    | new w h =>
      have e := (Prod.mk.inj hg).1
      rcases h with h | h
      · rw [h] at e
        exact absurd e (by decide +kernel)
      · rw [h] at e
        have z : ∀ p ∈ pathsL, ("fill" : Str) ≠ (Txt.split p " ").getD 0 "" := by decide +kernel
        exact z c.path O.p e
    | step k o w e h1 h2 h3 =>
      have z := (List.getElem?_eq_some_iff.mp e).1
      have := Option.some.inj (Prod.mk.inj hg).2
      omega
    | stop k o e h1 h2 h3 => exact absurd (Prod.mk.inj hg).1 (by decide +kernel)
theorem cut_take {xs : List V} {n : Nat} (h : n ≤ xs.length) : cutV xs none (some (n : Int)) = xs.take n := by
  unfold cutV
  rw [HT.sIx_none, HT.sIx_nat, Nat.min_eq_left h, List.drop_zero, Nat.sub_zero]
theorem cut_drop {xs : List V} {n : Nat} (h : n ≤ xs.length) : cutV xs (some (n : Int)) none = xs.drop n := by
  unfold cutV
  rw [HT.sIx_none, HT.sIx_nat, Nat.min_eq_left h, List.take_of_length_le (by rw [List.length_drop]; omega)]
theorem RunP.take {c : Conf} {es : List Ev} (R : RunP c es) (n : Nat) : RunP c (es.take n) := ⟨fun i e h => by
  have hi := (List.getElem?_eq_some_iff.mp h).1
  rw [List.length_take] at hi
  rw [List.getElem?_take_of_lt (by omega)] at h
  have e2 : (es.take n).take i = es.take i := by rw [List.take_take, Nat.min_eq_left (by omega)]
  rw [e2]
  exact R.step i e h⟩
theorem look_text (i : Nat) : ("look " : Str) ++ numS i = textOf ("look", some (i : Int)) := by
  rw [textOf_some, show ("look " : Str) = "look" ++ " " by decide +kernel]
  rfl
theorem looks_sm : ∀ e ∈ looks 60, SmallEv 60 e := fun e he => by
  obtain ⟨i, hi, ee⟩ := List.getElem_of_mem he
  rw [looks_len] at hi
  have z := looks_at hi
  rw [List.getElem?_eq_getElem (by rw [looks_len]; exact hi), ee] at z
  have z := Option.some.inj z
  rw [z]
  exact .inr (.inr ⟨_, i, by decide +kernel, by omega, rfl⟩)
end Ca

set_option Elab.async false
set_option linter.all false
set_option maxRecDepth 100000
set_option maxHeartbeats 4000000
/-! isinstance(e, c), e a caught exception with a dict of its own -/
namespace L2
open PySem PySem.Spec PyProof.Rows
def rIsX (K : PySem.W.Frag) (D a dd : Addr) : List V → Hp → VK → Prop := fun xs H Q => ∃ (c : V) (cv : Value) (b : Bool) (fs : List (Str × V)), xs = [.ref a, c] ∧ (∀ u, RelV c u → u = cv) ∧ H dd = some (.xd fs) ∧ PySem.W.kitOne K (.ref D) cv = some b ∧ Q (.bl b) H
theorem ExcC.cls {K : PySem.W.Frag} {D : Addr} (C : ExcC K D) : (PySem.W.clsIn K D).isSome = true := by
  obtain ⟨cd, h, _⟩ := PySem.W.any_some C.hd
  rw [h]
  rfl
theorem call_isX {X : Cx} {a D dd : Addr} {oe : Obj} {pn : List (Addr × Obj)} (C : ExcC X.K D) (hz : Zc (.ref D) (some dd) oe) (hf : ∃ vs, oe.data = .fields vs) : CallR (X.suite a ((a, oe) :: pn)) (.builtin "isinstance") (rIsX X.K D a dd) := by
  intro pins s σ H xs us Q I r h
  obtain ⟨c, cv, b, fs, rfl, hcv, ed, e, q⟩ := h
  match us, r with
  | [_, t], .cons rx (.cons rt .nil) =>
    cases rx
    have ec := hcv _ rt
    subst ec
    have pin := I.pin (a, oe) (List.mem_append_left _ (List.mem_cons_self ..))
    obtain ⟨vs, hv⟩ := hf
    obtain ⟨mA, hns, _⟩ := (show ObjOk X.prog X.w H s.heap dd (.xd fs) from I.hok dd _ ed)
    obtain ⟨od, ho, _⟩ := lookIn_ns hns
    have at_ : PySem.W.InstAt s.heap a oe D (some od) := ⟨pin.1, hz.1, by unfold PySem.W.notCls; rw [hv] <;> rfl, by rw [hz.2]; exact ho⟩
    exact PySem.W.kia_one (PySem.W.kitx_exc C.cls C.hg C.hk C.hs C.ha C.hn C.ht C.hm) I.kIn at_ e (fun z => nomatch z) fun tk => ⟨.bl b, H, I.kept (t' := tk) (fun _ _ z => z), rfl, q⟩
end L2

set_option Elab.async false
set_option linter.all false
set_option maxRecDepth 100000
set_option maxHeartbeats 4000000
namespace Ca
open PySem L2 LamX
/-! ### the line of an error -/
abbrev bLine : List Stmt := defBody s_Lline
abbrev nLine : List Str := ["work", "e"]
/-- the suite -/
def stL : List Stmt := match bLine with
  | [.Try _ (.ExceptHandler _ _ b _ :: _) _ _ _, _] => b
  | _ => []
/-- what isinstance, except and e.line ask of the classes -/
structure LineT (K : PySem.W.Frag) (mg : Str → Option Value) (R : ErrT K mg) (CI CB : Addr) : Prop where
  e : ExcC K CI
  x : XfC K CI
  gI : mg "InvalidText" = some (.ref CI)
  gB : mg "BadRun" = some (.ref CB)
  n : PySem.W.findIn K (.ref CI) "line" = some none
  m : PySem.W.exmOne K (.ref CI) (.ref R.B) = some true
  kI : PySem.W.kitOne K (.ref CI) (.ref CI) = some true
  kN : PySem.W.kitOne K (.ref R.e_NotText.C) (.ref CI) = some false
def TTline {K : PySem.W.Frag} {mg : Str → Option Value} (R : ErrT K mg) (CI : Addr) : (XK → Hp → VK → Prop) → Hp → VK → Prop := fun tl H Q =>
  tl (fun cls d H' => (∃ dd n, cls = .ref CI ∧ d = some dd ∧ H' dd = some (.xd [(("line" : Str), .int n)]) ∧ ∀ H'', Evl.Ex H' H'' → Q (.int n) H'') ∨ (cls = .ref R.e_NotText.C ∧ d = none ∧ ∀ H'', Evl.Ex H' H'' → Q (.str "text") H'')) H (fun _ H' => Q (.str "") H')
abbrev XLine (X : Cx) (g : Addr) (cdg : Value) (s : Shared) (H : Hp) : Cx := (cxOf C8.CX0 X.prog X.w X.K X.mg X.base nLine "_law_line" (defScope s_Lline) g cdg X.A X.stack s H C8.E0).nox
/-- what the suite asks of an exception -/
def tSuiteL (X : Cx) (a : Addr) (cls : Value) (d : Option Addr) : TS := fun D σ H => σ.length = 2 → ∃ t : Obj → List (Addr × Obj) → TS, (∀ (oe : Obj) (pn : List (Addr × Obj)), Zc cls d oe → (∃ vs, oe.data = .fields vs) → PSs (X.suite a ((a, oe) :: pn)) stL (t oe pn)) ∧ ∀ oe pn, t oe pn D σ H
theorem pss_suiteL {X : Cx} {a : Addr} {oe : Obj} {cls : Value} {d : Option Addr} {pn : List (Addr × Obj)} (hN : X.N.length = 2) (hz : Zc cls d oe) (hf : ∃ vs, oe.data = .fields vs) : PSs (X.suite a ((a, oe) :: pn)) stL (tSuiteL X a cls d) := by
  refine ⟨fun pins s' σ H' D I h' => ?_⟩
  obtain ⟨t, ht, h⟩ := h' (I.len.trans hN)
  exact (ht oe pn hz hf).run pins s' σ H' D I (h oe pn)
theorem suite_inv {X : Cx} (T : Txt X.K X.mg) (R : ErrT X.K X.mg) {CI CB : Addr} (L : LineT X.K X.mg R CI CB) {g : Addr} {cdg : Value} {s : Shared} {H H' : Hp} {a dd : Addr} {n : Int} {D : Ends} {σ : L2.St} (hd : H' dd = some (.xd [(("line" : Str), .int n)])) (q : D.rt (.int n) H') :
    tSuiteL (XLine X g cdg s H) a (.ref CI) (some dd) D (σ.set 1 (some (.ref a))) H' := by
  intro hl
  rw [List.length_set] at hl
  refine ⟨fun oe pn => _, fun oe pn hz hf => (have isE := call_isX (X := XLine X g cdg s H) (pn := pn) L.e hz hf; (pss_cons (ps_if (pt_val (pe_callB isE (by rfl) T.n_isinstance (by decide +kernel) (pa_cons (pv 1) (pa_cons (pe_glob (v := .ref CI) rfl L.gI rfl) pa_nil)))) (pss_one (ps_ret (pe_xf L.x L.n hz hf (pv 1)))) pss_nil)
      (by exact pss_one (ps_ret (pe_ifExp (pt_val (pe_callB isE (by rfl) T.n_isinstance (by decide +kernel) (pa_cons (pv 1) (pa_cons (pe_glob (v := .ref R.e_NotText.C) rfl R.e_NotText.g rfl) pa_nil)))) pe_str (pe_ifExp (pt_val (pe_callB isE (by rfl) T.n_isinstance (by decide +kernel) (pa_cons (pv 1) (pa_cons (pe_glob (v := .ref CB) rfl L.gB rfl) pa_nil)))) pe_str pe_str)))))), fun oe pn => ?_⟩
  match σ, hl with
  | [x0, x1], _ =>
    refine ⟨_, rfl, _, .ref CI, true, _, rfl, fun u r => r, hd, L.kI, _, rfl, iteT ?_⟩
    exact ⟨_, rfl, rfl, rfl, dd, _, .int n, rfl, hd, by simp [List.lookup], q⟩
theorem suite_txt {X : Cx} (T : Txt X.K X.mg) (R : ErrT X.K X.mg) {CI CB : Addr} (L : LineT X.K X.mg R CI CB) {g : Addr} {cdg : Value} {s : Shared} {H H' : Hp} {a : Addr} {D : Ends} {σ : L2.St} (q : D.rt (.str "text") H') :
    tSuiteL (XLine X g cdg s H) a (.ref R.e_NotText.C) none D (σ.set 1 (some (.ref a))) H' := by
  intro hl
  rw [List.length_set] at hl
  refine ⟨fun oe pn => _, fun oe pn hz hf => (have isE := call_isE (X := XLine X g cdg s H) (pn := pn) R.e_NotText.e hz hf; (pss_cons (ps_if (pt_val (pe_callB isE (by rfl) T.n_isinstance (by decide +kernel) (pa_cons (pv 1) (pa_cons (pe_glob (v := .ref CI) rfl L.gI rfl) pa_nil)))) (pss_one (ps_ret (pe_xf L.x L.n hz hf (pv 1)))) pss_nil)
      (by exact pss_one (ps_ret (pe_ifExp (pt_val (pe_callB isE (by rfl) T.n_isinstance (by decide +kernel) (pa_cons (pv 1) (pa_cons (pe_glob (v := .ref R.e_NotText.C) rfl R.e_NotText.g rfl) pa_nil)))) pe_str (pe_ifExp (pt_val (pe_callB isE (by rfl) T.n_isinstance (by decide +kernel) (pa_cons (pv 1) (pa_cons (pe_glob (v := .ref CB) rfl L.gB rfl) pa_nil)))) pe_str pe_str)))))), fun oe pn => ?_⟩
  match σ, hl with
  | [x0, x1], _ =>
    refine ⟨_, rfl, _, .ref CI, false, rfl, fun u r => r, L.kN, _, rfl, iteF ?_⟩
    exact ⟨_, rfl, _, .ref R.e_NotText.C, true, rfl, fun u r => r, R.k_NotText_NotText, _, rfl, iteT q⟩
theorem told9 {X : Cx} (T : Txt X.K X.mg) (R : ErrT X.K X.mg) {CI CB : Addr} (L : LineT X.K X.mg R CI CB) {g : Addr} {cdg : Value} {q : Str} : GivesTo X nLine "_law_line" (defScope s_Lline) g cdg bLine "work" q (TTline R CI) := by
  intro f c' s H Q tl act hc h
  refine ⟨_, pss_cons (ps_try_as (i := 1) (n := "e") (x := "CacheError") (X := XLine X g cdg s H) (c := .ref R.B)
      (tb := fun W D σ H => ∃ Ech : XK, (∀ cls d σ' H', Ech cls d H' → W cls d σ' H') ∧ σ[0]? = some (some (.ref f)) ∧ H c' = some (CodeO c' q) ∧ tl Ech H fun _ H' => D.nx σ H')
      (ts := tSuiteL (XLine X g cdg s H)) rfl rfl sc_Lline.nd rfl rfl ⟨rfl, by decide, .inl R.gB⟩ L2.takes0 (fun W pn xe tk _ => ?_) (fun a oe cls d pn hz hf => pss_suiteL (X := XLine X g cdg s H) rfl hz hf)) (pss_one (ps_ret pe_str)), ?_⟩
  · refine ⟨fun pins s' σ H' D I h' => ?_⟩
    obtain ⟨Ech, hW, h1, h2, h3⟩ := h'
    have hp := fun p1 p2 => act W pn xe Ech p1 p2 tk hW
    exact (pss_one (ps_expr (hp _ _))).run pins s' σ H' D I ⟨h1, h2, h3⟩
  · refine ⟨_, fun cls d σ' H' hch => ?_, rfl, hc, h⟩
    rcases hch with ⟨dd, n, rfl, rfl, hd, z⟩ | ⟨rfl, rfl, z⟩
    · exact ⟨true, L.m, fun _ a na => suite_inv T R L (Evl.Ex.refl _ _ _ hd) (z _ (Evl.Ex.refl _)), fun z => nomatch z⟩
    · exact ⟨true, R.m_NotText, fun _ a na => suite_txt T R L (z _ (Evl.Ex.refl _)), fun z => nomatch z⟩
/-- line(lambda: ..) -/
theorem pe_line {X : Cx} (T : Txt X.K X.mg) (R : ErrT X.K X.mg) {CI CB : Addr} (L : LineT X.K X.mg R CI CB) {c P : Addr} {Tb : List (Addr × Str)} {params : Arguments} {body : Expr} {scope : Scope} {lpos p pos : Pos} {t : XK → TE} {k : Nat} (hg : Gl X "_law_line") (TB : TabB X.base X.mg c P) (hcode : X.env.code = .ref c)
    (hm : (P, X.env.qual ++ "<lambda>") ∈ Tb) (hu : ∀ p ∈ Tb, p.1 = P → p.2 = X.env.qual ++ "<lambda>") (hr : Room (k + 2) X.A) (Ls : LamS X.env.scope scope) (hdef : defaultsOf params X.env = ([], []))
    (hbind : ∀ (q : Str) (cl : List (Str × Addr)) (pm cv ctv : Value), bindArgs (PySem.W.kla_fn "<lambda>" q params body scope cl pm cv ctv) ⟨[], []⟩ = pure [])
    (hbody : ∀ (A : Around) (outer : List Env) (s : Shared) (H : Hp) (E : XK) (f c' : Addr), Room k (A.deeper (lamEnv X scope s.heap.objs.size f c')) → PE (lamCx X A outer s H E scope f c') body (t E)) :
    PE X (.Call (.Name "_law_line" p) [.Lambda params body scope lpos] [] pos) (tLam Tb (TTline R CI) t) := by
  obtain ⟨oc, od, kV, doc, pm, an, cdv, ct, osl, ef, lk, hcd⟩ := T.F_Lline.ex
  have hb := b_Lline T
  rw [ef] at hb lk
  exact pe_lamcall (Ng := nLine) (a := "work") hg T.m_Lline T.F_Lline.kp lk hcd hb sc_Lline rfl (Or.inl rfl) (told9 T R L) TB hcode hm hu hr Ls hdef hbind hbody
end Ca

set_option Elab.async false
set_option linter.all false
set_option maxRecDepth 100000
set_option maxHeartbeats 4000000
/-! a lambda with one default, handed to a def that calls it without arguments -/
namespace Ca
open PySem PySem.Spec PyProof.Rows L2 LamX
/-- one parameter, no name of the maker's; else captured ones and globals -/
structure LamDS (N : List Str) (sc scope : Scope) (pa : Str) : Prop where
  kind : scope.kind = .function
  co : scope.isCoroutine = false
  gen : scope.isGenerator = false
  cell : ∀ y ∈ scope.names, y.2 ≠ .cell
  own : ∀ y ∈ scope.names, y.2 = .local → y.1 ∉ N
  par : scope.names.lookup pa = some .local
  free : ∀ y ∈ scope.names, y.2 = .free → sc.names.lookup y.1 = some .cell ∨ sc.names.lookup y.1 = some .free
def lamDB (N : List Str) (sc scope : Scope) (pa : Str) : Bool :=
  decide (scope.kind = .function) && !scope.isCoroutine && !scope.isGenerator && decide (scope.names.lookup pa = some .local) &&
    scope.names.all fun y => !decide (y.2 = .cell) && (!decide (y.2 = .local) || decide (y.1 ∉ N)) && (!decide (y.2 = .free) || decide (sc.names.lookup y.1 = some .cell) || decide (sc.names.lookup y.1 = some .free))
theorem lamD_by {N : List Str} {sc scope : Scope} {pa : Str} (h : lamDB N sc scope pa = true) : LamDS N sc scope pa := by
  unfold lamDB at h
  simp only [Bool.and_eq_true, Bool.or_eq_true, Bool.not_eq_true', decide_eq_true_eq, decide_eq_false_iff_not, List.all_eq_true] at h
  obtain ⟨⟨⟨⟨h1, h2⟩, h3⟩, h4⟩, h5⟩ := h
  refine ⟨h1, h2, h3, fun y hy => (h5 y hy).1.1, fun y hy e => (h5 y hy).1.2.resolve_left fun z => z e, h4, fun y hy e => ?_⟩
  rcases (h5 y hy).2 with (z | z) | z
  · exact absurd e z
  · exact .inl z
  · exact .inr z
theorem LamDS.has {X : Cx} {scope : Scope} {pa : Str} (L : LamDS X.N X.env.scope scope pa) (ok : X.Ok) : ∀ y ∈ scope.names, y.2 = .free → ∃ c, X.env.cells.lookup y.1 = some c := fun y hy e => (L.free y hy e).elim (fun k => ok.has _ (.inl k)) fun k => ok.has _ (.inr k)
section
variable {X : Cx} {pins : List (Addr × Obj)} {σ : L2.St} {H HZ : Hp} {s s1 : Shared}
theorem lamD_start {A : Around} {outer : List Env} {E : XK} {scope : Scope} {pa : Str} {f c' : Addr} {h₁ : Heap} {tk : Nat} {m : Str → Option Value} (I : Inv X pins σ H s) (L : LamDS X.N X.env.scope scope pa) (e0 : Env0 X.prog X.w X.K X.mg X.base A outer s1 HZ) (hd : A.handled = none)
    (un : Un (frs X.stack) [] H HZ s.heap s1.heap) (hns : h₁.Ns s1.heap.objs.size m) (kp : ∀ b o, s1.heap.get? b = some o → h₁.get? b = some o) :
    Inv (lamCx X A outer s1 HZ E scope f c') [] σ HZ { s1 with heap := h₁, toks := tk } := by
  have hfree := L.has I.ok
  -- what the closure holds is the maker's
  have cm : ∀ {y c}, (cloFrom X.env.cells scope.names []).lookup y = some c → X.env.cells.lookup y = some c := fun {y c} e => by
    rcases cloFrom_mem (PySem.mem_of_lookup e) with hm | ⟨h1, h2⟩
    · exact absurd hm List.not_mem_nil
    · obtain ⟨c1, hc⟩ := hfree _ h1 rfl
      rw [h2, show X.env.cells.lookup y = some c1 from hc] <;> rfl
  have look : ∀ {y}, scope.names.lookup y = some .free → ∃ c, (cloFrom X.env.cells scope.names []).lookup y = some c := fun {y} hl =>
    mem_lookup (cloFrom_has (cells := X.env.cells) (acc := []) (PySem.mem_of_lookup hl))
  have cellK : ∀ {c : Addr} {v : Option Value}, H c = none → s.heap.IsCell c v → h₁.IsCell c v := fun {c v} n z => by
    obtain ⟨o, ho, hd⟩ := z
    obtain ⟨sl, q⟩ := un.any ho n List.not_mem_nil
    exact ⟨_, kp _ _ q, hd⟩
  have noA : ∀ b : Addr, b ∉ (lamCx X A outer s1 HZ E scope f c').ex := fun b z => absurd (show b ∈ ([] : List Addr) from z) List.not_mem_nil
  have okL : (lamCx X A outer s1 HZ E scope f c').Ok := ⟨e0.mod, L.kind, rfl, rfl, Nat.le_refl _, fun y z c e1 e2 => I.ok.inj y z c (cm e1) (cm e2), fun y hy => by
      rcases (show scope.names.lookup y = some .cell ∨ scope.names.lookup y = some .free from hy) with hy | hy
      · exact absurd rfl (L.cell _ (PySem.mem_of_lookup hy))
      · exact look hy, fun y c z _ => absurd (show false = true from z) Bool.false_ne_true, fun _ => hd, Around.frames_deeper e0.frames, .inr ⟨rfl, rfl⟩, fun b z => absurd z (noA b), e0.bs, e0.bsz, fun b _ _ => noA b,
      fun b z => absurd z (noA b), e0.funs, e0.frf⟩
  refine ⟨okL, rfl, e0.bare, Un.kept kp, ⟨_, hns, fun i y v e1 e2 e3 => ?_⟩, fun y c e => ?_, e0.hok.fresh (Nat.le_refl _), fun y c e => ?_, fun q hq => absurd (show q ∈ ([] : List (Addr × Obj)) ++ [] from hq) (by simp), e0.hok.kept kp, I.len⟩
  · rcases (show Vis scope y from e3) with k | k | k
    · exact absurd (List.mem_of_getElem? e1) (L.own _ (PySem.mem_of_lookup k) rfl)
    · exact absurd rfl (L.cell _ (PySem.mem_of_lookup k))
    · obtain ⟨m', hn, hl⟩ := I.loc
      have fr := L.free _ (PySem.mem_of_lookup k) rfl
      obtain ⟨w', r, q⟩ := hl i y v e1 e2 (fr.elim (fun k => .inr (.inl k)) (fun k => .inr (.inr k)))
      obtain ⟨c2, h2⟩ := look k
      refine ⟨w', r, .inr ⟨.inr k, c2, h2, ?_⟩⟩
      have c1 := cm h2
      rcases q with ⟨k', _⟩ | ⟨_, c3, e', z⟩
      · have k' : X.env.scope.names.lookup y = some .local := k'
        rcases fr with k2 | k2 <;> rw [show X.env.scope.names.lookup y = _ from k2] at k' <;> cases k'
      · rw [c1] at e'
        cases e'
        exact cellK (I.freeC y _ c1) z
  · obtain ⟨w', z⟩ := I.cell y c (cm e)
    exact ⟨w', cellK (I.freeC y c (cm e)) z⟩
  · obtain ⟨v, o, ho, hd⟩ := I.cell y c (cm e)
    exact un.free c o ho (I.freeC y c (cm e)) List.not_mem_nil
/-- how it binds: nothing is written, the default stands in a tuple -/
def BindsD (qual pa : Str) (params : Arguments) (body : Expr) (scope : Scope) : Prop := ∀ (cl : List (Str × Addr)) (t0 : Addr) (doc pm cv ctv : Value), ∃ k, bindArgs (PySem.W.kdv_fn "<lambda>" qual params (.expr body) scope cl (.ref t0) doc pm cv ctv) ⟨[], []⟩ = seqItems? (.ref t0) >>= k ∧ ∀ u : Value, k (some #[u]) = pure [(pa, u)]
theorem pe_actD {CXg : CXT} {Eg : XK} {Ng : List Str} {qg : Str} {sg : Scope} {g f c' t0 : Addr} {v0 : V} {cdg doc pm ctv : Value} {params : Arguments} {body : Expr} {scope : Scope} {k i : Nat} {a pa : Str} {pn : List (Addr × Obj)} {xe : Value → Shared → Prop} {W : WX} {E : XK} {tb : TE} {p1 p2 : Pos}
    (I : Inv X pins σ H s) (L : LamDS X.N X.env.scope scope pa) (hf : s.heap.get? f = some (PySem.W.kdv_obj "<lambda>" (X.env.qual ++ "<lambda>") params (.expr body) scope (cloFrom X.env.cells scope.names []) (.ref t0) doc pm c' ctv)) (hfn : H f = none) (hfr : f ∉ frs X.stack)
    (hbind : BindsD (X.env.qual ++ "<lambda>") pa params body scope)
    (tk : Takes ((cxOf CXg X.prog X.w X.K X.mg X.base Ng qg sg g cdg X.A X.stack s H Eg).tr pn xe) W) (hW : ∀ cls d σ' H', E cls d H' → W cls d σ' H') (hr : Room (k + 1) (X.A.deeper (envOfC qg sg s.heap.objs.size g cdg)))
    (hbody : ∀ (A : Around) (outer : List Env) (s : Shared) (H : Hp), Room k (A.deeper (lamEnv X scope s.heap.objs.size f c')) → PE (lamCx X A outer s H E scope f c') body tb)
    (hN : Ng[i]? = some a) (hv : Vis sg a) (hd : (a == ("__debug__" : Str)) = false := by decide) (hcd : (a == ("__classdict__" : Str)) = false := by decide) :
    PE ((cxOf CXg X.prog X.w X.K X.mg X.base Ng qg sg g cdg X.A X.stack s H Eg).tr pn xe) (.Call (.Name a p1) [] [] p2)
      (fun σZ HZ Q => σZ[i]? = some (some (.ref f)) ∧ HZ c' = some (CodeO c' (X.env.qual ++ "<lambda>")) ∧ HZ t0 = some (.tup [v0]) ∧ tb σ HZ Q) := by
  refine ⟨fun pinsZ sZ σZ HZ Q IZ h => ?_⟩
  obtain ⟨hs, hc, hT0, ht⟩ := h
  refine wpAny_Call_Name_kw (thn ((pe_var (pos := p1) (i := i) hN hv hd hcd).run pinsZ sZ σZ HZ (fun v H1 => v = .ref f ∧ H1 = HZ) IZ ⟨.ref f, hs, rfl, rfl⟩) fun u s1 ⟨v, H1, I1, r1, q1⟩ => ?_)
  obtain ⟨ev, eH⟩ := q1
  subst ev
  rw [eH] at I1
  obtain rfl : u = Value.ref f := r1
  have of1 := I1.base.keep f _ hf hfn hfr (fun z => nomatch (show f ∈ ([] : List Addr) from z))
  refine PySem.W.callWith_F0 ⟨_, _, _, _, of1⟩ ?_
  have un : Un (frs X.stack) [] H HZ s.heap s1.heap := I1.base
  obtain ⟨⟨oc, vs, t, hoc, hdc, hvc⟩, _, _⟩ := I1.hok c' _ hc
  obtain ⟨_, its, rv, oT, hoT, _, nT, hdT⟩ := I1.hok t0 _ hT0
  have rc : codeAny (model X.prog X.w) (X.A.deeper (envOfC qg sg s.heap.objs.size g cdg)) (.call (.ref f) ⟨[], []⟩) (CR (L2.CX X.prog X.w) (envOfC qg sg s.heap.objs.size g cdg :: X.stack) X.prog X.w HZ s1 Q E) s1 := by
    refine PySem.W.kla_callFunE hr.depth of1 rfl L.co L.gen rfl ⟨c', oc, vs, t, rfl, hoc, hdc, hvc⟩ ?_
    match its, rv with
    | [u0], .cons r0 .nil =>
      obtain ⟨kk, e1, e2⟩ := hbind (cloFrom X.env.cells scope.names []) t0 doc pm (.ref c') ctv
      rw [e1]
      refine wpAny_bind (wpAny_seqItems hoT hdT ?_)
      show wpAny _ _ (kk (some #[u0])) _ _ _
      rw [e2]
      refine wpAny_pure (wpAny_newFunctionEnv L.cell (fun y hy => by rw [List.mem_singleton.mp hy]; exact L.par) (fun h₁ hns hsb => ⟨I1.nolimit.fresh _ hsb, ?_⟩) L.kind)
      show codeAny _ _ (.expr body (lamEnv X scope s1.heap.objs.size f c')) _ _
      have kp : ∀ b o, s1.heap.get? b = some o → h₁.get? b = some o := fun b o e => hsb.extBut b o (Nat.ne_of_lt (Heap.lt_size e)) (Heap.get?_push_of_some _ e)
      have J : Inv (lamCx X (X.A.deeper (envOfC qg sg s.heap.objs.size g cdg)) (envOfC qg sg s.heap.objs.size g cdg :: X.stack) s1 HZ E scope f c') [] σ HZ { s1 with heap := h₁, toks := s1.toks + [(pa, u0)].length } :=
        lamD_start I L I1.env0 hr.hd un hns kp
      refine PySem.W.kla_codeExpr (wpAny_mono ((hbody _ _ s1 HZ (hr.deeper _)).run [] _ _ HZ Q J ht) (fun v s' hq => ?_) fun e s' hq => hq)
      obtain ⟨w', H', J', rv, q⟩ := hq
      exact ⟨w', H', J'.os, J'.bare, J'.base, J'.hok, rv, q⟩
  have hx := passes_call (X := (cxOf CXg X.prog X.w X.K X.mg X.base Ng qg sg g cdg X.A X.stack s H Eg).tr pn xe) tk hW
  refine wpAny_call (codeAny_mono rc fun r s' hq => ?_)
  cases r with
  | error e => exact hx pinsZ σZ HZ s1 e s' I1 hq
  | ok fl =>
    cases fl with
    | ret u => exact I1.after hq
    | next => exact False.elim hq
    | brk => exact False.elim hq
    | cont => exact False.elim hq
/-- the lambda is made: the default's tuple, then the code object, new or found in the table, then itself -/
theorem lamD_make {T : List (Addr × Str)} {c P : Addr} {params : Arguments} {d : Expr} {v0 : V} {body : Expr} {scope : Scope} {pos : Pos} {Q : Value → Shared → Prop} (I : Inv X pins σ H s) (TB : TabB X.base X.mg c P) (hcode : X.env.code = .ref c)
    (hm : (P, X.env.qual ++ "<lambda>") ∈ T) (hu : ∀ p ∈ T, p.1 = P → p.2 = X.env.qual ++ "<lambda>") (hT : Tabs T H) (hne : params.defaults = [d]) (hk0 : params.kw_defaults = []) (hpd : PE X d (tC v0)) (hfree : ∀ y ∈ scope.names, y.2 = .free → ∃ c, X.env.cells.lookup y.1 = some c)
    (h : ∀ (f c' t0 : Addr) (doc pm ctv : Value) (H1 : Hp) (s' : Shared), Inv X pins σ H1 s' → ExtN H H1 → Tabs T H1 → H1 t0 = some (.tup [v0]) →
      s'.heap.get? f = some (PySem.W.kdv_obj "<lambda>" (X.env.qual ++ "<lambda>") params (.expr body) scope (cloFrom X.env.cells scope.names []) (.ref t0) doc pm c' ctv) → H1 f = none → f ∉ frs X.stack → H1 c' = some (CodeO c' (X.env.qual ++ "<lambda>")) → Q (.ref f) s') :
    wpAny (model X.prog X.w) X.A (eval (.Lambda params body scope pos) X.env) Q X.xe s := by
  refine PySem.W.kdv_lam (by rw [hne] <;> rfl) hk0 ?_
  rw [hne]
  refine PySem.W.kdv_all1 (wpAny_mono (hpd.run pins s σ H (fun v H1 => v = v0 ∧ H1 = H) I ⟨rfl, rfl⟩) (fun u s1 z => PySem.W.kdv_all0 ?_) fun _ _ z => z)
  obtain ⟨v, H1, I1, r1, e1, e2⟩ := z
  rw [e1] at r1
  rw [e2] at I1
  clear e1 e2 v H1 I
  rw [makeFunction_eq]
  simp only [List.zip_nil_right, List.filterMap_nil, List.isEmpty_nil, List.isEmpty_cons, Bool.false_eq_true, if_true, if_false, pure_bind]
  refine wpAny_bind (wpAny_newTextTuple ?_)
  -- the tuple, told
  have nT0 : H s1.heap.objs.size = none := I1.hok.fresh (Nat.le_refl _)
  have gT : (s1.heap.push { cls := .type "tuple", data := .seq [u].toArray }).get? s1.heap.objs.size = some { cls := .type "tuple", data := .seq [u].toArray } := Heap.get?_push_size _ rfl
  have I2 : Inv X pins σ (upd H s1.heap.objs.size (.tup [v0])) { s1 with heap := s1.heap.push { cls := .type "tuple", data := .seq [u].toArray } } :=
    I1.laid (t' := s1.toks) (fun b o e => Heap.get?_push_of_some _ e) (Nat.le_refl _) ⟨by show 1 ≤ sizeLine; decide, [u], .cons r1 .nil, _, gT, rfl, _, rfl⟩
  have x2 : Evl.Ex H (upd H s1.heap.objs.size (.tup [v0])) := Evl.Ex.new nT0
  have hT2 := Tabs.ext hT x2
  have hT0 : (upd H s1.heap.objs.size (.tup [v0])) s1.heap.objs.size = some (.tup [v0]) := upd_same
  generalize hs2 : ({ s1 with heap := s1.heap.push { cls := .type "tuple", data := .seq [u].toArray } } : Shared) = s2 at I2
  generalize upd H s1.heap.objs.size (.tup [v0]) = H2 at I2 x2 hT2 hT0
  generalize s1.heap.objs.size = t0 at hT0
  clear hs2 gT nT0 I1 hT r1
  obtain ⟨ps, hP, ht, ha⟩ := hT2 _ hm
  have bP : s2.heap.BuiltinsAt X.mg P := TB.bm.keeps I2.bk
  have hP' : s2.heap.get? P = some { cls := .none, data := .fields ps } := I2.hok P _ hP
  have nofr : ∀ f, s2.heap.objs.size ≤ f → f ∉ frs X.stack := fun f hf z => by
    rcases List.mem_cons.mp (I2.stkSub _ z) with e | e
    · exact absurd (e ▸ I2.lt) (Nat.not_lt.mpr hf)
    · exact I2.nofs hf e
  cases hc : codeAmong pos ps.toList with
  | none =>
    refine PySem.W.kdv_makeTail (mg := X.mg) (c := c) (P := P) (ps := ps) (closure_ok hfree) I2.ok.glob (I2.mod.glob.keeps I2.bk) hcode (TB.code.keeps I2.bk) hP' ht hc TB.gP bP fun c' ctv doc h' tk hx hge hlt hrec htb => ?_
    obtain ⟨c2, oc, vs, t, e2, hoc, hd, hv⟩ := hrec
    cases e2
    have hsz : s2.heap.objs.size ≤ h'.objs.size := Nat.le_trans hge (Nat.le_of_lt hlt)
    have nC : H2 c' = none := I2.hok.fresh hge
    generalize hO : PySem.W.kdv_obj "<lambda>" (X.env.qual ++ "<lambda>") params (.expr body) scope (cloFrom X.env.cells scope.names []) (.ref t0) doc ((X.mg "__name__").getD .none) c' ctv = O
    have I3 := inv_table (t' := tk) (more := #[rawInt pos.line, rawInt pos.col, .ref c']) (h' := h'.push O) I2 hP
      (fun b o hb e => Heap.get?_push_of_some _ (hx b o hb e)) (Heap.get?_push_of_some _ htb) hge ⟨oc, vs, t, Heap.get?_push_of_some _ hoc, hd, hv⟩
    have hE : ExtN H2 (upd (upd H2 P (.tbl (ps ++ #[rawInt pos.line, rawInt pos.col, .ref c']))) c' (CodeO c' (X.env.qual ++ "<lambda>"))) := fun b o e n => by
      rw [upd_ne (ne_of_none e nC), upd_ne (fun z => n ps (Option.some.inj (e.symm.trans (by rw [z]; exact hP))))]
      exact e
    have eL : (ps ++ #[rawInt pos.line, rawInt pos.col, .ref c']).toList = ps.toList ++ [rawInt pos.line, rawInt pos.col, .ref c'] := by simp
    refine h h'.objs.size c' t0 doc ((X.mg "__name__").getD .none) ctv _ _ I3 (fun b o e n => hE b o (x2 b o e) n) (fun p hp => ?_) (hE _ _ hT0 fun ps z => by cases z) ?_ ?_ (nofr _ hsz) upd_same
    · by_cases hb : p.1 = P
      · rw [hu p hp hb, hb]
        refine ⟨_, by rw [upd_ne (ne_of_none hP nC), upd_same], by rw [eL]; exact PySem.TriplesOk_snoc _ _ _ _ ht, fun p' cv hcv => ?_⟩
        rw [eL] at hcv
        rcases among_app _ ht hcv with z | z
        · obtain ⟨c0, e1, e2⟩ := ha p' cv z
          exact ⟨c0, e1, hE _ _ e2 codeO_ne⟩
        · exact ⟨c', z, upd_same⟩
      · obtain ⟨ps', a1, a2, a3⟩ := hT2 p hp
        refine ⟨ps', by rw [upd_ne (ne_of_none a1 nC), upd_ne hb]; exact a1, a2, fun p' cv hcv => ?_⟩
        obtain ⟨c0, e1, e2⟩ := a3 p' cv hcv
        exact ⟨c0, e1, hE _ _ e2 codeO_ne⟩
    · rw [← hO]
      exact Heap.get?_push_size _ rfl
    · rw [upd_ne (Nat.ne_of_gt hlt), upd_ne (Nat.ne_of_gt (Nat.lt_of_lt_of_le (Heap.lt_size hP') hsz))]
      exact I2.hok.fresh hsz
  | some cv =>
    obtain ⟨c', e, hco⟩ := ha pos cv hc
    subst e
    refine PySem.W.kdv_makeTailHit (mg := X.mg) (c := c) (P := P) (ps := ps) (closure_ok hfree) I2.ok.glob (I2.mod.glob.keeps I2.bk) hcode (TB.code.keeps I2.bk) hP' ht hc bP fun ctv doc h' tk hx hsz => ?_
    have I3 := I2.kept (h' := h'.push (PySem.W.kdv_obj "<lambda>" (X.env.qual ++ "<lambda>") params (.expr body) scope (cloFrom X.env.cells scope.names []) (.ref t0) doc ((X.mg "__name__").getD .none) c' ctv)) (t' := tk) fun b o e => Heap.get?_push_of_some _ (hx b o e)
    exact h h'.objs.size c' t0 doc ((X.mg "__name__").getD .none) ctv H2 _ I3 (fun b o e _ => x2 b o e) hT2 hT0 (Heap.get?_push_size _ rfl) (I2.hok.fresh hsz) (nofr _ hsz) hco
end
/-- x(lambda a=d: body) -/
def tLamD (T : List (Addr × Str)) (v0 : V) (TT : (XK → Hp → VK → Prop) → Hp → VK → Prop) (t : XK → TE) : TE := fun σ H Q => Tabs T H ∧ ∀ (t0 : Addr) H1, ExtN H H1 → Tabs T H1 → H1 t0 = some (.tup [v0]) → TT (fun E H' Q' => H' t0 = some (.tup [v0]) ∧ t E σ H' Q') H1 Q
section
variable {X : Cx}
theorem pe_lamcallD {T : List (Addr × Str)} {TT : (XK → Hp → VK → Prop) → Hp → VK → Prop} {x a pa : Str} {g c P : Addr} {k : Nat} {pg : Arguments} {bg : List Stmt} {sg : Scope} {dV kV doc pm cdv ct oc : Value} {an od : Option Addr} {osl : Array (Option Value)} {Ng : List Str} {d : Expr} {v0 : V}
    {params : Arguments} {body : Expr} {scope : Scope} {t : XK → TE} {p lpos pos : Pos} (hg : Gl X x) (hm : X.mg x = some (.ref g)) (hk : PySem.W.keepIn X.K (.ref g) = true)
    (lk : X.K.lookup g = some ⟨oc, od, .func (PySem.W.fnOf x x pg bg sg dV kV doc pm an cdv ct), osl⟩) (hcg : PySem.W.codeIn X.K cdv x = true) (hb : L2.Binds X.K (PySem.W.fnOf x x pg bg sg dV kV doc pm an cdv ct) [a] []) (Sg : FnScope Ng [a] sg) (hNg : Ng[0]? = some a) (hva : Vis sg a)
    (hG : GivesTo X Ng x sg g cdv bg a (X.env.qual ++ "<lambda>") TT)
    (TB : TabB X.base X.mg c P) (hcode : X.env.code = .ref c) (hmT : (P, X.env.qual ++ "<lambda>") ∈ T) (hu : ∀ p ∈ T, p.1 = P → p.2 = X.env.qual ++ "<lambda>") (hr : Room (k + 2) X.A) (L : LamDS X.N X.env.scope scope pa) (hne : params.defaults = [d]) (hk0 : params.kw_defaults = []) (hpd : PE X d (tC v0))
    (hbind : BindsD (X.env.qual ++ "<lambda>") pa params body scope)
    (hbody : ∀ (A : Around) (outer : List Env) (s : Shared) (H : Hp) (E : XK) (f c' : Addr), Room k (A.deeper (lamEnv X scope s.heap.objs.size f c')) → PE (lamCx X A outer s H E scope f c') body (t E))
    (hdb : (x == ("__debug__" : Str)) = false := by decide) (hd : (a == ("__debug__" : Str)) = false := by decide) (hcd : (a == ("__classdict__" : Str)) = false := by decide) :
    PE X (.Call (.Name x p) [.Lambda params body scope lpos] [] pos) (tLamD T v0 TT t) := by
  refine ⟨fun pins s σ H Q I h => ?_⟩
  obtain ⟨hT, h⟩ := h
  refine wpAny_Call_Name_kw (ld_glob I hg hm ?_ hdb)
  refine PySem.W.callWith_K (h₀ := X.base) I.ok.mod.kin hk ?_ (by rfl) (by rfl)
  show wpAny _ _ (spliced ((false, eval (.Lambda params body scope lpos) X.env) :: backTo pos (starEach [] X.env))) _ _ s
  refine Calls.spliced_cons (lamD_make I TB hcode hmT hu hT hne hk0 hpd (L.has I.ok) fun f c' t0 doc' pm' ctv H1 s' I1 eN T1 hT0 hf hfn hfr hco => ?_)
  refine Calls.spliced_nil ⟨I1.kIn, ?_⟩
  have rc : codeAny (model X.prog X.w) X.A (.call (.ref g) ⟨[.ref f], []⟩) (CR C8.CX0 X.stack X.prog X.w H1 s' Q C8.E0) s' := by
    refine run_ofS (N := Ng) (ps := [a]) (us := [.ref f]) (vs := [.ref f]) lk hcg Sg hr I1.env0 (hb s' [.ref f] I1.kIn rfl) (.cons rfl .nil) rfl fun hr' => ?_
    obtain ⟨t', ht', hq'⟩ := hG f c' s' H1 Q (fun E H' Q' => H' t0 = some (.tup [v0]) ∧ t E σ H' Q') (fun W pn xe E p1 p2 tk hW => pe_actD (i := 0) I1 L hf hfn hfr hbind tk hW hr' (fun A outer s H hr2 => hbody A outer s H E f c' hr2) hNg hva hd hcd) hco (h t0 H1 eN T1 hT0)
    exact ⟨t', ht'.nox, hq'⟩
  refine wpAny_call (codeAny_mono rc fun r s2 hq => ?_)
  cases r with
  | error e => exact (show False from hq).elim
  | ok fl =>
    cases fl with
    | ret u => exact I1.after hq
    | next => exact False.elim hq
    | brk => exact False.elim hq
    | cont => exact False.elim hq
end
end Ca

set_option Elab.async false
set_option linter.all false
set_option maxRecDepth 100000
set_option maxHeartbeats 4000000
/-! t[::-1] of a tuple of three -/
namespace HT
open PySem PySem.Spec PyProof.Rows
section
variable {prog : Program} {w : World} {A : Around} {E : Value → Shared → Prop} {s : Shared}
theorem sliceApplied_rev3 {sl : Addr} {vl vu vs : Value} {Q : Int × Int × Nat → Shared → Prop} (hs : s.heap.IsSliceOf sl vl vu vs) (pl : IsPart vl none) (pu : IsPart vu none) (ps : IsPart vs (some (-1)))
    (h : Q (2, -1, 3) s) : wpAny (model prog w) A (Builtin.Slice.sliceApplied (.ref sl) (pure (3 : Int))) Q E s := by
  obtain ⟨os, hos, _, hds⟩ := id hs
  unfold Builtin.Slice.sliceApplied Builtin.Slice.sliceFields
  refine wpAny_bind (wpAny_bind (wpAny_field hos hds (x := vl) rfl (wpAny_bind (wpAny_field hos hds (x := vu) rfl (wpAny_bind (wpAny_field hos hds (x := vs) rfl (wpAny_pure ?_)))))))
  refine wpAny_bind (slicePart_ ps ?_)
  show wpAny _ _ (if ((-1 : Int) == 0) = true then _ else _) _ _ s
  rw [if_neg (by decide)]
  refine wpAny_bind (slicePart_ pl (wpAny_bind (slicePart_ pu (wpAny_bind (wpAny_pure ?_)))))
  show wpAny _ _ (match Builtin.Slice.sliceAdjust none none (-1) 3 with | (lo, hi) => pure (lo, (-1 : Int), Builtin.Slice.slicePlaces lo hi (-1))) _ _ s
  rw [show Builtin.Slice.sliceAdjust none none (-1) 3 = (2, -1) by decide +kernel]
  show wpAny _ _ (pure ((2 : Int), (-1 : Int), Builtin.Slice.slicePlaces 2 (-1) (-1))) _ _ s
  rw [show Builtin.Slice.slicePlaces 2 (-1) (-1) = 3 by decide +kernel]
  exact wpAny_pure h
theorem getItem_rev3 {t sl : Addr} {a b c vl vu vs : Value} {Q : Value → Shared → Prop} (ht : IsTup s.heap t [a, b, c].toArray) (hs : s.heap.IsSliceOf sl vl vu vs) (pl : IsPart vl none) (pu : IsPart vu none) (ps : IsPart vs (some (-1)))
    (h : Q (.ref s.heap.objs.size) { s with heap := s.heap.push { cls := .type "tuple", data := .seq [c, b, a].toArray } }) : wpAny (model prog w) A (getItem (.ref t) (.ref sl)) Q E s := by
  obtain ⟨os, hos, hcs, _⟩ := id hs
  have hTs : s.TypeIs (.ref sl) "slice" := ⟨os, hos, hcs⟩
  unfold getItem
  try with_reducible refine wpAny_holding ?_
  first | refine wpAny_bind (wpAny_pure ?_) | skip
  refine wpAny_bind (wpAny_sequenceKey ht.typeIs (by decide) ?_)
  refine wpAny_bind (wpAny_callSpecial?_slot (name := Str.ofString "__getitem__") ht.typeIs PyProof.Rows.slot_tuple_getitem
    (wpAny_call_entry PyProof.Rows.slot_tuple_getitem ht.typeIs entry_tuple_getitem ?_ (args_tuple_getitem _ _)))
  refine wpAny_bind (m := Builtin.Tuple.tupleItemsOf (.ref t)) (tupleItemsOf_ ht ?_)
  refine wpAny_bind (wpAny_typeOf hTs ?_)
  rw [if_pos (by decide)]
  refine wpAny_bind (sliceApplied_rev3 hs pl pu ps ?_)
  show wpAny _ _ (if ((2 : Int) == 0 && (-1 : Int) == 1 && 3 == [a, b, c].toArray.size) = true then _ else _) _ _ s
  rw [if_neg (by intro z; cases z)]
  have e : ((List.range 3).filterMap fun (m : Nat) => [a, b, c].toArray[((2 : Int) + (m : Int) * (-1)).toNat]?).toArray = [c, b, a].toArray := rfl
  rw [e]
  have sz : sizeOk (.seq [c, b, a].toArray) := by show 3 ≤ sizeLine; decide
  first
    | exact wpAny_bind (m := Builtin.Tuple.tupleExact _) (wpAny_newObj_type (wpAny_pure ⟨_, rfl, wpAny_pure h⟩) sz)
    | exact wpAny_bind (m := Builtin.Tuple.tupleExact _) (wpAny_newObj_type (wpAny_bind (wpAny_pure (wpAny_pure ⟨_, rfl, wpAny_pure h⟩))) sz)
    | exact wpAny_bind (wpAny_bind (m := Builtin.Tuple.tupleExact _) (wpAny_newObj_type (wpAny_pure (wpAny_pure ⟨_, rfl, wpAny_pure h⟩)) sz))
    | exact wpAny_bind (wpAny_bind (m := Builtin.Tuple.tupleExact _) (wpAny_newObj_type (wpAny_pure ⟨_, rfl, wpAny_pure h⟩) sz))
end
end HT
namespace L2
open PySem PySem.Spec PyProof.Rows
theorem vals3 {a b c : V} {its : List Value} (r : Vals [a, b, c] its) : ∃ x y z, its = [x, y, z] ∧ RelV a x ∧ RelV b y ∧ RelV c z := by
  cases r with
  | cons r1 r =>
    cases r with
    | cons r2 r =>
      cases r with
      | cons r3 r =>
        cases r
        exact ⟨_, _, _, rfl, r1, r2, r3⟩
section
variable {X : Cx}
def tRev3 (K : PySem.W.Frag) (te : TE) : TE := fun σ H Q => te σ H fun x H1 => ∃ a v1 v2 v3, x = .ref a ∧ SqT K H1 a [v1, v2, v3] ∧ ∀ p, H1 p = none → Q (.ref p) (upd H1 p (.tup [v3, v2, v1]))
theorem pe_rev3 {e : Expr} {te : TE} {k : Nat} {p1 p2 p3 pos : Pos} (he : PE X e te) : PE X (.Subscript e (.Slice none none (some (.UnaryOp .USub (.Constant (.int 1) k p1) p2)) p3) pos) (tRev3 X.K te) := by
  refine ⟨fun pins s σ H Q I h => ?_⟩
  refine Subscript_ (thn (he.run pins s σ H _ I h) fun v s1 ⟨x, H1, I1, r1, q1⟩ => ?_)
  obtain ⟨a, v1, v2, v3, ex, hx, q⟩ := q1
  subst ex
  cases r1
  have neg1 : PO X (some (.UnaryOp .USub (.Constant (.int 1) k p1) p2)) (tPart (tUn (rU fun i => .int (-i)) (tC (.int 1)))) := po_some (pe_un un_neg pe_int)
  refine wpAny_Slice (thn (po_none.run pins s1 σ H1 (fun o H2 => o = none ∧ H2 = H1) I1 ⟨rfl, rfl⟩) fun vl s2 ⟨l, H2, I2, pl, el, e2⟩ => ?_)
  subst el e2
  refine thn (po_none.run pins s2 σ H2 (fun o H3 => o = none ∧ H3 = H2) I2 ⟨rfl, rfl⟩) fun vu s3 ⟨u, H3, I3, pu, eu, e3⟩ => ?_
  subst eu e3
  refine thn (neg1.run pins s3 σ H3 (fun o H4 => o = some (-1) ∧ H4 = H3) I3 ⟨1, rfl, -1, rfl, rfl, rfl⟩) fun vs s4 ⟨o, H4, I4, ps, eo, e4⟩ => ?_
  subst eo e4
  have I5 : Inv X pins σ H4 { s4 with heap := s4.heap.push { cls := .type "slice", data := .fields #[vl, vu, vs] } } := I4.kept (t' := s4.toks) fun b ob q => Heap.get?_push_of_some _ q
  obtain ⟨its, r, ht, _⟩ := I5.tuple hx
  obtain ⟨u1, u2, u3, rfl, r1, r2, r3⟩ := vals3 r
  show wpAny (model X.prog X.w) X.A (subscriptTail e (.Slice none none (some (.UnaryOp .USub (.Constant (.int 1) k p1) p2)) p3) (.ref a) (.ref s4.heap.objs.size)) (EP X pins σ Q) X.xe { s4 with heap := s4.heap.push { cls := .type "slice", data := .fields #[vl, vu, vs] } }
  refine tail_any (ops := [.ref a, .ref s4.heap.objs.size]) ht.typeIs (PyProof.Rows.slot_tuple_getitem.lookup) ?_ (by with_unfolding_all rfl)
  refine HT.getItem_rev3 ht (Heap.IsSliceOf.new _ vl vu vs) pl pu ps ?_
  refine ⟨.ref _, _, I5.laid (t' := s4.toks) (o := .tup [v3, v2, v1]) (fun b ob q => Heap.get?_push_of_some _ q) (Nat.le_refl _) ?_, rfl, q _ (I5.hok.fresh (Nat.le_refl _))⟩
  exact ⟨by show 3 ≤ sizeLine; decide, [u3, u2, u1], .cons r3 (.cons r2 (.cons r1 .nil)), _, Heap.get?_push_size _ rfl, rfl, _, rfl⟩
end
end L2

set_option Elab.async false
set_option linter.all false
set_option maxRecDepth 100000
set_option maxHeartbeats 4000000
namespace Ca
open PySem L2 LamX
/-! ### a local name that may hold several defs, each of which may raise -/
structure HeldX (P : Program) (w : World) (K : PySem.W.Frag) (mg : Str → Option Value) (base : Heap) (k : Nat) (f : Addr) (sp : Sp) : Prop where
  ex : ∃ (fd : FuncData) (ps : List Str), FnOk P w K mg base (L2.CX P w) k f fd ps sp ∧ PySem.W.keepIn K (.ref f) = true ∧ Binds K fd ps []
def tCallAX (i : Nat) (S : Addr → Sp → Prop) (E : L2.St → XK) (t : TA) : TE := fun σ H Q => ∃ f sp, σ[i]? = some (some (.ref f)) ∧ S f sp ∧ t σ H fun vs H1 => sp vs H1 Q (E σ)
theorem pe_callAX {X : Cx} {k i : Nat} {S : Addr → Sp → Prop} {E : L2.St → XK} {x : Str} {p pos : Pos} {e : Expr} {es : List Expr} {t : TA} (A : ∀ f sp, S f sp → HeldX X.prog X.w X.K X.mg X.base k f sp) (hr : Room k X.A) (hN : X.N[i]? = some x) (hv : Vis X.env.scope x) (hx : ∀ σ, PassesAt (L2.CX X.prog X.w) X σ (E σ)) (ha : PA X (e :: es) t)
    (hdb : (x == ("__debug__" : Str)) = false := by decide) (hcd : (x == ("__classdict__" : Str)) = false := by decide)
    (he : starEach (e :: es) X.env = (false, eval e X.env) :: starEach es X.env := by rfl) (hpl : (backTo pos (starEach es X.env)).any (·.1) = false := by rfl) : PE X (.Call (.Name x p) (e :: es) [] pos) (tCallAX i S E t) := by
  refine ⟨fun pins s σ H Q I h => ?_⟩
  obtain ⟨f, sp, hs, hS, ht⟩ := h
  obtain ⟨fd, ps, F, hk, hb⟩ := (A f sp hS).ex
  refine wpAny_Call_Name_kw (thn ((pe_var (pos := p) hN hv hdb hcd).run pins s σ H (fun v H1 => v = .ref f ∧ H1 = H) I ⟨.ref f, hs, rfl, rfl⟩) fun u s1 z => ?_)
  obtain ⟨v, H1, I1, r1, rfl, rfl⟩ := z
  cases r1
  exact PySem.W.callWith_K (h₀ := X.base) I.ok.mod.kin hk (thn (ha.run pos pins s1 σ _ _ I1 ht) fun us s2 ⟨vs, H2, I2, r, q⟩ => ⟨I2.kIn, run_fnS F hr hb (hx σ) I2 r q⟩) he hpl
/-! ### rules whose reading names the written part alone -/
section
variable {X : Cx} {K : PySem.W.Frag} {o e : Expr} {to te : TE}
abbrev rJoinK (K : PySem.W.Frag) : V → List V → Hp → VK → Prop := fun x xs H Q => ∃ a p, ∃ ys : List Str, x = .str a ∧ xs = [.ref p] ∧ (SqL K H p (ys.map V.str) ∨ SqT K H p (ys.map V.str)) ∧ (ys.map (·.length)).sum + ys.length * a.length ≤ 16777216 ∧ Q (.str (Txt.join a ys)) H
theorem pe_joinK {apos pos : Pos} (hK : X.K = K) (ho : PE X o to) (he : PE X e te) (hs : starEach [e] X.env = [(false, eval e X.env)] := by rfl) (hbase : attributeBase o "join" X.env (eval o X.env) = eval o X.env := by rfl) (hline : (apos.endLine == pos.line) = true := by rfl) :
    PE X (.Call (.Attribute o "join" apos) [e] [] pos) (tM1 (rJoinK K) to te) := by
  subst hK
  exact pe_join ho he hs hbase hline
theorem pe_rev3K {k : Nat} {p1 p2 p3 pos : Pos} (hK : X.K = K) (he : PE X e te) : PE X (.Subscript e (.Slice none none (some (.UnaryOp .USub (.Constant (.int 1) k p1) p2)) p3) pos) (tRev3 K te) := by
  subst hK
  exact pe_rev3 he
theorem sl_listK (hK : X.K = K) : SlR X (rSlL K) := by
  subst hK
  exact sl_list
end
/-! ### line(lambda a=..: ..) -/
theorem pe_lineD {X : Cx} (T : Txt X.K X.mg) (R : ErrT X.K X.mg) {CI CB : Addr} (L : LineT X.K X.mg R CI CB) {c P : Addr} {pa : Str} {Tb : List (Addr × Str)} {params : Arguments} {d body : Expr} {v0 : V} {scope : Scope} {lpos p pos : Pos} {t : XK → TE} {k : Nat} (hg : Gl X "_law_line") (TB : TabB X.base X.mg c P) (hcode : X.env.code = .ref c)
    (hm : (P, X.env.qual ++ "<lambda>") ∈ Tb) (hu : ∀ p ∈ Tb, p.1 = P → p.2 = X.env.qual ++ "<lambda>") (hr : Room (k + 2) X.A) (Ls : LamDS X.N X.env.scope scope pa) (hne : params.defaults = [d]) (hk0 : params.kw_defaults = []) (hpd : PE X d (tC v0))
    (hbind : BindsD (X.env.qual ++ "<lambda>") pa params body scope)
    (hbody : ∀ (A : Around) (outer : List Env) (s : Shared) (H : Hp) (E : XK) (f c' : Addr), Room k (A.deeper (lamEnv X scope s.heap.objs.size f c')) → PE (lamCx X A outer s H E scope f c') body (t E)) :
    PE X (.Call (.Name "_law_line" p) [.Lambda params body scope lpos] [] pos) (tLamD Tb v0 (TTline R CI) t) := by
  obtain ⟨oc, od, kV, doc, pm, an, cdv, ct, osl, ef, lk, hcd⟩ := T.F_Lline.ex
  have hb := b_Lline T
  rw [ef] at hb lk
  exact pe_lamcallD (Ng := nLine) (a := "work") hg T.m_Lline T.F_Lline.kp lk hcd hb sc_Lline rfl (Or.inl rfl) (told9 T R L) TB hcode hm hu hr Ls hne hk0 hpd hbind hbody
end Ca

set_option Elab.async false
set_option linter.all false
set_option maxRecDepth 100000
set_option maxHeartbeats 4000000
/-! lambdas with parameters: made in a def's body, called by what got them -/
namespace Ca
open PySem PySem.Spec PyProof.Rows L2 LamX NdefX
/-- the object at f is the lambda F, its body e (F.body says nothing) -/
def LamO (f : Addr) (F : NF) (e : Expr) : HO := .ext fun h => ∃ pm ctv : Value, h.get? f = some (PySem.W.kla_obj F.name F.qual F.params e F.scope F.cl pm F.c ctv)
theorem lamO_ne {f : Addr} {F : NF} {e : Expr} (ps : Array Value) : LamO f F e ≠ .tbl ps := fun z => by
  unfold LamO at z
  cases z
theorem lamO_at {P : Program} {w : World} {H : Hp} {h : Heap} {f : Addr} {F : NF} {e : Expr} (hok : HOk P w H h) (x : H f = some (LamO f F e)) : ∃ pm ctv : Value, h.get? f = some (PySem.W.kla_obj F.name F.qual F.params e F.scope F.cl pm F.c ctv) := by
  obtain ⟨z, _, _⟩ := hok f _ x
  exact z
section
variable {X : Cx} {pins : List (Addr × Obj)} {σ : L2.St} {H : Hp} {s : Shared}
theorem inv_lam {F : NF} {e : Expr} {t' : Nat} {pm ctv : Value} (I : Inv X pins σ H s) :
    Inv X pins σ (upd H s.heap.objs.size (LamO s.heap.objs.size F e)) { s with heap := s.heap.push (PySem.W.kla_obj F.name F.qual F.params e F.scope F.cl pm F.c ctv), toks := t' } := by
  refine I.laid (a := s.heap.objs.size) (fun b u e => Heap.get?_push_of_some _ e) (Nat.le_refl _) ?_
  have z : (s.heap.push (PySem.W.kla_obj F.name F.qual F.params e F.scope F.cl pm F.c ctv)).get? s.heap.objs.size = some (PySem.W.kla_obj F.name F.qual F.params e F.scope F.cl pm F.c ctv) := Heap.get?_push_size _ rfl
  exact ⟨⟨pm, ctv, z⟩, ⟨_, z⟩, fun h1 h2 ⟨p, t, z⟩ st => ⟨p, t, st _ z⟩⟩
/-- the lambda is made: its code object is new, or found in the table -/
theorem lam_makeP {T : List NTab} {nm : Nat → Nat → Str} {c P : Addr} {params : Arguments} {body : Expr} {scope : Scope} {pos : Pos} {E : Value → Shared → Prop} {Q : Value → Shared → Prop} (I : Inv X pins σ H s) (TB : TabB X.base X.mg c P) (hcode : X.env.code = .ref c)
    (hm : (P, nm) ∈ T) (hn : nm pos.line pos.col = X.env.qual ++ "<lambda>") (hu : ∀ p ∈ T, p.1 = P → p.2 = nm) (hT : TabsN T H) (hdef : defaultsOf params X.env = ([], [])) (hfree : ∀ y ∈ scope.names, y.2 = .free → ∃ c, X.env.cells.lookup y.1 = some c)
    (h : ∀ (f c' : Addr) (H1 : Hp) (s' : Shared), Inv X pins σ H1 s' → ExtN H H1 → (∀ b, H1 b = Option.none → H b = Option.none) → TabsN T H1 → H f = none → H1 f = some (LamO f ⟨"<lambda>", X.env.qual ++ "<lambda>", params, [], scope, cloFrom X.env.cells scope.names [], c'⟩ body) → H1 c' = some (CodeO c' (X.env.qual ++ "<lambda>")) → Q (.ref f) s') :
    wpAny (model X.prog X.w) X.A (eval (.Lambda params body scope pos) X.env) Q E s := by
  obtain ⟨ps, hP, ht, ha⟩ := (show TabN H P nm from hT _ hm)
  refine PySem.W.kla_eval hdef ?_
  have bP : s.heap.BuiltinsAt X.mg P := TB.bm.keeps I.bk
  have hP' : s.heap.get? P = some { cls := .none, data := .fields ps } := I.hok P _ hP
  cases hc : codeAmong pos ps.toList with
  | none =>
    refine PySem.W.kla_makeFunction (mg := X.mg) (c := c) (P := P) (ps := ps) (closure_ok hfree) I.ok.glob (I.mod.glob.keeps I.bk) hcode (TB.code.keeps I.bk) hP' ht hc TB.gP bP fun c' ctv h' tk hx hge hlt hrec htb => ?_
    obtain ⟨c2, oc, vs, t, e2, hoc, hd, hv⟩ := hrec
    cases e2
    have nC : H c' = none := I.hok.fresh hge
    have I1 := inv_table (t' := tk) (more := #[rawInt pos.line, rawInt pos.col, .ref c']) (h' := h') I hP (fun b o hb e => hx b o hb e) htb hge ⟨oc, vs, t, hoc, hd, hv⟩
    have hE : ExtN H (upd (upd H P (.tbl (ps ++ #[rawInt pos.line, rawInt pos.col, .ref c']))) c' (CodeO c' (X.env.qual ++ "<lambda>"))) := fun b o e n => by
      rw [upd_ne (ne_of_none e nC), upd_ne (fun z => n ps (Option.some.inj (e.symm.trans (by rw [z]; exact hP))))]
      exact e
    have eL : (ps ++ #[rawInt pos.line, rawInt pos.col, .ref c']).toList = ps.toList ++ [rawInt pos.line, rawInt pos.col, .ref c'] := by simp
    have T1 : TabsN T (upd (upd H P (.tbl (ps ++ #[rawInt pos.line, rawInt pos.col, .ref c']))) c' (CodeO c' (X.env.qual ++ "<lambda>"))) := fun p hp => by
      by_cases hb : p.1 = P
      · rw [hu p hp hb, hb]
        refine ⟨_, by rw [upd_ne (ne_of_none hP nC), upd_same], by rw [eL]; exact PySem.TriplesOk_snoc _ _ _ _ ht, fun p' cv hcv => ?_⟩
        rw [eL] at hcv
        rcases among_app2 _ ht hcv with z | ⟨z, z1, z2⟩
        · obtain ⟨c0, e1, e2⟩ := ha p' cv z
          exact ⟨c0, e1, hE _ _ e2 codeO_ne⟩
        · refine ⟨c', z, ?_⟩
          rw [← z1, ← z2, hn]
          exact upd_same
      · obtain ⟨ps', a1, a2, a3⟩ := hT p hp
        refine ⟨ps', by rw [upd_ne (ne_of_none a1 nC), upd_ne hb]; exact a1, a2, fun p' cv hcv => ?_⟩
        obtain ⟨c0, e1, e2⟩ := a3 p' cv hcv
        exact ⟨c0, e1, hE _ _ e2 codeO_ne⟩
    have nF := I1.hok.fresh (Nat.le_refl _)
    have I2 := inv_lam (F := ⟨"<lambda>", X.env.qual ++ "<lambda>", params, [], scope, cloFrom X.env.cells scope.names [], c'⟩) (e := body) (t' := tk) (pm := (X.mg "__name__").getD .none) (ctv := ctv) I1
    refine h h'.objs.size c' _ _ I2 (fun b o e n => ?_) (fun b e => upd_none (upd_none (upd_none e))) (T1.ext fun b o e => ?_) (I.hok.fresh (Nat.le_trans hge (Nat.le_of_lt hlt))) upd_same ?_
    · have e1 := hE b o e n
      exact (upd_ne (ne_of_none e1 nF)).trans e1
    · exact (upd_ne (ne_of_none e nF)).trans e
    · exact (upd_ne (Nat.ne_of_lt hlt)).trans upd_same
  | some cv =>
    obtain ⟨c', e, hco⟩ := ha pos cv hc
    subst e
    rw [hn] at hco
    refine PySem.W.kla_makeFunctionHit (mg := X.mg) (c := c) (P := P) (ps := ps) (closure_ok hfree) I.ok.glob (I.mod.glob.keeps I.bk) hcode (TB.code.keeps I.bk) hP' ht hc bP fun ctv h' tk hx hsz => ?_
    have I1 : Inv X pins σ H { s with heap := h', toks := tk } := I.kept hx
    have nF : H h'.objs.size = none := I1.hok.fresh (Nat.le_refl _)
    have I2 := inv_lam (F := ⟨"<lambda>", X.env.qual ++ "<lambda>", params, [], scope, cloFrom X.env.cells scope.names [], c'⟩) (e := body) (t' := tk) (pm := (X.mg "__name__").getD .none) (ctv := ctv) I1
    refine h h'.objs.size c' _ _ I2 (fun b o e n => ?_) (fun b e => upd_none e) (hT.ext fun b o e => ?_) nF upd_same ?_
    · exact (upd_ne (ne_of_none e nF)).trans e
    · exact (upd_ne (ne_of_none e nF)).trans e
    · exact (upd_ne (ne_of_none hco nF)).trans hco
end
/-- the reading of «lambda ..: e» in a def's body -/
def tLamE (T : List NTab) (mk : Addr → NF) (body : Expr) : TE := fun σ H Q => TabsN T H ∧ ∀ (f c' : Addr) (H1 : Hp), ExtN H H1 → (∀ b, H1 b = Option.none → H b = Option.none) → TabsN T H1 → H f = none → H1 f = some (LamO f (mk c') body) → H1 c' = some (CodeO c' (mk c').qual) → Q (.ref f) H1
section
variable {X : Cx}
theorem pe_lam {T : List NTab} {nm : Nat → Nat → Str} {c P : Addr} {params : Arguments} {body : Expr} {scope : Scope} {pos : Pos} (TB : TabB X.base X.mg c P) (hcode : X.env.code = .ref c) (hm : (P, nm) ∈ T) (hn : nm pos.line pos.col = X.env.qual ++ "<lambda>") (hu : ∀ p ∈ T, p.1 = P → p.2 = nm)
    (hfree : ∀ y ∈ scope.names, y.2 = .free → X.env.scope.names.lookup y.1 = some .cell ∨ X.env.scope.names.lookup y.1 = some .free) (hdef : defaultsOf params X.env = ([], []) := by rfl) :
    PE X (.Lambda params body scope pos) (tLamE T (fun c' => ⟨"<lambda>", X.env.qual ++ "<lambda>", params, [], scope, cloFrom X.env.cells scope.names [], c'⟩) body) := by
  refine ⟨fun pins s σ H Q I h => ?_⟩
  obtain ⟨hT, h⟩ := h
  have hfr : ∀ y ∈ scope.names, y.2 = .free → ∃ c, X.env.cells.lookup y.1 = some c := fun y hy e => (hfree y hy e).elim (fun z => I.ok.has _ (.inl z)) fun z => I.ok.has _ (.inr z)
  exact lam_makeP I TB hcode hm hn hu hT hdef hfr fun f c' H1 s' I1 eN nn T1 f0 f1 c1 => ⟨.ref f, H1, I1, rfl, h f c' H1 eN nn T1 f0 f1 c1⟩
end
/-! ### what it promises -/
abbrev CXn : CXT := fun _ _ _ _ _ _ => False
abbrev En : XK := fun _ _ _ => False
structure LOk (P : Program) (w : World) (K : PySem.W.Frag) (mg : Str → Option Value) (base : Heap) (CX : CXT) (k : Nat) (f : Addr) (F : NF) (e : Expr) (ps fr : List Str) (sp : List (Option V) → Sp) : Prop where
  len : ∀ ws vs H Q E, sp ws vs H Q E → vs.length = ps.length
  run : ∀ (A : Around) (outer : List Env) (s : Shared) (H : Hp) (us : List Value) (vs : List V) (ws : List (Option V)) (Q : VK) (E : XK), Room k A → Env0 P w K mg base A outer s H → H f = some (LamO f F e) → H F.c = some (CodeO F.c F.qual) →
    CellsAt F.cl fr ws s.heap H → Vals vs us → sp ws vs H Q E → codeAny (model P w) A (.call (.ref f) ⟨us, []⟩) (CR CX outer P w H s Q E) s
section
variable {CX : CXT} {P : Program} {w : World} {K : PySem.W.Frag} {mg : Str → Option Value} {base : Heap} {N ps fr : List Str} {F : NF} {e : Expr} {f : Addr} {k j : Nat} {sp sp' : List (Option V) → Sp}
theorem LOk.mono (o : LOk P w K mg base CX j f F e ps fr sp) (h : j ≤ k) : LOk P w K mg base CX k f F e ps fr sp := ⟨o.len, fun A outer s H us vs ws Q E hr => o.run A outer s H us vs ws Q E (hr.mono h)⟩
/-- THE RULE: a lambda by its body -/
theorem lok_of (S : NScope N ps fr F.scope) (hb : ∀ (pm ctv : Value) (us : List Value), us.length = ps.length → bindArgs (PySem.W.kla_fn F.name F.qual F.params e F.scope F.cl pm (.ref F.c) ctv) ⟨us, []⟩ = pure (ps.zip us)) (len : ∀ ws vs H Q E, sp ws vs H Q E → vs.length = ps.length)
    (hbody : ∀ (A : Around) (outer : List Env) (s : Shared) (H : Hp) (vs : List V) (ws : List (Option V)) (Q : VK) (E : XK), Room k (A.deeper (envF F f s.heap.objs.size)) → H f = some (LamO f F e) → H F.c = some (CodeO F.c F.qual) → ws.length = fr.length → sp ws vs H Q E →
      ∃ t, PE (ncx CX P w K mg base N F f A outer s H E) e t ∧ t (startF N vs ws) H Q) :
    LOk P w K mg base CX (k + 1) f F e ps fr sp := by
  refine ⟨len, fun A outer s H us vs ws Q E hr e0 hf hc C r hsp => ?_⟩
  have hl := len _ _ _ _ _ hsp
  have lim : s.heap.NoLimit := e0.mod.nolimit.keeps fun b o e => (e0.bs b o e).1
  obtain ⟨pm, ctv, ho⟩ := lamO_at e0.hok hf
  refine PySem.W.kla_callFunE hr.depth ho rfl S.co S.gen rfl (codeO_at e0.hok hc) ?_
  rw [hb pm ctv us (by rw [← r.length]; exact hl)]
  refine wpAny_pure (wpAny_newFunctionEnv S.nocell (fun ⟨n, _⟩ hy => S.par n (List.of_mem_zip hy).1) (fun h₁ hns hsb => ⟨lim.fresh _ hsb, ?_⟩) S.kind)
  show codeAny _ _ (.expr e (envF F f s.heap.objs.size)) _ _
  have kp : ∀ b o, s.heap.get? b = some o → h₁.get? b = some o := fun b o e => hsb.extBut b o (Nat.ne_of_lt (Heap.lt_size e)) (Heap.get?_push_of_some _ e)
  obtain ⟨t, ht, hq⟩ := hbody A outer s H vs ws Q E (hr.deeper _) hf hc C.len hsp
  have I : Inv (ncx CX P w K mg base N F f A outer s H E) [] (startF N vs ws) H { s with heap := h₁, toks := s.toks + (ps.zip us).length } := inv_startN S hr.hd e0 hl r C hns kp
  refine PySem.W.kla_codeExpr (wpAny_mono (ht.run [] _ (startF N vs ws) H Q I hq) (fun u s' hs => ?_) fun e s' hs => hs)
  obtain ⟨v, H', J, rv, q⟩ := hs
  exact ⟨v, H', J.os, J.bare, J.base, J.hok, rv, q⟩
end
section
variable {X : Cx} {CX : CXT} {F : NF} {e : Expr} {ps fr : List Str} {js : List Nat} {j k : Nat} {sp : List (Option V) → Sp} {E : XK}
/-- what is called within what runs: A, an around of the same frames -/
theorem run_l {pins : List (Addr × Obj)} {σ : L2.St} {H : Hp} {s : Shared} {Q : VK} {f : Addr} {us : List Value} {vs : List V} (Fn : LOk X.prog X.w X.K X.mg X.base CXn k f F e ps fr sp) (hr : Room k X.A.in1) (I : Inv X pins σ H s)
    (hf : H f = some (LamO f F e)) (hc : H F.c = some (CodeO F.c F.qual)) (C : CellsAt F.cl fr (js.map (slotAt σ)) s.heap H) (r : Vals vs us) (q : sp (js.map (slotAt σ)) vs H Q En) :
    wpAny (model X.prog X.w) X.A.in1 (call (.ref f) us) (EP X pins σ Q) (fun _ _ => False) s := by
  refine wpAny_call (codeAny_mono (Fn.run X.A.in1 X.stack s H us vs _ Q En hr I.env0.in1 hf hc C r q) fun r s' hq => ?_)
  cases r with
  | error e => exact (show False from hq).elim
  | ok fl =>
    cases fl with
    | ret u => exact I.after hq
    | next => exact False.elim hq
    | brk => exact False.elim hq
    | cont => exact False.elim hq
end
end Ca

set_option Elab.async false
set_option linter.all false
set_option maxRecDepth 100000
set_option maxHeartbeats 4000000
/-! a def whose code object is known; lambdas by their words in the def's text -/
namespace Ca
open PySem PySem.Spec PyProof.Rows L2 LamX NdefX
section
variable {P : Program} {w : World} {K : PySem.W.Frag} {mg : Str → Option Value} {base : Heap}
theorem fun_okc {x qual : Str} {st : Stmt} {f : Addr} {fd : FuncData} {N ps : List Str} {k : Nat} {sp : Sp} {c : Addr} (F : Fun K x qual st f fd) (hc : fd.code = .ref c) (S : FnScope N ps (defScope st)) (len : ∀ vs H Q E, sp vs H Q E → vs.length = ps.length)
    (hbody : ∀ (A : Around) (outer : List Env) (s : Shared) (H : Hp) (vs : List V) (Q : VK) (E : XK), Room k (A.deeper (envOfC qual (defScope st) s.heap.objs.size f (.ref c))) → sp vs H Q E →
      ∃ t, PSs (cxOf L2.CX0 P w K mg base N qual (defScope st) f (.ref c) A outer s H E).nox (defBody st) t ∧ t { nx := fun _ H' => Q .non H', rt := Q } (start N vs) H) : FnOk P w K mg base L2.CX0 (k + 1) f fd ps sp := by
  obtain ⟨oc, od, kV, doc, pm, an, cdv, ct, osl, rfl, lk, hcd⟩ := F.ex
  have hc : cdv = .ref c := hc
  subst hc
  refine fn_of lk hcd S len fun A outer s H vs Q E hr hsp => ?_
  obtain ⟨t, h, q⟩ := hbody A outer s H vs Q E hr hsp
  exact ⟨t, h.nox, q⟩
end
def lmArgs : Expr → Arguments
  | .Lambda p _ _ _ => p
  | _ => default
def lmBody : Expr → Expr
  | .Lambda _ b _ _ => b
  | e => e
def lmScope : Expr → Scope
  | .Lambda _ _ s _ => s
  | _ => default
def lmPos : Expr → Pos
  | .Lambda _ _ _ p => p
  | _ => default
abbrev lmNF (le : Expr) (qual : Str) (cl : List (Str × Addr)) (c' : Addr) : NF := ⟨"<lambda>", qual, lmArgs le, [], lmScope le, cl, c'⟩
theorem pe_lamS {X : Cx} {le : Expr} {T : List NTab} {nm : Nat → Nat → Str} {c P : Addr} (hle : le = .Lambda (lmArgs le) (lmBody le) (lmScope le) (lmPos le)) (TB : TabB X.base X.mg c P) (hcode : X.env.code = .ref c) (hm : (P, nm) ∈ T) (hn : nm (lmPos le).line (lmPos le).col = X.env.qual ++ "<lambda>") (hu : ∀ p ∈ T, p.1 = P → p.2 = nm)
    (hfree : ∀ y ∈ (lmScope le).names, y.2 = .free → X.env.scope.names.lookup y.1 = some .cell ∨ X.env.scope.names.lookup y.1 = some .free) (hdef : defaultsOf (lmArgs le) X.env = ([], [])) :
    PE X le (tLamE T (lmNF le (X.env.qual ++ "<lambda>") (cloFrom X.env.cells (lmScope le).names [])) (lmBody le)) := by
  have h := pe_lam (pos := lmPos le) (body := lmBody le) TB hcode hm hn hu hfree hdef
  rw [← hle] at h
  exact h
end Ca

set_option Elab.async false
set_option linter.all false
set_option maxRecDepth 100000
set_option maxHeartbeats 4000000
namespace Ca
open PySem L2
/-- the law's own promise: True for every script -/
@[irreducible] def spLaw (K : PySem.W.Frag) : Sp := fun vs H Q _ => ∃ (a : Addr) (ns : List Int), vs = [.ref a] ∧ SqL K H a (ns.map V.int) ∧ ∀ H', Q (.bl true) H'
end Ca

set_option Elab.async false
set_option linter.all false
set_option maxRecDepth 100000
set_option maxHeartbeats 4000000
namespace Ca
open PySem PySem.Spec PyProof.Rows L2 LamX
def qLaw : Str := (envOfC "law" (defScope s_law) 0 0 .none).qual ++ "<lambda>"
abbrev nLaw : List Str := ["script", "row", "design", "world", "odd", "bad", "h", "events", "lines", "text", "many", "wrong", "after", "at", "full", "whole", "event", "one", "work"]
theorem Keep.tup {K : PySem.W.Frag} {H0 H H' : Hp} {a r t : Addr} {xs : List V} (R : RowAt K H0 a r H) (k : Keep (fun b => b = r) H H') (h : H t = some (.tup xs)) : H' t = some (.tup xs) := k _ _ h fun z => by
  obtain ⟨o, e, i, x, y, eo, _⟩ := R.at_
  rw [z, e, eo] at h
  cases h
theorem RowAt.ex' {K : PySem.W.Frag} {H0 H H' : Hp} {a r : Addr} (R : RowAt K H0 a r H) (S : Evl.Ex H H') : RowAt K H0 a r H' := R.keep (F := fun _ => False) (fun b o e _ => S b o e) (fun _ z => z.elim) id
theorem RowAt.extn {K : PySem.W.Frag} {H0 H H' : Hp} {a r : Addr} (R : RowAt K H0 a r H) (n0 : ∀ b ps, H0 b ≠ some (.tbl ps)) (n : ExtN H H') : RowAt K H0 a r H' := by
  obtain ⟨o, e, i, x, y, eo, z⟩ := R.at_
  refine ⟨R.ex, R.no, fun b u hb => n _ _ (R.sm _ _ hb) fun ps q => n0 b ps (by rw [hb, q]), o, ?_, i, x, y, eo, z⟩
  exact n _ _ e fun ps q => by rw [eo] at q; cases q
theorem tabs_keepR {K : PySem.W.Frag} {H0 H H' : Hp} {a r : Addr} {Tb : List (Addr × Str)} (t : Tabs Tb H) (R : RowAt K H0 a r H) (k : Keep (fun b => b = r) H H') : Tabs Tb H' := fun p hp => by
  obtain ⟨ps, h1, h2, h3⟩ := t p hp
  obtain ⟨o, e, i, x, y, eo, _⟩ := R.at_
  refine ⟨ps, k _ _ h1 fun z => ?_, h2, fun pos cv hc => ?_⟩
  · rw [z, e, eo] at h1; cases h1
  · obtain ⟨c0, e1, e2⟩ := h3 pos cv hc
    refine ⟨c0, e1, k _ _ e2 fun z => ?_⟩
    rw [z, e, eo] at e2
    unfold CodeO at e2
    cases e2
/-- the script alone, without the tables -/
theorem law_ground {K : PySem.W.Frag} {H : Hp} {a : Addr} {xs : List V} (h : SqL K H a xs) : ∃ H0, Evl.Ex H0 H ∧ SqL K H0 a xs ∧ ∀ b ps, H0 b ≠ some (.tbl ps) := by
  have two : ∀ u : HO, (∀ ps, u ≠ .tbl ps) → H a = some u → ∃ H0 : Hp, Evl.Ex H0 H ∧ H0 a = some u ∧ ∀ b ps, H0 b ≠ some (.tbl ps) := fun u n e => by
    refine ⟨fun b => if b = a then some u else none, fun b o z => ?_, if_pos rfl, fun b ps z => ?_⟩
    · have z : (if b = a then some u else none) = some o := z
      split at z
      · rename_i y
        rw [y, e, ← z]
      · cases z
    · have z : (if b = a then some u else none) = some (.tbl ps) := z
      split at z
      · exact n ps (Option.some.inj z)
      · cases z
  rcases h with (h | ⟨o, h⟩) | h
  · obtain ⟨H0, x, e, n⟩ := two (.lst xs) (fun ps z => by cases z) h
    exact ⟨H0, x, .inl (.inl e), n⟩
  · obtain ⟨H0, x, e, n⟩ := two (.frz o (.lst xs)) (fun ps z => by cases z) h
    exact ⟨H0, x, .inl (.inr ⟨o, e⟩), n⟩
  · exact ⟨fun _ => none, (fun b o e => nomatch e), .inr h, (fun b ps e => nomatch e)⟩
/-- the two readers that the last line calls -/
inductive SW {K : PySem.W.Frag} {mg : Str → Option Value} (T : Txt K mg) (CI CN : Addr) : Addr → Sp → Prop where
  | d : SW T CI CN T.f_read_design (spRd CN CI designs3)
  | w : SW T CI CN T.f_read_world (spRd CN CI worlds3)
@[irreducible] def spLawT (K : PySem.W.Frag) (Pt : Addr) : Sp := fun vs H Q _ => ∃ (a : Addr) (ns : List Int), vs = [.ref a] ∧ SqL K H a (ns.map V.int) ∧ H Pt = some (.tbl #[]) ∧ ∀ H', Q (.bl true) H'
section
variable {P : Program} {w : World} {K : PySem.W.Frag} {mg : Str → Option Value} {base : Heap} {CB fB CI fI : Addr}
theorem sw_held (T : Txt K mg) (U : TxtC K mg) (R : ErrT K mg) (I : PySem.InvX.InvTxt P K mg CI fI) : ∀ f sp, SW T CI R.e_NotText.C f sp → HeldX P w K mg base 5 f sp := fun f sp h => by
  cases h with
  | d => exact ⟨_, _, ok_read_design T U R I, T.F_read_design.kp, b_read_design T⟩
  | w => exact ⟨_, _, ok_read_world T U R I, T.F_read_world.kp, b_read_world T⟩
theorem len3 {t : T3} (sm : Small3 t) : ((([t.1, t.2.1, t.2.2] : List Str).map (·.length)).sum + ([t.1, t.2.1, t.2.2] : List Str).length * (", " : Str).length) ≤ 16777216 := by
  have z1 := sm.a
  have z2 := sm.b
  have z3 := sm.c
  show t.1.length + (t.2.1.length + (t.2.2.length + 0)) + 3 * 2 ≤ 16777216
  omega
def tD (t : T3) : PyData := .tuple [.str t.1, .str t.2.1, .str t.2.2]
theorem tD_dp {K : PySem.W.Frag} {H : Hp} {a : Addr} {t : T3} (h : H a = some (tT t)) : Dp K H (.ref a) (tD t) := .tup (SqT.of h) (.cons (.str _) (.cons (.str _) (.cons (.str _) .nil)))
theorem tD_ok : ∀ t, t ∈ designs3 ∨ t ∈ worlds3 → SeqAt.shaped (tD t) = true ∧ PyData.eqv (tD t) (tD t) = true := by
  have z1 : ∀ t ∈ designs3, SeqAt.shaped (tD t) = true ∧ PyData.eqv (tD t) (tD t) = true := by decide +kernel
  have z2 : ∀ t ∈ worlds3, SeqAt.shaped (tD t) = true ∧ PyData.eqv (tD t) (tD t) = true := by decide +kernel
  exact fun t h => h.elim (z1 t) (z2 t)
theorem ne_d {K : PySem.W.Frag} {H : Hp} {x y : V} {d e : PyData} {Q : VK} (hx : Dp K H x d) (hy : Dp K H y e) (s1 : SeqAt.shaped d = true) (s2 : SeqAt.shaped e = true) (h : PyData.eqv d e = true) (q : Q (.bl false) H) : rNeD K x y H Q := by
  refine ⟨d, e, hx, hy, s1, s2, ?_⟩
  rw [h]
  exact q
def oddL : List Str := ["", "store", "store drop,token, alone", "store drop, token, alone ", "Store drop, token, alone", "token, store drop, alone", "store drop, token", "store  drop, token, alone", "store drop, token, alone, alone", "primary, keeps, stops", "drop, token, alone"]
theorem ones_ok : SeqAt.shaped (.list [.int 1, .int 1]) = true ∧ PyData.eqv (.list [.int 1, .int 1]) (.list [.int 1, .int 1]) = true := by decide +kernel
theorem odd_mem {x : V} (h : x ∈ oddL.map V.str) : ∃ s, x = .str s ∧ ∀ t ∈ designs3, textT t ≠ s := by
  obtain ⟨s, hs, rfl⟩ := List.mem_map.mp h
  exact ⟨s, rfl, odd_d s hs⟩
theorem wrrun_i {c : Conf} {d w r : Addr} {xs : List V} {es : List Ev} {H : Hp} {Q : VK} {E : XK} (h1 : H d = some (dT c)) (h2 : H w = some (wT c)) (O : c.Ok) (hr : H r = some (.tup xs)) (X : EvsAt H xs es) (R : RunP c es) (l : es.length ≤ 60) (q : ∀ H', Same H H' → Q (.str (runT es)) H') : spWrRun [.ref d, .ref w, .ref r] H Q E := by
  unfold spWrRun
  exact ⟨c, d, w, r, xs, es, rfl, h1, h2, O, hr, X, R, l, q⟩
theorem rdrun_i {CN CI : Addr} {c : Conf} {d w : Addr} {v : V} {H : Hp} {Q : VK} {E : XK} (h1 : H d = some (dT c)) (h2 : H w = some (wT c)) (O : c.Ok) (h : RrC CN CI c H Q E v) : spRdRun CN CI [.ref d, .ref w, v] H Q E := by
  unfold spRdRun
  exact ⟨c, d, w, v, rfl, h1, h2, O, h⟩
theorem add_small {x : Str} {n : Nat} (hx : x.length ≤ 10) (h : n < 101) : x.length + (numS n).length ≤ sizeLine := by
  have z : (numS n).length ≤ 10 := num_len n h
  exact Nat.le_trans (show x.length + (numS n).length ≤ 20 by omega) (by decide)
theorem num_log {n : Nat} (h : n < 101) : (n : Int).natAbs.log2 < 1920 := log_small (by rw [Int.natAbs_natCast]; omega)
theorem texts_ok : SeqAt.shaped (.list [.str "text", .str "text"]) = true ∧ PyData.eqv (.list [.str "text", .str "text"]) (.list [.str "text", .str "text"]) = true := by decide +kernel
theorem row_ne {a : Addr} {l : List V} {m : List Str} (h : some (HO.lst (V.ref a :: l)) = some (HO.lst (m.map V.str))) : False := by
  cases m with
  | nil => cases h
  | cons x m =>
    have z := List.cons.inj (HO.lst.inj (Option.some.inj h))
    exact nomatch z.1
theorem keep_lst {K : PySem.W.Frag} {H0 H H' : Hp} {a r t : Addr} {xs : List V} (R : RowAt K H0 a r H) (k : Keep (fun b => b = r) H H') (h : H t = some (.lst xs)) (n : t ≠ r) : H' t = some (.lst xs) := k _ _ h n
theorem after_ok {es : List Ev} {x0 : Str} {N : Nat} (sm : ∀ e ∈ es, SmallEv 60 e) (l : es.length ≤ 60) (ws : 10 ∉ x0.cps.toList ∧ x0.length ≤ 5000) (nn : N ≤ 60) :
    linesOf (Txt.join "\n" (es.map textOf ++ [x0, "look " ++ numS N])) = es.map textOf ++ [x0, "look " ++ numS N] ∧ (Txt.join "\n" (es.map textOf ++ [x0, "look " ++ numS N])).length ≤ 1000000 ∧
      ((es.map textOf ++ [x0, "look " ++ numS N]).map (·.length)).sum + (es.map textOf ++ [x0, "look " ++ numS N]).length * ("\n" : Str).length ≤ 16777216 := by
  have lk := look_text N
  have sl : SmallEv 60 (("look" : Str), some (N : Int)) := .inr (.inr ⟨_, N, by decide +kernel, nn, rfl⟩)
  refine lines_bad (fun x hx => ?_) (fun x hx => ?_) ?_ (fun z => ?_)
  · rcases List.mem_append.mp hx with hx | hx
    · exact lines_nl sm x hx
    · simp only [List.mem_cons, List.not_mem_nil, or_false] at hx
      rcases hx with rfl | rfl
      · exact ws.1
      · rw [lk]; exact textOf_nl sl (by omega)
  · rcases List.mem_append.mp hx with hx | hx
    · exact lines_5 sm x hx
    · simp only [List.mem_cons, List.not_mem_nil, or_false] at hx
      rcases hx with rfl | rfl
      · exact ws.2
      · rw [lk]; exact textOf_len sl (by omega)
  · rw [List.length_append, List.length_map]
    show es.length + 2 ≤ 62
    omega
  · have := congrArg List.length z
    rw [List.length_append] at this
    have : (es.map textOf).length + 2 = 1 := this
    omega
theorem hum_ok {es : List Ev} (sm : ∀ e ∈ es, SmallEv 60 e) (l : es.length ≤ 60) (n : Nat) :
    linesOf (Txt.join "\n" ((es.take n).map textOf ++ ("hum" : Str) :: (es.map textOf).drop n)) = (es.take n).map textOf ++ ("hum" : Str) :: (es.map textOf).drop n ∧ (Txt.join "\n" ((es.take n).map textOf ++ ("hum" : Str) :: (es.map textOf).drop n)).length ≤ 1000000 ∧
      (((es.take n).map textOf ++ ("hum" : Str) :: (es.map textOf).drop n).map (·.length)).sum + ((es.take n).map textOf ++ ("hum" : Str) :: (es.map textOf).drop n).length * ("\n" : Str).length ≤ 16777216 := by
  have hm : (10 ∉ ("hum" : Str).cps.toList) ∧ ("hum" : Str).length ≤ 5000 := by decide +kernel
  refine lines_bad (fun x hx => ?_) (fun x hx => ?_) ?_ (fun z => ?_)
  · rcases List.mem_append.mp hx with hx | hx
    · exact lines_nl (fun e he => sm e (List.mem_of_mem_take he)) x hx
    · rcases List.mem_cons.mp hx with rfl | hx
      · exact hm.1
      · exact lines_nl sm x (List.mem_of_mem_drop hx)
  · rcases List.mem_append.mp hx with hx | hx
    · exact lines_5 (fun e he => sm e (List.mem_of_mem_take he)) x hx
    · rcases List.mem_cons.mp hx with rfl | hx
      · exact hm.2
      · exact lines_5 sm x (List.mem_of_mem_drop hx)
  · rw [List.length_append, List.length_map, List.length_take, List.length_cons, List.length_drop, List.length_map]
    omega
  · have : ("hum" : Str) ∈ ([""] : List Str) := by
      rw [← z]
      exact List.mem_append_right _ (List.mem_cons_self ..)
    exact absurd this (by decide +kernel)
theorem full_ok : linesOf (Txt.join "\n" ((looks 60).map textOf ++ (["look 60"] : List Str))) = (looks 60).map textOf ++ ("look 60" : Str) :: [] ∧ (Txt.join "\n" ((looks 60).map textOf ++ (["look 60"] : List Str))).length ≤ 1000000 ∧
    (((looks 60).map textOf ++ (["look 60"] : List Str)).map (·.length)).sum + ((looks 60).map textOf ++ (["look 60"] : List Str)).length * ("\n" : Str).length ≤ 16777216 := by
  have hm : (10 ∉ ("look 60" : Str).cps.toList) ∧ ("look 60" : Str).length ≤ 5000 := by decide +kernel
  refine lines_bad (fun x hx => ?_) (fun x hx => ?_) ?_ (fun z => ?_)
  · rcases List.mem_append.mp hx with hx | hx
    · exact lines_nl looks_sm x hx
    · rw [List.mem_singleton.mp hx]; exact hm.1
  · rcases List.mem_append.mp hx with hx | hx
    · exact lines_5 looks_sm x hx
    · rw [List.mem_singleton.mp hx]; exact hm.2
  · rw [List.length_append, List.length_map, looks_len]
    decide
  · have := congrArg List.length z
    rw [List.length_append, List.length_map, looks_len] at this
    exact absurd this (by decide)
def lcElt : Expr → Expr
  | .ListComp e _ _ _ => e
  | e => e
def lcScope : Expr → Scope
  | .ListComp _ _ s _ => s
  | _ => default
def cmpL : Stmt → Expr
  | .Return (some (.Compare l _ _ _)) _ => l
  | _ => default
abbrev lastLc : Expr := cmpL ((defBody s_law).getD 22 default)
def lamOf : Expr → Expr
  | .Call _ [l] _ _ => l
  | e => e
theorem work_elt (T : Txt K mg) (U : TxtC K mg) (R : ErrT K mg) (I : PySem.InvX.InvTxt P K mg CI fI) (L : LineT K mg R CI CB) {c Pt : Addr} (TB : TabB base mg c Pt) {X : Cx} (hP : X.prog = P) (hw : X.w = w) (hK : X.K = K) (hmg : X.mg = mg) (hbs : X.base = base) (hN : X.N = nLaw) (hsc : X.env.scope = relS (lcScope lastLc) (defScope s_law)) (hq : X.env.qual = (envOfC "law" (defScope s_law) 0 0 .none).qual) (hcode : X.env.code = .ref c) (hr : Room 13 X.A) :
    PE X (lcElt lastLc) (tLam [(Pt, qLaw)] (TTline R CI) fun E => tCallAX 18 (SW T CI R.e_NotText.C) (WE fun cls d _ H => E cls d H) (tCons (tC .non) tNil)) := by
  subst hP hw hK hmg hbs
  have e1 : Gl X "_law_line" := by
    unfold Gl Env.kindOf
    rw [hsc]
    decide +kernel
  have e2 : LamS X.env.scope (lmScope (lamOf (lcElt lastLc))) := lamS_by (by rw [hsc]; decide +kernel)
  have e3 : X.env.qual ++ "<lambda>" = qLaw := by rw [hq] <;> rfl
  refine pe_line (c := c) (Tb := [(Pt, qLaw)]) (k := 11) T R L e1 TB hcode ?_ ?_ hr e2 rfl (fun _ _ _ _ _ => rfl) ?_
  · rw [e3]
    exact List.mem_singleton.mpr rfl
  · intro p hp _
    rw [List.mem_singleton.mp hp, e3]
  · intro A2 outer2 s2 H2 E2 f2 c2 hr2
    exact pe_callAX (i := 18) (S := SW T CI R.e_NotText.C) (sw_held T U R I) (hr2.mono (by decide)) (by show X.N[18]? = _; rw [hN] <;> rfl) (Or.inr (Or.inr rfl)) (fun σ => passAt (takes_of rfl rfl rfl rfl) σ) (pa_cons pe_non pa_nil)
theorem ok_law (T : Txt K mg) (U : TxtC K mg) (B : PySem.BadX.BadTxt P K mg CB fB) (R : ErrT K mg) (I : PySem.InvX.InvTxt P K mg CI fI) (L : LineT K mg R CI CB) {c Pt : Addr} (TB : TabB base mg c Pt) (hcd : T.fd_law.code = .ref c) : FnOk P w K mg base CX0 14 T.f_law T.fd_law ["script"] (spLawT K Pt) := by
  refine fun_okc T.F_law hcd sc_law (fun vs H Q E h => ?_) (fun A outer s H vs Q E hr h => ?_)
  · unfold spLawT at h
    obtain ⟨a, ns, rfl, _⟩ := h
    rfl
  · unfold spLawT at h
    obtain ⟨a, ns, rfl, hs0, hPt, q⟩ := h
    have hu := hu_of hr
    refine ⟨_, (pss_cons (ps_set (i := 1) sc_law.nd rfl (Or.inl rfl) (pe_lst (pa_cons (pv 0) (pa_cons pe_int (pa_cons pe_int (pa_cons pe_int pa_nil))))))
      (pss_cons (ps_asg (pe_tup (pa_cons (pe_call (ok_Ldesign T) (hr.mono (by decide)) rfl T.m_Ldesign T.F_Ldesign.kp (b_Ldesign T) .nil pass0 (pa_cons (pv 1) pa_nil)) (pa_cons (pe_call (ok_Lworld T) (hr.mono (by decide)) rfl T.m_Lworld T.F_Lworld.kp (b_Lworld T) .nil pass0 (pa_cons (pv 1) pa_nil)) pa_nil))) (pg_tup rfl (pgs_cons (pg_name (i := 2) sc_law.nd rfl (Or.inr rfl)) (pgs_cons (pg_name (i := 3) sc_law.nd rfl (Or.inr rfl)) pgs_nil))))
      (Evl.pss_cut (ps_if (PW.pt (pw_or (pt_cmpR op_ne (pe_call (ok_write_design T U) (hr.mono (by decide)) rfl T.m_write_design T.F_write_design.kp (b_write_design T) .nil pass0 (pa_cons (pv 2) pa_nil)) (pe_join pe_str (pv 2)) (nomark _)) (pw_or1 (pt_cmpR (op_neD hr.units) (pe_call (ok_read_design T U R I) (hr.mono (by decide)) rfl T.m_read_design T.F_read_design.kp (b_read_design T) .nil passL (pa_cons (pe_join pe_str (pv 2)) pa_nil)) (pv 2) (nomark _))))) (pss_one (ps_ret pe_bl)) pss_nil)
      (Evl.pss_cut (ps_if (PW.pt (pw_or (pt_cmpR op_ne (pe_call (ok_write_world T U) (hr.mono (by decide)) rfl T.m_write_world T.F_write_world.kp (b_write_world T) .nil pass0 (pa_cons (pv 3) pa_nil)) (pe_join pe_str (pv 3)) (nomark _)) (pw_or1 (pt_cmpR (op_neD hr.units) (pe_call (ok_read_world T U R I) (hr.mono (by decide)) rfl T.m_read_world T.F_read_world.kp (b_read_world T) .nil passL (pa_cons (pe_join pe_str (pv 3)) pa_nil)) (pv 3) (nomark _))))) (pss_one (ps_ret pe_bl)) pss_nil)
      (pss_cons (ps_set (i := 4) sc_law.nd rfl (Or.inl rfl) (pe_lst (pa_cons pe_str (pa_cons pe_str (pa_cons pe_str (pa_cons pe_str (pa_cons pe_str (pa_cons pe_str (pa_cons pe_str pa_nil)))))))))
      (pss_cons (ps_set (i := 4) sc_law.nd rfl (Or.inl rfl) (pe_op op_cat (pv 4) (pe_lst (pa_cons pe_str (pa_cons pe_str (pa_cons pe_str (pa_cons pe_str pa_nil)))))))
      (pss_cons (ps_set (i := 5) sc_law.nd rfl (Or.inr rfl) (pe_call (ok_Lpick T) (hr.mono (by decide)) rfl T.m_Lpick T.F_Lpick.kp (b_Lpick T) .nil pass0 (pa_cons (pv 1) (pa_cons (pv 4) pa_nil))))
      (Evl.pss_cut (ps_if (pt_cmpR (op_neD hr.units) (pe_lst (pa_cons (pe_line (c := c) (Tb := [(Pt, qLaw)]) (k := 11) T R L rfl TB rfl (List.mem_singleton.mpr rfl) (fun p hp _ => by rw [List.mem_singleton.mp hp]; rfl) (hr.mono (by decide)) (lamS_by (by show lamSB (defScope s_law) _ = true; decide +kernel)) rfl (fun _ _ _ _ _ => rfl) (fun A2 outer2 s2 H2 E2 f2 c2 hr2 => by exact (pe_callS (ok_read_design T U R I) (hr2.mono (by decide)) rfl T.m_read_design T.F_read_design.kp (b_read_design T) (fun σ => passAt (takes_of rfl rfl rfl rfl) σ) (pa_cons (pv 5) pa_nil)))) (pa_cons (pe_lineD (c := c) (Tb := [(Pt, qLaw)]) (k := 11) T R L rfl TB rfl (List.mem_singleton.mpr rfl) (fun p hp _ => by rw [List.mem_singleton.mp hp]; rfl) (hr.mono (by decide)) (lamD_by (N := nLaw) (pa := "a") (by show lamDB nLaw (defScope s_law) _ _ = true; decide +kernel)) rfl rfl pe_int (fun _ _ _ _ _ _ => ⟨_, rfl, fun _ => rfl⟩) (fun A2 outer2 s2 H2 E2 f2 c2 hr2 => by exact (pe_callS (ok_read_world T U R I) (hr2.mono (by decide)) rfl T.m_read_world T.F_read_world.kp (b_read_world T) (fun σ => passAt (takes_of rfl rfl rfl rfl) σ) (pa_cons (pe_joinK (K := K) rfl pe_str (pe_rev3K (K := K) rfl (pv 3))) pa_nil)))) pa_nil))) (pe_lst (pa_cons pe_int (pa_cons pe_int pa_nil))) (nomark _)) (pss_one (ps_ret pe_bl)) pss_nil)
      (pss_cons (ps_set (i := 6) sc_law.nd rfl (Or.inl rfl) (pe_call (ok_Lwalk T) (hr.mono (by decide)) rfl T.m_Lwalk T.F_Lwalk.kp (b_Lwalk T) .nil pass0 (pa_cons (pv 1) (pa_cons (pv 2) (pa_cons (pv 3) (pa_cons pe_int pa_nil))))))
      (pss_cons (ps_set (i := 7) sc_law.nd rfl (Or.inl rfl) (pe_callTy call_tuple_of (by rfl) T.n_tuple (by decide +kernel) (pa_cons (pe_dget hu (pv 6) pe_str (fun _ _ => rfl)) pa_nil)))
      (Evl.pss_cut (ps_set (i := 8) sc_law.nd rfl (Or.inr rfl) (pe_lc (own := [("event", 16)]) rfl sc_law.nd (pi_tup (pv 7)) (blkOk_by (N := ["script", "row", "design", "world", "odd", "bad", "h", "events", "lines", "text", "many", "wrong", "after", "at", "full", "whole", "event", "one", "work"]) (sc := defScope s_law) (by decide +kernel)) (fun _ _ _ _ _ => (pg_name (i := 16) sc_law.nd rfl (Or.inl rfl))) (fun _ _ _ _ _ => pts_nil) (fun _ _ _ _ _ => (pe_joinK (K := K) rfl pe_str (pe_lc (own := [("one", 17)]) rfl sc_law.nd (pi_tupK (K := K) rfl (pv 16)) (blkOk_by (by kernel_rfl)) (fun _ _ _ _ _ => (pg_name (i := 17) sc_law.nd rfl (Or.inl rfl))) (fun _ _ _ _ _ => pts_nil) (fun _ _ _ _ _ => (pe_callTy call_str_is (by rfl) T.n_str (by decide +kernel) (pa_cons (pv 17) pa_nil))))))))
      (pss_cons (ps_set (i := 9) sc_law.nd rfl (Or.inl rfl) (pe_join pe_str (pv 8)))
      (Evl.pss_cut (ps_if (PW.pt (pw_or (pt_cmpR op_ne (pe_call (ok_write_run T U B) (hr.mono (by decide)) rfl T.m_write_run T.F_write_run.kp (b_write_run T) .nil pass0 (pa_cons (pv 2) (pa_cons (pv 3) (pa_cons (pv 7) pa_nil)))) (pv 9) (nomark _)) (pw_or1 (pt_not (pt_val (pe_call (ok_alike 2 T) (hr.mono (by decide)) rfl T.m_Lalike T.F_Lalike.kp (b_Lalike T) .nil pass0 (pa_cons (pe_call (ok_read_run T U R I) (hr.mono (by decide)) rfl T.m_read_run T.F_read_run.kp (b_read_run T) .nil passL (pa_cons (pv 2) (pa_cons (pv 3) (pa_cons (pv 9) pa_nil)))) (pa_cons (pv 7) pa_nil)))))))) (pss_one (ps_ret pe_bl)) pss_nil)
      (pss_cons (ps_set (i := 10) sc_law.nd rfl (Or.inl rfl) (pe_callB call_len_seq (by rfl) T.n_len (by decide +kernel) (pa_cons (pe_dget hu (pv 6) pe_str (fun _ _ => rfl)) pa_nil)))
      (pss_cons (ps_set (i := 11) sc_law.nd rfl (Or.inl rfl) (pe_lst (pa_cons (pe_op op_add_str pe_str (pe_callTy call_str_is (by rfl) T.n_str (by decide +kernel) (pa_cons (pe_op op_add (pv 10) pe_int) pa_nil))) (pa_cons (pe_op op_add_str pe_str (pe_callTy call_str_is (by rfl) T.n_str (by decide +kernel) (pa_cons (pv 10) pa_nil))) (pa_cons pe_str (pa_cons pe_str (pa_cons pe_str (pa_cons (pe_op op_add_str pe_str (pe_callTy call_str_is (by rfl) T.n_str (by decide +kernel) (pa_cons (pv 10) pa_nil))) (pa_cons pe_str (pa_cons pe_str (pa_cons (pe_op op_add_str pe_str (pe_callTy call_str_is (by rfl) T.n_str (by decide +kernel) (pa_cons (pv 10) pa_nil))) (pa_cons pe_str (pa_cons (pe_op op_add_str pe_str (pe_callTy call_str_is (by rfl) T.n_str (by decide +kernel) (pa_cons (pv 10) pa_nil))) (pa_cons pe_str pa_nil))))))))))))))
      (Evl.pss_cut (ps_set (i := 12) sc_law.nd rfl (Or.inr rfl) (pe_join pe_str (pe_op op_cat (pv 8) (pe_lst (pa_cons (pe_call (ok_Lpick T) (hr.mono (by decide)) rfl T.m_Lpick T.F_Lpick.kp (b_Lpick T) .nil pass0 (pa_cons (pv 1) (pa_cons (pv 11) pa_nil))) (pa_cons (pe_op op_add_str pe_str (pe_callTy call_str_is (by rfl) T.n_str (by decide +kernel) (pa_cons (pv 10) pa_nil))) pa_nil))))))
      (Evl.pss_cut (ps_if (pt_cmpR op_ne (pe_line (c := c) (Tb := [(Pt, qLaw)]) (k := 11) T R L rfl TB rfl (List.mem_singleton.mpr rfl) (fun p hp _ => by rw [List.mem_singleton.mp hp]; rfl) (hr.mono (by decide)) (lamS_by (by show lamSB (defScope s_law) _ = true; decide +kernel)) rfl (fun _ _ _ _ _ => rfl) (fun A2 outer2 s2 H2 E2 f2 c2 hr2 => by exact (pe_callS (ok_read_run T U R I) (hr2.mono (by decide)) rfl T.m_read_run T.F_read_run.kp (b_read_run T) (fun σ => passAt (takes_of rfl rfl rfl rfl) σ) (pa_cons (pv 2) (pa_cons (pv 3) (pa_cons (pv 12) pa_nil)))))) (pe_op op_add (pe_callB call_len_seq (by rfl) T.n_len (by decide +kernel) (pa_cons (pv 8) pa_nil)) pe_int) (nomark _)) (pss_one (ps_ret pe_bl)) pss_nil)
      (pss_cons (ps_set (i := 13) sc_law.nd rfl (Or.inr rfl) (pe_call (ok_Ltaken T) (hr.mono (by decide)) rfl T.m_Ltaken T.F_Ltaken.kp (b_Ltaken T) .nil pass0 (pa_cons (pv 1) (pa_cons (pe_op op_add (pe_callB call_len_seq (by rfl) T.n_len (by decide +kernel) (pa_cons (pv 8) pa_nil)) pe_int) pa_nil))))
      (Evl.pss_cut (ps_if (pt_cmpR op_ne (pe_line (c := c) (Tb := [(Pt, qLaw)]) (k := 11) T R L rfl TB rfl (List.mem_singleton.mpr rfl) (fun p hp _ => by rw [List.mem_singleton.mp hp]; rfl) (hr.mono (by decide)) (lamS_by (by show lamSB (defScope s_law) _ = true; decide +kernel)) rfl (fun _ _ _ _ _ => rfl) (fun A2 outer2 s2 H2 E2 f2 c2 hr2 => by exact (pe_callS (ok_read_run T U R I) (hr2.mono (by decide)) rfl T.m_read_run T.F_read_run.kp (b_read_run T) (fun σ => passAt (takes_of rfl rfl rfl rfl) σ) (pa_cons (pv 2) (pa_cons (pv 3) (pa_cons (pe_joinK (K := K) rfl pe_str (pe_op op_cat (pe_op op_cat (pe_slice (sl_listK (K := K) rfl) (pv 8) po_none (po_some (pv 13))) (pe_lst (pa_cons pe_str pa_nil))) (pe_slice (sl_listK (K := K) rfl) (pv 8) (po_some (pv 13)) po_none))) pa_nil)))))) (pe_op op_add (pv 13) pe_int) (nomark _)) (pss_one (ps_ret pe_bl)) pss_nil)
      (Evl.pss_cut (ps_if (pt_cmpR op_ne (pe_line (c := c) (Tb := [(Pt, qLaw)]) (k := 11) T R L rfl TB rfl (List.mem_singleton.mpr rfl) (fun p hp _ => by rw [List.mem_singleton.mp hp]; rfl) (hr.mono (by decide)) (lamS_by (by show lamSB (defScope s_law) _ = true; decide +kernel)) rfl (fun _ _ _ _ _ => rfl) (fun A2 outer2 s2 H2 E2 f2 c2 hr2 => by exact (pe_callS (ok_read_run T U R I) (hr2.mono (by decide)) rfl T.m_read_run T.F_read_run.kp (b_read_run T) (fun σ => passAt (takes_of rfl rfl rfl rfl) σ) (pa_cons (pv 2) (pa_cons (pv 3) (pa_cons pe_int pa_nil)))))) pe_str (nomark _)) (pss_one (ps_ret pe_bl)) pss_nil)
      (Evl.pss_cut (ps_set (i := 14) sc_law.nd rfl (Or.inr rfl) (pe_lc (own := [("at", 13)]) rfl sc_law.nd (pi_range1 rfl T.n_range (pa_cons pe_int pa_nil)) (blkOk_by (N := ["script", "row", "design", "world", "odd", "bad", "h", "events", "lines", "text", "many", "wrong", "after", "at", "full", "whole", "event", "one", "work"]) (sc := defScope s_law) (by decide +kernel)) (fun _ _ _ _ _ => (pg_name (i := 13) sc_law.nd rfl (Or.inl rfl))) (fun _ _ _ _ _ => pts_nil) (fun _ _ _ _ _ => (pe_op op_add_str pe_str (pe_callTy call_str_is (by rfl) T.n_str (by decide +kernel) (pa_cons (pv 13) pa_nil))))))
      (Evl.pss_cut (ps_if (pt_cmpR op_eq (pe_call (ok_Ltaken T) (hr.mono (by decide)) rfl T.m_Ltaken T.F_Ltaken.kp (b_Ltaken T) .nil pass0 (pa_cons (pv 1) (pa_cons pe_int pa_nil))) pe_int (nomark _)) (pss_cons (ps_set (i := 15) sc_law.nd rfl (Or.inl rfl) (pe_call (ok_read_run T U R I) (hr.mono (by decide)) rfl T.m_read_run T.F_read_run.kp (b_read_run T) .nil passL (pa_cons (pv 2) (pa_cons (pv 3) (pa_cons (pe_join pe_str (pv 14)) pa_nil)))))
      (pss_cons (ps_if (PW.pt (pw_or (pt_cmpR op_ne (pe_callB call_len_seq (by rfl) T.n_len (by decide +kernel) (pa_cons (pv 15) pa_nil)) pe_int (nomark _)) (pw_or1 (pt_cmpR op_ne (pe_call (ok_write_run T U B) (hr.mono (by decide)) rfl T.m_write_run T.F_write_run.kp (b_write_run T) .nil pass0 (pa_cons (pv 2) (pa_cons (pv 3) (pa_cons (pv 15) pa_nil)))) (pe_join pe_str (pv 14)) (nomark _))))) (pss_one (ps_ret pe_bl)) pss_nil)
      (pss_one (ps_if (pt_cmpR op_ne (pe_line (c := c) (Tb := [(Pt, qLaw)]) (k := 11) T R L rfl TB rfl (List.mem_singleton.mpr rfl) (fun p hp _ => by rw [List.mem_singleton.mp hp]; rfl) (hr.mono (by decide)) (lamS_by (by show lamSB (defScope s_law) _ = true; decide +kernel)) rfl (fun _ _ _ _ _ => rfl) (fun A2 outer2 s2 H2 E2 f2 c2 hr2 => by exact (pe_callS (ok_read_run T U R I) (hr2.mono (by decide)) rfl T.m_read_run T.F_read_run.kp (b_read_run T) (fun σ => passAt (takes_of rfl rfl rfl rfl) σ) (pa_cons (pv 2) (pa_cons (pv 3) (pa_cons (pe_joinK (K := K) rfl pe_str (pe_op op_cat (pv 14) (pe_lst (pa_cons pe_str pa_nil)))) pa_nil)))))) pe_int (nomark _)) (pss_one (ps_ret pe_bl)) pss_nil)))) pss_nil)
      (pss_one (ps_ret (pe_cmpR (op_eqD hr.units) (pe_lc (own := [("work", 18)]) rfl sc_law.nd (pi_list (pe_lst (pa_cons (pe_glob (v := .ref T.f_read_design) rfl T.m_read_design rfl) (pa_cons (pe_glob (v := .ref T.f_read_world) rfl T.m_read_world rfl) pa_nil)))) (blkOk_by (N := ["script", "row", "design", "world", "odd", "bad", "h", "events", "lines", "text", "many", "wrong", "after", "at", "full", "whole", "event", "one", "work"]) (sc := defScope s_law) (by decide +kernel)) (fun _ _ _ _ _ => (pg_name (i := 18) sc_law.nd rfl (Or.inr rfl))) (fun _ _ _ _ _ => pts_nil) (fun _ _ _ _ _ => (by exact (work_elt T U R I L TB rfl rfl rfl rfl rfl rfl rfl rfl rfl hr)))) (pe_op op_rep (pe_lst (pa_cons pe_str pa_nil)) pe_int) (nomark _)))))))))))))))))))))))))), ?_⟩
    obtain ⟨H0, x0, hs, n0⟩ := law_ground hs0
    refine ⟨_, rfl, (by show 4 ≤ sizeLine; decide), fun r nr => ?_⟩
    have R0 : RowAt K H0 a r (upd H r (.lst [.ref a, .int 0, .int 15556, .int 0])) := ⟨⟨ns, hs⟩, Evl.fresh_back x0 nr, x0.trans (Evl.Ex.new nr), _, upd_same, _, _, _, rfl, by decide, by decide, by decide⟩
    have T0 : Tabs [(Pt, qLaw)] (upd H r (.lst [.ref a, .int 0, .int 15556, .int 0])) := fun p hp => by
      rw [List.mem_singleton.mp hp]
      exact TabS.nil (Evl.Ex.new nr _ _ hPt)
    generalize upd H r (.lst [.ref a, .int 0, .int 15556, .int 0]) = H1 at R0 T0
    refine ⟨_, rfl, ?_⟩
    refine triple_i R0 fun d H2 x1 y1 z1 c1 c2 c3 R2 K2 nd hd => ?_
    refine ⟨_, rfl, ?_⟩
    refine triple_i R2 fun w' H3 x2 y2 z2 c4 c5 c6 R3 K3 nw hw => ?_
    have hd3 := K3 _ _ hd (R2.ne_tup hd)
    have T3 := tabs_keepR (tabs_keepR T0 R0 K2) R2 K3
    generalize ec : (⟨x1, y1, z1, x2, y2, z2⟩ : Conf) = cf
    have O : cf.Ok := by
      subst ec
      exact ⟨c1, c2, c3, c4, c5, c6⟩
    have hd3 : H3 d = some (dT cf) := by subst ec; exact hd3
    have hw3 : H3 w' = some (wT cf) := by subst ec; exact hw
    clear ec c1 c2 c3 c4 c5 c6 hd hw
    refine ⟨(by show 2 ≤ sizeLine; decide), fun t nt => ?_⟩
    refine ⟨t, _, rfl, SqT.of upd_same, rfl, _, _, rfl, _, _, rfl, rfl, ?_⟩
    have e4 := Evl.Ex.new (o := .tup [.ref d, .ref w']) nt
    have R4 := R3.ex' e4
    have T4 := Tabs.ext T3 e4
    have hd4 := e4 _ _ hd3
    have hw4 := e4 _ _ hw3
    generalize upd H3 t (.tup [.ref d, .ref w']) = H4 at e4 R4 T4 hd4 hw4
    clear hd3 hw3 T3 R3 K3 R2 K2 T0 R0 nd nw nt e4
    have md := d3_in O
    have mw := w3_in O
    show tSeq _ _ _ [some (.ref a), some (.ref r), some (.ref d), some (.ref w'), none, none, none, none, none, none, none, none, none, none, none, none, none, none, none] H4
    -- a design's text
    refine ⟨fun σ' H' => σ' = [some (.ref a), some (.ref r), some (.ref d), some (.ref w'), none, none, none, none, none, none, none, none, none, none, none, none, none, none, none] ∧ Evl.Ex H4 H', ?_, ?_⟩
    · refine ⟨_, rfl, ?_⟩
      refine wr_i hd4 O ?_
      refine ⟨⟨_, rfl⟩, _, rfl, _, d, [cf.path, cf.guard, cf.flight], rfl, rfl, .inr (SqT.of hd4), len3 (sm_d _ md), ?_⟩
      refine ⟨rfl, _, rfl, ?_⟩
      rw [decide_eq_true (show V.str (textT cf.d3) = V.str (Txt.join ", " [cf.path, cf.guard, cf.flight]) from rfl)]
      refine iteF ?_
      refine ⟨⟨_, rfl⟩, _, rfl, _, d, [cf.path, cf.guard, cf.flight], rfl, rfl, .inr (SqT.of hd4), len3 (sm_d _ md), ?_⟩
      refine rd_i (v := .str (textT cf.d3)) (rdC_in (t := cf.d3) text_d nd_d md fun b H5 e5 hb => ?_)
      refine ⟨_, rfl, ?_⟩
      have z := tD_ok _ (.inl md)
      refine ne_d (K := K) (tD_dp hb) (tD_dp (t := cf.d3) (e5 _ _ hd4)) z.1 z.1 z.2 ⟨_, rfl, ?_⟩
      exact iteF ⟨rfl, e5⟩
    · rintro σ5 H5 ⟨rfl, e5⟩
      have R5 := R4.ex' e5
      have T5 := Tabs.ext T4 e5
      have hd5 := e5 _ _ hd4
      have hw5 := e5 _ _ hw4
      clear R4 T4 hd4 hw4 e5
      -- a world's text
      refine ⟨fun σ' H' => σ' = [some (.ref a), some (.ref r), some (.ref d), some (.ref w'), none, none, none, none, none, none, none, none, none, none, none, none, none, none, none] ∧ Evl.Ex H5 H', ?_, ?_⟩
      · refine ⟨_, rfl, ?_⟩
        refine wr_i hw5 O ?_
        refine ⟨⟨_, rfl⟩, _, rfl, _, w', [cf.source, cf.evict, cf.stop], rfl, rfl, .inr (SqT.of hw5), len3 (sm_w _ mw), ?_⟩
        refine ⟨rfl, _, rfl, ?_⟩
        rw [decide_eq_true (show V.str (textT cf.w3) = V.str (Txt.join ", " [cf.source, cf.evict, cf.stop]) from rfl)]
        refine iteF ?_
        refine ⟨⟨_, rfl⟩, _, rfl, _, w', [cf.source, cf.evict, cf.stop], rfl, rfl, .inr (SqT.of hw5), len3 (sm_w _ mw), ?_⟩
        refine rd_i (v := .str (textT cf.w3)) (rdC_in (t := cf.w3) text_w nd_w mw fun b H6 e6 hb => ?_)
        refine ⟨_, rfl, ?_⟩
        have z := tD_ok _ (.inr mw)
        refine ne_d (K := K) (tD_dp hb) (tD_dp (t := cf.w3) (e6 _ _ hw5)) z.1 z.1 z.2 ⟨_, rfl, ?_⟩
        exact iteF ⟨rfl, e6⟩
      · rintro σ6 H6 ⟨rfl, e6⟩
        have R6 := R5.ex' e6
        have T6 := Tabs.ext T5 e6
        have hd6 := e6 _ _ hd5
        have hw6 := e6 _ _ hw5
        clear R5 T5 hd5 hw5 e6
        -- the odd texts
        refine ⟨(by show 7 ≤ sizeLine; decide), fun l1 n1 => ?_⟩
        have f1 := Evl.Ex.new (o := .lst [.str "", .str "store", .str "store drop,token, alone", .str "store drop, token, alone ", .str "Store drop, token, alone", .str "token, store drop, alone", .str "store drop, token"]) n1
        have hl1 : (upd H6 l1 (.lst [.str "", .str "store", .str "store drop,token, alone", .str "store drop, token, alone ", .str "Store drop, token, alone", .str "token, store drop, alone", .str "store drop, token"])) l1 = some (.lst [.str "", .str "store", .str "store drop,token, alone", .str "store drop, token, alone ", .str "Store drop, token, alone", .str "token, store drop, alone", .str "store drop, token"]) := upd_same
        generalize upd H6 l1 (.lst [.str "", .str "store", .str "store drop,token, alone", .str "store drop, token, alone ", .str "Store drop, token, alone", .str "token, store drop, alone", .str "store drop, token"]) = H7 at f1 hl1
        refine ⟨_, rfl, (by show 4 ≤ sizeLine; decide), fun l2 n2 => ?_⟩
        have f2 := Evl.Ex.new (o := .lst [.str "store  drop, token, alone", .str "store drop, token, alone, alone", .str "primary, keeps, stops", .str "drop, token, alone"]) n2
        have hl2 : (upd H7 l2 (.lst [.str "store  drop, token, alone", .str "store drop, token, alone, alone", .str "primary, keeps, stops", .str "drop, token, alone"])) l2 = some (.lst [.str "store  drop, token, alone", .str "store drop, token, alone, alone", .str "primary, keeps, stops", .str "drop, token, alone"]) := upd_same
        generalize upd H7 l2 (.lst [.str "store  drop, token, alone", .str "store drop, token, alone, alone", .str "primary, keeps, stops", .str "drop, token, alone"]) = H8 at f2 hl2
        refine ⟨l1, l2, _, _, rfl, rfl, f2 _ _ hl1, hl2, (by show 11 ≤ sizeLine; decide), fun l3 n3 => ?_⟩
        have f3 := Evl.Ex.new (o := .lst (oddL.map V.str)) n3
        have hl3 : (upd H8 l3 (.lst (oddL.map V.str))) l3 = some (.lst (oddL.map V.str)) := upd_same
        have f13 := (f1.trans f2).trans f3
        have R9 := R6.ex' f13
        have n3r : l3 ≠ r := (R6.ex' (f1.trans f2)).ne n3
        show tSeq _ _ _ [some (.ref a), some (.ref r), some (.ref d), some (.ref w'), some (.ref l3), none, none, none, none, none, none, none, none, none, none, none, none, none, none] (upd H8 l3 (.lst (oddL.map V.str)))
        have T9 := Tabs.ext T6 f13
        have hd9 := f13 _ _ hd6
        have hw9 := f13 _ _ hw6
        generalize upd H8 l3 (.lst (oddL.map V.str)) = H9 at R9 T9 hd9 hw9 hl3
        clear f1 hl1 n1 f2 hl2 n2 f3 f13 R6 T6 hd6 hw6
        refine ⟨_, rfl, _, rfl, ?_⟩
        refine pick_i (oddL.map V.str) R9 hl3 n3r (by decide) (by show 11 ≤ 1000; decide) fun x H10 mx R10 K10 => ?_
        obtain ⟨s0, rfl, hs0'⟩ := odd_mem mx
        have T10 := tabs_keepR T9 R9 K10
        have hd10 := K10.tup R9 hd9
        have hw10 := K10.tup R9 hw9
        clear mx K10 R9 T9 hd9 hw9 hl3 n3 n3r
        show Evl.tCut _ _ _ [some (.ref a), some (.ref r), some (.ref d), some (.ref w'), some (.ref l3), some (.str s0), none, none, none, none, none, none, none, none, none, none, none, none, none] H10
        -- two lambdas
        refine ⟨fun σ' H' => σ' = [some (.ref a), some (.ref r), some (.ref d), some (.ref w'), some (.ref l3), some (.str s0), none, none, none, none, none, none, none, none, none, none, none, none, none] ∧ RowAt K H0 a r H' ∧ Tabs [(Pt, qLaw)] H' ∧ H' d = some (dT cf) ∧ H' w' = some (wT cf), ?_, ?_⟩
        · refine ⟨T10, fun H11 e11 T11 => ?_⟩
          have R11 := R10.extn n0 e11
          have hd11 := e11 _ _ hd10 (fun ps z => by cases z)
          have hw11 := e11 _ _ hw10 (fun ps z => by cases z)
          unfold TTline
          refine ⟨_, rfl, ?_⟩
          refine rd_i (v := .str s0) (.bad s0 hs0' fun dd H12 e12 hdd => .inl ⟨dd, 1, rfl, rfl, hdd, fun H13 e13 => ?_⟩)
          have e := e12.trans e13
          have R13 := R11.ex' e
          have T13 := Tabs.ext T11 e
          have hd13 := e _ _ hd11
          have hw13 := e _ _ hw11
          refine ⟨T13, fun t0 H14 e14 T14 ht0 => ?_⟩
          have R14 := R13.extn n0 e14
          have hd14 := e14 _ _ hd13 (fun ps z => by cases z)
          have hw14 := e14 _ _ hw13 (fun ps z => by cases z)
          refine ⟨ht0, ?_⟩
          refine ⟨⟨_, rfl⟩, _, rfl, w', _, _, _, rfl, SqT.of hw14, fun p np => ?_⟩
          refine ⟨_, p, [cf.stop, cf.evict, cf.source], rfl, rfl, .inr (SqT.of upd_same), len3 (t := (cf.stop, cf.evict, cf.source)) ⟨(sm_w _ mw).c, (sm_w _ mw).b, (sm_w _ mw).a⟩, ?_⟩
          have e15 := Evl.Ex.new (o := .tup [.str cf.stop, .str cf.evict, .str cf.source]) np
          have R15 := R14.ex' e15
          have T15 := Tabs.ext T14 e15
          have hd15 := e15 _ _ hd14
          have hw15 := e15 _ _ hw14
          show spRd R.e_NotText.C CI worlds3 [.str (textT (cf.stop, cf.evict, cf.source))] (upd H14 p (.tup [.str cf.stop, .str cf.evict, .str cf.source])) _ _
          generalize upd H14 p (.tup [.str cf.stop, .str cf.evict, .str cf.source]) = H15 at R15 T15 hd15 hw15
          clear e15
          refine rd_i (v := .str (textT (cf.stop, cf.evict, cf.source))) (.bad _ (fun u hu => rev_w cf.w3 mw u hu) fun dd H16 e16 hdd => .inl ⟨dd, 1, rfl, rfl, hdd, fun H17 e17 => ?_⟩)
          have e := e16.trans e17
          refine ⟨(by show 2 ≤ sizeLine; decide), fun lp nlp => ?_⟩
          refine ⟨(by show 2 ≤ sizeLine; decide), fun lq nlq => ?_⟩
          have e18 := Evl.Ex.new (o := .lst [.int 1, .int 1]) nlp
          have e19 := Evl.Ex.new (o := .lst [.int 1, .int 1]) nlq
          have z := ones_ok
          refine ne_d (K := K) (.lst (SqL.of (e19 _ _ upd_same)) (.cons (.int 1) (.cons (.int 1) .nil))) (.lst (SqL.of upd_same) (.cons (.int 1) (.cons (.int 1) .nil))) z.1 z.1 z.2 ⟨_, rfl, ?_⟩
          have e2 := (e.trans e18).trans e19
          exact iteF ⟨rfl, R15.ex' e2, Tabs.ext T15 e2, e2 _ _ hd15, e2 _ _ hw15⟩
        · rintro σ11 H11 ⟨rfl, R11, T11, hd11, hw11⟩
          clear R10 T10 hd10 hw10
          refine ⟨_, rfl, _, rfl, _, rfl, ?_⟩
          refine walk_i (m := 20) O R11 (by decide) hd11 hw11 fun h A st H12 rch lp L12 eqd eqw R12 K12 fp => ?_
          obtain ⟨SS, PP⟩ := reach_sim O rch
          have hd12 := K12.tup R11 hd11
          have hw12 := K12.tup R11 hw11
          have T12 := tabs_keepR T11 R11 K12
          clear K12 T11 hd11 hw11
          refine ⟨_, rfl, _, _, rfl, dget (L12.hd) rfl, _, _, rfl, .inl ⟨SqL.of L12.lp, fun ev nev => ?_⟩⟩
          have e13 := Evl.Ex.new (o := .tup (A.eas.map V.ref)) nev
          have hev : (upd H12 ev (.tup (A.eas.map V.ref))) ev = some (.tup (A.eas.map V.ref)) := upd_same
          have X13 := (past_at L12).same (same_new (o := .tup (A.eas.map V.ref)) nev)
          have L13 := L12.new (o := .tup (A.eas.map V.ref)) nev
          have R13 := R12.ex' e13
          have T13 := Tabs.ext T12 e13
          have hd13 := e13 _ _ hd12
          have hw13 := e13 _ _ hw12
          generalize upd H12 ev (.tup (A.eas.map V.ref)) = H13 at e13 hev X13 L13 R13 T13 hd13 hw13
          clear e13 nev L12 R12 T12 hd12 hw12
          have el : (A.eas.map V.ref).length = st.past.length := by rw [List.length_map, L13.el]
          have hol := (rch.wf O).2
          show Evl.tCut _ _ _ [some (.ref a), some (.ref r), some (.ref d), some (.ref w'), some (.ref l3), some (.str s0), some (.ref h), some (.ref ev), none, none, none, none, none, none, none, none, none, none, none] H13
          have sm : ∀ e ∈ st.past, SmallEv 60 e := fun e he => by
            obtain ⟨i, hi, ee⟩ := List.getElem_of_mem he
            rcases PP.small O i e (by rw [List.getElem?_eq_getElem hi, ee]) with z | z | ⟨x, k, hx, hk, z⟩
            · exact .inl z
            · exact .inr (.inl z)
            · exact .inr (.inr ⟨x, k, hx, by omega, z⟩)
          -- the lines
          refine ⟨fun σ' H' => ∃ ll, σ' = [some (.ref a), some (.ref r), some (.ref d), some (.ref w'), some (.ref l3), some (.str s0), some (.ref h), some (.ref ev), some (.ref ll), none, none, none, none, none, none, none, none, none, none] ∧ Evl.Ex H13 H' ∧ H' ll = some (.lst ((st.past.map textOf).map V.str)), ?_, ?_⟩
          · refine ⟨_, rfl, ev, rfl, ⟨_, SqT.of hev⟩, fun D nD => ?_⟩
            refine lc_tup (xs := A.eas.map V.ref) (fun i H' => Evl.Ex H13 H' ∧ H' D = some (.lst (((st.past.take i).map textOf).map V.str))) ⟨Evl.Ex.new nD, upd_same⟩ (fun i H' _ z => SqT.of (z.1 _ _ hev)) ?_ ?_
            · rintro i x H14 hi ⟨e14, hD⟩
              obtain ⟨e, ee, t, rfl, ht⟩ := Ca.pget X13 hi
              have sz := (sm e (List.mem_of_getElem? ee)).sizes (by omega)
              have ht14 := e14 _ _ ht
              refine ⟨rfl, ?_⟩
              simp only [tYes, reduceIte]
              refine ⟨⟨_, rfl⟩, _, rfl, t, rfl, ⟨_, SqT.of ht14⟩, fun D2 nD2 => ?_⟩
              have pl : (partsT e).length ≤ 2 := by
                unfold partsT
                cases e.2 <;> simp
              refine lc_tup (xs := evV e) (fun j H' => Evl.Ex H14 H' ∧ H' D2 = some (.lst (((partsT e).take j).map V.str))) ⟨Evl.Ex.new nD2, upd_same⟩ (fun j H' _ p => SqT.of (p.1 _ _ ht14)) ?_ ?_
              · rintro j x H15 hj ⟨e15, hD2⟩
                obtain ⟨y, ey, hy⟩ := parts_at hj
                refine ⟨rfl, ?_⟩
                simp only [tYes, reduceIte]
                have fin : ∃ acc, H15 D2 = some (.lst acc) ∧ acc.length < sizeLine ∧ (Evl.Ex H14 (upd H15 D2 (.lst (acc ++ [.str y]))) ∧ (upd H15 D2 (.lst (acc ++ [.str y]))) D2 = some (.lst (((partsT e).take (j + 1)).map V.str))) := by
                  refine ⟨_, hD2, ?_, fun b o z => sN' (show Same H14 H15 from fun b o z => e15 b o z) nD2 b o z, ?_⟩
                  · rw [List.length_map, List.length_take]
                    exact Nat.lt_of_le_of_lt (show min j (partsT e).length ≤ 2 by omega) (by decide)
                  · rw [upd_same, take_snoc ey, List.map_append]
                    rfl
                refine ⟨_, rfl, ?_⟩
                rcases hy with rfl | ⟨k, rfl, rfl, ek⟩
                · exact .inl ⟨_, rfl, fin⟩
                · exact .inr ⟨_, rfl, log_small (sz.2 k ek), fin⟩
              · rintro H15 ⟨e15, hD2⟩
                have el2 : (evV e).length = (partsT e).length := by
                  obtain ⟨wd, kk⟩ := e
                  cases kk <;> rfl
                rw [el2, List.take_length] at hD2
                refine ⟨_, D2, partsT e, rfl, rfl, .inl (SqL.of hD2), parts_len e sz.1 sz.2, ?_⟩
                show ∃ acc, H15 D = some (.lst acc) ∧ acc.length < sizeLine ∧ Evl.Ex H13 (upd H15 D (.lst (acc ++ [.str (textOf e)]))) ∧ (upd H15 D (.lst (acc ++ [.str (textOf e)]))) D = some (.lst (((st.past.take (i + 1)).map textOf).map V.str))
                refine ⟨_, e15 _ _ hD, ?_, fun b o z => sN' (show Same H13 H15 from fun b o z => e15 b o (e14 b o z)) nD b o z, ?_⟩
                · rw [List.length_map, List.length_map, List.length_take]
                  exact Nat.lt_of_le_of_lt (show min i st.past.length ≤ 60 by omega) (by decide)
                · rw [upd_same, take_snoc ee, List.map_append, List.map_append]
                  rfl
            · rintro H14 ⟨e14, hD⟩
              rw [el, List.take_length] at hD
              exact ⟨D, rfl, e14, hD⟩
          · rintro σ14 H14 ⟨ll, rfl, e14, hll⟩
            have R14 := R13.ex' e14
            have T14 := Tabs.ext T13 e14
            have hd14 := e14 _ _ hd13
            have hw14 := e14 _ _ hw13
            have hev14 := e14 _ _ hev
            have X14 := X13.same (fun b o z => e14 b o z)
            have L14 := L13.same (fun b o z => e14 b o z)
            clear e14 R13 T13 hd13 hw13 hev X13 L13
            refine ⟨⟨_, rfl⟩, _, rfl, _, ll, st.past.map textOf, rfl, rfl, .inl (SqL.of hll), lines_sum sm (by omega), ?_⟩
            show Evl.tCut _ _ _ [some (.ref a), some (.ref r), some (.ref d), some (.ref w'), some (.ref l3), some (.str s0), some (.ref h), some (.ref ev), some (.ref ll), some (.str (runT st.past)), none, none, none, none, none, none, none, none, none] H14
            have LK := lines_ok sm (by omega)
            -- the run written and read
            refine ⟨fun σ' H' => σ' = [some (.ref a), some (.ref r), some (.ref d), some (.ref w'), some (.ref l3), some (.str s0), some (.ref h), some (.ref ev), some (.ref ll), some (.str (runT st.past)), none, none, none, none, none, none, none, none, none] ∧ Evl.Ex H14 H', ?_, ?_⟩
            · refine ⟨_, rfl, _, rfl, _, rfl, ?_⟩
              refine wrrun_i hd14 hw14 O hev14 X14 PP (by omega) fun H15 S15 => ?_
              refine ⟨_, rfl, rfl, _, rfl, ?_⟩
              rw [decide_eq_true (rfl : V.str (runT st.past) = V.str (runT st.past))]
              refine iteF ?_
              refine ⟨_, rfl, _, rfl, _, rfl, ?_⟩
              refine rdrun_i (S15 _ _ hd14) (S15 _ _ hw14) O (.ok (runT st.past) st.past LK.2 LK.1 PP (by omega) fun p xs H16 S16 hp Xp => ?_)
              refine ⟨_, rfl, ?_⟩
              have S := S15.trans S16
              refine alike_i (tup_dt hp (by rw [Xp.length]; omega) (evs_dt Xp)) (tup_dt (S _ _ hev14) (by rw [el]; omega) (evs_dt (X14.same S))) fun H17 S17 => ⟨_, rfl, ?_⟩
              exact iteF ⟨rfl, fun b o z => S17 b o (S b o z)⟩
            · rintro σ15 H15 ⟨rfl, e15⟩
              have R15 := R14.ex' e15
              have T15 := Tabs.ext T14 e15
              have hd15 := e15 _ _ hd14
              have hw15 := e15 _ _ hw14
              have hll15 := e15 _ _ hll
              have L15 := L14.same (fun b o z => e15 b o z)
              clear e15 R14 T14 hd14 hw14 hll L14 X14 hev14
              refine ⟨_, rfl, _, _, rfl, dget (L15.hd) rfl, _, _, rfl, .inl (SqL.of L15.lo), ?_⟩
              have en : ((A.oas.map V.ref).length : Int) = ((st.ops.length : Nat) : Int) := by rw [List.length_map, L15.ol]
              rw [en]
              show tSeq _ _ _ [some (.ref a), some (.ref r), some (.ref d), some (.ref w'), some (.ref l3), some (.str s0), some (.ref h), some (.ref ev), some (.ref ll), some (.str (runT st.past)), some (.int ((st.ops.length : Nat) : Int)), none, none, none, none, none, none, none, none] H15
              have nn : st.ops.length ≤ 60 := by omega
              generalize hN : st.ops.length = N at nn
              have g1 : N < 101 := by omega
              have g2 : N + 1 < 101 := by omega
              have W0 := (rch.wf O).1
              have elp : (runS cf st.past).ops.length = st.ops.length := SS.rel.ops.len.symm
              have pm0 := ev_perm O W0 SS.rel SS.nl
              have llr : ll ≠ r := fun z => by
                obtain ⟨o, e, i, x, y, eo, _⟩ := R15.at_
                rw [z, e, eo] at hll15
                exact row_ne hll15
              -- the wrong lines
              refine ⟨_, rfl, _, _, rfl, rfl, ?_⟩
              refine .inr ⟨_, rfl, (by show ((N + 1 : Nat) : Int).natAbs.log2 < 1920; exact num_log g2), _, _, rfl, rfl, (by show ("look " : Str).length + (numS (N + 1)).length ≤ sizeLine; exact add_small (by decide +kernel) g2), ?_⟩
              refine ⟨_, rfl, .inr ⟨_, rfl, num_log g1, _, _, rfl, rfl, add_small (n := N) (by decide +kernel) g1, ?_⟩⟩
              refine ⟨_, rfl, .inr ⟨_, rfl, num_log g1, _, _, rfl, rfl, add_small (n := N) (by decide +kernel) g1, ?_⟩⟩
              refine ⟨_, rfl, .inr ⟨_, rfl, num_log g1, _, _, rfl, rfl, add_small (n := N) (by decide +kernel) g1, ?_⟩⟩
              refine ⟨_, rfl, .inr ⟨_, rfl, num_log g1, _, _, rfl, rfl, add_small (n := N) (by decide +kernel) g1, ?_⟩⟩
              refine ⟨(by show 12 ≤ sizeLine; decide), fun lw nw => ?_⟩
              have e16 := Evl.Ex.new (o := .lst ((wrongL N).map V.str)) nw
              have hlw : (upd H15 lw (.lst ((wrongL N).map V.str))) lw = some (.lst ((wrongL N).map V.str)) := upd_same
              have R16 := R15.ex' e16
              have T16 := Tabs.ext T15 e16
              have nwr : lw ≠ r := R15.ne nw
              have hd16 := e16 _ _ hd15
              have hw16 := e16 _ _ hw15
              have hll16 := e16 _ _ hll15
              show Evl.tCut _ _ _ [some (.ref a), some (.ref r), some (.ref d), some (.ref w'), some (.ref l3), some (.str s0), some (.ref h), some (.ref ev), some (.ref ll), some (.str (runT st.past)), some (.int (N : Int)), some (.ref lw), none, none, none, none, none, none, none] (upd H15 lw (.lst ((wrongL N).map V.str)))
              generalize upd H15 lw (.lst ((wrongL N).map V.str)) = H16 at e16 hlw R16 T16 hd16 hw16 hll16
              clear e16 R15 T15 hd15 hw15 hll15 L15 nw
              -- a wrong line behind
              refine ⟨fun σ' H' => ∃ x0, x0 ∈ wrongL N ∧ σ' = [some (.ref a), some (.ref r), some (.ref d), some (.ref w'), some (.ref l3), some (.str s0), some (.ref h), some (.ref ev), some (.ref ll), some (.str (runT st.past)), some (.int (N : Int)), some (.ref lw), some (.str (Txt.join "\n" (st.past.map textOf ++ [x0, "look " ++ numS N]))), none, none, none, none, none, none] ∧ RowAt K H0 a r H' ∧ Tabs [(Pt, qLaw)] H' ∧ H' d = some (dT cf) ∧ H' w' = some (wT cf) ∧ H' ll = some (.lst ((st.past.map textOf).map V.str)), ?_, ?_⟩
              · refine ⟨⟨_, rfl⟩, _, rfl, _, rfl, _, rfl, ?_⟩
                refine pick_i ((wrongL N).map V.str) R16 hlw nwr (by simp [wrongL]) (by show 12 ≤ 1000; decide) fun x H17 mx R17 K17 => ?_
                obtain ⟨x0, hx0, rfl⟩ := List.mem_map.mp mx
                have T17 := tabs_keepR T16 R16 K17
                have hd17 := K17.tup R16 hd16
                have hw17 := K17.tup R16 hw16
                have hll17 := keep_lst R16 K17 hll16 (fun z => llr z)
                refine ⟨_, rfl, .inr ⟨_, rfl, num_log g1, _, _, rfl, rfl, add_small (n := N) (by decide +kernel) g1, ?_⟩⟩
                refine ⟨(by show 2 ≤ sizeLine; decide), fun l5 n5 => ?_⟩
                have e18 := Evl.Ex.new (o := .lst [.str x0, .str ("look " ++ numS N)]) n5
                refine ⟨ll, l5, _, _, rfl, rfl, e18 _ _ hll17, upd_same, ?_, fun l6 n6 => ?_⟩
                · rw [List.length_map, List.length_map]
                  exact Nat.le_trans (show st.past.length + 2 ≤ 100 by omega) (by decide)
                have e19 := Evl.Ex.new (o := .lst ((st.past.map textOf).map V.str ++ [.str x0, .str ("look " ++ numS N)])) n6
                have ws := wrong_small nn x0 hx0
                have WL := after_ok sm (by omega) ws nn
                refine ⟨_, l6, st.past.map textOf ++ [x0, "look " ++ numS N], rfl, rfl, .inl (SqL.of (by rw [List.map_append]; exact upd_same)), WL.2.2, ?_⟩
                have e := e18.trans e19
                exact ⟨x0, hx0, rfl, R17.ex' e, Tabs.ext T17 e, e _ _ hd17, e _ _ hw17, e _ _ hll17⟩
              · rintro σ17 H17 ⟨x0, hx0, rfl, R17, T17, hd17, hw17, hll17⟩
                clear R16 T16 hd16 hw16 hll16 hlw nwr
                have ws := wrong_small nn x0 hx0
                have WL := after_ok sm (by omega) ws nn
                refine ⟨fun σ' H' => σ' = [some (.ref a), some (.ref r), some (.ref d), some (.ref w'), some (.ref l3), some (.str s0), some (.ref h), some (.ref ev), some (.ref ll), some (.str (runT st.past)), some (.int (N : Int)), some (.ref lw), some (.str (Txt.join "\n" (st.past.map textOf ++ [x0, "look " ++ numS N]))), none, none, none, none, none, none] ∧ RowAt K H0 a r H' ∧ Tabs [(Pt, qLaw)] H' ∧ H' d = some (dT cf) ∧ H' w' = some (wT cf) ∧ H' ll = some (.lst ((st.past.map textOf).map V.str)), ?_, ?_⟩
                · refine ⟨T17, fun H18 e18 T18 => ?_⟩
                  have R18 := R17.extn n0 e18
                  have hd18 := e18 _ _ hd17 (fun ps z => by cases z)
                  have hw18 := e18 _ _ hw17 (fun ps z => by cases z)
                  have hll18 := e18 _ _ hll17 (fun ps z => by cases z)
                  unfold TTline
                  refine ⟨_, rfl, _, rfl, _, rfl, ?_⟩
                  have wno := wrong_no O W0 (runS_opsok O st.past) elp pm0 (by rw [hN]; exact nn) (by rw [hN]; exact hx0)
                  refine rdrun_i hd18 hw18 O (.bad _ st.past x0 ["look " ++ numS N] WL.2.1 WL.1 PP (by omega) (.inr wno) fun dd H19 S19 hdd => .inl ⟨dd, _, rfl, rfl, hdd, fun H20 e20 => ?_⟩)
                  have e : Evl.Ex H18 H20 := fun b o z => e20 b o (S19 b o z)
                  refine ⟨_, rfl, _, _, rfl, .inl (SqL.of (e _ _ hll18)), _, _, rfl, rfl, ?_⟩
                  refine ⟨rfl, _, rfl, ?_⟩
                  rw [decide_eq_true (show V.int ((st.past.length + 1 : Nat) : Int) = V.int ((((st.past.map textOf).map V.str).length : Int) + 1) by rw [List.length_map, List.length_map]; rfl)]
                  exact iteF ⟨rfl, R18.ex' e, Tabs.ext T18 e, e _ _ hd18, e _ _ hw18, e _ _ hll18⟩
                · rintro σ18 H18 ⟨rfl, R18, T18, hd18, hw18, hll18⟩
                  clear R17 T17 hd17 hw17 hll17
                  refine ⟨_, rfl, _, rfl, _, _, rfl, .inl (SqL.of hll18), _, _, rfl, rfl, ?_⟩
                  refine taken_i R18 (by rw [List.length_map, List.length_map]; omega) (by rw [List.length_map, List.length_map]; omega) fun k H19 k0 k1 R19 K19 _ => ?_
                  obtain ⟨n, rfl⟩ : ∃ n : Nat, k = (n : Int) := ⟨k.toNat, by omega⟩
                  have n1' : n ≤ st.past.length := by
                    rw [List.length_map, List.length_map] at k1
                    omega
                  have T19 := tabs_keepR T18 R18 K19
                  have hd19 := K19.tup R18 hd18
                  have hw19 := K19.tup R18 hw18
                  have hll19 := keep_lst R18 K19 hll18 (fun z => llr z)
                  clear K19 R18 T18 hd18 hw18 hll18 k0 k1
                  show Evl.tCut _ _ _ [some (.ref a), some (.ref r), some (.ref d), some (.ref w'), some (.ref l3), some (.str s0), some (.ref h), some (.ref ev), some (.ref ll), some (.str (runT st.past)), some (.int (N : Int)), some (.ref lw), some (.str (Txt.join "\n" (st.past.map textOf ++ [x0, "look " ++ numS N]))), some (.int (n : Int)), none, none, none, none, none] H19
                  refine ⟨fun σ' H' => σ' = [some (.ref a), some (.ref r), some (.ref d), some (.ref w'), some (.ref l3), some (.str s0), some (.ref h), some (.ref ev), some (.ref ll), some (.str (runT st.past)), some (.int (N : Int)), some (.ref lw), some (.str (Txt.join "\n" (st.past.map textOf ++ [x0, "look " ++ numS N]))), some (.int (n : Int)), none, none, none, none, none] ∧ RowAt K H0 a r H' ∧ Tabs [(Pt, qLaw)] H' ∧ H' d = some (dT cf) ∧ H' w' = some (wT cf) ∧ H' ll = some (.lst ((st.past.map textOf).map V.str)), ?_, ?_⟩
                  · refine ⟨T19, fun H20 e20 T20 => ?_⟩
                    have R20 := R19.extn n0 e20
                    have hd20 := e20 _ _ hd19 (fun ps z => by cases z)
                    have hw20 := e20 _ _ hw19 (fun ps z => by cases z)
                    have hll20 := e20 _ _ hll19 (fun ps z => by cases z)
                    unfold TTline
                    refine ⟨_, rfl, _, rfl, ?_⟩
                    refine ⟨⟨_, rfl⟩, _, rfl, ?_⟩
                    refine ⟨_, rfl, n, rfl, ll, _, rfl, SqL.of hll20, fun p1 np1 => ?_⟩
                    have nl' : n ≤ ((st.past.map textOf).map V.str).length := by rw [List.length_map, List.length_map]; exact n1'
                    rw [cut_take nl']
                    have f1 := Evl.Ex.new (o := .lst (((st.past.map textOf).map V.str).take n)) np1
                    have h1 : (upd H20 p1 (.lst (((st.past.map textOf).map V.str).take n))) p1 = some (.lst (((st.past.map textOf).map V.str).take n)) := upd_same
                    generalize upd H20 p1 (.lst (((st.past.map textOf).map V.str).take n)) = H21 at f1 h1
                    refine ⟨(by show 1 ≤ sizeLine; decide), fun p2 np2 => ?_⟩
                    have f2 := Evl.Ex.new (o := .lst [.str "hum"]) np2
                    have h2 : (upd H21 p2 (.lst [.str "hum"])) p2 = some (.lst [.str "hum"]) := upd_same
                    generalize upd H21 p2 (.lst [.str "hum"]) = H22 at f2 h2
                    refine ⟨p1, p2, _, _, rfl, rfl, f2 _ _ h1, h2, ?_, fun p3 np3 => ?_⟩
                    · rw [List.length_take, List.length_map, List.length_map]
                      exact Nat.le_trans (show min n st.past.length + 1 ≤ 100 by omega) (by decide)
                    have f3 := Evl.Ex.new (o := .lst (((st.past.map textOf).map V.str).take n ++ [.str "hum"])) np3
                    have h3 : (upd H22 p3 (.lst (((st.past.map textOf).map V.str).take n ++ [.str "hum"]))) p3 = some (.lst (((st.past.map textOf).map V.str).take n ++ [.str "hum"])) := upd_same
                    generalize upd H22 p3 (.lst (((st.past.map textOf).map V.str).take n ++ [.str "hum"])) = H23 at f3 h3
                    have f := (f1.trans f2).trans f3
                    refine ⟨_, rfl, _, rfl, n, rfl, ll, _, rfl, SqL.of (f _ _ hll20), fun p4 np4 => ?_⟩
                    rw [cut_drop nl']
                    have f4 := Evl.Ex.new (o := .lst (((st.past.map textOf).map V.str).drop n)) np4
                    have h4 : (upd H23 p4 (.lst (((st.past.map textOf).map V.str).drop n))) p4 = some (.lst (((st.past.map textOf).map V.str).drop n)) := upd_same
                    generalize upd H23 p4 (.lst (((st.past.map textOf).map V.str).drop n)) = H24 at f4 h4
                    refine ⟨p3, p4, _, _, rfl, rfl, f4 _ _ h3, h4, ?_, fun p5 np5 => ?_⟩
                    · rw [List.length_append, List.length_take, List.length_drop, List.length_map, List.length_map]
                      exact Nat.le_trans (show min n st.past.length + 1 + (st.past.length - n) ≤ 100 by omega) (by decide)
                    have f5 := Evl.Ex.new (o := .lst (((st.past.map textOf).map V.str).take n ++ [.str "hum"] ++ ((st.past.map textOf).map V.str).drop n)) np5
                    have HL := hum_ok sm (by omega) n
                    refine ⟨_, p5, (st.past.take n).map textOf ++ ("hum" : Str) :: (st.past.map textOf).drop n, rfl, rfl, .inl (SqL.of ?_), HL.2.2, ?_⟩
                    · rw [upd_same, List.map_append, List.map_cons, List.map_drop, List.append_assoc, List.singleton_append, List.map_take, List.map_take]
                    have ff := (f.trans f4).trans f5
                    generalize upd H24 p5 (.lst (((st.past.map textOf).map V.str).take n ++ [.str "hum"] ++ ((st.past.map textOf).map V.str).drop n)) = H25 at f5 ff
                    have tl : (st.past.take n).length = n := by rw [List.length_take]; omega
                    refine rdrun_i (ff _ _ hd20) (ff _ _ hw20) O (.bad _ (st.past.take n) "hum" ((st.past.map textOf).drop n) HL.2.1 HL.1 (PP.take n) (by omega) (.inr fun g hg => hum_not g (ev_small O (runS_opsok O _) hg)) fun dd H26 S26 hdd => .inl ⟨dd, _, rfl, rfl, hdd, fun H27 e27 => ?_⟩)
                    have e : Evl.Ex H20 H27 := fun b o z => e27 b o (S26 b o (ff b o z))
                    refine ⟨_, rfl, _, _, rfl, rfl, ?_⟩
                    refine ⟨rfl, _, rfl, ?_⟩
                    rw [decide_eq_true (show V.int (((st.past.take n).length + 1 : Nat) : Int) = V.int ((n : Int) + 1) by rw [tl]; rfl)]
                    exact iteF ⟨rfl, R20.ex' e, Tabs.ext T20 e, e _ _ hd20, e _ _ hw20, e _ _ hll20⟩
                  · rintro σ20 H20 ⟨rfl, R20, T20, hd20, hw20, hll20⟩
                    clear R19 T19 hd19 hw19 hll19
                    clear hll20
                    refine ⟨fun σ' H' => σ' = [some (.ref a), some (.ref r), some (.ref d), some (.ref w'), some (.ref l3), some (.str s0), some (.ref h), some (.ref ev), some (.ref ll), some (.str (runT st.past)), some (.int (N : Int)), some (.ref lw), some (.str (Txt.join "\n" (st.past.map textOf ++ [x0, "look " ++ numS N]))), some (.int (n : Int)), none, none, none, none, none] ∧ RowAt K H0 a r H' ∧ Tabs [(Pt, qLaw)] H' ∧ H' d = some (dT cf) ∧ H' w' = some (wT cf), ?_, ?_⟩
                    · refine ⟨T20, fun H21 e21 T21 => ?_⟩
                      have R21 := R20.extn n0 e21
                      have hd21 := e21 _ _ hd20 (fun ps z => by cases z)
                      have hw21 := e21 _ _ hw20 (fun ps z => by cases z)
                      unfold TTline
                      refine ⟨_, rfl, _, rfl, ?_⟩
                      refine rdrun_i hd21 hw21 O (.no (.int 5) (.inr ⟨rfl, rfl, fun H22 e22 => ?_⟩))
                      refine ⟨rfl, _, rfl, ?_⟩
                      rw [decide_eq_true (rfl : V.str "text" = V.str "text")]
                      exact iteF ⟨rfl, R21.ex' e22, Tabs.ext T21 e22, e22 _ _ hd21, e22 _ _ hw21⟩
                    · rintro σ22 H22 ⟨rfl, R22, T22, hd22, hw22⟩
                      clear R20 T20 hd20 hw20
                      -- sixty looks
                      refine ⟨fun σ' H' => ∃ lf, σ' = [some (.ref a), some (.ref r), some (.ref d), some (.ref w'), some (.ref l3), some (.str s0), some (.ref h), some (.ref ev), some (.ref ll), some (.str (runT st.past)), some (.int (N : Int)), some (.ref lw), some (.str (Txt.join "\n" (st.past.map textOf ++ [x0, "look " ++ numS N]))), some (.int (n : Int)), some (.ref lf), none, none, none, none] ∧ Evl.Ex H22 H' ∧ H' lf = some (.lst (((looks 60).map textOf).map V.str)), ?_, ?_⟩
                      · refine ⟨60, rfl, by decide, by decide, fun D nD => ?_⟩
                        refine lc_range (lo := 0) (n := 60) (fun i H' => Evl.Ex H22 H' ∧ H' D = some (.lst (((looks i).map textOf).map V.str))) ⟨Evl.Ex.new nD, upd_same⟩ ?_ ?_
                        · rintro i H23 hi ⟨e23, hD⟩
                          refine ⟨rfl, ?_⟩
                          simp only [tYes, reduceIte]
                          rw [Int.zero_add]
                          have gi : i < 101 := by omega
                          refine ⟨_, rfl, .inr ⟨_, rfl, num_log gi, _, _, rfl, rfl, add_small (n := i) (by decide +kernel) gi, ?_⟩⟩
                          refine ⟨_, hD, ?_, fun b o z => sN' (show Same H22 H23 from fun b o z => e23 b o z) nD b o z, ?_⟩
                          · rw [List.length_map, List.length_map, looks_len]
                            exact Nat.lt_of_le_of_lt (show i ≤ 60 by omega) (by decide)
                          · rw [upd_same]
                            have z := look_text i
                            show some (HO.lst (((looks i).map textOf).map V.str ++ [.str ("look " ++ numS i)])) = some (.lst (((looks i ++ [(("look" : Str), some (i : Int))]).map textOf).map V.str))
                            rw [z, List.map_append, List.map_append]
                            rfl
                        · rintro H23 ⟨e23, hD⟩
                          exact ⟨D, rfl, e23, hD⟩
                      · rintro σ23 H23 ⟨lf, rfl, e23, hlf⟩
                        have R23 := R22.ex' e23
                        have T23 := Tabs.ext T22 e23
                        have hd23 := e23 _ _ hd22
                        have hw23 := e23 _ _ hw22
                        clear R22 T22 hd22 hw22 e23
                        have LR := looks_run O 60
                        have LN := looks_len 60
                        have LK60 := lines_ok looks_sm (by omega)
                        have lfr : lf ≠ r := fun z => by
                          obtain ⟨o, e, i, x, y, eo, _⟩ := R23.at_
                          rw [z, e, eo] at hlf
                          exact row_ne hlf
                        refine ⟨fun σ' H' => ∃ x15, σ' = [some (.ref a), some (.ref r), some (.ref d), some (.ref w'), some (.ref l3), some (.str s0), some (.ref h), some (.ref ev), some (.ref ll), some (.str (runT st.past)), some (.int (N : Int)), some (.ref lw), some (.str (Txt.join "\n" (st.past.map textOf ++ [x0, "look " ++ numS N]))), some (.int (n : Int)), some (.ref lf), x15, none, none, none] ∧ RowAt K H0 a r H' ∧ Tabs [(Pt, qLaw)] H' ∧ H' d = some (dT cf) ∧ H' w' = some (wT cf), ?_, ?_⟩
                        · refine ⟨_, rfl, ?_⟩
                          refine taken_i R23 (by decide) (by decide) fun k H24 k0 k1 R24 K24 _ => ?_
                          have T24 := tabs_keepR T23 R23 K24
                          have hd24 := K24.tup R23 hd23
                          have hw24 := K24.tup R23 hw23
                          have hlf24 := keep_lst R23 K24 hlf lfr
                          refine ⟨rfl, _, rfl, ?_⟩
                          refine iteB (fun _ => ?_) (fun _ => ?_)
                          · refine ⟨_, rfl, _, rfl, ⟨_, rfl⟩, _, rfl, _, lf, (looks 60).map textOf, rfl, rfl, .inl (SqL.of hlf24), lines_sum looks_sm (by omega), ?_⟩
                            refine rdrun_i hd24 hw24 O (.ok (runT (looks 60)) (looks 60) LK60.2 LK60.1 LR (by omega) fun p xs H25 S25 hp Xp => ?_)
                            have e25 : Evl.Ex H24 H25 := fun b o z => S25 b o z
                            have xl : xs.length = 60 := Xp.length.trans LN
                            refine ⟨_, rfl, _, _, rfl, .inr (SqT.of hp), ?_⟩
                            refine ⟨rfl, _, rfl, ?_⟩
                            rw [decide_eq_true (show V.int (xs.length : Int) = V.int 60 by rw [xl]; rfl)]
                            refine iteF ?_
                            refine ⟨_, rfl, _, rfl, _, rfl, ?_⟩
                            refine wrrun_i (e25 _ _ hd24) (e25 _ _ hw24) O hp Xp LR (by omega) fun H26 S26 => ?_
                            have e26 : Evl.Ex H24 H26 := fun b o z => S26 b o (e25 b o z)
                            refine ⟨⟨_, rfl⟩, _, rfl, _, lf, (looks 60).map textOf, rfl, rfl, .inl (SqL.of (e26 _ _ hlf24)), lines_sum looks_sm (by omega), ?_⟩
                            refine ⟨rfl, _, rfl, ?_⟩
                            rw [decide_eq_true (show V.str (runT (looks 60)) = V.str (Txt.join "\n" ((looks 60).map textOf)) from rfl)]
                            refine iteF ?_
                            -- the sixty-first
                            refine ⟨Tabs.ext T24 e26, fun H27 e27 T27 => ?_⟩
                            have R27 := (R24.ex' e26).extn n0 e27
                            have hd27 := e27 _ _ (e26 _ _ hd24) (fun ps z => by cases z)
                            have hw27 := e27 _ _ (e26 _ _ hw24) (fun ps z => by cases z)
                            have hlf27 := e27 _ _ (e26 _ _ hlf24) (fun ps z => by cases z)
                            unfold TTline
                            refine ⟨_, rfl, _, rfl, ⟨_, rfl⟩, _, rfl, ?_⟩
                            refine ⟨(by show 1 ≤ sizeLine; decide), fun p2 np2 => ?_⟩
                            have f2 := Evl.Ex.new (o := .lst [.str "look 60"]) np2
                            refine ⟨lf, p2, _, _, rfl, rfl, f2 _ _ hlf27, upd_same, ?_, fun p3 np3 => ?_⟩
                            · rw [List.length_map, List.length_map, LN]
                              show 61 ≤ sizeLine
                              decide
                            have f3 := Evl.Ex.new (o := .lst (((looks 60).map textOf).map V.str ++ [.str "look 60"])) np3
                            have L61 := full_ok
                            refine ⟨_, p3, (looks 60).map textOf ++ (["look 60"] : List Str), rfl, rfl, .inl (SqL.of (by rw [List.map_append]; exact upd_same)), L61.2.2, ?_⟩
                            have ff := f2.trans f3
                            generalize upd (upd H27 p2 (.lst [.str "look 60"])) p3 (.lst (((looks 60).map textOf).map V.str ++ [.str "look 60"])) = H28 at f3 ff
                            refine rdrun_i (ff _ _ hd27) (ff _ _ hw27) O (.bad _ (looks 60) "look 60" [] L61.2.1 L61.1 LR (by omega) (.inl LN) fun dd H29 S29 hdd => .inl ⟨dd, _, rfl, rfl, hdd, fun H30 e30 => ?_⟩)
                            have e : Evl.Ex H27 H30 := fun b o z => e30 b o (S29 b o (ff b o z))
                            refine ⟨rfl, _, rfl, ?_⟩
                            rw [decide_eq_true (show V.int (((looks 60).length + 1 : Nat) : Int) = V.int 61 by rw [LN]; rfl)]
                            exact iteF ⟨_, rfl, R27.ex' e, Tabs.ext T27 e, e _ _ hd27, e _ _ hw27⟩
                          · exact ⟨_, rfl, R24, T24, hd24, hw24⟩
                        · rintro σ24 H24 ⟨x15, rfl, R24, T24, hd24, hw24⟩
                          clear R23 T23 hd23 hw23 hlf lfr
                          -- what is no text
                          refine ⟨(by show 2 ≤ sizeLine; decide), fun p1 np1 => ?_⟩
                          have f1 := Evl.Ex.new (o := .lst [.ref T.f_read_design, .ref T.f_read_world]) np1
                          have h1 : (upd H24 p1 (.lst [.ref T.f_read_design, .ref T.f_read_world])) p1 = some (.lst [.ref T.f_read_design, .ref T.f_read_world]) := upd_same
                          have T25 := Tabs.ext T24 f1
                          generalize upd H24 p1 (.lst [.ref T.f_read_design, .ref T.f_read_world]) = H25 at f1 h1 T25
                          refine ⟨p1, rfl, ⟨_, SqL.of h1⟩, fun D nD => ?_⟩
                          have D1 : p1 ≠ D := ne_of_none h1 nD
                          refine lc_list (xs := [.ref T.f_read_design, .ref T.f_read_world]) (fun i H' => Tabs [(Pt, qLaw)] H' ∧ H' p1 = some (.lst [.ref T.f_read_design, .ref T.f_read_world]) ∧ H' D = some (.lst (List.replicate i (.str "text")))) ⟨Tabs.ext T25 (Evl.Ex.new nD), Evl.Ex.new nD _ _ h1, upd_same⟩ (fun i H' _ z => SqL.of z.2.1) ?_ ?_
                          · rintro i x H26 hi ⟨T26, h26, hD⟩
                            have il := (List.getElem?_eq_some_iff.mp hi).1
                            have hx : ∃ f sp l, x = .ref f ∧ SW T CI R.e_NotText.C f sp ∧ sp = spRd R.e_NotText.C CI l := by
                              match i, il with
                              | 0, _ => cases hi; exact ⟨_, _, _, rfl, .d, rfl⟩
                              | 1, _ => cases hi; exact ⟨_, _, _, rfl, .w, rfl⟩
                            obtain ⟨f, sp, l, rfl, hsw, rfl⟩ := hx
                            refine ⟨rfl, ?_⟩
                            simp only [tYes, reduceIte]
                            refine ⟨T26, fun H27 e27 T27 => ?_⟩
                            have h27 := e27 _ _ h26 (fun ps z => by cases z)
                            have hD27 := e27 _ _ hD (fun ps z => by cases z)
                            unfold TTline
                            refine ⟨f, _, rfl, hsw, ?_⟩
                            refine rd_i (v := .non) (.no .non fun H28 e28 => .inr ⟨rfl, rfl, fun H29 e29 => ?_⟩)
                            have e := e28.trans e29
                            have hD29 := e _ _ hD27
                            refine ⟨_, hD29, ?_, ?_, ?_, ?_⟩
                            · rw [List.length_replicate]
                              exact Nat.lt_of_lt_of_le il (by show 2 ≤ sizeLine; decide)
                            · exact fun p hp => by
                                obtain ⟨ps, z1, z2, z3⟩ := (Tabs.ext T27 e) p hp
                                refine ⟨ps, ?_, z2, fun pos cv hc => ?_⟩
                                · rw [upd_ne (fun z => by rw [z, hD29] at z1; cases z1)]
                                  exact z1
                                · obtain ⟨c0, y1, y2⟩ := z3 pos cv hc
                                  refine ⟨c0, y1, ?_⟩
                                  rw [upd_ne (fun z => by rw [z, hD29] at y2; unfold CodeO at y2; cases y2)]
                                  exact y2
                            · rw [upd_ne D1]
                              exact e _ _ h27
                            · rw [upd_same, List.replicate_succ']
                          · rintro H26 ⟨T26, h26, hD⟩
                            refine ⟨(by show 1 ≤ sizeLine; decide), fun p2 np2 => ?_⟩
                            have f2 := Evl.Ex.new (o := .lst [.str "text"]) np2
                            refine ⟨p2, 2, _, rfl, rfl, upd_same, by decide, by decide, (by show 2 ≤ sizeLine; decide), fun p3 np3 => ?_⟩
                            have f3 := Evl.Ex.new (o := .lst (List.replicate (2 : Int).toNat [V.str "text"]).flatten) np3
                            have z := texts_ok
                            refine ⟨.list [.str "text", .str "text"], .list [.str "text", .str "text"], .lst (xs := [.str "text", .str "text"]) (SqL.of (f3 _ _ (f2 _ _ hD))) (.cons (.str _) (.cons (.str _) .nil)), .lst (xs := [.str "text", .str "text"]) (SqL.of upd_same) (.cons (.str _) (.cons (.str _) .nil)), z.1, z.1, ?_⟩
                            rw [z.2]
                            exact q _
end
end Ca

set_option Elab.async false
set_option linter.all false
set_option maxRecDepth 100000
set_option maxHeartbeats 4000000
namespace Ca
open PySem L2
/-! ### the facts of the head, piece by piece -/
def DefP (K : PySem.W.Frag) (mg : Str → Option Value) (x : Str) (st : Stmt) : Prop := ∃ f fd, Fun K x x st f fd ∧ mg x = some (.ref f)
theorem def_mk {K : PySem.W.Frag} {h : Heap} {mg : Str → Option Value} {x : Str} {st : Stmt} {f : Addr} {od an : Option Addr} {sl : Array (Option Value)} {oc kV dc pm cd ct : Value} (X : K.In h) (G : h.Ns mainGlobals mg)
    (a : PySem.W.nsIn K mainGlobals x = some (some (.ref f))) (l : K.lookup f = some ⟨oc, od, .func (PySem.W.fnOf x x (defArgs st) (defBody st) (defScope st) .none kV dc pm an cd ct), sl⟩) (c : PySem.W.codeIn K cd x = true) (k : PySem.W.keepIn K (.ref f) = true) : DefP K mg x st :=
  ⟨f, _, fun_mk (st := st) l c k, PySem.W.mg_of X G a⟩
def ConP (K : PySem.W.Frag) (mg : Str → Option Value) (x : Str) (xs : List V) : Prop := ∃ v, mg x = some (.ref v) ∧ ∀ H, SqT K H v xs
theorem con_mk {K : PySem.W.Frag} {h : Heap} {mg : Str → Option Value} {x : Str} {xs : List V} {v : Addr} {dd : Option Addr} {its : Array Value} {n : Nat} {sl : Array (Option Value)} (X : K.In h) (G : h.Ns mainGlobals mg) (a : PySem.W.nsIn K mainGlobals x = some (some (.ref v))) (l : K.lookup v = some ⟨.type "tuple", dd, .seq its n, sl⟩) (hz : its.size ≤ sizeLine) (r : Vals xs its.toList) : ConP K mg x xs :=
  ⟨v, PySem.W.mg_of X G a, fun _ => .inr ⟨_, its, n, l, rfl, rfl, hz, r⟩⟩
def IntP (mg : Str → Option Value) (x : Str) (i : Int) : Prop := ∃ tk, mg x = some (.int i tk)
theorem int_mk {K : PySem.W.Frag} {h : Heap} {mg : Str → Option Value} {x : Str} {i : Int} {tk : Tok} (X : K.In h) (G : h.Ns mainGlobals mg) (a : PySem.W.nsIn K mainGlobals x = some (some (.int i tk))) : IntP mg x i := ⟨tk, PySem.W.mg_of X G a⟩
set_option genInjectivity false in
set_option genSizeOf false in
structure OperationT (K : PySem.W.Frag) (mg : Str → Option Value) where
  C : Addr
  c_ : Cls K C
  m_ : mg "Operation" = some (.ref C)
  f_init : Addr
  fd_init : FuncData
  F_init : Fun K "__init__" "Operation.__init__" s_Operation_init f_init fd_init
  f_has_ended : Addr
  fd_has_ended : FuncData
  F_has_ended : Fun K "has_ended" "Operation.has_ended" s_Operation_has_ended f_has_ended fd_has_ended
  M_has_ended : Meth K C "has_ended" f_has_ended
  f_is_under_way : Addr
  fd_is_under_way : FuncData
  F_is_under_way : Fun K "is_under_way" "Operation.is_under_way" s_Operation_is_under_way f_is_under_way fd_is_under_way
  M_is_under_way : Meth K C "is_under_way" f_is_under_way
  f_can_step : Addr
  fd_can_step : FuncData
  F_can_step : Fun K "can_step" "Operation.can_step" s_Operation_can_step f_can_step fd_can_step
  M_can_step : Meth K C "can_step" f_can_step
  f_stage : Addr
  fd_stage : FuncData
  F_stage : Fun K "stage" "Operation.stage" s_Operation_stage f_stage fd_stage
  M_stage : Meth K C "stage" f_stage
  k_ : Mk K C f_init
  a_kind : NoAttr K C "kind"
  a_steps : NoAttr K C "steps"
  a_began : NoAttr K C "began"
  a_left : NoAttr K C "left"
  a_stopped : NoAttr K C "stopped"
  a_version : NoAttr K C "version"
  a_awaited : NoAttr K C "awaited"
  a_wipes_seen : NoAttr K C "wipes_seen"
theorem Operation_mk {K : PySem.W.Frag} {h : Heap} {mg : Str → Option Value} {C : Addr} (X : K.In h) (G : h.Ns mainGlobals mg) (aC : PySem.W.nsIn K mainGlobals "Operation" = some (some (.ref C)))
    (pg : PySem.W.plainGet K C Str.empty = true) (hd : PySem.W.hasDictIn K C = true) (po : PySem.W.plainOver K C = true) (sa : PySem.W.findIn K (.ref C) "__setattr__" = some (some (.builtin "object.__setattr__"))) (mk : PySem.W.makesIn K C = true) (kc : PySem.W.keepIn K (.ref C) = true)
    {f0 : Addr} {od0 an0 : Option Addr} {sl0 : Array (Option Value)} {oc0 kV0 dc0 pm0 cd0 ct0 : Value}
    (a0 : PySem.W.findIn K (.ref C) "__init__" = some (some (.ref f0))) (i0 : PySem.W.isFn K (.ref f0) = true) (l0 : K.lookup f0 = some ⟨oc0, od0, .func (PySem.W.fnOf "__init__" "Operation.__init__" (defArgs s_Operation_init) (defBody s_Operation_init) (defScope s_Operation_init) .none kV0 dc0 pm0 an0 cd0 ct0), sl0⟩) (c0 : PySem.W.codeIn K cd0 "Operation.__init__" = true) (k0 : PySem.W.keepIn K (.ref f0) = true)
    {f1 : Addr} {od1 an1 : Option Addr} {sl1 : Array (Option Value)} {oc1 kV1 dc1 pm1 cd1 ct1 : Value}
    (a1 : PySem.W.findIn K (.ref C) "has_ended" = some (some (.ref f1))) (i1 : PySem.W.isFn K (.ref f1) = true) (l1 : K.lookup f1 = some ⟨oc1, od1, .func (PySem.W.fnOf "has_ended" "Operation.has_ended" (defArgs s_Operation_has_ended) (defBody s_Operation_has_ended) (defScope s_Operation_has_ended) .none kV1 dc1 pm1 an1 cd1 ct1), sl1⟩) (c1 : PySem.W.codeIn K cd1 "Operation.has_ended" = true) (k1 : PySem.W.keepIn K (.ref f1) = true)
    {f2 : Addr} {od2 an2 : Option Addr} {sl2 : Array (Option Value)} {oc2 kV2 dc2 pm2 cd2 ct2 : Value}
    (a2 : PySem.W.findIn K (.ref C) "is_under_way" = some (some (.ref f2))) (i2 : PySem.W.isFn K (.ref f2) = true) (l2 : K.lookup f2 = some ⟨oc2, od2, .func (PySem.W.fnOf "is_under_way" "Operation.is_under_way" (defArgs s_Operation_is_under_way) (defBody s_Operation_is_under_way) (defScope s_Operation_is_under_way) .none kV2 dc2 pm2 an2 cd2 ct2), sl2⟩) (c2 : PySem.W.codeIn K cd2 "Operation.is_under_way" = true) (k2 : PySem.W.keepIn K (.ref f2) = true)
    {f3 : Addr} {od3 an3 : Option Addr} {sl3 : Array (Option Value)} {oc3 kV3 dc3 pm3 cd3 ct3 : Value}
    (a3 : PySem.W.findIn K (.ref C) "can_step" = some (some (.ref f3))) (i3 : PySem.W.isFn K (.ref f3) = true) (l3 : K.lookup f3 = some ⟨oc3, od3, .func (PySem.W.fnOf "can_step" "Operation.can_step" (defArgs s_Operation_can_step) (defBody s_Operation_can_step) (defScope s_Operation_can_step) .none kV3 dc3 pm3 an3 cd3 ct3), sl3⟩) (c3 : PySem.W.codeIn K cd3 "Operation.can_step" = true) (k3 : PySem.W.keepIn K (.ref f3) = true)
    {f4 : Addr} {od4 an4 : Option Addr} {sl4 : Array (Option Value)} {oc4 kV4 dc4 pm4 cd4 ct4 : Value}
    (a4 : PySem.W.findIn K (.ref C) "stage" = some (some (.ref f4))) (i4 : PySem.W.isFn K (.ref f4) = true) (l4 : K.lookup f4 = some ⟨oc4, od4, .func (PySem.W.fnOf "stage" "Operation.stage" (defArgs s_Operation_stage) (defBody s_Operation_stage) (defScope s_Operation_stage) .none kV4 dc4 pm4 an4 cd4 ct4), sl4⟩) (c4 : PySem.W.codeIn K cd4 "Operation.stage" = true) (k4 : PySem.W.keepIn K (.ref f4) = true)
    (n0 : PySem.W.findIn K (.ref C) "kind" = some none) (n1 : PySem.W.findIn K (.ref C) "steps" = some none) (n2 : PySem.W.findIn K (.ref C) "began" = some none) (n3 : PySem.W.findIn K (.ref C) "left" = some none) (n4 : PySem.W.findIn K (.ref C) "stopped" = some none) (n5 : PySem.W.findIn K (.ref C) "version" = some none) (n6 : PySem.W.findIn K (.ref C) "awaited" = some none) (n7 : PySem.W.findIn K (.ref C) "wipes_seen" = some none) : Nonempty (OperationT K mg) :=
  ⟨{ C := C, c_ := ⟨pg, hd, po, sa⟩, m_ := PySem.W.mg_of X G aC, k_ := ⟨mk, a0, i0, kc⟩, f_init := f0, fd_init := _, F_init := fun_mk (st := s_Operation_init) l0 c0 k0, f_has_ended := f1, fd_has_ended := _, F_has_ended := fun_mk (st := s_Operation_has_ended) l1 c1 k1, M_has_ended := ⟨a1, i1, k1⟩, f_is_under_way := f2, fd_is_under_way := _, F_is_under_way := fun_mk (st := s_Operation_is_under_way) l2 c2 k2, M_is_under_way := ⟨a2, i2, k2⟩, f_can_step := f3, fd_can_step := _, F_can_step := fun_mk (st := s_Operation_can_step) l3 c3 k3, M_can_step := ⟨a3, i3, k3⟩, f_stage := f4, fd_stage := _, F_stage := fun_mk (st := s_Operation_stage) l4 c4 k4, M_stage := ⟨a4, i4, k4⟩, a_kind := n0, a_steps := n1, a_began := n2, a_left := n3, a_stopped := n4, a_version := n5, a_awaited := n6, a_wipes_seen := n7 }⟩
set_option genInjectivity false in
set_option genSizeOf false in
structure PlayT (K : PySem.W.Frag) (mg : Str → Option Value) where
  C : Addr
  c_ : Cls K C
  m_ : mg "Play" = some (.ref C)
  f_init : Addr
  fd_init : FuncData
  F_init : Fun K "__init__" "Play.__init__" s_Play_init f_init fd_init
  f_can_come : Addr
  fd_can_come : FuncData
  F_can_come : Fun K "can_come" "Play.can_come" s_Play_can_come f_can_come fd_can_come
  M_can_come : Meth K C "can_come" f_can_come
  f_events : Addr
  fd_events : FuncData
  F_events : Fun K "events" "Play.events" s_Play_events f_events fd_events
  M_events : Meth K C "events" f_events
  f_do : Addr
  fd_do : FuncData
  F_do : Fun K "do" "Play.do" s_Play_do f_do fd_do
  M_do : Meth K C "do" f_do
  f_step : Addr
  fd_step : FuncData
  F_step : Fun K "step" "Play.step" s_Play_step f_step fd_step
  M_step : Meth K C "step" f_step
  f_begun : Addr
  fd_begun : FuncData
  F_begun : Fun K "begun" "Play.begun" s_Play_begun f_begun fd_begun
  M_begun : Meth K C "begun" f_begun
  f_look : Addr
  fd_look : FuncData
  F_look : Fun K "look" "Play.look" s_Play_look f_look fd_look
  M_look : Meth K C "look" f_look
  f_share : Addr
  fd_share : FuncData
  F_share : Fun K "share" "Play.share" s_Play_share f_share fd_share
  M_share : Meth K C "share" f_share
  f_fetch : Addr
  fd_fetch : FuncData
  F_fetch : Fun K "fetch" "Play.fetch" s_Play_fetch f_fetch fd_fetch
  M_fetch : Meth K C "fetch" f_fetch
  f_fill : Addr
  fd_fill : FuncData
  F_fill : Fun K "fill" "Play.fill" s_Play_fill f_fill fd_fill
  M_fill : Meth K C "fill" f_fill
  f_take : Addr
  fd_take : FuncData
  F_take : Fun K "take" "Play.take" s_Play_take f_take fd_take
  M_take : Meth K C "take" f_take
  f_store : Addr
  fd_store : FuncData
  F_store : Fun K "store" "Play.store" s_Play_store f_store fd_store
  M_store : Meth K C "store" f_store
  f_drop : Addr
  fd_drop : FuncData
  F_drop : Fun K "drop" "Play.drop" s_Play_drop f_drop fd_drop
  M_drop : Meth K C "drop" f_drop
  f_put : Addr
  fd_put : FuncData
  F_put : Fun K "put" "Play.put" s_Play_put f_put fd_put
  M_put : Meth K C "put" f_put
  f_lets_fill : Addr
  fd_lets_fill : FuncData
  F_lets_fill : Fun K "lets_fill" "Play.lets_fill" s_Play_lets_fill f_lets_fill fd_lets_fill
  M_lets_fill : Meth K C "lets_fill" f_lets_fill
  f_lets_in : Addr
  fd_lets_in : FuncData
  F_lets_in : Fun K "lets_in" "Play.lets_in" s_Play_lets_in f_lets_in fd_lets_in
  M_lets_in : Meth K C "lets_in" f_lets_in
  f_hold : Addr
  fd_hold : FuncData
  F_hold : Fun K "hold" "Play.hold" s_Play_hold f_hold fd_hold
  M_hold : Meth K C "hold" f_hold
  f_raise_mark : Addr
  fd_raise_mark : FuncData
  F_raise_mark : Fun K "raise_mark" "Play.raise_mark" s_Play_raise_mark f_raise_mark fd_raise_mark
  M_raise_mark : Meth K C "raise_mark" f_raise_mark
  k_ : Mk K C f_init
  a_design : NoAttr K C "design"
  a_world : NoAttr K C "world"
  a_path : NoAttr K C "path"
  a_guard : NoAttr K C "guard"
  a_flight : NoAttr K C "flight"
  a_source : NoAttr K C "source"
  a_evictions : NoAttr K C "evictions"
  a_stops : NoAttr K C "stops"
  a_database : NoAttr K C "database"
  a_replica : NoAttr K C "replica"
  a_cache : NoAttr K C "cache"
  a_mark : NoAttr K C "mark"
  a_operations : NoAttr K C "operations"
  a_past : NoAttr K C "past"
  a_leader : NoAttr K C "leader"
  a_wipes : NoAttr K C "wipes"
theorem Play_mk {K : PySem.W.Frag} {h : Heap} {mg : Str → Option Value} {C : Addr} (X : K.In h) (G : h.Ns mainGlobals mg) (aC : PySem.W.nsIn K mainGlobals "Play" = some (some (.ref C)))
    (pg : PySem.W.plainGet K C Str.empty = true) (hd : PySem.W.hasDictIn K C = true) (po : PySem.W.plainOver K C = true) (sa : PySem.W.findIn K (.ref C) "__setattr__" = some (some (.builtin "object.__setattr__"))) (mk : PySem.W.makesIn K C = true) (kc : PySem.W.keepIn K (.ref C) = true)
    {f0 : Addr} {od0 an0 : Option Addr} {sl0 : Array (Option Value)} {oc0 kV0 dc0 pm0 cd0 ct0 : Value}
    (a0 : PySem.W.findIn K (.ref C) "__init__" = some (some (.ref f0))) (i0 : PySem.W.isFn K (.ref f0) = true) (l0 : K.lookup f0 = some ⟨oc0, od0, .func (PySem.W.fnOf "__init__" "Play.__init__" (defArgs s_Play_init) (defBody s_Play_init) (defScope s_Play_init) .none kV0 dc0 pm0 an0 cd0 ct0), sl0⟩) (c0 : PySem.W.codeIn K cd0 "Play.__init__" = true) (k0 : PySem.W.keepIn K (.ref f0) = true)
    {f1 : Addr} {od1 an1 : Option Addr} {sl1 : Array (Option Value)} {oc1 kV1 dc1 pm1 cd1 ct1 : Value}
    (a1 : PySem.W.findIn K (.ref C) "can_come" = some (some (.ref f1))) (i1 : PySem.W.isFn K (.ref f1) = true) (l1 : K.lookup f1 = some ⟨oc1, od1, .func (PySem.W.fnOf "can_come" "Play.can_come" (defArgs s_Play_can_come) (defBody s_Play_can_come) (defScope s_Play_can_come) .none kV1 dc1 pm1 an1 cd1 ct1), sl1⟩) (c1 : PySem.W.codeIn K cd1 "Play.can_come" = true) (k1 : PySem.W.keepIn K (.ref f1) = true)
    {f2 : Addr} {od2 an2 : Option Addr} {sl2 : Array (Option Value)} {oc2 kV2 dc2 pm2 cd2 ct2 : Value}
    (a2 : PySem.W.findIn K (.ref C) "events" = some (some (.ref f2))) (i2 : PySem.W.isFn K (.ref f2) = true) (l2 : K.lookup f2 = some ⟨oc2, od2, .func (PySem.W.fnOf "events" "Play.events" (defArgs s_Play_events) (defBody s_Play_events) (defScope s_Play_events) .none kV2 dc2 pm2 an2 cd2 ct2), sl2⟩) (c2 : PySem.W.codeIn K cd2 "Play.events" = true) (k2 : PySem.W.keepIn K (.ref f2) = true)
    {f3 : Addr} {od3 an3 : Option Addr} {sl3 : Array (Option Value)} {oc3 kV3 dc3 pm3 cd3 ct3 : Value}
    (a3 : PySem.W.findIn K (.ref C) "do" = some (some (.ref f3))) (i3 : PySem.W.isFn K (.ref f3) = true) (l3 : K.lookup f3 = some ⟨oc3, od3, .func (PySem.W.fnOf "do" "Play.do" (defArgs s_Play_do) (defBody s_Play_do) (defScope s_Play_do) .none kV3 dc3 pm3 an3 cd3 ct3), sl3⟩) (c3 : PySem.W.codeIn K cd3 "Play.do" = true) (k3 : PySem.W.keepIn K (.ref f3) = true)
    {f4 : Addr} {od4 an4 : Option Addr} {sl4 : Array (Option Value)} {oc4 kV4 dc4 pm4 cd4 ct4 : Value}
    (a4 : PySem.W.findIn K (.ref C) "step" = some (some (.ref f4))) (i4 : PySem.W.isFn K (.ref f4) = true) (l4 : K.lookup f4 = some ⟨oc4, od4, .func (PySem.W.fnOf "step" "Play.step" (defArgs s_Play_step) (defBody s_Play_step) (defScope s_Play_step) .none kV4 dc4 pm4 an4 cd4 ct4), sl4⟩) (c4 : PySem.W.codeIn K cd4 "Play.step" = true) (k4 : PySem.W.keepIn K (.ref f4) = true)
    {f5 : Addr} {od5 an5 : Option Addr} {sl5 : Array (Option Value)} {oc5 kV5 dc5 pm5 cd5 ct5 : Value}
    (a5 : PySem.W.findIn K (.ref C) "begun" = some (some (.ref f5))) (i5 : PySem.W.isFn K (.ref f5) = true) (l5 : K.lookup f5 = some ⟨oc5, od5, .func (PySem.W.fnOf "begun" "Play.begun" (defArgs s_Play_begun) (defBody s_Play_begun) (defScope s_Play_begun) .none kV5 dc5 pm5 an5 cd5 ct5), sl5⟩) (c5 : PySem.W.codeIn K cd5 "Play.begun" = true) (k5 : PySem.W.keepIn K (.ref f5) = true)
    {f6 : Addr} {od6 an6 : Option Addr} {sl6 : Array (Option Value)} {oc6 kV6 dc6 pm6 cd6 ct6 : Value}
    (a6 : PySem.W.findIn K (.ref C) "look" = some (some (.ref f6))) (i6 : PySem.W.isFn K (.ref f6) = true) (l6 : K.lookup f6 = some ⟨oc6, od6, .func (PySem.W.fnOf "look" "Play.look" (defArgs s_Play_look) (defBody s_Play_look) (defScope s_Play_look) .none kV6 dc6 pm6 an6 cd6 ct6), sl6⟩) (c6 : PySem.W.codeIn K cd6 "Play.look" = true) (k6 : PySem.W.keepIn K (.ref f6) = true)
    {f7 : Addr} {od7 an7 : Option Addr} {sl7 : Array (Option Value)} {oc7 kV7 dc7 pm7 cd7 ct7 : Value}
    (a7 : PySem.W.findIn K (.ref C) "share" = some (some (.ref f7))) (i7 : PySem.W.isFn K (.ref f7) = true) (l7 : K.lookup f7 = some ⟨oc7, od7, .func (PySem.W.fnOf "share" "Play.share" (defArgs s_Play_share) (defBody s_Play_share) (defScope s_Play_share) .none kV7 dc7 pm7 an7 cd7 ct7), sl7⟩) (c7 : PySem.W.codeIn K cd7 "Play.share" = true) (k7 : PySem.W.keepIn K (.ref f7) = true)
    {f8 : Addr} {od8 an8 : Option Addr} {sl8 : Array (Option Value)} {oc8 kV8 dc8 pm8 cd8 ct8 : Value}
    (a8 : PySem.W.findIn K (.ref C) "fetch" = some (some (.ref f8))) (i8 : PySem.W.isFn K (.ref f8) = true) (l8 : K.lookup f8 = some ⟨oc8, od8, .func (PySem.W.fnOf "fetch" "Play.fetch" (defArgs s_Play_fetch) (defBody s_Play_fetch) (defScope s_Play_fetch) .none kV8 dc8 pm8 an8 cd8 ct8), sl8⟩) (c8 : PySem.W.codeIn K cd8 "Play.fetch" = true) (k8 : PySem.W.keepIn K (.ref f8) = true)
    {f9 : Addr} {od9 an9 : Option Addr} {sl9 : Array (Option Value)} {oc9 kV9 dc9 pm9 cd9 ct9 : Value}
    (a9 : PySem.W.findIn K (.ref C) "fill" = some (some (.ref f9))) (i9 : PySem.W.isFn K (.ref f9) = true) (l9 : K.lookup f9 = some ⟨oc9, od9, .func (PySem.W.fnOf "fill" "Play.fill" (defArgs s_Play_fill) (defBody s_Play_fill) (defScope s_Play_fill) .none kV9 dc9 pm9 an9 cd9 ct9), sl9⟩) (c9 : PySem.W.codeIn K cd9 "Play.fill" = true) (k9 : PySem.W.keepIn K (.ref f9) = true)
    {f10 : Addr} {od10 an10 : Option Addr} {sl10 : Array (Option Value)} {oc10 kV10 dc10 pm10 cd10 ct10 : Value}
    (a10 : PySem.W.findIn K (.ref C) "take" = some (some (.ref f10))) (i10 : PySem.W.isFn K (.ref f10) = true) (l10 : K.lookup f10 = some ⟨oc10, od10, .func (PySem.W.fnOf "take" "Play.take" (defArgs s_Play_take) (defBody s_Play_take) (defScope s_Play_take) .none kV10 dc10 pm10 an10 cd10 ct10), sl10⟩) (c10 : PySem.W.codeIn K cd10 "Play.take" = true) (k10 : PySem.W.keepIn K (.ref f10) = true)
    {f11 : Addr} {od11 an11 : Option Addr} {sl11 : Array (Option Value)} {oc11 kV11 dc11 pm11 cd11 ct11 : Value}
    (a11 : PySem.W.findIn K (.ref C) "store" = some (some (.ref f11))) (i11 : PySem.W.isFn K (.ref f11) = true) (l11 : K.lookup f11 = some ⟨oc11, od11, .func (PySem.W.fnOf "store" "Play.store" (defArgs s_Play_store) (defBody s_Play_store) (defScope s_Play_store) .none kV11 dc11 pm11 an11 cd11 ct11), sl11⟩) (c11 : PySem.W.codeIn K cd11 "Play.store" = true) (k11 : PySem.W.keepIn K (.ref f11) = true)
    {f12 : Addr} {od12 an12 : Option Addr} {sl12 : Array (Option Value)} {oc12 kV12 dc12 pm12 cd12 ct12 : Value}
    (a12 : PySem.W.findIn K (.ref C) "drop" = some (some (.ref f12))) (i12 : PySem.W.isFn K (.ref f12) = true) (l12 : K.lookup f12 = some ⟨oc12, od12, .func (PySem.W.fnOf "drop" "Play.drop" (defArgs s_Play_drop) (defBody s_Play_drop) (defScope s_Play_drop) .none kV12 dc12 pm12 an12 cd12 ct12), sl12⟩) (c12 : PySem.W.codeIn K cd12 "Play.drop" = true) (k12 : PySem.W.keepIn K (.ref f12) = true)
    {f13 : Addr} {od13 an13 : Option Addr} {sl13 : Array (Option Value)} {oc13 kV13 dc13 pm13 cd13 ct13 : Value}
    (a13 : PySem.W.findIn K (.ref C) "put" = some (some (.ref f13))) (i13 : PySem.W.isFn K (.ref f13) = true) (l13 : K.lookup f13 = some ⟨oc13, od13, .func (PySem.W.fnOf "put" "Play.put" (defArgs s_Play_put) (defBody s_Play_put) (defScope s_Play_put) .none kV13 dc13 pm13 an13 cd13 ct13), sl13⟩) (c13 : PySem.W.codeIn K cd13 "Play.put" = true) (k13 : PySem.W.keepIn K (.ref f13) = true)
    {f14 : Addr} {od14 an14 : Option Addr} {sl14 : Array (Option Value)} {oc14 kV14 dc14 pm14 cd14 ct14 : Value}
    (a14 : PySem.W.findIn K (.ref C) "lets_fill" = some (some (.ref f14))) (i14 : PySem.W.isFn K (.ref f14) = true) (l14 : K.lookup f14 = some ⟨oc14, od14, .func (PySem.W.fnOf "lets_fill" "Play.lets_fill" (defArgs s_Play_lets_fill) (defBody s_Play_lets_fill) (defScope s_Play_lets_fill) .none kV14 dc14 pm14 an14 cd14 ct14), sl14⟩) (c14 : PySem.W.codeIn K cd14 "Play.lets_fill" = true) (k14 : PySem.W.keepIn K (.ref f14) = true)
    {f15 : Addr} {od15 an15 : Option Addr} {sl15 : Array (Option Value)} {oc15 kV15 dc15 pm15 cd15 ct15 : Value}
    (a15 : PySem.W.findIn K (.ref C) "lets_in" = some (some (.ref f15))) (i15 : PySem.W.isFn K (.ref f15) = true) (l15 : K.lookup f15 = some ⟨oc15, od15, .func (PySem.W.fnOf "lets_in" "Play.lets_in" (defArgs s_Play_lets_in) (defBody s_Play_lets_in) (defScope s_Play_lets_in) .none kV15 dc15 pm15 an15 cd15 ct15), sl15⟩) (c15 : PySem.W.codeIn K cd15 "Play.lets_in" = true) (k15 : PySem.W.keepIn K (.ref f15) = true)
    {f16 : Addr} {od16 an16 : Option Addr} {sl16 : Array (Option Value)} {oc16 kV16 dc16 pm16 cd16 ct16 : Value}
    (a16 : PySem.W.findIn K (.ref C) "hold" = some (some (.ref f16))) (i16 : PySem.W.isFn K (.ref f16) = true) (l16 : K.lookup f16 = some ⟨oc16, od16, .func (PySem.W.fnOf "hold" "Play.hold" (defArgs s_Play_hold) (defBody s_Play_hold) (defScope s_Play_hold) .none kV16 dc16 pm16 an16 cd16 ct16), sl16⟩) (c16 : PySem.W.codeIn K cd16 "Play.hold" = true) (k16 : PySem.W.keepIn K (.ref f16) = true)
    {f17 : Addr} {od17 an17 : Option Addr} {sl17 : Array (Option Value)} {oc17 kV17 dc17 pm17 cd17 ct17 : Value}
    (a17 : PySem.W.findIn K (.ref C) "raise_mark" = some (some (.ref f17))) (i17 : PySem.W.isFn K (.ref f17) = true) (l17 : K.lookup f17 = some ⟨oc17, od17, .func (PySem.W.fnOf "raise_mark" "Play.raise_mark" (defArgs s_Play_raise_mark) (defBody s_Play_raise_mark) (defScope s_Play_raise_mark) .none kV17 dc17 pm17 an17 cd17 ct17), sl17⟩) (c17 : PySem.W.codeIn K cd17 "Play.raise_mark" = true) (k17 : PySem.W.keepIn K (.ref f17) = true)
    (n0 : PySem.W.findIn K (.ref C) "design" = some none) (n1 : PySem.W.findIn K (.ref C) "world" = some none) (n2 : PySem.W.findIn K (.ref C) "path" = some none) (n3 : PySem.W.findIn K (.ref C) "guard" = some none) (n4 : PySem.W.findIn K (.ref C) "flight" = some none) (n5 : PySem.W.findIn K (.ref C) "source" = some none) (n6 : PySem.W.findIn K (.ref C) "evictions" = some none) (n7 : PySem.W.findIn K (.ref C) "stops" = some none) (n8 : PySem.W.findIn K (.ref C) "database" = some none) (n9 : PySem.W.findIn K (.ref C) "replica" = some none) (n10 : PySem.W.findIn K (.ref C) "cache" = some none) (n11 : PySem.W.findIn K (.ref C) "mark" = some none) (n12 : PySem.W.findIn K (.ref C) "operations" = some none) (n13 : PySem.W.findIn K (.ref C) "past" = some none) (n14 : PySem.W.findIn K (.ref C) "leader" = some none) (n15 : PySem.W.findIn K (.ref C) "wipes" = some none) : Nonempty (PlayT K mg) :=
  ⟨{ C := C, c_ := ⟨pg, hd, po, sa⟩, m_ := PySem.W.mg_of X G aC, k_ := ⟨mk, a0, i0, kc⟩, f_init := f0, fd_init := _, F_init := fun_mk (st := s_Play_init) l0 c0 k0, f_can_come := f1, fd_can_come := _, F_can_come := fun_mk (st := s_Play_can_come) l1 c1 k1, M_can_come := ⟨a1, i1, k1⟩, f_events := f2, fd_events := _, F_events := fun_mk (st := s_Play_events) l2 c2 k2, M_events := ⟨a2, i2, k2⟩, f_do := f3, fd_do := _, F_do := fun_mk (st := s_Play_do) l3 c3 k3, M_do := ⟨a3, i3, k3⟩, f_step := f4, fd_step := _, F_step := fun_mk (st := s_Play_step) l4 c4 k4, M_step := ⟨a4, i4, k4⟩, f_begun := f5, fd_begun := _, F_begun := fun_mk (st := s_Play_begun) l5 c5 k5, M_begun := ⟨a5, i5, k5⟩, f_look := f6, fd_look := _, F_look := fun_mk (st := s_Play_look) l6 c6 k6, M_look := ⟨a6, i6, k6⟩, f_share := f7, fd_share := _, F_share := fun_mk (st := s_Play_share) l7 c7 k7, M_share := ⟨a7, i7, k7⟩, f_fetch := f8, fd_fetch := _, F_fetch := fun_mk (st := s_Play_fetch) l8 c8 k8, M_fetch := ⟨a8, i8, k8⟩, f_fill := f9, fd_fill := _, F_fill := fun_mk (st := s_Play_fill) l9 c9 k9, M_fill := ⟨a9, i9, k9⟩, f_take := f10, fd_take := _, F_take := fun_mk (st := s_Play_take) l10 c10 k10, M_take := ⟨a10, i10, k10⟩, f_store := f11, fd_store := _, F_store := fun_mk (st := s_Play_store) l11 c11 k11, M_store := ⟨a11, i11, k11⟩, f_drop := f12, fd_drop := _, F_drop := fun_mk (st := s_Play_drop) l12 c12 k12, M_drop := ⟨a12, i12, k12⟩, f_put := f13, fd_put := _, F_put := fun_mk (st := s_Play_put) l13 c13 k13, M_put := ⟨a13, i13, k13⟩, f_lets_fill := f14, fd_lets_fill := _, F_lets_fill := fun_mk (st := s_Play_lets_fill) l14 c14 k14, M_lets_fill := ⟨a14, i14, k14⟩, f_lets_in := f15, fd_lets_in := _, F_lets_in := fun_mk (st := s_Play_lets_in) l15 c15 k15, M_lets_in := ⟨a15, i15, k15⟩, f_hold := f16, fd_hold := _, F_hold := fun_mk (st := s_Play_hold) l16 c16 k16, M_hold := ⟨a16, i16, k16⟩, f_raise_mark := f17, fd_raise_mark := _, F_raise_mark := fun_mk (st := s_Play_raise_mark) l17 c17 k17, M_raise_mark := ⟨a17, i17, k17⟩, a_design := n0, a_world := n1, a_path := n2, a_guard := n3, a_flight := n4, a_source := n5, a_evictions := n6, a_stops := n7, a_database := n8, a_replica := n9, a_cache := n10, a_mark := n11, a_operations := n12, a_past := n13, a_leader := n14, a_wipes := n15 }⟩
theorem exm_self {K : PySem.W.Frag} {S : Addr} (h1 : PySem.W.subIn K (.ref S) (.type "BaseException") = some true) (h2 : PySem.W.isClsIn K S = true) (h3 : PySem.W.typeIn K (.ref S) = some (.type "type")) (h4 : PySem.W.subIn K (.ref S) (.ref S) = some true) :
    PySem.W.exmOne K (.ref S) (.ref S) = some true := by
  have e1 : (PySem.W.subIn K (.ref S) (.type "BaseException") == some true) = true := by rw [h1] <;> rfl
  have e2 : ((PySem.W.clsIn K S).isSome && PySem.W.typeIn K (.ref S) == some (.type "type")) = true := by
    have h2' : (PySem.W.clsIn K S).isSome = true := h2
    rw [h2', h3] <;> rfl
  show (if (PySem.W.subIn K (.ref S) (.type "BaseException") == some true) = true then (if ((PySem.W.clsIn K S).isSome && PySem.W.typeIn K (.ref S) == some (.type "type")) = true then PySem.W.subIn K (.ref S) (.ref S) else none) else none) = some true
  rw [if_pos e1, if_pos e2]
  exact h4
theorem bad_mk {P : Program} {K : PySem.W.Frag} {h : Heap} {mg : Str → Option Value} {C C2 fI cda cc : Addr} (X : K.In h) (G : h.Ns mainGlobals mg)
    {nm q : Str} {N : Addr} {bs : List Value} {sn : List Str} {sub : List Value} {ab : Bool} {col : Option Bool} {dd : Option Addr} {m0 m1 m2 m3 m5 : Option Value} {od an cdd cld : Option Addr} {sl ccs csl : Array (Option Value)} {oc dc pm ct ccl cl : Value} {vs : Array Value} {file : Str} {tf : Tok}
    (aC : PySem.W.nsIn K mainGlobals "BadRun" = some (some (.ref C))) (zS : PySem.W.nsIn K mainGlobals "super" = some none)
    (xL : K.lookup C = some (excClassObj nm q C N bs [.ref C2, .type "ValueError", .type "Exception", .type "BaseException", .type "object"] true sn sub ab col dd m0 m1 m2 m3 m5 "ValueError.__new__"))
    (su : PySem.W.ks_superIn K C C "__init__" = some (some (.builtin "ValueError.__init__")))
    (sa : PySem.W.findIn K (.ref C) "__setattr__" = some (some (.builtin "object.__setattr__"))) (ga : PySem.W.findIn K (.ref C) "__getattribute__" = some (some (.builtin "BaseException.__getattribute__"))) (gg : PySem.W.findIn K (.ref C) "__getattr__" = some none) (ni : PySem.W.findIn K (.ref C) "index" = some none)
    (iC : PySem.W.findIn K (.ref C) "__init__" = some (some (.ref fI))) (tF : PySem.W.typeIn K (.ref fI) = some (.type "function")) (kC : PySem.W.keepIn K (.ref C) = true) (eC : PySem.W.subIn K (.ref C) (.type "BaseException") = some true) (eV : PySem.W.subIn K (.ref C) (.type "ValueError") = some true) (tC : PySem.W.typeIn K (.ref C) = some (.type "type")) (hC : PySem.W.hasDictIn K C = true) (cC : PySem.W.isClsIn K C = true) (sC : PySem.W.subIn K (.ref C) (.ref C) = some true)
    (oq : PySem.W.nsIn K cStatics "thirdparty.any" = some none) (tp : (P.main.scope.names.lookup ("super" : Str)).isSome = false)
    (l1 : K.lookup fI = some ⟨oc, od, .func (PySem.W.ksFn "__init__" PySem.BadX.qI (PySem.BadX.iA ⟨15, 17, 15, 21⟩ ⟨15, 23, 15, 28⟩) (PySem.BadX.iB 0 ⟨16, 8, 16, 13⟩ ⟨16, 8, 16, 15⟩ ⟨16, 8, 16, 24⟩ ⟨16, 27, 16, 41⟩ ⟨16, 42, 16, 47⟩ ⟨16, 41, 16, 48⟩ ⟨16, 25, 16, 49⟩ ⟨16, 8, 16, 50⟩ ⟨16, 8, 16, 50⟩ ⟨17, 8, 17, 12⟩ ⟨17, 8, 17, 18⟩ ⟨17, 21, 17, 26⟩ ⟨17, 8, 17, 26⟩) PySem.BadX.iS .none .none dc pm an (.ref cda) ct cc), sl⟩)
    (c1 : PySem.W.codeIn K (.ref cda) PySem.BadX.qI = true) (l2 : K.lookup cda = some ⟨ccl, cdd, .fields vs, ccs⟩) (v2 : vs[2]? = some (.str file tf)) (fl : ((P.main.file : Str) == file) = true) (l3 : K.lookup cc = some ⟨cl, cld, .cell (some (.ref C)), csl⟩) :
    ∃ C f, PySem.BadX.BadTxt P K mg C f := by
  refine ⟨C, fI, ⟨PySem.W.mg_of X G aC, PySem.W.mg_none_of X G zS, ⟨nm, q, N, bs, _, sn, sub, ab, col, dd, m0, m1, m2, m3, m5, xL, (by show PySem.HandSPX.refsVE [.type "ValueError", .type "Exception", .type "BaseException", .type "object"] = true; decide +kernel), ?_⟩, sa, ga, gg, ni, iC, tC, kC, tF, eC, eV, sC, hC, exm_self eC cC tC sC, oq, tp,
    ⟨_, _, _, _, _, _, _, _, _, _, _, _, _, _, _, _, _, _, _, _, _, _, _, _, _, l1, c1, rfl, ⟨_, _, _, _, _, _, l2, v2, fl⟩, ⟨_, _, _, l3⟩⟩⟩⟩
  have hcl : PySem.W.clsIn K C = some { name := nm, bases := bs, mro := .ref C :: [.ref C2, .type "ValueError", .type "Exception", .type "BaseException", .type "object"], ns := N, qualname := q, hasDict := true, slotNames := sn, subclasses := sub, abstract := ab, collection := col, hasDel := false } := by unfold PySem.W.clsIn; rw [xL] <;> rfl
  unfold PySem.W.ks_superIn at su
  rw [hcl, Option.bind_some, PySem.ESX.drop_own] at su
  exact su
theorem inv_mk {P : Program} {K : PySem.W.Frag} {h : Heap} {mg : Str → Option Value} {C C2 fI cda cc : Addr} (X : K.In h) (G : h.Ns mainGlobals mg)
    {nm q : Str} {N : Addr} {bs : List Value} {sn : List Str} {sub : List Value} {ab : Bool} {col : Option Bool} {dd : Option Addr} {m0 m1 m2 m3 m5 : Option Value} {od an cdd cld : Option Addr} {sl ccs csl : Array (Option Value)} {oc dc pm ct ccl cl : Value} {vs : Array Value} {file : Str} {tf : Tok}
    (aC : PySem.W.nsIn K mainGlobals "InvalidText" = some (some (.ref C))) (zS : PySem.W.nsIn K mainGlobals "super" = some none)
    (xL : K.lookup C = some (excClassObj nm q C N bs [.ref C2, .type "ValueError", .type "Exception", .type "BaseException", .type "object"] true sn sub ab col dd m0 m1 m2 m3 m5 "ValueError.__new__"))
    (su : PySem.W.ks_superIn K C C "__init__" = some (some (.builtin "ValueError.__init__")))
    (sa : PySem.W.findIn K (.ref C) "__setattr__" = some (some (.builtin "object.__setattr__"))) (ga : PySem.W.findIn K (.ref C) "__getattribute__" = some (some (.builtin "BaseException.__getattribute__"))) (gg : PySem.W.findIn K (.ref C) "__getattr__" = some none) (ni : PySem.W.findIn K (.ref C) "line" = some none)
    (iC : PySem.W.findIn K (.ref C) "__init__" = some (some (.ref fI))) (tF : PySem.W.typeIn K (.ref fI) = some (.type "function")) (kC : PySem.W.keepIn K (.ref C) = true) (eC : PySem.W.subIn K (.ref C) (.type "BaseException") = some true) (eV : PySem.W.subIn K (.ref C) (.type "ValueError") = some true) (tC : PySem.W.typeIn K (.ref C) = some (.type "type")) (hC : PySem.W.hasDictIn K C = true) (cC : PySem.W.isClsIn K C = true) (sC : PySem.W.subIn K (.ref C) (.ref C) = some true)
    (oq : PySem.W.nsIn K cStatics "thirdparty.any" = some none) (tp : (P.main.scope.names.lookup ("super" : Str)).isSome = false)
    (l1 : K.lookup fI = some ⟨oc, od, .func (PySem.W.ksFn "__init__" PySem.InvX.qI (PySem.InvX.iA ⟨20, 17, 20, 21⟩ ⟨20, 23, 20, 27⟩) (PySem.InvX.iB 0 ⟨21, 8, 21, 13⟩ ⟨21, 8, 21, 15⟩ ⟨21, 8, 21, 24⟩ ⟨21, 27, 21, 46⟩ ⟨21, 47, 21, 51⟩ ⟨21, 46, 21, 52⟩ ⟨21, 25, 21, 53⟩ ⟨21, 8, 21, 54⟩ ⟨21, 8, 21, 54⟩ ⟨22, 8, 22, 12⟩ ⟨22, 8, 22, 17⟩ ⟨22, 20, 22, 24⟩ ⟨22, 8, 22, 24⟩) PySem.InvX.iS .none .none dc pm an (.ref cda) ct cc), sl⟩)
    (c1 : PySem.W.codeIn K (.ref cda) PySem.InvX.qI = true) (l2 : K.lookup cda = some ⟨ccl, cdd, .fields vs, ccs⟩) (v2 : vs[2]? = some (.str file tf)) (fl : ((P.main.file : Str) == file) = true) (l3 : K.lookup cc = some ⟨cl, cld, .cell (some (.ref C)), csl⟩) :
    ∃ C f, PySem.InvX.InvTxt P K mg C f := by
  refine ⟨C, fI, ⟨PySem.W.mg_of X G aC, PySem.W.mg_none_of X G zS, ⟨nm, q, N, bs, _, sn, sub, ab, col, dd, m0, m1, m2, m3, m5, xL, (by show PySem.HandSPX.refsVE [.type "ValueError", .type "Exception", .type "BaseException", .type "object"] = true; decide +kernel), ?_⟩, sa, ga, gg, ni, iC, tC, kC, tF, eC, eV, sC, hC, exm_self eC cC tC sC, oq, tp,
    ⟨_, _, _, _, _, _, _, _, _, _, _, _, _, _, _, _, _, _, _, _, _, _, _, _, _, l1, c1, rfl, ⟨_, _, _, _, _, _, l2, v2, fl⟩, ⟨_, _, _, l3⟩⟩⟩⟩
  have hcl : PySem.W.clsIn K C = some { name := nm, bases := bs, mro := .ref C :: [.ref C2, .type "ValueError", .type "Exception", .type "BaseException", .type "object"], ns := N, qualname := q, hasDict := true, slotNames := sn, subclasses := sub, abstract := ab, collection := col, hasDel := false } := by unfold PySem.W.clsIn; rw [xL] <;> rfl
  unfold PySem.W.ks_superIn at su
  rw [hcl, Option.bind_some, PySem.ESX.drop_own] at su
  exact su
theorem err_mk {K : PySem.W.Frag} {h : Heap} {mg : Str → Option Value} {B : Addr} {C0 : Addr} (X : K.In h) (G : h.Ns mainGlobals mg)
    (aB : PySem.W.nsIn K mainGlobals "CacheError" = some (some (.ref B))) (bB : PySem.W.subIn K (.ref B) (.type "BaseException") = some true) (dB : PySem.W.hasDictIn K B = true) (tB : PySem.W.typeIn K (.ref B) = some (.type "type")) (hn : PySem.W.specialIn K (.builtin "object.__class__") "__get__" = some (some (.builtin "getset_descriptor.__get__"))) (ht : PySem.W.takesIn K (.builtin "object.__class__") = some true)
    (a0 : PySem.W.nsIn K mainGlobals "NotText" = some (some (.ref C0))) (x0 : PySem.W.excIn K C0 [.type "ValueError", .type "Exception", .type "BaseException", .type "object"] "ValueError.__new__" = true) (k0 : PySem.W.keepIn K (.ref C0) = true) (t0 : PySem.W.typeIn K (.ref C0) = some (.type "type")) (s0 : PySem.W.subIn K (.ref C0) (.ref B) = some true)
    (hg0 : PySem.W.findIn K (.ref C0) "__getattribute__" = some (some (.builtin "BaseException.__getattribute__"))) (hk0 : PySem.W.findIn K (.ref C0) "__getattr__" = some none) (hs0 : PySem.W.subIn K (.ref C0) (.type "BaseException") = some true) (hd0 : PySem.W.hasDictIn K C0 = true) (ha0 : PySem.W.findIn K (.ref C0) "__class__" = some (some (.builtin "object.__class__"))) (hm0 : PySem.W.mroIn K C0 (.type "object") = some true)
    (q0_0 : PySem.W.kitOne K (.ref C0) (.ref C0) = some true)
    : Nonempty (ErrT K mg) :=
  ⟨{ B := B, gB := PySem.W.mg_of X G aB, e_NotText := ⟨C0, PySem.W.mg_of X G a0, x0, k0, hs0, t0, ⟨hg0, hk0, hs0, hd0, ha0, hn, ht, hm0⟩⟩, m_NotText := PySem.W.exm_ref bB dB tB s0, k_NotText_NotText := q0_0 }⟩
/-- what the head must say besides of InvalidText -/
def LtP (K : PySem.W.Frag) (mg : Str → Option Value) : Prop := ∃ C B N, mg "InvalidText" = some (.ref C) ∧ mg "CacheError" = some (.ref B) ∧ mg "NotText" = some (.ref N) ∧ PySem.W.findIn K (.ref C) "__class__" = some (some (.builtin "object.__class__")) ∧ PySem.W.specialIn K (.builtin "object.__class__") "__get__" = some (some (.builtin "getset_descriptor.__get__")) ∧ PySem.W.takesIn K (.builtin "object.__class__") = some true ∧ PySem.W.mroIn K C (.type "object") = some true ∧
  PySem.W.exmOne K (.ref C) (.ref B) = some true ∧ PySem.W.kitOne K (.ref C) (.ref C) = some true ∧ PySem.W.kitOne K (.ref N) (.ref C) = some false
theorem lt_mk {K : PySem.W.Frag} {h : Heap} {mg : Str → Option Value} {C B N : Addr} (X : K.In h) (G : h.Ns mainGlobals mg) (aI : PySem.W.nsIn K mainGlobals "InvalidText" = some (some (.ref C))) (aB : PySem.W.nsIn K mainGlobals "CacheError" = some (some (.ref B))) (aN : PySem.W.nsIn K mainGlobals "NotText" = some (some (.ref N)))
    (ha : PySem.W.findIn K (.ref C) "__class__" = some (some (.builtin "object.__class__"))) (hn : PySem.W.specialIn K (.builtin "object.__class__") "__get__" = some (some (.builtin "getset_descriptor.__get__"))) (ht : PySem.W.takesIn K (.builtin "object.__class__") = some true) (hm : PySem.W.mroIn K C (.type "object") = some true)
    (bB : PySem.W.subIn K (.ref B) (.type "BaseException") = some true) (dB : PySem.W.hasDictIn K B = true) (tB : PySem.W.typeIn K (.ref B) = some (.type "type")) (sI : PySem.W.subIn K (.ref C) (.ref B) = some true) (kI : PySem.W.kitOne K (.ref C) (.ref C) = some true) (kN : PySem.W.kitOne K (.ref N) (.ref C) = some false) : LtP K mg :=
  ⟨C, B, N, PySem.W.mg_of X G aI, PySem.W.mg_of X G aB, PySem.W.mg_of X G aN, ha, hn, ht, hm, PySem.W.exm_ref bB dB tB sI, kI, kN⟩
theorem lt_of {P : Program} {K : PySem.W.Frag} {mg : Str → Option Value} {CI fI CB fB : Addr} (R : ErrT K mg) (I : PySem.InvX.InvTxt P K mg CI fI) (B : PySem.BadX.BadTxt P K mg CB fB) (h : LtP K mg) : LineT K mg R CI CB := by
  obtain ⟨C, D, N, h1, h2, h3, ha, hn, ht, hm, m, kI, kN⟩ := h
  have e1 : C = CI := Value.ref.inj (Option.some.inj (h1.symm.trans I.gC))
  have e2 : D = R.B := Value.ref.inj (Option.some.inj (h2.symm.trans R.gB))
  have e3 : N = R.e_NotText.C := Value.ref.inj (Option.some.inj (h3.symm.trans R.e_NotText.g))
  subst e1
  subst e2
  subst e3
  exact ⟨⟨I.ga, I.gg, I.exC, I.hdC, ha, hn, ht, hm⟩, ⟨I.ga, I.gg, I.exC, I.hdC⟩, I.gC, B.gC, I.noN, m, kI, kN⟩
/-- a def that makes a lambda: its code object, the table, empty and out of the written part -/
def MkP (K : PySem.W.Frag) (mg : Str → Option Value) (h : Heap) (x : Str) (st : Stmt) : Prop := ∃ (f : Addr) (fd : FuncData) (c P : Addr), Fun K x x st f fd ∧ mg x = some (.ref f) ∧ fd.code = .ref c ∧ PySem.W.codeHdIn K c P = true ∧ K.lookup P = none ∧ h.get? P = some { cls := .none, data := .fields #[] }
theorem mk_mk {K : PySem.W.Frag} {h : Heap} {mg : Str → Option Value} {x : Str} {st : Stmt} {f c P : Addr} {od an : Option Addr} {sl : Array (Option Value)} {oc kV dc pm ct : Value} (X : K.In h) (G : h.Ns mainGlobals mg)
    (a : PySem.W.nsIn K mainGlobals x = some (some (.ref f))) (l : K.lookup f = some ⟨oc, od, .func (PySem.W.fnOf x x (defArgs st) (defBody st) (defScope st) .none kV dc pm an (.ref c) ct), sl⟩) (c1 : PySem.W.codeIn K (.ref c) x = true) (k : PySem.W.keepIn K (.ref f) = true)
    (tb : h.get? P = some { cls := .none, data := .fields #[] }) (hd : PySem.W.codeHdIn K c P = true) (out : K.lookup P = none) : MkP K mg h x st :=
  ⟨f, _, c, P, fun_mk (st := st) l c1 k, PySem.W.mg_of X G a, rfl, hd, out, tb⟩
theorem fin {l : PySem.W.OpenLaw} {w : World} {K : PySem.W.Frag} {mg : Str → Option Value} {fa : Addr} {h : Heap} (X : K.In h) (hmg : mg "law" = some (.ref fa))
    (D_check_text : DefP K mg "check_text" s_check_text)
    (D_is_design : DefP K mg "is_design" s_is_design)
    (D_is_world : DefP K mg "is_world" s_is_world)
    (D_is_triple : DefP K mg "is_triple" s_is_triple)
    (D_all_designs : DefP K mg "all_designs" s_all_designs)
    (D_all_worlds : DefP K mg "all_worlds" s_all_worlds)
    (D_all_triples : DefP K mg "all_triples" s_all_triples)
    (D_write_steps : DefP K mg "write_steps" s_write_steps)
    (D_check_design : DefP K mg "check_design" s_check_design)
    (D_check_world : DefP K mg "check_world" s_check_world)
    (D_played : DefP K mg "played" s_played)
    (D_write_design : DefP K mg "write_design" s_write_design)
    (D_write_world : DefP K mg "write_world" s_write_world)
    (D_read_design : DefP K mg "read_design" s_read_design)
    (D_read_world : DefP K mg "read_world" s_read_world)
    (D_write_run : DefP K mg "write_run" s_write_run)
    (D_read_run : DefP K mg "read_run" s_read_run)
    (D_text_of_words : DefP K mg "text_of_words" s_text_of_words)
    (D_read_words : DefP K mg "read_words" s_read_words)
    (D_text_of_event : DefP K mg "text_of_event" s_text_of_event)
    (D_events_by_text : DefP K mg "events_by_text" s_events_by_text)
    (D_Ltaken : DefP K mg "_law_taken" s_Ltaken)
    (D_Lpick : DefP K mg "_law_pick" s_Lpick)
    (D_Lalike : DefP K mg "_law_alike" s_Lalike)
    (D_Lpaths : DefP K mg "_law_paths" s_Lpaths)
    (D_Ldesign : DefP K mg "_law_design" s_Ldesign)
    (D_Lworld : DefP K mg "_law_world" s_Lworld)
    (D_Lbegin : DefP K mg "_law_begin" s_Lbegin)
    (D_Lgoing : DefP K mg "_law_going" s_Lgoing)
    (D_Lnext : DefP K mg "_law_next" s_Lnext)
    (D_Levents : DefP K mg "_law_events" s_Levents)
    (D_Lend : DefP K mg "_law_end" s_Lend)
    (D_Lhold : DefP K mg "_law_hold" s_Lhold)
    (D_Lnewer : DefP K mg "_law_newer" s_Lnewer)
    (D_Llets : DefP K mg "_law_lets" s_Llets)
    (D_Lwrite : DefP K mg "_law_write" s_Lwrite)
    (D_Lread : DefP K mg "_law_read" s_Lread)
    (D_Ldo : DefP K mg "_law_do" s_Ldo)
    (D_Lwalk : DefP K mg "_law_walk" s_Lwalk)
    (D_Lline : DefP K mg "_law_line" s_Lline)
    (D_law : MkP K mg h "law" s_law)
    (X_Operation : Nonempty (OperationT K mg))
    (X_Play : Nonempty (PlayT K mg))
    (K_PATHS : ConP K mg "PATHS" (pathsL.map V.str))
    (K_GUARDS : ConP K mg "GUARDS" (guardsL.map V.str))
    (K_FLIGHTS : ConP K mg "FLIGHTS" (flightsL.map V.str))
    (K_SOURCES : ConP K mg "SOURCES" ((["primary", "replica"] : List Str).map V.str))
    (K_EVICTIONS : ConP K mg "EVICTIONS" ((["evicts", "keeps"] : List Str).map V.str))
    (K_STOPS : ConP K mg "STOPS" ((["finishes", "stops"] : List Str).map V.str))
    (I_MOST_EVENTS : IntP mg "MOST_EVENTS" 60)
    (n_len : mg "len" = none)
    (n_isinstance : mg "isinstance" = none)
    (n_max : mg "max" = none)
    (n_sorted : mg "sorted" = none)
    (n_range : mg "range" = none)
    (n_enumerate : mg "enumerate" = none)
    (n_int : mg "int" = none)
    (n_str : mg "str" = none)
    (n_bool : mg "bool" = none)
    (n_tuple : mg "tuple" = none)
    (n_list : mg "list" = none)
    (n_dict : mg "dict" = none)
    (er : Nonempty (ErrT K mg))
    (bad : ∃ C f, PySem.BadX.BadTxt l.prog K mg C f)
    (inv : ∃ C f, PySem.InvX.InvTxt l.prog K mg C f)
    (lt : LtP K mg)
    :
    LamX.LawAtS l w K CX0 14 63 "script" mg fa h := by
  obtain ⟨f_check_text, fd_check_text, F_check_text, m_check_text⟩ := D_check_text
  obtain ⟨f_is_design, fd_is_design, F_is_design, m_is_design⟩ := D_is_design
  obtain ⟨f_is_world, fd_is_world, F_is_world, m_is_world⟩ := D_is_world
  obtain ⟨f_is_triple, fd_is_triple, F_is_triple, m_is_triple⟩ := D_is_triple
  obtain ⟨f_all_designs, fd_all_designs, F_all_designs, m_all_designs⟩ := D_all_designs
  obtain ⟨f_all_worlds, fd_all_worlds, F_all_worlds, m_all_worlds⟩ := D_all_worlds
  obtain ⟨f_all_triples, fd_all_triples, F_all_triples, m_all_triples⟩ := D_all_triples
  obtain ⟨f_write_steps, fd_write_steps, F_write_steps, m_write_steps⟩ := D_write_steps
  obtain ⟨f_check_design, fd_check_design, F_check_design, m_check_design⟩ := D_check_design
  obtain ⟨f_check_world, fd_check_world, F_check_world, m_check_world⟩ := D_check_world
  obtain ⟨f_played, fd_played, F_played, m_played⟩ := D_played
  obtain ⟨f_write_design, fd_write_design, F_write_design, m_write_design⟩ := D_write_design
  obtain ⟨f_write_world, fd_write_world, F_write_world, m_write_world⟩ := D_write_world
  obtain ⟨f_read_design, fd_read_design, F_read_design, m_read_design⟩ := D_read_design
  obtain ⟨f_read_world, fd_read_world, F_read_world, m_read_world⟩ := D_read_world
  obtain ⟨f_write_run, fd_write_run, F_write_run, m_write_run⟩ := D_write_run
  obtain ⟨f_read_run, fd_read_run, F_read_run, m_read_run⟩ := D_read_run
  obtain ⟨f_text_of_words, fd_text_of_words, F_text_of_words, m_text_of_words⟩ := D_text_of_words
  obtain ⟨f_read_words, fd_read_words, F_read_words, m_read_words⟩ := D_read_words
  obtain ⟨f_text_of_event, fd_text_of_event, F_text_of_event, m_text_of_event⟩ := D_text_of_event
  obtain ⟨f_events_by_text, fd_events_by_text, F_events_by_text, m_events_by_text⟩ := D_events_by_text
  obtain ⟨f_Ltaken, fd_Ltaken, F_Ltaken, m_Ltaken⟩ := D_Ltaken
  obtain ⟨f_Lpick, fd_Lpick, F_Lpick, m_Lpick⟩ := D_Lpick
  obtain ⟨f_Lalike, fd_Lalike, F_Lalike, m_Lalike⟩ := D_Lalike
  obtain ⟨f_Lpaths, fd_Lpaths, F_Lpaths, m_Lpaths⟩ := D_Lpaths
  obtain ⟨f_Ldesign, fd_Ldesign, F_Ldesign, m_Ldesign⟩ := D_Ldesign
  obtain ⟨f_Lworld, fd_Lworld, F_Lworld, m_Lworld⟩ := D_Lworld
  obtain ⟨f_Lbegin, fd_Lbegin, F_Lbegin, m_Lbegin⟩ := D_Lbegin
  obtain ⟨f_Lgoing, fd_Lgoing, F_Lgoing, m_Lgoing⟩ := D_Lgoing
  obtain ⟨f_Lnext, fd_Lnext, F_Lnext, m_Lnext⟩ := D_Lnext
  obtain ⟨f_Levents, fd_Levents, F_Levents, m_Levents⟩ := D_Levents
  obtain ⟨f_Lend, fd_Lend, F_Lend, m_Lend⟩ := D_Lend
  obtain ⟨f_Lhold, fd_Lhold, F_Lhold, m_Lhold⟩ := D_Lhold
  obtain ⟨f_Lnewer, fd_Lnewer, F_Lnewer, m_Lnewer⟩ := D_Lnewer
  obtain ⟨f_Llets, fd_Llets, F_Llets, m_Llets⟩ := D_Llets
  obtain ⟨f_Lwrite, fd_Lwrite, F_Lwrite, m_Lwrite⟩ := D_Lwrite
  obtain ⟨f_Lread, fd_Lread, F_Lread, m_Lread⟩ := D_Lread
  obtain ⟨f_Ldo, fd_Ldo, F_Ldo, m_Ldo⟩ := D_Ldo
  obtain ⟨f_Lwalk, fd_Lwalk, F_Lwalk, m_Lwalk⟩ := D_Lwalk
  obtain ⟨f_Lline, fd_Lline, F_Lline, m_Lline⟩ := D_Lline
  obtain ⟨f_law, fd_law, c_law, P_law, F_law, m_law, hc_law, hd_law, out_law, tb_law⟩ := D_law
  obtain ⟨Z_Operation⟩ := X_Operation
  obtain ⟨Z_Play⟩ := X_Play
  obtain ⟨v_PATHS, m_PATHS, s_PATHS⟩ := K_PATHS
  obtain ⟨v_GUARDS, m_GUARDS, s_GUARDS⟩ := K_GUARDS
  obtain ⟨v_FLIGHTS, m_FLIGHTS, s_FLIGHTS⟩ := K_FLIGHTS
  obtain ⟨v_SOURCES, m_SOURCES, s_SOURCES⟩ := K_SOURCES
  obtain ⟨v_EVICTIONS, m_EVICTIONS, s_EVICTIONS⟩ := K_EVICTIONS
  obtain ⟨v_STOPS, m_STOPS, s_STOPS⟩ := K_STOPS
  obtain ⟨t_MOST_EVENTS, m_MOST_EVENTS⟩ := I_MOST_EVENTS
  obtain ⟨CB, fB, B⟩ := bad
  obtain ⟨CI, fI, IV⟩ := inv
  let T : Txt K mg := {
    f_check_text := f_check_text, fd_check_text := fd_check_text, F_check_text := F_check_text, m_check_text := m_check_text, f_is_design := f_is_design, fd_is_design := fd_is_design, F_is_design := F_is_design, m_is_design := m_is_design, f_is_world := f_is_world, fd_is_world := fd_is_world, F_is_world := F_is_world, m_is_world := m_is_world, f_is_triple := f_is_triple, fd_is_triple := fd_is_triple, F_is_triple := F_is_triple, m_is_triple := m_is_triple, f_all_designs := f_all_designs, fd_all_designs := fd_all_designs, F_all_designs := F_all_designs, m_all_designs := m_all_designs, f_all_worlds := f_all_worlds, fd_all_worlds := fd_all_worlds, F_all_worlds := F_all_worlds, m_all_worlds := m_all_worlds, f_all_triples := f_all_triples, fd_all_triples := fd_all_triples, F_all_triples := F_all_triples, m_all_triples := m_all_triples, f_write_steps := f_write_steps, fd_write_steps := fd_write_steps, F_write_steps := F_write_steps, m_write_steps := m_write_steps, f_check_design := f_check_design, fd_check_design := fd_check_design, F_check_design := F_check_design, m_check_design := m_check_design, f_check_world := f_check_world, fd_check_world := fd_check_world, F_check_world := F_check_world, m_check_world := m_check_world, f_Operation_init := Z_Operation.f_init, fd_Operation_init := Z_Operation.fd_init, F_Operation_init := Z_Operation.F_init, f_Operation_has_ended := Z_Operation.f_has_ended, fd_Operation_has_ended := Z_Operation.fd_has_ended, F_Operation_has_ended := Z_Operation.F_has_ended, f_Operation_is_under_way := Z_Operation.f_is_under_way, fd_Operation_is_under_way := Z_Operation.fd_is_under_way, F_Operation_is_under_way := Z_Operation.F_is_under_way, f_Operation_can_step := Z_Operation.f_can_step, fd_Operation_can_step := Z_Operation.fd_can_step, F_Operation_can_step := Z_Operation.F_can_step, f_Operation_stage := Z_Operation.f_stage, fd_Operation_stage := Z_Operation.fd_stage, F_Operation_stage := Z_Operation.F_stage, f_Play_init := Z_Play.f_init, fd_Play_init := Z_Play.fd_init, F_Play_init := Z_Play.F_init, f_Play_can_come := Z_Play.f_can_come, fd_Play_can_come := Z_Play.fd_can_come, F_Play_can_come := Z_Play.F_can_come, f_Play_events := Z_Play.f_events, fd_Play_events := Z_Play.fd_events, F_Play_events := Z_Play.F_events, f_Play_do := Z_Play.f_do, fd_Play_do := Z_Play.fd_do, F_Play_do := Z_Play.F_do, f_Play_step := Z_Play.f_step, fd_Play_step := Z_Play.fd_step, F_Play_step := Z_Play.F_step, f_Play_begun := Z_Play.f_begun, fd_Play_begun := Z_Play.fd_begun, F_Play_begun := Z_Play.F_begun, f_Play_look := Z_Play.f_look, fd_Play_look := Z_Play.fd_look, F_Play_look := Z_Play.F_look, f_Play_share := Z_Play.f_share, fd_Play_share := Z_Play.fd_share, F_Play_share := Z_Play.F_share, f_Play_fetch := Z_Play.f_fetch, fd_Play_fetch := Z_Play.fd_fetch, F_Play_fetch := Z_Play.F_fetch, f_Play_fill := Z_Play.f_fill, fd_Play_fill := Z_Play.fd_fill, F_Play_fill := Z_Play.F_fill, f_Play_take := Z_Play.f_take, fd_Play_take := Z_Play.fd_take, F_Play_take := Z_Play.F_take, f_Play_store := Z_Play.f_store, fd_Play_store := Z_Play.fd_store, F_Play_store := Z_Play.F_store, f_Play_drop := Z_Play.f_drop, fd_Play_drop := Z_Play.fd_drop, F_Play_drop := Z_Play.F_drop, f_Play_put := Z_Play.f_put, fd_Play_put := Z_Play.fd_put, F_Play_put := Z_Play.F_put, f_Play_lets_fill := Z_Play.f_lets_fill, fd_Play_lets_fill := Z_Play.fd_lets_fill, F_Play_lets_fill := Z_Play.F_lets_fill, f_Play_lets_in := Z_Play.f_lets_in, fd_Play_lets_in := Z_Play.fd_lets_in, F_Play_lets_in := Z_Play.F_lets_in, f_Play_hold := Z_Play.f_hold, fd_Play_hold := Z_Play.fd_hold, F_Play_hold := Z_Play.F_hold, f_Play_raise_mark := Z_Play.f_raise_mark, fd_Play_raise_mark := Z_Play.fd_raise_mark, F_Play_raise_mark := Z_Play.F_raise_mark, f_played := f_played, fd_played := fd_played, F_played := F_played, m_played := m_played, f_write_design := f_write_design, fd_write_design := fd_write_design, F_write_design := F_write_design, m_write_design := m_write_design, f_write_world := f_write_world, fd_write_world := fd_write_world, F_write_world := F_write_world, m_write_world := m_write_world, f_read_design := f_read_design, fd_read_design := fd_read_design, F_read_design := F_read_design, m_read_design := m_read_design, f_read_world := f_read_world, fd_read_world := fd_read_world, F_read_world := F_read_world, m_read_world := m_read_world, f_write_run := f_write_run, fd_write_run := fd_write_run, F_write_run := F_write_run, m_write_run := m_write_run, f_read_run := f_read_run, fd_read_run := fd_read_run, F_read_run := F_read_run, m_read_run := m_read_run, f_text_of_words := f_text_of_words, fd_text_of_words := fd_text_of_words, F_text_of_words := F_text_of_words, m_text_of_words := m_text_of_words, f_read_words := f_read_words, fd_read_words := fd_read_words, F_read_words := F_read_words, m_read_words := m_read_words, f_text_of_event := f_text_of_event, fd_text_of_event := fd_text_of_event, F_text_of_event := F_text_of_event, m_text_of_event := m_text_of_event, f_events_by_text := f_events_by_text, fd_events_by_text := fd_events_by_text, F_events_by_text := F_events_by_text, m_events_by_text := m_events_by_text, f_Ltaken := f_Ltaken, fd_Ltaken := fd_Ltaken, F_Ltaken := F_Ltaken, m_Ltaken := m_Ltaken, f_Lpick := f_Lpick, fd_Lpick := fd_Lpick, F_Lpick := F_Lpick, m_Lpick := m_Lpick, f_Lalike := f_Lalike, fd_Lalike := fd_Lalike, F_Lalike := F_Lalike, m_Lalike := m_Lalike, f_Lpaths := f_Lpaths, fd_Lpaths := fd_Lpaths, F_Lpaths := F_Lpaths, m_Lpaths := m_Lpaths, f_Ldesign := f_Ldesign, fd_Ldesign := fd_Ldesign, F_Ldesign := F_Ldesign, m_Ldesign := m_Ldesign, f_Lworld := f_Lworld, fd_Lworld := fd_Lworld, F_Lworld := F_Lworld, m_Lworld := m_Lworld, f_Lbegin := f_Lbegin, fd_Lbegin := fd_Lbegin, F_Lbegin := F_Lbegin, m_Lbegin := m_Lbegin, f_Lgoing := f_Lgoing, fd_Lgoing := fd_Lgoing, F_Lgoing := F_Lgoing, m_Lgoing := m_Lgoing, f_Lnext := f_Lnext, fd_Lnext := fd_Lnext, F_Lnext := F_Lnext, m_Lnext := m_Lnext, f_Levents := f_Levents, fd_Levents := fd_Levents, F_Levents := F_Levents, m_Levents := m_Levents, f_Lend := f_Lend, fd_Lend := fd_Lend, F_Lend := F_Lend, m_Lend := m_Lend, f_Lhold := f_Lhold, fd_Lhold := fd_Lhold, F_Lhold := F_Lhold, m_Lhold := m_Lhold, f_Lnewer := f_Lnewer, fd_Lnewer := fd_Lnewer, F_Lnewer := F_Lnewer, m_Lnewer := m_Lnewer, f_Llets := f_Llets, fd_Llets := fd_Llets, F_Llets := F_Llets, m_Llets := m_Llets, f_Lwrite := f_Lwrite, fd_Lwrite := fd_Lwrite, F_Lwrite := F_Lwrite, m_Lwrite := m_Lwrite, f_Lread := f_Lread, fd_Lread := fd_Lread, F_Lread := F_Lread, m_Lread := m_Lread, f_Ldo := f_Ldo, fd_Ldo := fd_Ldo, F_Ldo := F_Ldo, m_Ldo := m_Ldo, f_Lwalk := f_Lwalk, fd_Lwalk := fd_Lwalk, F_Lwalk := F_Lwalk, m_Lwalk := m_Lwalk, f_Lline := f_Lline, fd_Lline := fd_Lline, F_Lline := F_Lline, m_Lline := m_Lline, f_law := f_law, fd_law := fd_law, F_law := F_law, m_law := m_law, n_len := n_len, n_isinstance := n_isinstance, n_max := n_max, n_sorted := n_sorted, n_range := n_range, n_enumerate := n_enumerate, n_int := n_int, n_str := n_str, n_bool := n_bool, n_tuple := n_tuple, n_list := n_list, n_dict := n_dict, C_Operation := Z_Operation.C, c_Operation := Z_Operation.c_, k_Operation := Z_Operation.k_, m_Operation := Z_Operation.m_, a_Operation_kind := Z_Operation.a_kind, a_Operation_steps := Z_Operation.a_steps, a_Operation_began := Z_Operation.a_began, a_Operation_left := Z_Operation.a_left, a_Operation_stopped := Z_Operation.a_stopped, a_Operation_version := Z_Operation.a_version, a_Operation_awaited := Z_Operation.a_awaited, a_Operation_wipes_seen := Z_Operation.a_wipes_seen, M_Operation_has_ended := Z_Operation.M_has_ended, M_Operation_is_under_way := Z_Operation.M_is_under_way, M_Operation_can_step := Z_Operation.M_can_step, M_Operation_stage := Z_Operation.M_stage, C_Play := Z_Play.C, c_Play := Z_Play.c_, k_Play := Z_Play.k_, m_Play := Z_Play.m_, a_Play_design := Z_Play.a_design, a_Play_world := Z_Play.a_world, a_Play_path := Z_Play.a_path, a_Play_guard := Z_Play.a_guard, a_Play_flight := Z_Play.a_flight, a_Play_source := Z_Play.a_source, a_Play_evictions := Z_Play.a_evictions, a_Play_stops := Z_Play.a_stops, a_Play_database := Z_Play.a_database, a_Play_replica := Z_Play.a_replica, a_Play_cache := Z_Play.a_cache, a_Play_mark := Z_Play.a_mark, a_Play_operations := Z_Play.a_operations, a_Play_past := Z_Play.a_past, a_Play_leader := Z_Play.a_leader, a_Play_wipes := Z_Play.a_wipes, M_Play_can_come := Z_Play.M_can_come, M_Play_events := Z_Play.M_events, M_Play_do := Z_Play.M_do, M_Play_step := Z_Play.M_step, M_Play_begun := Z_Play.M_begun, M_Play_look := Z_Play.M_look, M_Play_share := Z_Play.M_share, M_Play_fetch := Z_Play.M_fetch, M_Play_fill := Z_Play.M_fill, M_Play_take := Z_Play.M_take, M_Play_store := Z_Play.M_store, M_Play_drop := Z_Play.M_drop, M_Play_put := Z_Play.M_put, M_Play_lets_fill := Z_Play.M_lets_fill, M_Play_lets_in := Z_Play.M_lets_in, M_Play_hold := Z_Play.M_hold, M_Play_raise_mark := Z_Play.M_raise_mark }
  let U : TxtC K mg := { v_PATHS := v_PATHS, m_PATHS := m_PATHS, s_PATHS := s_PATHS, v_GUARDS := v_GUARDS, m_GUARDS := m_GUARDS, s_GUARDS := s_GUARDS, v_FLIGHTS := v_FLIGHTS, m_FLIGHTS := m_FLIGHTS, s_FLIGHTS := s_FLIGHTS, v_SOURCES := v_SOURCES, m_SOURCES := m_SOURCES, s_SOURCES := s_SOURCES, v_EVICTIONS := v_EVICTIONS, m_EVICTIONS := m_EVICTIONS, s_EVICTIONS := s_EVICTIONS, v_STOPS := v_STOPS, m_STOPS := m_STOPS, s_STOPS := s_STOPS, t_MOST_EVENTS := t_MOST_EVENTS, m_MOST_EVENTS := m_MOST_EVENTS }
  obtain ⟨ER⟩ := er
  have e : f_law = fa := by
    have z := m_law.symm.trans hmg
    cases z
    rfl
  subst e
  refine ⟨fd_law, [(c_law, P_law)], (spLawT K P_law), (List.forall_mem_cons.mpr ⟨tb_law, (fun _ h => nomatch h)⟩), (List.forall_mem_cons.mpr ⟨out_law, (fun _ h => nomatch h)⟩), (List.forall_mem_cons.mpr ⟨(PySem.W.codeHd_of_K X hd_law), (fun _ h => nomatch h)⟩), fun s u => ?_, fun H a ns hl hb hT hS => ?_, fun base KB GB hTB => ok_law T U B ER IV (lt_of ER IV B lt) (hTB (c_law, P_law) (by simp)) hc_law⟩
  · obtain ⟨oc, od, kV, doc, pm, an, cdv, ct, osl, ef, _, _⟩ := F_law.ex
    rw [ef]
    exact .of_eq rfl
  · unfold spLawT
    exact ⟨a, ns, rfl, hS, hT (c_law, P_law) (by simp), fun _ => rfl⟩
theorem walk {l : PySem.W.OpenLaw} {q : Program} {loose : List Str} {XP : (Str → Option Value) → Heap → Prop} {YP : World → Heap → Prop} {d : DefRec} {K : Params → PySem.W.Frag} (hn : l.most = some 63) (hdf : d.params.defaults = [])
    (hY : ∀ (w : World) (h : Heap), YP w h → (K w.params).In h)
    (F : ∀ (w : World) (mg : Str → Option Value) (fa : Addr) (h : Heap), YP w h → (K w.params).In h → h.Ns mainGlobals mg → mg d.name = some (.ref fa) → LamX.LawAtS l w (K w.params) CX0 14 63 "script" mg fa h) :
    PySem.W.WalkO q loose XP YP l.row.toRowW d [] (fun f vs => PySem.call f vs) :=
  LamX.walk_ofTs (n := 63) (k := 14) (x := "script") (CX := fun _ => CX0) hn (by decide) hdf ⟨rfl, by decide, by decide⟩ hY F fun _ _ _ _ _ z => z
end Ca

open PySem PySem.W PyProof.Rows
set_option Elab.async false
set_option maxRecDepth 100000 in
set_option maxHeartbeats 0 in
theorem PySem.Challenge.cw_cacheheld_k09_whole_texts_holds : PySem.Challenge.rw_cacheheld_k09_whole_texts.Holds := by
  w_on; o_law; k_head; (case hw => w_witness2)
  k_fill
  refine Ca.walk (l := PySem.Challenge.rw_cacheheld_k09_whole_texts) rfl rfl (fun w h Y => PySem.W.km_in_of Y) ?F
  case F =>
    intro w mg fa h Y KX G hmg
    refine' Ca.fin KX hmg ?D_check_text ?D_is_design ?D_is_world ?D_is_triple ?D_all_designs ?D_all_worlds ?D_all_triples ?D_write_steps ?D_check_design ?D_check_world ?D_played ?D_write_design ?D_write_world ?D_read_design ?D_read_world ?D_write_run ?D_read_run ?D_text_of_words ?D_read_words ?D_text_of_event ?D_events_by_text ?D_Ltaken ?D_Lpick ?D_Lalike ?D_Lpaths ?D_Ldesign ?D_Lworld ?D_Lbegin ?D_Lgoing ?D_Lnext ?D_Levents ?D_Lend ?D_Lhold ?D_Lnewer ?D_Llets ?D_Lwrite ?D_Lread ?D_Ldo ?D_Lwalk ?D_Lline ?D_law ?X_Operation ?X_Play ?K_PATHS ?K_GUARDS ?K_FLIGHTS ?K_SOURCES ?K_EVICTIONS ?K_STOPS ?I_MOST_EVENTS ?n_len ?n_isinstance ?n_max ?n_sorted ?n_range ?n_enumerate ?n_int ?n_str ?n_bool ?n_tuple ?n_list ?n_dict ?er ?bad ?inv ?lt
    case D_check_text =>
      refine' Ca.def_mk KX G ?z1_a ?z1_l ?z1_c ?z1_k
      (case z1_a => k_is)
      (case z1_l => k_is)
      (case z1_c => k_is)
      (case z1_k => k_is)
    case D_is_design =>
      refine' Ca.def_mk KX G ?z2_a ?z2_l ?z2_c ?z2_k
      (case z2_a => k_is)
      (case z2_l => k_is)
      (case z2_c => k_is)
      (case z2_k => k_is)
    case D_is_world =>
      refine' Ca.def_mk KX G ?z3_a ?z3_l ?z3_c ?z3_k
      (case z3_a => k_is)
      (case z3_l => k_is)
      (case z3_c => k_is)
      (case z3_k => k_is)
    case D_is_triple =>
      refine' Ca.def_mk KX G ?z4_a ?z4_l ?z4_c ?z4_k
      (case z4_a => k_is)
      (case z4_l => k_is)
      (case z4_c => k_is)
      (case z4_k => k_is)
    case D_all_designs =>
      refine' Ca.def_mk KX G ?z5_a ?z5_l ?z5_c ?z5_k
      (case z5_a => k_is)
      (case z5_l => k_is)
      (case z5_c => k_is)
      (case z5_k => k_is)
    case D_all_worlds =>
      refine' Ca.def_mk KX G ?z6_a ?z6_l ?z6_c ?z6_k
      (case z6_a => k_is)
      (case z6_l => k_is)
      (case z6_c => k_is)
      (case z6_k => k_is)
    case D_all_triples =>
      refine' Ca.def_mk KX G ?z7_a ?z7_l ?z7_c ?z7_k
      (case z7_a => k_is)
      (case z7_l => k_is)
      (case z7_c => k_is)
      (case z7_k => k_is)
    case D_write_steps =>
      refine' Ca.def_mk KX G ?z8_a ?z8_l ?z8_c ?z8_k
      (case z8_a => k_is)
      (case z8_l => k_is)
      (case z8_c => k_is)
      (case z8_k => k_is)
    case D_check_design =>
      refine' Ca.def_mk KX G ?z9_a ?z9_l ?z9_c ?z9_k
      (case z9_a => k_is)
      (case z9_l => k_is)
      (case z9_c => k_is)
      (case z9_k => k_is)
    case D_check_world =>
      refine' Ca.def_mk KX G ?z10_a ?z10_l ?z10_c ?z10_k
      (case z10_a => k_is)
      (case z10_l => k_is)
      (case z10_c => k_is)
      (case z10_k => k_is)
    case D_played =>
      refine' Ca.def_mk KX G ?z11_a ?z11_l ?z11_c ?z11_k
      (case z11_a => k_is)
      (case z11_l => k_is)
      (case z11_c => k_is)
      (case z11_k => k_is)
    case D_write_design =>
      refine' Ca.def_mk KX G ?z12_a ?z12_l ?z12_c ?z12_k
      (case z12_a => k_is)
      (case z12_l => k_is)
      (case z12_c => k_is)
      (case z12_k => k_is)
    case D_write_world =>
      refine' Ca.def_mk KX G ?z13_a ?z13_l ?z13_c ?z13_k
      (case z13_a => k_is)
      (case z13_l => k_is)
      (case z13_c => k_is)
      (case z13_k => k_is)
    case D_read_design =>
      refine' Ca.def_mk KX G ?z14_a ?z14_l ?z14_c ?z14_k
      (case z14_a => k_is)
      (case z14_l => k_is)
      (case z14_c => k_is)
      (case z14_k => k_is)
    case D_read_world =>
      refine' Ca.def_mk KX G ?z15_a ?z15_l ?z15_c ?z15_k
      (case z15_a => k_is)
      (case z15_l => k_is)
      (case z15_c => k_is)
      (case z15_k => k_is)
    case D_write_run =>
      refine' Ca.def_mk KX G ?z16_a ?z16_l ?z16_c ?z16_k
      (case z16_a => k_is)
      (case z16_l => k_is)
      (case z16_c => k_is)
      (case z16_k => k_is)
    case D_read_run =>
      refine' Ca.def_mk KX G ?z17_a ?z17_l ?z17_c ?z17_k
      (case z17_a => k_is)
      (case z17_l => k_is)
      (case z17_c => k_is)
      (case z17_k => k_is)
    case D_text_of_words =>
      refine' Ca.def_mk KX G ?z18_a ?z18_l ?z18_c ?z18_k
      (case z18_a => k_is)
      (case z18_l => k_is)
      (case z18_c => k_is)
      (case z18_k => k_is)
    case D_read_words =>
      refine' Ca.def_mk KX G ?z19_a ?z19_l ?z19_c ?z19_k
      (case z19_a => k_is)
      (case z19_l => k_is)
      (case z19_c => k_is)
      (case z19_k => k_is)
    case D_text_of_event =>
      refine' Ca.def_mk KX G ?z20_a ?z20_l ?z20_c ?z20_k
      (case z20_a => k_is)
      (case z20_l => k_is)
      (case z20_c => k_is)
      (case z20_k => k_is)
    case D_events_by_text =>
      refine' Ca.def_mk KX G ?z21_a ?z21_l ?z21_c ?z21_k
      (case z21_a => k_is)
      (case z21_l => k_is)
      (case z21_c => k_is)
      (case z21_k => k_is)
    case D_Ltaken =>
      refine' Ca.def_mk KX G ?z22_a ?z22_l ?z22_c ?z22_k
      (case z22_a => k_is)
      (case z22_l => k_is)
      (case z22_c => k_is)
      (case z22_k => k_is)
    case D_Lpick =>
      refine' Ca.def_mk KX G ?z23_a ?z23_l ?z23_c ?z23_k
      (case z23_a => k_is)
      (case z23_l => k_is)
      (case z23_c => k_is)
      (case z23_k => k_is)
    case D_Lalike =>
      refine' Ca.def_mk KX G ?z24_a ?z24_l ?z24_c ?z24_k
      (case z24_a => k_is)
      (case z24_l => k_is)
      (case z24_c => k_is)
      (case z24_k => k_is)
    case D_Lpaths =>
      refine' Ca.def_mk KX G ?z25_a ?z25_l ?z25_c ?z25_k
      (case z25_a => k_is)
      (case z25_l => k_is)
      (case z25_c => k_is)
      (case z25_k => k_is)
    case D_Ldesign =>
      refine' Ca.def_mk KX G ?z26_a ?z26_l ?z26_c ?z26_k
      (case z26_a => k_is)
      (case z26_l => k_is)
      (case z26_c => k_is)
      (case z26_k => k_is)
    case D_Lworld =>
      refine' Ca.def_mk KX G ?z27_a ?z27_l ?z27_c ?z27_k
      (case z27_a => k_is)
      (case z27_l => k_is)
      (case z27_c => k_is)
      (case z27_k => k_is)
    case D_Lbegin =>
      refine' Ca.def_mk KX G ?z28_a ?z28_l ?z28_c ?z28_k
      (case z28_a => k_is)
      (case z28_l => k_is)
      (case z28_c => k_is)
      (case z28_k => k_is)
    case D_Lgoing =>
      refine' Ca.def_mk KX G ?z29_a ?z29_l ?z29_c ?z29_k
      (case z29_a => k_is)
      (case z29_l => k_is)
      (case z29_c => k_is)
      (case z29_k => k_is)
    case D_Lnext =>
      refine' Ca.def_mk KX G ?z30_a ?z30_l ?z30_c ?z30_k
      (case z30_a => k_is)
      (case z30_l => k_is)
      (case z30_c => k_is)
      (case z30_k => k_is)
    case D_Levents =>
      refine' Ca.def_mk KX G ?z31_a ?z31_l ?z31_c ?z31_k
      (case z31_a => k_is)
      (case z31_l => k_is)
      (case z31_c => k_is)
      (case z31_k => k_is)
    case D_Lend =>
      refine' Ca.def_mk KX G ?z32_a ?z32_l ?z32_c ?z32_k
      (case z32_a => k_is)
      (case z32_l => k_is)
      (case z32_c => k_is)
      (case z32_k => k_is)
    case D_Lhold =>
      refine' Ca.def_mk KX G ?z33_a ?z33_l ?z33_c ?z33_k
      (case z33_a => k_is)
      (case z33_l => k_is)
      (case z33_c => k_is)
      (case z33_k => k_is)
    case D_Lnewer =>
      refine' Ca.def_mk KX G ?z34_a ?z34_l ?z34_c ?z34_k
      (case z34_a => k_is)
      (case z34_l => k_is)
      (case z34_c => k_is)
      (case z34_k => k_is)
    case D_Llets =>
      refine' Ca.def_mk KX G ?z35_a ?z35_l ?z35_c ?z35_k
      (case z35_a => k_is)
      (case z35_l => k_is)
      (case z35_c => k_is)
      (case z35_k => k_is)
    case D_Lwrite =>
      refine' Ca.def_mk KX G ?z36_a ?z36_l ?z36_c ?z36_k
      (case z36_a => k_is)
      (case z36_l => k_is)
      (case z36_c => k_is)
      (case z36_k => k_is)
    case D_Lread =>
      refine' Ca.def_mk KX G ?z37_a ?z37_l ?z37_c ?z37_k
      (case z37_a => k_is)
      (case z37_l => k_is)
      (case z37_c => k_is)
      (case z37_k => k_is)
    case D_Ldo =>
      refine' Ca.def_mk KX G ?z38_a ?z38_l ?z38_c ?z38_k
      (case z38_a => k_is)
      (case z38_l => k_is)
      (case z38_c => k_is)
      (case z38_k => k_is)
    case D_Lwalk =>
      refine' Ca.def_mk KX G ?z39_a ?z39_l ?z39_c ?z39_k
      (case z39_a => k_is)
      (case z39_l => k_is)
      (case z39_c => k_is)
      (case z39_k => k_is)
    case D_Lline =>
      refine' Ca.def_mk KX G ?z40_a ?z40_l ?z40_c ?z40_k
      (case z40_a => k_is)
      (case z40_l => k_is)
      (case z40_c => k_is)
      (case z40_k => k_is)
    case D_law =>
      refine' Ca.mk_mk KX G ?z41_a ?z41_l ?z41_c1 ?z41_k ?z41_tb ?z41_hd ?z41_out
      (case z41_a => k_is)
      (case z41_l => k_is)
      (case z41_c1 => k_is)
      (case z41_k => k_is)
      (case z41_tb => exact PySem.W.km_tabs_of Y _ (List.mem_cons_self ..))
      (case z41_hd => kernel_rfl)
      (case z41_out => kernel_rfl)
    case X_Operation =>
      refine' Ca.Operation_mk KX G ?z42_aC ?z42_pg ?z42_hd ?z42_po ?z42_sa ?z42_mk ?z42_kc ?z42_a0 ?z42_i0 ?z42_l0 ?z42_c0 ?z42_k0 ?z42_a1 ?z42_i1 ?z42_l1 ?z42_c1 ?z42_k1 ?z42_a2 ?z42_i2 ?z42_l2 ?z42_c2 ?z42_k2 ?z42_a3 ?z42_i3 ?z42_l3 ?z42_c3 ?z42_k3 ?z42_a4 ?z42_i4 ?z42_l4 ?z42_c4 ?z42_k4 ?z42_n0 ?z42_n1 ?z42_n2 ?z42_n3 ?z42_n4 ?z42_n5 ?z42_n6 ?z42_n7
      (case z42_aC => k_is)
      (case z42_pg => k_is)
      (case z42_hd => k_is)
      (case z42_po => k_is)
      (case z42_sa => k_is)
      (case z42_mk => k_is)
      (case z42_kc => k_is)
      (case z42_a0 => k_is)
      (case z42_i0 => k_is)
      (case z42_l0 => k_is)
      (case z42_c0 => k_is)
      (case z42_k0 => k_is)
      (case z42_a1 => k_is)
      (case z42_i1 => k_is)
      (case z42_l1 => k_is)
      (case z42_c1 => k_is)
      (case z42_k1 => k_is)
      (case z42_a2 => k_is)
      (case z42_i2 => k_is)
      (case z42_l2 => k_is)
      (case z42_c2 => k_is)
      (case z42_k2 => k_is)
      (case z42_a3 => k_is)
      (case z42_i3 => k_is)
      (case z42_l3 => k_is)
      (case z42_c3 => k_is)
      (case z42_k3 => k_is)
      (case z42_a4 => k_is)
      (case z42_i4 => k_is)
      (case z42_l4 => k_is)
      (case z42_c4 => k_is)
      (case z42_k4 => k_is)
      (case z42_n0 => k_is)
      (case z42_n1 => k_is)
      (case z42_n2 => k_is)
      (case z42_n3 => k_is)
      (case z42_n4 => k_is)
      (case z42_n5 => k_is)
      (case z42_n6 => k_is)
      (case z42_n7 => k_is)
    case X_Play =>
      refine' Ca.Play_mk KX G ?z43_aC ?z43_pg ?z43_hd ?z43_po ?z43_sa ?z43_mk ?z43_kc ?z43_a0 ?z43_i0 ?z43_l0 ?z43_c0 ?z43_k0 ?z43_a1 ?z43_i1 ?z43_l1 ?z43_c1 ?z43_k1 ?z43_a2 ?z43_i2 ?z43_l2 ?z43_c2 ?z43_k2 ?z43_a3 ?z43_i3 ?z43_l3 ?z43_c3 ?z43_k3 ?z43_a4 ?z43_i4 ?z43_l4 ?z43_c4 ?z43_k4 ?z43_a5 ?z43_i5 ?z43_l5 ?z43_c5 ?z43_k5 ?z43_a6 ?z43_i6 ?z43_l6 ?z43_c6 ?z43_k6 ?z43_a7 ?z43_i7 ?z43_l7 ?z43_c7 ?z43_k7 ?z43_a8 ?z43_i8 ?z43_l8 ?z43_c8 ?z43_k8 ?z43_a9 ?z43_i9 ?z43_l9 ?z43_c9 ?z43_k9 ?z43_a10 ?z43_i10 ?z43_l10 ?z43_c10 ?z43_k10 ?z43_a11 ?z43_i11 ?z43_l11 ?z43_c11 ?z43_k11 ?z43_a12 ?z43_i12 ?z43_l12 ?z43_c12 ?z43_k12 ?z43_a13 ?z43_i13 ?z43_l13 ?z43_c13 ?z43_k13 ?z43_a14 ?z43_i14 ?z43_l14 ?z43_c14 ?z43_k14 ?z43_a15 ?z43_i15 ?z43_l15 ?z43_c15 ?z43_k15 ?z43_a16 ?z43_i16 ?z43_l16 ?z43_c16 ?z43_k16 ?z43_a17 ?z43_i17 ?z43_l17 ?z43_c17 ?z43_k17 ?z43_n0 ?z43_n1 ?z43_n2 ?z43_n3 ?z43_n4 ?z43_n5 ?z43_n6 ?z43_n7 ?z43_n8 ?z43_n9 ?z43_n10 ?z43_n11 ?z43_n12 ?z43_n13 ?z43_n14 ?z43_n15
      (case z43_aC => k_is)
      (case z43_pg => k_is)
      (case z43_hd => k_is)
      (case z43_po => k_is)
      (case z43_sa => k_is)
      (case z43_mk => k_is)
      (case z43_kc => k_is)
      (case z43_a0 => k_is)
      (case z43_i0 => k_is)
      (case z43_l0 => k_is)
      (case z43_c0 => k_is)
      (case z43_k0 => k_is)
      (case z43_a1 => k_is)
      (case z43_i1 => k_is)
      (case z43_l1 => k_is)
      (case z43_c1 => k_is)
      (case z43_k1 => k_is)
      (case z43_a2 => k_is)
      (case z43_i2 => k_is)
      (case z43_l2 => k_is)
      (case z43_c2 => k_is)
      (case z43_k2 => k_is)
      (case z43_a3 => k_is)
      (case z43_i3 => k_is)
      (case z43_l3 => k_is)
      (case z43_c3 => k_is)
      (case z43_k3 => k_is)
      (case z43_a4 => k_is)
      (case z43_i4 => k_is)
      (case z43_l4 => k_is)
      (case z43_c4 => k_is)
      (case z43_k4 => k_is)
      (case z43_a5 => k_is)
      (case z43_i5 => k_is)
      (case z43_l5 => k_is)
      (case z43_c5 => k_is)
      (case z43_k5 => k_is)
      (case z43_a6 => k_is)
      (case z43_i6 => k_is)
      (case z43_l6 => k_is)
      (case z43_c6 => k_is)
      (case z43_k6 => k_is)
      (case z43_a7 => k_is)
      (case z43_i7 => k_is)
      (case z43_l7 => k_is)
      (case z43_c7 => k_is)
      (case z43_k7 => k_is)
      (case z43_a8 => k_is)
      (case z43_i8 => k_is)
      (case z43_l8 => k_is)
      (case z43_c8 => k_is)
      (case z43_k8 => k_is)
      (case z43_a9 => k_is)
      (case z43_i9 => k_is)
      (case z43_l9 => k_is)
      (case z43_c9 => k_is)
      (case z43_k9 => k_is)
      (case z43_a10 => k_is)
      (case z43_i10 => k_is)
      (case z43_l10 => k_is)
      (case z43_c10 => k_is)
      (case z43_k10 => k_is)
      (case z43_a11 => k_is)
      (case z43_i11 => k_is)
      (case z43_l11 => k_is)
      (case z43_c11 => k_is)
      (case z43_k11 => k_is)
      (case z43_a12 => k_is)
      (case z43_i12 => k_is)
      (case z43_l12 => k_is)
      (case z43_c12 => k_is)
      (case z43_k12 => k_is)
      (case z43_a13 => k_is)
      (case z43_i13 => k_is)
      (case z43_l13 => k_is)
      (case z43_c13 => k_is)
      (case z43_k13 => k_is)
      (case z43_a14 => k_is)
      (case z43_i14 => k_is)
      (case z43_l14 => k_is)
      (case z43_c14 => k_is)
      (case z43_k14 => k_is)
      (case z43_a15 => k_is)
      (case z43_i15 => k_is)
      (case z43_l15 => k_is)
      (case z43_c15 => k_is)
      (case z43_k15 => k_is)
      (case z43_a16 => k_is)
      (case z43_i16 => k_is)
      (case z43_l16 => k_is)
      (case z43_c16 => k_is)
      (case z43_k16 => k_is)
      (case z43_a17 => k_is)
      (case z43_i17 => k_is)
      (case z43_l17 => k_is)
      (case z43_c17 => k_is)
      (case z43_k17 => k_is)
      (case z43_n0 => k_is)
      (case z43_n1 => k_is)
      (case z43_n2 => k_is)
      (case z43_n3 => k_is)
      (case z43_n4 => k_is)
      (case z43_n5 => k_is)
      (case z43_n6 => k_is)
      (case z43_n7 => k_is)
      (case z43_n8 => k_is)
      (case z43_n9 => k_is)
      (case z43_n10 => k_is)
      (case z43_n11 => k_is)
      (case z43_n12 => k_is)
      (case z43_n13 => k_is)
      (case z43_n14 => k_is)
      (case z43_n15 => k_is)
    case K_PATHS =>
      refine' Ca.con_mk KX G ?z44_a ?z44_l ?z44_z ?z44_r
      (case z44_a => k_is)
      (case z44_l => k_is)
      (case z44_z => first | decide +kernel | decide)
      (case z44_r => exact (.cons ⟨_, rfl⟩ (.cons ⟨_, rfl⟩ (.cons ⟨_, rfl⟩ (.cons ⟨_, rfl⟩ (.cons ⟨_, rfl⟩ .nil))))))
    case K_GUARDS =>
      refine' Ca.con_mk KX G ?z45_a ?z45_l ?z45_z ?z45_r
      (case z45_a => k_is)
      (case z45_l => k_is)
      (case z45_z => first | decide +kernel | decide)
      (case z45_r => exact (.cons ⟨_, rfl⟩ (.cons ⟨_, rfl⟩ (.cons ⟨_, rfl⟩ (.cons ⟨_, rfl⟩ (.cons ⟨_, rfl⟩ (.cons ⟨_, rfl⟩ .nil)))))))
    case K_FLIGHTS =>
      refine' Ca.con_mk KX G ?z46_a ?z46_l ?z46_z ?z46_r
      (case z46_a => k_is)
      (case z46_l => k_is)
      (case z46_z => first | decide +kernel | decide)
      (case z46_r => exact (.cons ⟨_, rfl⟩ (.cons ⟨_, rfl⟩ .nil)))
    case K_SOURCES =>
      refine' Ca.con_mk KX G ?z47_a ?z47_l ?z47_z ?z47_r
      (case z47_a => k_is)
      (case z47_l => k_is)
      (case z47_z => first | decide +kernel | decide)
      (case z47_r => exact (.cons ⟨_, rfl⟩ (.cons ⟨_, rfl⟩ .nil)))
    case K_EVICTIONS =>
      refine' Ca.con_mk KX G ?z48_a ?z48_l ?z48_z ?z48_r
      (case z48_a => k_is)
      (case z48_l => k_is)
      (case z48_z => first | decide +kernel | decide)
      (case z48_r => exact (.cons ⟨_, rfl⟩ (.cons ⟨_, rfl⟩ .nil)))
    case K_STOPS =>
      refine' Ca.con_mk KX G ?z49_a ?z49_l ?z49_z ?z49_r
      (case z49_a => k_is)
      (case z49_l => k_is)
      (case z49_z => first | decide +kernel | decide)
      (case z49_r => exact (.cons ⟨_, rfl⟩ (.cons ⟨_, rfl⟩ .nil)))
    case I_MOST_EVENTS =>
      refine' Ca.int_mk KX G ?z50_a
      (case z50_a => k_is)
    case n_len =>
      refine' PySem.W.mg_none_of KX G ?z51_a
      (case z51_a => k_is)
    case n_isinstance =>
      refine' PySem.W.mg_none_of KX G ?z52_a
      (case z52_a => k_is)
    case n_max =>
      refine' PySem.W.mg_none_of KX G ?z53_a
      (case z53_a => k_is)
    case n_sorted =>
      refine' PySem.W.mg_none_of KX G ?z54_a
      (case z54_a => k_is)
    case n_range =>
      refine' PySem.W.mg_none_of KX G ?z55_a
      (case z55_a => k_is)
    case n_enumerate =>
      refine' PySem.W.mg_none_of KX G ?z56_a
      (case z56_a => k_is)
    case n_int =>
      refine' PySem.W.mg_none_of KX G ?z57_a
      (case z57_a => k_is)
    case n_str =>
      refine' PySem.W.mg_none_of KX G ?z58_a
      (case z58_a => k_is)
    case n_bool =>
      refine' PySem.W.mg_none_of KX G ?z59_a
      (case z59_a => k_is)
    case n_tuple =>
      refine' PySem.W.mg_none_of KX G ?z60_a
      (case z60_a => k_is)
    case n_list =>
      refine' PySem.W.mg_none_of KX G ?z61_a
      (case z61_a => k_is)
    case n_dict =>
      refine' PySem.W.mg_none_of KX G ?z62_a
      (case z62_a => k_is)
    case er =>
      refine' Ca.err_mk KX G ?z63_aB ?z63_bB ?z63_dB ?z63_tB ?z63_hn ?z63_ht ?z63_a0 ?z63_x0 ?z63_k0 ?z63_t0 ?z63_s0 ?z63_hg0 ?z63_hk0 ?z63_hs0 ?z63_hd0 ?z63_ha0 ?z63_hm0 ?z63_q0_0
      (case z63_aB => k_is)
      (case z63_bB => k_is)
      (case z63_dB => k_is)
      (case z63_tB => k_is)
      (case z63_hn => k_is)
      (case z63_ht => k_is)
      (case z63_a0 => k_is)
      (case z63_x0 => k_exc)
      (case z63_k0 => k_is)
      (case z63_t0 => k_is)
      (case z63_s0 => k_is)
      (case z63_hg0 => k_is)
      (case z63_hk0 => k_is)
      (case z63_hs0 => k_is)
      (case z63_hd0 => k_is)
      (case z63_ha0 => k_is)
      (case z63_hm0 => k_is)
      (case z63_q0_0 => first | kit_is | k_is)
    case bad =>
      refine' Ca.bad_mk KX G ?zb_aC ?zb_zS ?zb_xL ?zb_su ?zb_sa ?zb_ga ?zb_gg ?zb_ni ?zb_iC ?zb_tF ?zb_kC ?zb_eC ?zb_eV ?zb_tC ?zb_hC ?zb_cC ?zb_sC ?zb_oq ?zb_tp ?zb_l1 ?zb_c1 ?zb_l2 ?zb_v2 ?zb_fl ?zb_l3
      (case zb_aC => k_is)
      (case zb_zS => k_is)
      (case zb_xL => k_is)
      (case zb_su => ks_is)
      (case zb_sa => k_is)
      (case zb_ga => k_is)
      (case zb_gg => k_is)
      (case zb_ni => k_is)
      (case zb_iC => k_is)
      (case zb_tF => k_is)
      (case zb_kC => k_is)
      (case zb_eC => k_is)
      (case zb_eV => k_is)
      (case zb_tC => k_is)
      (case zb_hC => k_is)
      (case zb_cC => k_is)
      (case zb_sC => first | k_is | rfl)
      (case zb_oq => k_is)
      (case zb_tp => first | rfl | decide +kernel)
      (case zb_l1 => k_is)
      (case zb_c1 => k_is)
      (case zb_l2 => k_is)
      (case zb_v2 => rfl)
      (case zb_fl => first | rfl | decide +kernel)
      (case zb_l3 => k_is)
    case inv =>
      refine' Ca.inv_mk KX G ?zi_aC ?zi_zS ?zi_xL ?zi_su ?zi_sa ?zi_ga ?zi_gg ?zi_ni ?zi_iC ?zi_tF ?zi_kC ?zi_eC ?zi_eV ?zi_tC ?zi_hC ?zi_cC ?zi_sC ?zi_oq ?zi_tp ?zi_l1 ?zi_c1 ?zi_l2 ?zi_v2 ?zi_fl ?zi_l3
      (case zi_aC => k_is)
      (case zi_zS => k_is)
      (case zi_xL => k_is)
      (case zi_su => ks_is)
      (case zi_sa => k_is)
      (case zi_ga => k_is)
      (case zi_gg => k_is)
      (case zi_ni => k_is)
      (case zi_iC => k_is)
      (case zi_tF => k_is)
      (case zi_kC => k_is)
      (case zi_eC => k_is)
      (case zi_eV => k_is)
      (case zi_tC => k_is)
      (case zi_hC => k_is)
      (case zi_cC => k_is)
      (case zi_sC => first | k_is | rfl)
      (case zi_oq => k_is)
      (case zi_tp => first | rfl | decide +kernel)
      (case zi_l1 => k_is)
      (case zi_c1 => k_is)
      (case zi_l2 => k_is)
      (case zi_v2 => rfl)
      (case zi_fl => first | rfl | decide +kernel)
      (case zi_l3 => k_is)
    case lt =>
      refine' Ca.lt_mk KX G ?zl_aI ?zl_aB ?zl_aN ?zl_ha ?zl_hn ?zl_ht ?zl_hm ?zl_bB ?zl_dB ?zl_tB ?zl_sI ?zl_kI ?zl_kN
      (case zl_aI => k_is)
      (case zl_aB => k_is)
      (case zl_aN => k_is)
      (case zl_ha => k_is)
      (case zl_hn => k_is)
      (case zl_ht => k_is)
      (case zl_hm => k_is)
      (case zl_bB => k_is)
      (case zl_dB => k_is)
      (case zl_tB => k_is)
      (case zl_sI => first | k_is | rfl)
      (case zl_kI => first | kit_is | k_is)
      (case zl_kN => first | kit_is | k_is)


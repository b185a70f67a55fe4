import PyProof.Rows.All
import Wide.All
import OpenK.AllK
import Wide.FinOn
import KE.KSortTup
import KE.KSortTupAny
import HandS.ForMost
import HandS.Sort
import HandS.SortOrd
import HandS.SortRule
import HandS.ForExc
import HandS.More
import HandS.Small
import HandS.Flow
import HandS.Style
import HandS.IsInst
import HandS.Deep
import HandS.ListItems
import HandS.TupAny
import HandS.NoneIn
import HandS.Evl
import HandS.CallLocal
import PySem.Challenge.RW_cacheheld_k02_whole_orders
import KE.GoesEnum
import KE.KExcSuper
import HandS.ExcInit
import HandS.FStr
import HandS.HeadWalk
import HandS.ExcSuper
import PyProof.FString2
import PyProof.EqAt
import PyProof.NeKinds
set_option Elab.async false
set_option linter.all false
set_option maxRecDepth 100000
set_option maxHeartbeats 4000000
/-! events (a word, maybe a number), tuples of them in the heap, and sorted of a list of such -/
namespace Ca
open PySem L2
abbrev Ev := Str × Option Int
def evV (e : Ev) : List V := match e.2 with
  | none => [.str e.1]
  | some k => [.str e.1, .int k]
def evK (e : Ev) : List (Int ⊕ List Nat) := match e.2 with
  | none => [.inr e.1.cps.toList]
  | some k => [.inr e.1.cps.toList, .inl k]
def evLt (e f : Ev) : Bool := (PyProof.Rows.listOrd PyProof.Rows.itemOrd).blt (evK e) (evK f)
theorem evK_inj {e f : Ev} (h : evK e = evK f) : e = f := by
  obtain ⟨w, k⟩ := e
  obtain ⟨v, j⟩ := f
  cases k <;> cases j <;> simp [evK] at h
  · have : w = v := by cases w; cases v; simp_all
    rw [this]
  · obtain ⟨h1, h2⟩ := h
    have : w = v := by cases w; cases v; simp_all
    rw [this, h2]
theorem evLt_swo {α : Type} (k : α → Ev) : SrtO.Swo fun x y => evLt (k x) (k y) := by
  refine ⟨fun x y h => ?_, fun x y z h1 h2 => ?_⟩
  · cases q : evLt (k y) (k x) with
    | false => rfl
    | true =>
      have t := (PyProof.Rows.listOrd PyProof.Rows.itemOrd).trans _ _ _ h q
      rw [(PyProof.Rows.listOrd PyProof.Rows.itemOrd).irrefl] at t
      cases t
  · cases q : evLt (k z) (k x) with
    | false => rfl
    | true =>
      rcases (PyProof.Rows.listOrd PyProof.Rows.itemOrd).negTrans _ (evK (k y)) _ q with t | t
      · have e : evLt (k z) (k y) = true := t
        rw [h2] at e
        cases e
      · have e : evLt (k y) (k x) = true := t
        rw [h1] at e
        cases e
theorem evLt_total {e f : Ev} (h1 : evLt e f = false) (h2 : evLt f e = false) : e = f :=
  evK_inj ((PyProof.Rows.listOrd PyProof.Rows.itemOrd).total _ _ h1 h2)
abbrev Srt (l : List Ev) : Prop := SrtO.Srtd evLt l
theorem srt_uniq : ∀ {l m : List Ev}, Srt l → Srt m → l.Perm m → l = m
  | [], m, _, _, h => (List.Perm.eq_nil h.symm).symm
  | x :: l, [], _, _, h => absurd h.length_eq (by simp)
  | x :: l, y :: m, hl, hm, h => by
    have h1 : evLt x y = false := by
      rcases List.mem_cons.mp (h.mem_iff.mp (List.mem_cons_self (a := x) (l := l))) with e | hx
      · rw [e]
        exact (evLt_swo id).refl y
      · exact (List.pairwise_cons.mp hm).1 x hx
    have h2 : evLt y x = false := by
      rcases List.mem_cons.mp (h.mem_iff.mpr (List.mem_cons_self (a := y) (l := m))) with e | hy
      · rw [e]
        exact (evLt_swo id).refl x
      · exact (List.pairwise_cons.mp hl).1 y hy
    have e := evLt_total h1 h2
    subst e
    rw [srt_uniq (List.pairwise_cons.mp hl).2 (List.pairwise_cons.mp hm).2 h.cons_inv]

section
open PyProof.Rows
variable {prog : Program} {w : World} {A : Around} {E : Value → Shared → Prop} {s : Shared}
abbrev evSh : Nat → Bool := fun i => i == 0
/-- a tuple of the heap that holds an event -/
def IsEv (h : Heap) (v : Value) (e : Ev) : Prop := ∃ (a : Addr) (its : List Value), v = .ref a ∧ Vals (evV e) its ∧ IsTup h a its.toArray
theorem IsEv.keeps {h h' : Heap} {v : Value} {e : Ev} (x : IsEv h v e) (k : ∀ b o, h.get? b = some o → o.cls = .type "tuple" → h'.get? b = some o) : IsEv h' v e := by
  obtain ⟨a, its, rfl, r, o, ho, hc, hd⟩ := x
  exact ⟨a, its, rfl, r, o, k _ _ ho hc, hc, hd⟩
theorem IsEv.key {h : Heap} {v : Value} {e : Ev} (x : IsEv h v e) : tupKey h evSh v = some (evK e) := by
  obtain ⟨a, its, rfl, r, o, ho, hc, n, hd⟩ := x
  simp only [tupKey, ho, hd]
  obtain ⟨w, k⟩ := e
  cases k with
  | none =>
    cases r with
    | cons r1 r2 =>
      cases r2
      obtain ⟨t, rfl⟩ := r1
      simp [tupItems, evK]
  | some k =>
    cases r with
    | cons r1 r2 =>
      cases r2 with
      | cons r2 r3 =>
        cases r3
        obtain ⟨t, rfl⟩ := r1
        obtain ⟨u, rfl⟩ := r2
        simp [tupItems, evK]
theorem IsEv.first {h : Heap} {v : Value} {e : Ev} (x : IsEv h v e) : ∃ f, TupOf h evSh v f := by
  obtain ⟨a, its, rfl, r, o, ho, hc, n, hd⟩ := x
  obtain ⟨w, k⟩ := e
  cases k with
  | none =>
    cases r with
    | cons r1 r2 =>
      cases r2
      obtain ⟨t, rfl⟩ := r1
      exact ⟨_, a, o, _, n, rfl, ho, hc, hd, rfl, fun h => by simp at h, fun _ => ⟨_, _, rfl⟩⟩
  | some k =>
    cases r with
    | cons r1 r2 =>
      cases r2 with
      | cons r2 r3 =>
        cases r3
        obtain ⟨t, rfl⟩ := r1
        exact ⟨_, a, o, _, n, rfl, ho, hc, hd, rfl, fun h => by simp at h, fun _ => ⟨_, _, rfl⟩⟩
theorem evs_first {h : Heap} : ∀ {vs : List Value}, (∀ v ∈ vs, ∃ e, IsEv h v e) → ∃ fs, TupsOf h evSh vs fs ∧ fs.length = vs.length
  | [], _ => ⟨[], .nil, rfl⟩
  | v :: vs, x => by
    obtain ⟨fs, a, b⟩ := evs_first (vs := vs) fun u hu => x u (List.mem_cons_of_mem _ hu)
    obtain ⟨e, he⟩ := x v (List.mem_cons_self ..)
    obtain ⟨f, hf⟩ := he.first
    exact ⟨f :: fs, .cons hf a, by simp [b]⟩
theorem sorted_evs {l : Addr} {vs : List Value} {k : Value → Ev} {Q : Value → Shared → Prop} (hl : s.heap.IsList l vs.toArray) (hz : vs.length ≤ sizeLine) (hp : ∀ v ∈ vs, IsEv s.heap v (k v))
    (h : ∀ (h' : Heap) (d : Addr) (out : List Value), SrtO.Srtd (fun v u => evLt (k v) (k u)) out → SrtO.Stb (fun v u => evLt (k v) (k u)) out vs → (∀ b o, s.heap.get? b = some o → h'.get? b = some o) → s.heap.objs.size ≤ d → (∃ n, h'.get? d = some (seqObj "list" out.toArray n)) → Q (.ref d) { s with heap := h' }) :
    wpAny (model prog w) A (call (.builtin "sorted") [.ref l]) Q E s := by
  refine SrtO.sorted_ord (evLt_swo k) hl hz (fun h2 h₁ a ha kk => ?_) fun out hs hb => h _ _ out hs hb (fun b o e => sortedAll_old e) (Nat.le_succ _) (sortedAll_at s.heap vs out.toArray)
  intro h' keep
  have hp' : ∀ v ∈ vs, IsEv h' v (k v) := fun v hm => (hp v hm).keeps fun b o e c => keep b o (fun z => by
    subst z
    exact (kk b o e).1 rfl) (kk b o e).2
  obtain ⟨fs, h1, h3⟩ := evs_first fun v hm => ⟨_, hp' v hm⟩
  refine ⟨tuples' true, fun Q E hq => tup_kind (s := { s with heap := h' }) (by omega) h1 hq, ?_⟩
  intro p q hm hm'
  exact tup_ltAt (s := { s with heap := h' }) (shape := evSh) true _ _ p.1 q.1 (evK (k p.1)) (evK (k q.1)) (hp' _ hm).key (hp' _ hm').key ⟨rfl, rfl⟩
end
end Ca
namespace L2
open PySem PySem.Spec PyProof.Rows Ca
/-- sorted(xs), xs a list of tuples that hold events: a new list of the same tuples, ascending -/
def rSortedE (K : PySem.W.Frag) : List V → Hp → VK → Prop := fun vs H Q => ∃ (a : Addr) (xs : List V) (k : V → Ev), vs = [V.ref a] ∧ SqL K H a xs ∧ (∀ x ∈ xs, ∃ t, x = V.ref t ∧ H t = some (.tup (evV (k x)))) ∧
  ∀ ys p, SrtO.Srtd (fun x y => evLt (k x) (k y)) ys → ys.Perm xs → H p = none → Q (.ref p) (upd H p (.lst ys))
section
variable {X : Cx}
theorem cr_sortedE : CallR X (.builtin "sorted") (rSortedE X.K) := by
  intro pins s σ H vs us Q I r h
  obtain ⟨a, xs, k, rfl, hs, hx, q⟩ := h
  obtain ⟨its, rv, hl, hz⟩ := I.list hs
  obtain ⟨u, rfl, ru⟩ := vals1 r
  obtain rfl : u = Value.ref a := ru
  obtain ⟨e1, e2⟩ := refs_back rv fun x m => by
    obtain ⟨t, e, _⟩ := hx x m
    exact ⟨t, e⟩
  refine sorted_evs (k := fun u => k (backV u)) hl.isList (by rw [← rv.length]; exact hz) (fun v hv => ?_) fun h' d out h1 h2 kp hd hn => ?_
  · obtain ⟨t, rfl⟩ := e2 v hv
    have hm : V.ref t ∈ xs := by rw [e1]; exact List.mem_map.mpr ⟨_, hv, rfl⟩
    obtain ⟨t', e, ht⟩ := hx _ hm
    cases e
    obtain ⟨_, its2, r2, tp⟩ := I.hok _ _ ht
    exact ⟨t, its2, rfl, r2, tp⟩
  · have h3 : ∀ u ∈ out, ∃ a, u = Value.ref a := fun u hu => e2 u (h2.perm.mem_iff.mp hu)
    obtain ⟨n, hn⟩ := hn
    have hb : (out.map backV).Perm xs := by
      rw [e1]
      exact h2.perm.map _
    refine ⟨.ref d, upd H d (.lst (out.map backV)), I.laid (t' := s.toks) kp hd ⟨?_, out, n, vals_back h3, hn⟩, rfl, q _ d (SrtO.srtd_map h1) hb (I.hok.fresh hd)⟩
    rw [hb.length_eq]
    exact hz
end
end L2

set_option Elab.async false
set_option linter.all false
set_option maxRecDepth 100000
set_option maxHeartbeats 4000000
namespace Ca
open PySem L2
/-! ### the text by places -/
def top (i : Nat) : Stmt := PySem.Challenge.pw_cacheheld_k02_whole_orders.main.body.getD i (.Pass ⟨0, 0, 0, 0⟩)
abbrev s_is_design : Stmt := top 13
theorem sc_is_design : FnScope ["value"] ["value"] (defScope s_is_design) := ⟨rfl, rfl, rfl, by decide +kernel, rfl, by decide +kernel, by decide +kernel⟩

abbrev s_is_world : Stmt := top 14
theorem sc_is_world : FnScope ["value"] ["value"] (defScope s_is_world) := ⟨rfl, rfl, rfl, by decide +kernel, rfl, by decide +kernel, by decide +kernel⟩

abbrev s_is_triple : Stmt := top 15
theorem sc_is_triple : FnScope ["value", "firsts", "seconds", "thirds"] ["value", "firsts", "seconds", "thirds"] (defScope s_is_triple) := ⟨rfl, rfl, rfl, by decide +kernel, rfl, by decide +kernel, by decide +kernel⟩

abbrev s_write_steps : Stmt := top 16
theorem sc_write_steps : FnScope ["design"] ["design"] (defScope s_write_steps) := ⟨rfl, rfl, rfl, by decide +kernel, rfl, by decide +kernel, by decide +kernel⟩

abbrev s_check_design : Stmt := top 17
theorem sc_check_design : FnScope ["value"] ["value"] (defScope s_check_design) := ⟨rfl, rfl, rfl, by decide +kernel, rfl, by decide +kernel, by decide +kernel⟩

abbrev s_check_world : Stmt := top 18
theorem sc_check_world : FnScope ["value"] ["value"] (defScope s_check_world) := ⟨rfl, rfl, rfl, by decide +kernel, rfl, by decide +kernel, by decide +kernel⟩

abbrev s_Operation_init : Stmt := inClass (top 20) 0
theorem sc_Operation_init : FnScope ["self", "kind", "steps", "began"] ["self", "kind", "steps", "began"] (defScope s_Operation_init) := ⟨rfl, rfl, rfl, by decide +kernel, rfl, by decide +kernel, by decide +kernel⟩

abbrev s_Operation_has_ended : Stmt := inClass (top 20) 1
theorem sc_Operation_has_ended : FnScope ["self"] ["self"] (defScope s_Operation_has_ended) := ⟨rfl, rfl, rfl, by decide +kernel, rfl, by decide +kernel, by decide +kernel⟩

abbrev s_Operation_is_under_way : Stmt := inClass (top 20) 2
theorem sc_Operation_is_under_way : FnScope ["self"] ["self"] (defScope s_Operation_is_under_way) := ⟨rfl, rfl, rfl, by decide +kernel, rfl, by decide +kernel, by decide +kernel⟩

abbrev s_Operation_had_ended_by : Stmt := inClass (top 20) 3
theorem sc_Operation_had_ended_by : FnScope ["self", "place"] ["self", "place"] (defScope s_Operation_had_ended_by) := ⟨rfl, rfl, rfl, by decide +kernel, rfl, by decide +kernel, by decide +kernel⟩

abbrev s_Operation_was_under_way_from : Stmt := inClass (top 20) 4
theorem sc_Operation_was_under_way_from : FnScope ["self", "place"] ["self", "place"] (defScope s_Operation_was_under_way_from) := ⟨rfl, rfl, rfl, by decide +kernel, rfl, by decide +kernel, by decide +kernel⟩

abbrev s_Operation_can_step : Stmt := inClass (top 20) 5
theorem sc_Operation_can_step : FnScope ["self"] ["self"] (defScope s_Operation_can_step) := ⟨rfl, rfl, rfl, by decide +kernel, rfl, by decide +kernel, by decide +kernel⟩

abbrev s_Operation_stage : Stmt := inClass (top 20) 6
theorem sc_Operation_stage : FnScope ["self"] ["self"] (defScope s_Operation_stage) := ⟨rfl, rfl, rfl, by decide +kernel, rfl, by decide +kernel, by decide +kernel⟩

abbrev s_Play_init : Stmt := inClass (top 21) 0
theorem sc_Play_init : FnScope ["self", "design", "world"] ["self", "design", "world"] (defScope s_Play_init) := ⟨rfl, rfl, rfl, by decide +kernel, rfl, by decide +kernel, by decide +kernel⟩

abbrev s_Play_can_come : Stmt := inClass (top 21) 1
theorem sc_Play_can_come : FnScope ["self", "value"] ["self", "value"] (defScope s_Play_can_come) := ⟨rfl, rfl, rfl, by decide +kernel, rfl, by decide +kernel, by decide +kernel⟩

abbrev s_Play_events : Stmt := inClass (top 21) 2
theorem sc_Play_events : FnScope ["self", "following", "found", "number", "operation"] ["self"] (defScope s_Play_events) := ⟨rfl, rfl, rfl, by decide +kernel, rfl, by decide +kernel, by decide +kernel⟩

abbrev s_Play_do : Stmt := inClass (top 21) 3
theorem sc_Play_do : FnScope ["self", "event", "word", "operation"] ["self", "event"] (defScope s_Play_do) := ⟨rfl, rfl, rfl, by decide +kernel, rfl, by decide +kernel, by decide +kernel⟩

abbrev s_Play_step : Stmt := inClass (top 21) 4
theorem sc_Play_step : FnScope ["self", "word", "number", "operation"] ["self", "word", "number"] (defScope s_Play_step) := ⟨rfl, rfl, rfl, by decide +kernel, rfl, by decide +kernel, by decide +kernel⟩

abbrev s_Play_begun : Stmt := inClass (top 21) 5
theorem sc_Play_begun : FnScope ["self", "word", "place"] ["self", "word"] (defScope s_Play_begun) := ⟨rfl, rfl, rfl, by decide +kernel, rfl, by decide +kernel, by decide +kernel⟩

abbrev s_Play_carry_out : Stmt := inClass (top 21) 6
theorem sc_Play_carry_out : FnScope ["self", "kind", "number", "operation"] ["self", "kind", "number"] (defScope s_Play_carry_out) := ⟨rfl, rfl, rfl, by decide +kernel, rfl, by decide +kernel, by decide +kernel⟩

abbrev s_Play_is_at_rest : Stmt := inClass (top 21) 7
theorem sc_Play_is_at_rest : FnScope ["self", "operation"] ["self"] (defScope s_Play_is_at_rest) := ⟨rfl, rfl, rfl, by decide +kernel, rfl, by decide +kernel, by decide +kernel⟩

abbrev s_Play_rested : Stmt := inClass (top 21) 8
theorem sc_Play_rested : FnScope ["self", "play"] ["self"] (defScope s_Play_rested) := ⟨rfl, rfl, rfl, by decide +kernel, rfl, by decide +kernel, by decide +kernel⟩

abbrev s_Play_look : Stmt := inClass (top 21) 9
theorem sc_Play_look : FnScope ["self", "read"] ["self", "read"] (defScope s_Play_look) := ⟨rfl, rfl, rfl, by decide +kernel, rfl, by decide +kernel, by decide +kernel⟩

abbrev s_Play_share : Stmt := inClass (top 21) 10
theorem sc_Play_share : FnScope ["self", "read"] ["self", "read"] (defScope s_Play_share) := ⟨rfl, rfl, rfl, by decide +kernel, rfl, by decide +kernel, by decide +kernel⟩

abbrev s_Play_fetch : Stmt := inClass (top 21) 11
theorem sc_Play_fetch : FnScope ["self", "read"] ["self", "read"] (defScope s_Play_fetch) := ⟨rfl, rfl, rfl, by decide +kernel, rfl, by decide +kernel, by decide +kernel⟩

abbrev s_Play_fill : Stmt := inClass (top 21) 12
theorem sc_Play_fill : FnScope ["self", "read"] ["self", "read"] (defScope s_Play_fill) := ⟨rfl, rfl, rfl, by decide +kernel, rfl, by decide +kernel, by decide +kernel⟩

abbrev s_Play_take : Stmt := inClass (top 21) 13
theorem sc_Play_take : FnScope ["self", "read"] ["self", "read"] (defScope s_Play_take) := ⟨rfl, rfl, rfl, by decide +kernel, rfl, by decide +kernel, by decide +kernel⟩

abbrev s_Play_store : Stmt := inClass (top 21) 14
theorem sc_Play_store : FnScope ["self", "write"] ["self", "write"] (defScope s_Play_store) := ⟨rfl, rfl, rfl, by decide +kernel, rfl, by decide +kernel, by decide +kernel⟩

abbrev s_Play_drop : Stmt := inClass (top 21) 15
theorem sc_Play_drop : FnScope ["self", "write"] ["self", "write"] (defScope s_Play_drop) := ⟨rfl, rfl, rfl, by decide +kernel, rfl, by decide +kernel, by decide +kernel⟩

abbrev s_Play_put : Stmt := inClass (top 21) 16
theorem sc_Play_put : FnScope ["self", "write"] ["self", "write"] (defScope s_Play_put) := ⟨rfl, rfl, rfl, by decide +kernel, rfl, by decide +kernel, by decide +kernel⟩

abbrev s_Play_lets_fill : Stmt := inClass (top 21) 17
theorem sc_Play_lets_fill : FnScope ["self", "read"] ["self", "read"] (defScope s_Play_lets_fill) := ⟨rfl, rfl, rfl, by decide +kernel, rfl, by decide +kernel, by decide +kernel⟩

abbrev s_Play_lets_in : Stmt := inClass (top 21) 18
theorem sc_Play_lets_in : FnScope ["self", "version"] ["self", "version"] (defScope s_Play_lets_in) := ⟨rfl, rfl, rfl, by decide +kernel, rfl, by decide +kernel, by decide +kernel⟩

abbrev s_Play_hold : Stmt := inClass (top 21) 19
theorem sc_Play_hold : FnScope ["self", "version"] ["self", "version"] (defScope s_Play_hold) := ⟨rfl, rfl, rfl, by decide +kernel, rfl, by decide +kernel, by decide +kernel⟩

abbrev s_Play_raise_mark : Stmt := inClass (top 21) 20
theorem sc_Play_raise_mark : FnScope ["self", "version"] ["self", "version"] (defScope s_Play_raise_mark) := ⟨rfl, rfl, rfl, by decide +kernel, rfl, by decide +kernel, by decide +kernel⟩

abbrev s_played : Stmt := top 24
theorem sc_played : FnScope ["design", "world", "run", "play", "index", "event"] ["design", "world", "run"] (defScope s_played) := ⟨rfl, rfl, rfl, by decide +kernel, rfl, by decide +kernel, by decide +kernel⟩

abbrev s_breaks : Stmt := top 27
theorem sc_breaks : FnScope ["design", "world", "promise", "run", "is_broken"] ["design", "world", "promise", "run"] (defScope s_breaks) := ⟨rfl, rfl, rfl, by decide +kernel, rfl, by decide +kernel, by decide +kernel⟩

abbrev s_first_break : Stmt := top 28
theorem sc_first_break : FnScope ["design", "world", "promise", "run", "is_broken", "play", "event"] ["design", "world", "promise", "run"] (defScope s_first_break) := ⟨rfl, rfl, rfl, by decide +kernel, rfl, by decide +kernel, by decide +kernel⟩

abbrev s_check_question : Stmt := top 29
theorem sc_check_question : FnScope ["design", "world", "promise"] ["design", "world", "promise"] (defScope s_check_question) := ⟨rfl, rfl, rfl, by decide +kernel, rfl, by decide +kernel, by decide +kernel⟩

abbrev s_check_promise : Stmt := top 30
theorem sc_check_promise : FnScope ["value"] ["value"] (defScope s_check_promise) := ⟨rfl, rfl, rfl, by decide +kernel, rfl, by decide +kernel, by decide +kernel⟩

abbrev s_breaks_ending : Stmt := top 31
theorem sc_breaks_ending : FnScope ["play", "one"] ["play"] (defScope s_breaks_ending) := ⟨rfl, rfl, rfl, by decide +kernel, rfl, by decide +kernel, by decide +kernel⟩

abbrev s_breaks_filled : Stmt := top 32
theorem sc_breaks_filled : FnScope ["play", "later", "read"] ["play"] (defScope s_breaks_filled) := ⟨rfl, rfl, rfl, by decide +kernel, rfl, by decide +kernel, by decide +kernel⟩

abbrev s_breaks_forward : Stmt := top 33
theorem sc_breaks_forward : FnScope ["play"] ["play"] (defScope s_breaks_forward) := ⟨rfl, rfl, rfl, by decide +kernel, rfl, by decide +kernel, by decide +kernel⟩

abbrev s_breaks_fresh : Stmt := top 34
theorem sc_breaks_fresh : FnScope ["play"] ["play"] (defScope s_breaks_fresh) := ⟨rfl, rfl, rfl, by decide +kernel, rfl, by decide +kernel, by decide +kernel⟩

abbrev s_returns_older : Stmt := top 35
theorem sc_returns_older : FnScope ["play", "kind", "read", "earlier", "one"] ["play", "kind"] (defScope s_returns_older) := ⟨rfl, rfl, rfl, by decide +kernel, rfl, by decide +kernel, by decide +kernel⟩

abbrev s_last_read : Stmt := top 36
theorem sc_last_read : FnScope ["play", "one"] ["play"] (defScope s_last_read) := ⟨rfl, rfl, rfl, by decide +kernel, rfl, by decide +kernel, by decide +kernel⟩

abbrev s_breaks_linear : Stmt := top 37
theorem sc_breaks_linear : FnScope ["play", "ends", "beginnings", "one", "other"] ["play"] (defScope s_breaks_linear) := ⟨rfl, rfl, rfl, by decide +kernel, rfl, by decide +kernel, by decide +kernel⟩

abbrev s_spans : Stmt := top 38
theorem sc_spans : FnScope ["play", "endless", "ends", "beginnings", "one", "end"] ["play"] (defScope s_spans) := ⟨rfl, rfl, rfl, by decide +kernel, rfl, by decide +kernel, by decide +kernel⟩

abbrev s_breaks_mended : Stmt := top 39
theorem sc_breaks_mended : FnScope ["play", "later"] ["play"] (defScope s_breaks_mended) := ⟨rfl, rfl, rfl, by decide +kernel, rfl, by decide +kernel, by decide +kernel⟩

abbrev s_is_behind : Stmt := top 40
theorem sc_is_behind : FnScope ["play"] ["play"] (defScope s_is_behind) := ⟨rfl, rfl, rfl, by decide +kernel, rfl, by decide +kernel, by decide +kernel⟩

abbrev s_breaks_moving : Stmt := top 41
theorem sc_breaks_moving : FnScope ["play", "one"] ["play"] (defScope s_breaks_moving) := ⟨rfl, rfl, rfl, by decide +kernel, rfl, by decide +kernel, by decide +kernel⟩

abbrev s_breaks_quiet : Stmt := top 42
theorem sc_breaks_quiet : FnScope ["play", "read", "one"] ["play"] (defScope s_breaks_quiet) := ⟨rfl, rfl, rfl, by decide +kernel, rfl, by decide +kernel, by decide +kernel⟩

abbrev s_breaks_rest : Stmt := top 43
theorem sc_breaks_rest : FnScope ["play"] ["play"] (defScope s_breaks_rest) := ⟨rfl, rfl, rfl, by decide +kernel, rfl, by decide +kernel, by decide +kernel⟩

abbrev s_breaks_single : Stmt := top 44
theorem sc_breaks_single : FnScope ["play", "busy", "one"] ["play"] (defScope s_breaks_single) := ⟨rfl, rfl, rfl, by decide +kernel, rfl, by decide +kernel, by decide +kernel⟩

abbrev s_Ltaken : Stmt := top 47
theorem sc_Ltaken : FnScope ["row", "many", "found", "cell"] ["row", "many"] (defScope s_Ltaken) := ⟨rfl, rfl, rfl, by decide +kernel, rfl, by decide +kernel, by decide +kernel⟩

abbrev s_Lpick : Stmt := top 48
theorem sc_Lpick : FnScope ["row", "kinds"] ["row", "kinds"] (defScope s_Lpick) := ⟨rfl, rfl, rfl, by decide +kernel, rfl, by decide +kernel, by decide +kernel⟩

abbrev s_Lalike : Stmt := top 49
theorem sc_Lalike : FnScope ["found", "due", "k"] ["found", "due"] (defScope s_Lalike) := ⟨rfl, rfl, rfl, by decide +kernel, rfl, by decide +kernel, by decide +kernel⟩

abbrev s_Lpaths : Stmt := top 50
theorem sc_Lpaths : FnScope [] [] (defScope s_Lpaths) := ⟨rfl, rfl, rfl, by decide +kernel, rfl, by decide +kernel, by decide +kernel⟩

abbrev s_Ldesign : Stmt := top 51
theorem sc_Ldesign : FnScope ["row", "guard"] ["row"] (defScope s_Ldesign) := ⟨rfl, rfl, rfl, by decide +kernel, rfl, by decide +kernel, by decide +kernel⟩

abbrev s_Lworld : Stmt := top 52
theorem sc_Lworld : FnScope ["row"] ["row"] (defScope s_Lworld) := ⟨rfl, rfl, rfl, by decide +kernel, rfl, by decide +kernel, by decide +kernel⟩

abbrev s_Lbegin : Stmt := top 53
theorem sc_Lbegin : FnScope ["design", "world"] ["design", "world"] (defScope s_Lbegin) := ⟨rfl, rfl, rfl, by decide +kernel, rfl, by decide +kernel, by decide +kernel⟩

abbrev s_Lgoing : Stmt := top 54
theorem sc_Lgoing : FnScope ["h", "one"] ["h"] (defScope s_Lgoing) := ⟨rfl, rfl, rfl, by decide +kernel, rfl, by decide +kernel, by decide +kernel⟩

abbrev s_Lnext : Stmt := top 55
theorem sc_Lnext : FnScope ["h", "one"] ["h", "one"] (defScope s_Lnext) := ⟨rfl, rfl, rfl, by decide +kernel, rfl, by decide +kernel, by decide +kernel⟩

abbrev s_Levents : Stmt := top 56
theorem sc_Levents : FnScope ["h", "many", "going", "found", "one"] ["h"] (defScope s_Levents) := ⟨rfl, rfl, rfl, by decide +kernel, rfl, by decide +kernel, by decide +kernel⟩

abbrev s_Lend : Stmt := top 57
theorem sc_Lend : FnScope ["h", "one", "stage"] ["h", "one", "stage"] (defScope s_Lend) := ⟨rfl, rfl, rfl, by decide +kernel, rfl, by decide +kernel, by decide +kernel⟩

abbrev s_Lhold : Stmt := top 58
theorem sc_Lhold : FnScope ["h", "version"] ["h", "version"] (defScope s_Lhold) := ⟨rfl, rfl, rfl, by decide +kernel, rfl, by decide +kernel, by decide +kernel⟩

abbrev s_Lnewer : Stmt := top 59
theorem sc_Lnewer : FnScope ["h", "version"] ["h", "version"] (defScope s_Lnewer) := ⟨rfl, rfl, rfl, by decide +kernel, rfl, by decide +kernel, by decide +kernel⟩

abbrev s_Llets : Stmt := top 60
theorem sc_Llets : FnScope ["h", "one", "guard", "version"] ["h", "one"] (defScope s_Llets) := ⟨rfl, rfl, rfl, by decide +kernel, rfl, by decide +kernel, by decide +kernel⟩

abbrev s_Lwrite : Stmt := top 61
theorem sc_Lwrite : FnScope ["h", "one", "word", "steps", "guard", "other", "good"] ["h", "one", "word"] (defScope s_Lwrite) := ⟨rfl, rfl, rfl, by decide +kernel, rfl, by decide +kernel, by decide +kernel⟩

abbrev s_Lread : Stmt := top 62
theorem sc_Lread : FnScope ["h", "one", "word"] ["h", "one", "word"] (defScope s_Lread) := ⟨rfl, rfl, rfl, by decide +kernel, rfl, by decide +kernel, by decide +kernel⟩

abbrev s_Ldo : Stmt := top 63
theorem sc_Ldo : FnScope ["h", "event", "word", "number", "kind", "one"] ["h", "event"] (defScope s_Ldo) := ⟨rfl, rfl, rfl, by decide +kernel, rfl, by decide +kernel, by decide +kernel⟩

abbrev s_Lrun : Stmt := top 64
theorem sc_Lrun : FnScope ["design", "world", "events", "h", "event"] ["design", "world", "events"] (defScope s_Lrun) := ⟨rfl, rfl, rfl, by decide +kernel, rfl, by decide +kernel, by decide +kernel⟩

abbrev s_Lwalk : Stmt := top 65
theorem sc_Lwalk : FnScope ["row", "design", "world", "most", "h", "turn", "some", "going", "event"] ["row", "design", "world", "most"] (defScope s_Lwalk) := ⟨rfl, rfl, rfl, by decide +kernel, rfl, by decide +kernel, by decide +kernel⟩

abbrev s_Lordered : Stmt := top 66
theorem sc_Lordered : FnScope ["left", "version", "at", "one", "others", "late", "other"] ["left", "version"] (defScope s_Lordered) := ⟨rfl, rfl, rfl, by decide +kernel, rfl, by decide +kernel, by decide +kernel⟩

abbrev s_Lin_order : Stmt := top 67
theorem sc_Lin_order : FnScope ["h", "reads", "told", "writes", "plain", "one"] ["h"] (defScope s_Lin_order) := ⟨rfl, rfl, rfl, by decide +kernel, rfl, by decide +kernel, by decide +kernel⟩

abbrev s_law : Stmt := top 68
theorem sc_law : FnScope ["script", "row", "design", "world", "h", "events", "short", "many"] ["script"] (defScope s_law) := ⟨rfl, rfl, rfl, by decide +kernel, rfl, by decide +kernel, by decide +kernel⟩

structure Txt (K : PySem.W.Frag) (mg : Str → Option Value) where
  f_is_design : Addr
  fd_is_design : FuncData
  F_is_design : Fun K "is_design" "is_design" s_is_design f_is_design fd_is_design
  m_is_design : mg "is_design" = some (.ref f_is_design)
  f_is_world : Addr
  fd_is_world : FuncData
  F_is_world : Fun K "is_world" "is_world" s_is_world f_is_world fd_is_world
  m_is_world : mg "is_world" = some (.ref f_is_world)
  f_is_triple : Addr
  fd_is_triple : FuncData
  F_is_triple : Fun K "is_triple" "is_triple" s_is_triple f_is_triple fd_is_triple
  m_is_triple : mg "is_triple" = some (.ref f_is_triple)
  f_write_steps : Addr
  fd_write_steps : FuncData
  F_write_steps : Fun K "write_steps" "write_steps" s_write_steps f_write_steps fd_write_steps
  m_write_steps : mg "write_steps" = some (.ref f_write_steps)
  f_check_design : Addr
  fd_check_design : FuncData
  F_check_design : Fun K "check_design" "check_design" s_check_design f_check_design fd_check_design
  m_check_design : mg "check_design" = some (.ref f_check_design)
  f_check_world : Addr
  fd_check_world : FuncData
  F_check_world : Fun K "check_world" "check_world" s_check_world f_check_world fd_check_world
  m_check_world : mg "check_world" = some (.ref f_check_world)
  f_Operation_init : Addr
  fd_Operation_init : FuncData
  F_Operation_init : Fun K "__init__" "Operation.__init__" s_Operation_init f_Operation_init fd_Operation_init
  f_Operation_has_ended : Addr
  fd_Operation_has_ended : FuncData
  F_Operation_has_ended : Fun K "has_ended" "Operation.has_ended" s_Operation_has_ended f_Operation_has_ended fd_Operation_has_ended
  f_Operation_is_under_way : Addr
  fd_Operation_is_under_way : FuncData
  F_Operation_is_under_way : Fun K "is_under_way" "Operation.is_under_way" s_Operation_is_under_way f_Operation_is_under_way fd_Operation_is_under_way
  f_Operation_had_ended_by : Addr
  fd_Operation_had_ended_by : FuncData
  F_Operation_had_ended_by : Fun K "had_ended_by" "Operation.had_ended_by" s_Operation_had_ended_by f_Operation_had_ended_by fd_Operation_had_ended_by
  f_Operation_was_under_way_from : Addr
  fd_Operation_was_under_way_from : FuncData
  F_Operation_was_under_way_from : Fun K "was_under_way_from" "Operation.was_under_way_from" s_Operation_was_under_way_from f_Operation_was_under_way_from fd_Operation_was_under_way_from
  f_Operation_can_step : Addr
  fd_Operation_can_step : FuncData
  F_Operation_can_step : Fun K "can_step" "Operation.can_step" s_Operation_can_step f_Operation_can_step fd_Operation_can_step
  f_Operation_stage : Addr
  fd_Operation_stage : FuncData
  F_Operation_stage : Fun K "stage" "Operation.stage" s_Operation_stage f_Operation_stage fd_Operation_stage
  f_Play_init : Addr
  fd_Play_init : FuncData
  F_Play_init : Fun K "__init__" "Play.__init__" s_Play_init f_Play_init fd_Play_init
  f_Play_can_come : Addr
  fd_Play_can_come : FuncData
  F_Play_can_come : Fun K "can_come" "Play.can_come" s_Play_can_come f_Play_can_come fd_Play_can_come
  f_Play_events : Addr
  fd_Play_events : FuncData
  F_Play_events : Fun K "events" "Play.events" s_Play_events f_Play_events fd_Play_events
  f_Play_do : Addr
  fd_Play_do : FuncData
  F_Play_do : Fun K "do" "Play.do" s_Play_do f_Play_do fd_Play_do
  f_Play_step : Addr
  fd_Play_step : FuncData
  F_Play_step : Fun K "step" "Play.step" s_Play_step f_Play_step fd_Play_step
  f_Play_begun : Addr
  fd_Play_begun : FuncData
  F_Play_begun : Fun K "begun" "Play.begun" s_Play_begun f_Play_begun fd_Play_begun
  f_Play_carry_out : Addr
  fd_Play_carry_out : FuncData
  F_Play_carry_out : Fun K "carry_out" "Play.carry_out" s_Play_carry_out f_Play_carry_out fd_Play_carry_out
  f_Play_is_at_rest : Addr
  fd_Play_is_at_rest : FuncData
  F_Play_is_at_rest : Fun K "is_at_rest" "Play.is_at_rest" s_Play_is_at_rest f_Play_is_at_rest fd_Play_is_at_rest
  f_Play_rested : Addr
  fd_Play_rested : FuncData
  F_Play_rested : Fun K "rested" "Play.rested" s_Play_rested f_Play_rested fd_Play_rested
  f_Play_look : Addr
  fd_Play_look : FuncData
  F_Play_look : Fun K "look" "Play.look" s_Play_look f_Play_look fd_Play_look
  f_Play_share : Addr
  fd_Play_share : FuncData
  F_Play_share : Fun K "share" "Play.share" s_Play_share f_Play_share fd_Play_share
  f_Play_fetch : Addr
  fd_Play_fetch : FuncData
  F_Play_fetch : Fun K "fetch" "Play.fetch" s_Play_fetch f_Play_fetch fd_Play_fetch
  f_Play_fill : Addr
  fd_Play_fill : FuncData
  F_Play_fill : Fun K "fill" "Play.fill" s_Play_fill f_Play_fill fd_Play_fill
  f_Play_take : Addr
  fd_Play_take : FuncData
  F_Play_take : Fun K "take" "Play.take" s_Play_take f_Play_take fd_Play_take
  f_Play_store : Addr
  fd_Play_store : FuncData
  F_Play_store : Fun K "store" "Play.store" s_Play_store f_Play_store fd_Play_store
  f_Play_drop : Addr
  fd_Play_drop : FuncData
  F_Play_drop : Fun K "drop" "Play.drop" s_Play_drop f_Play_drop fd_Play_drop
  f_Play_put : Addr
  fd_Play_put : FuncData
  F_Play_put : Fun K "put" "Play.put" s_Play_put f_Play_put fd_Play_put
  f_Play_lets_fill : Addr
  fd_Play_lets_fill : FuncData
  F_Play_lets_fill : Fun K "lets_fill" "Play.lets_fill" s_Play_lets_fill f_Play_lets_fill fd_Play_lets_fill
  f_Play_lets_in : Addr
  fd_Play_lets_in : FuncData
  F_Play_lets_in : Fun K "lets_in" "Play.lets_in" s_Play_lets_in f_Play_lets_in fd_Play_lets_in
  f_Play_hold : Addr
  fd_Play_hold : FuncData
  F_Play_hold : Fun K "hold" "Play.hold" s_Play_hold f_Play_hold fd_Play_hold
  f_Play_raise_mark : Addr
  fd_Play_raise_mark : FuncData
  F_Play_raise_mark : Fun K "raise_mark" "Play.raise_mark" s_Play_raise_mark f_Play_raise_mark fd_Play_raise_mark
  f_played : Addr
  fd_played : FuncData
  F_played : Fun K "played" "played" s_played f_played fd_played
  m_played : mg "played" = some (.ref f_played)
  f_breaks : Addr
  fd_breaks : FuncData
  F_breaks : Fun K "breaks" "breaks" s_breaks f_breaks fd_breaks
  m_breaks : mg "breaks" = some (.ref f_breaks)
  f_first_break : Addr
  fd_first_break : FuncData
  F_first_break : Fun K "first_break" "first_break" s_first_break f_first_break fd_first_break
  m_first_break : mg "first_break" = some (.ref f_first_break)
  f_check_question : Addr
  fd_check_question : FuncData
  F_check_question : Fun K "check_question" "check_question" s_check_question f_check_question fd_check_question
  m_check_question : mg "check_question" = some (.ref f_check_question)
  f_check_promise : Addr
  fd_check_promise : FuncData
  F_check_promise : Fun K "check_promise" "check_promise" s_check_promise f_check_promise fd_check_promise
  m_check_promise : mg "check_promise" = some (.ref f_check_promise)
  f_breaks_ending : Addr
  fd_breaks_ending : FuncData
  F_breaks_ending : Fun K "breaks_ending" "breaks_ending" s_breaks_ending f_breaks_ending fd_breaks_ending
  m_breaks_ending : mg "breaks_ending" = some (.ref f_breaks_ending)
  f_breaks_filled : Addr
  fd_breaks_filled : FuncData
  F_breaks_filled : Fun K "breaks_filled" "breaks_filled" s_breaks_filled f_breaks_filled fd_breaks_filled
  m_breaks_filled : mg "breaks_filled" = some (.ref f_breaks_filled)
  f_breaks_forward : Addr
  fd_breaks_forward : FuncData
  F_breaks_forward : Fun K "breaks_forward" "breaks_forward" s_breaks_forward f_breaks_forward fd_breaks_forward
  m_breaks_forward : mg "breaks_forward" = some (.ref f_breaks_forward)
  f_breaks_fresh : Addr
  fd_breaks_fresh : FuncData
  F_breaks_fresh : Fun K "breaks_fresh" "breaks_fresh" s_breaks_fresh f_breaks_fresh fd_breaks_fresh
  m_breaks_fresh : mg "breaks_fresh" = some (.ref f_breaks_fresh)
  f_returns_older : Addr
  fd_returns_older : FuncData
  F_returns_older : Fun K "returns_older" "returns_older" s_returns_older f_returns_older fd_returns_older
  m_returns_older : mg "returns_older" = some (.ref f_returns_older)
  f_last_read : Addr
  fd_last_read : FuncData
  F_last_read : Fun K "last_read" "last_read" s_last_read f_last_read fd_last_read
  m_last_read : mg "last_read" = some (.ref f_last_read)
  f_breaks_linear : Addr
  fd_breaks_linear : FuncData
  F_breaks_linear : Fun K "breaks_linear" "breaks_linear" s_breaks_linear f_breaks_linear fd_breaks_linear
  m_breaks_linear : mg "breaks_linear" = some (.ref f_breaks_linear)
  f_spans : Addr
  fd_spans : FuncData
  F_spans : Fun K "spans" "spans" s_spans f_spans fd_spans
  m_spans : mg "spans" = some (.ref f_spans)
  f_breaks_mended : Addr
  fd_breaks_mended : FuncData
  F_breaks_mended : Fun K "breaks_mended" "breaks_mended" s_breaks_mended f_breaks_mended fd_breaks_mended
  m_breaks_mended : mg "breaks_mended" = some (.ref f_breaks_mended)
  f_is_behind : Addr
  fd_is_behind : FuncData
  F_is_behind : Fun K "is_behind" "is_behind" s_is_behind f_is_behind fd_is_behind
  m_is_behind : mg "is_behind" = some (.ref f_is_behind)
  f_breaks_moving : Addr
  fd_breaks_moving : FuncData
  F_breaks_moving : Fun K "breaks_moving" "breaks_moving" s_breaks_moving f_breaks_moving fd_breaks_moving
  m_breaks_moving : mg "breaks_moving" = some (.ref f_breaks_moving)
  f_breaks_quiet : Addr
  fd_breaks_quiet : FuncData
  F_breaks_quiet : Fun K "breaks_quiet" "breaks_quiet" s_breaks_quiet f_breaks_quiet fd_breaks_quiet
  m_breaks_quiet : mg "breaks_quiet" = some (.ref f_breaks_quiet)
  f_breaks_rest : Addr
  fd_breaks_rest : FuncData
  F_breaks_rest : Fun K "breaks_rest" "breaks_rest" s_breaks_rest f_breaks_rest fd_breaks_rest
  m_breaks_rest : mg "breaks_rest" = some (.ref f_breaks_rest)
  f_breaks_single : Addr
  fd_breaks_single : FuncData
  F_breaks_single : Fun K "breaks_single" "breaks_single" s_breaks_single f_breaks_single fd_breaks_single
  m_breaks_single : mg "breaks_single" = some (.ref f_breaks_single)
  f_Ltaken : Addr
  fd_Ltaken : FuncData
  F_Ltaken : Fun K "_law_taken" "_law_taken" s_Ltaken f_Ltaken fd_Ltaken
  m_Ltaken : mg "_law_taken" = some (.ref f_Ltaken)
  f_Lpick : Addr
  fd_Lpick : FuncData
  F_Lpick : Fun K "_law_pick" "_law_pick" s_Lpick f_Lpick fd_Lpick
  m_Lpick : mg "_law_pick" = some (.ref f_Lpick)
  f_Lalike : Addr
  fd_Lalike : FuncData
  F_Lalike : Fun K "_law_alike" "_law_alike" s_Lalike f_Lalike fd_Lalike
  m_Lalike : mg "_law_alike" = some (.ref f_Lalike)
  f_Lpaths : Addr
  fd_Lpaths : FuncData
  F_Lpaths : Fun K "_law_paths" "_law_paths" s_Lpaths f_Lpaths fd_Lpaths
  m_Lpaths : mg "_law_paths" = some (.ref f_Lpaths)
  f_Ldesign : Addr
  fd_Ldesign : FuncData
  F_Ldesign : Fun K "_law_design" "_law_design" s_Ldesign f_Ldesign fd_Ldesign
  m_Ldesign : mg "_law_design" = some (.ref f_Ldesign)
  f_Lworld : Addr
  fd_Lworld : FuncData
  F_Lworld : Fun K "_law_world" "_law_world" s_Lworld f_Lworld fd_Lworld
  m_Lworld : mg "_law_world" = some (.ref f_Lworld)
  f_Lbegin : Addr
  fd_Lbegin : FuncData
  F_Lbegin : Fun K "_law_begin" "_law_begin" s_Lbegin f_Lbegin fd_Lbegin
  m_Lbegin : mg "_law_begin" = some (.ref f_Lbegin)
  f_Lgoing : Addr
  fd_Lgoing : FuncData
  F_Lgoing : Fun K "_law_going" "_law_going" s_Lgoing f_Lgoing fd_Lgoing
  m_Lgoing : mg "_law_going" = some (.ref f_Lgoing)
  f_Lnext : Addr
  fd_Lnext : FuncData
  F_Lnext : Fun K "_law_next" "_law_next" s_Lnext f_Lnext fd_Lnext
  m_Lnext : mg "_law_next" = some (.ref f_Lnext)
  f_Levents : Addr
  fd_Levents : FuncData
  F_Levents : Fun K "_law_events" "_law_events" s_Levents f_Levents fd_Levents
  m_Levents : mg "_law_events" = some (.ref f_Levents)
  f_Lend : Addr
  fd_Lend : FuncData
  F_Lend : Fun K "_law_end" "_law_end" s_Lend f_Lend fd_Lend
  m_Lend : mg "_law_end" = some (.ref f_Lend)
  f_Lhold : Addr
  fd_Lhold : FuncData
  F_Lhold : Fun K "_law_hold" "_law_hold" s_Lhold f_Lhold fd_Lhold
  m_Lhold : mg "_law_hold" = some (.ref f_Lhold)
  f_Lnewer : Addr
  fd_Lnewer : FuncData
  F_Lnewer : Fun K "_law_newer" "_law_newer" s_Lnewer f_Lnewer fd_Lnewer
  m_Lnewer : mg "_law_newer" = some (.ref f_Lnewer)
  f_Llets : Addr
  fd_Llets : FuncData
  F_Llets : Fun K "_law_lets" "_law_lets" s_Llets f_Llets fd_Llets
  m_Llets : mg "_law_lets" = some (.ref f_Llets)
  f_Lwrite : Addr
  fd_Lwrite : FuncData
  F_Lwrite : Fun K "_law_write" "_law_write" s_Lwrite f_Lwrite fd_Lwrite
  m_Lwrite : mg "_law_write" = some (.ref f_Lwrite)
  f_Lread : Addr
  fd_Lread : FuncData
  F_Lread : Fun K "_law_read" "_law_read" s_Lread f_Lread fd_Lread
  m_Lread : mg "_law_read" = some (.ref f_Lread)
  f_Ldo : Addr
  fd_Ldo : FuncData
  F_Ldo : Fun K "_law_do" "_law_do" s_Ldo f_Ldo fd_Ldo
  m_Ldo : mg "_law_do" = some (.ref f_Ldo)
  f_Lrun : Addr
  fd_Lrun : FuncData
  F_Lrun : Fun K "_law_run" "_law_run" s_Lrun f_Lrun fd_Lrun
  m_Lrun : mg "_law_run" = some (.ref f_Lrun)
  f_Lwalk : Addr
  fd_Lwalk : FuncData
  F_Lwalk : Fun K "_law_walk" "_law_walk" s_Lwalk f_Lwalk fd_Lwalk
  m_Lwalk : mg "_law_walk" = some (.ref f_Lwalk)
  f_Lordered : Addr
  fd_Lordered : FuncData
  F_Lordered : Fun K "_law_ordered" "_law_ordered" s_Lordered f_Lordered fd_Lordered
  m_Lordered : mg "_law_ordered" = some (.ref f_Lordered)
  f_Lin_order : Addr
  fd_Lin_order : FuncData
  F_Lin_order : Fun K "_law_in_order" "_law_in_order" s_Lin_order f_Lin_order fd_Lin_order
  m_Lin_order : mg "_law_in_order" = some (.ref f_Lin_order)
  f_law : Addr
  fd_law : FuncData
  F_law : Fun K "law" "law" s_law f_law fd_law
  m_law : mg "law" = some (.ref f_law)
  n_len : mg "len" = none
  n_isinstance : mg "isinstance" = none
  n_max : mg "max" = none
  n_min : mg "min" = none
  n_any : mg "any" = none
  n_sorted : mg "sorted" = none
  n_range : mg "range" = none
  n_enumerate : mg "enumerate" = none
  n_int : mg "int" = none
  n_str : mg "str" = none
  n_bool : mg "bool" = none
  n_tuple : mg "tuple" = none
  n_list : mg "list" = none
  n_dict : mg "dict" = none
  C_Operation : Addr
  c_Operation : Cls K C_Operation
  k_Operation : Mk K C_Operation f_Operation_init
  m_Operation : mg "Operation" = some (.ref C_Operation)
  a_Operation_kind : NoAttr K C_Operation "kind"
  a_Operation_steps : NoAttr K C_Operation "steps"
  a_Operation_began : NoAttr K C_Operation "began"
  a_Operation_left : NoAttr K C_Operation "left"
  a_Operation_stopped : NoAttr K C_Operation "stopped"
  a_Operation_version : NoAttr K C_Operation "version"
  a_Operation_awaited : NoAttr K C_Operation "awaited"
  a_Operation_wipes_seen : NoAttr K C_Operation "wipes_seen"
  M_Operation_has_ended : Meth K C_Operation "has_ended" f_Operation_has_ended
  M_Operation_is_under_way : Meth K C_Operation "is_under_way" f_Operation_is_under_way
  M_Operation_had_ended_by : Meth K C_Operation "had_ended_by" f_Operation_had_ended_by
  M_Operation_was_under_way_from : Meth K C_Operation "was_under_way_from" f_Operation_was_under_way_from
  M_Operation_can_step : Meth K C_Operation "can_step" f_Operation_can_step
  M_Operation_stage : Meth K C_Operation "stage" f_Operation_stage
  C_Play : Addr
  c_Play : Cls K C_Play
  k_Play : Mk K C_Play f_Play_init
  m_Play : mg "Play" = some (.ref C_Play)
  a_Play_design : NoAttr K C_Play "design"
  a_Play_world : NoAttr K C_Play "world"
  a_Play_path : NoAttr K C_Play "path"
  a_Play_guard : NoAttr K C_Play "guard"
  a_Play_flight : NoAttr K C_Play "flight"
  a_Play_source : NoAttr K C_Play "source"
  a_Play_evictions : NoAttr K C_Play "evictions"
  a_Play_stops : NoAttr K C_Play "stops"
  a_Play_database : NoAttr K C_Play "database"
  a_Play_replica : NoAttr K C_Play "replica"
  a_Play_cache : NoAttr K C_Play "cache"
  a_Play_mark : NoAttr K C_Play "mark"
  a_Play_operations : NoAttr K C_Play "operations"
  a_Play_past : NoAttr K C_Play "past"
  a_Play_leader : NoAttr K C_Play "leader"
  a_Play_wipes : NoAttr K C_Play "wipes"
  M_Play_can_come : Meth K C_Play "can_come" f_Play_can_come
  M_Play_events : Meth K C_Play "events" f_Play_events
  M_Play_do : Meth K C_Play "do" f_Play_do
  M_Play_step : Meth K C_Play "step" f_Play_step
  M_Play_begun : Meth K C_Play "begun" f_Play_begun
  M_Play_carry_out : Meth K C_Play "carry_out" f_Play_carry_out
  M_Play_is_at_rest : Meth K C_Play "is_at_rest" f_Play_is_at_rest
  M_Play_rested : Meth K C_Play "rested" f_Play_rested
  M_Play_look : Meth K C_Play "look" f_Play_look
  M_Play_share : Meth K C_Play "share" f_Play_share
  M_Play_fetch : Meth K C_Play "fetch" f_Play_fetch
  M_Play_fill : Meth K C_Play "fill" f_Play_fill
  M_Play_take : Meth K C_Play "take" f_Play_take
  M_Play_store : Meth K C_Play "store" f_Play_store
  M_Play_drop : Meth K C_Play "drop" f_Play_drop
  M_Play_put : Meth K C_Play "put" f_Play_put
  M_Play_lets_fill : Meth K C_Play "lets_fill" f_Play_lets_fill
  M_Play_lets_in : Meth K C_Play "lets_in" f_Play_lets_in
  M_Play_hold : Meth K C_Play "hold" f_Play_hold
  M_Play_raise_mark : Meth K C_Play "raise_mark" f_Play_raise_mark

theorem b_is_design {K : PySem.W.Frag} {mg : Str → Option Value} (T : Txt K mg) : Binds K T.fd_is_design ["value"] [] := T.F_is_design.binds (ps := ["value"]) fun _ _ _ _ _ _ us hl => match us, hl with | [_], _ => rfl

theorem b_is_world {K : PySem.W.Frag} {mg : Str → Option Value} (T : Txt K mg) : Binds K T.fd_is_world ["value"] [] := T.F_is_world.binds (ps := ["value"]) fun _ _ _ _ _ _ us hl => match us, hl with | [_], _ => rfl

theorem b_is_triple {K : PySem.W.Frag} {mg : Str → Option Value} (T : Txt K mg) : Binds K T.fd_is_triple ["value", "firsts", "seconds", "thirds"] [] := T.F_is_triple.binds (ps := ["value", "firsts", "seconds", "thirds"]) fun _ _ _ _ _ _ us hl => match us, hl with | [_, _, _, _], _ => rfl

theorem b_write_steps {K : PySem.W.Frag} {mg : Str → Option Value} (T : Txt K mg) : Binds K T.fd_write_steps ["design"] [] := T.F_write_steps.binds (ps := ["design"]) fun _ _ _ _ _ _ us hl => match us, hl with | [_], _ => rfl

theorem b_check_design {K : PySem.W.Frag} {mg : Str → Option Value} (T : Txt K mg) : Binds K T.fd_check_design ["value"] [] := T.F_check_design.binds (ps := ["value"]) fun _ _ _ _ _ _ us hl => match us, hl with | [_], _ => rfl

theorem b_check_world {K : PySem.W.Frag} {mg : Str → Option Value} (T : Txt K mg) : Binds K T.fd_check_world ["value"] [] := T.F_check_world.binds (ps := ["value"]) fun _ _ _ _ _ _ us hl => match us, hl with | [_], _ => rfl

theorem b_Operation_init {K : PySem.W.Frag} {mg : Str → Option Value} (T : Txt K mg) : Binds K T.fd_Operation_init ["self", "kind", "steps", "began"] [] := T.F_Operation_init.binds (ps := ["self", "kind", "steps", "began"]) fun _ _ _ _ _ _ us hl => match us, hl with | [_, _, _, _], _ => rfl

theorem b_Operation_has_ended {K : PySem.W.Frag} {mg : Str → Option Value} (T : Txt K mg) : Binds K T.fd_Operation_has_ended ["self"] [] := T.F_Operation_has_ended.binds (ps := ["self"]) fun _ _ _ _ _ _ us hl => match us, hl with | [_], _ => rfl

theorem b_Operation_is_under_way {K : PySem.W.Frag} {mg : Str → Option Value} (T : Txt K mg) : Binds K T.fd_Operation_is_under_way ["self"] [] := T.F_Operation_is_under_way.binds (ps := ["self"]) fun _ _ _ _ _ _ us hl => match us, hl with | [_], _ => rfl

theorem b_Operation_had_ended_by {K : PySem.W.Frag} {mg : Str → Option Value} (T : Txt K mg) : Binds K T.fd_Operation_had_ended_by ["self", "place"] [] := T.F_Operation_had_ended_by.binds (ps := ["self", "place"]) fun _ _ _ _ _ _ us hl => match us, hl with | [_, _], _ => rfl

theorem b_Operation_was_under_way_from {K : PySem.W.Frag} {mg : Str → Option Value} (T : Txt K mg) : Binds K T.fd_Operation_was_under_way_from ["self", "place"] [] := T.F_Operation_was_under_way_from.binds (ps := ["self", "place"]) fun _ _ _ _ _ _ us hl => match us, hl with | [_, _], _ => rfl

theorem b_Operation_can_step {K : PySem.W.Frag} {mg : Str → Option Value} (T : Txt K mg) : Binds K T.fd_Operation_can_step ["self"] [] := T.F_Operation_can_step.binds (ps := ["self"]) fun _ _ _ _ _ _ us hl => match us, hl with | [_], _ => rfl

theorem b_Operation_stage {K : PySem.W.Frag} {mg : Str → Option Value} (T : Txt K mg) : Binds K T.fd_Operation_stage ["self"] [] := T.F_Operation_stage.binds (ps := ["self"]) fun _ _ _ _ _ _ us hl => match us, hl with | [_], _ => rfl

theorem b_Play_init {K : PySem.W.Frag} {mg : Str → Option Value} (T : Txt K mg) : Binds K T.fd_Play_init ["self", "design", "world"] [] := T.F_Play_init.binds (ps := ["self", "design", "world"]) fun _ _ _ _ _ _ us hl => match us, hl with | [_, _, _], _ => rfl

theorem b_Play_can_come {K : PySem.W.Frag} {mg : Str → Option Value} (T : Txt K mg) : Binds K T.fd_Play_can_come ["self", "value"] [] := T.F_Play_can_come.binds (ps := ["self", "value"]) fun _ _ _ _ _ _ us hl => match us, hl with | [_, _], _ => rfl

theorem b_Play_events {K : PySem.W.Frag} {mg : Str → Option Value} (T : Txt K mg) : Binds K T.fd_Play_events ["self"] [] := T.F_Play_events.binds (ps := ["self"]) fun _ _ _ _ _ _ us hl => match us, hl with | [_], _ => rfl

theorem b_Play_do {K : PySem.W.Frag} {mg : Str → Option Value} (T : Txt K mg) : Binds K T.fd_Play_do ["self", "event"] [] := T.F_Play_do.binds (ps := ["self", "event"]) fun _ _ _ _ _ _ us hl => match us, hl with | [_, _], _ => rfl

theorem b_Play_step {K : PySem.W.Frag} {mg : Str → Option Value} (T : Txt K mg) : Binds K T.fd_Play_step ["self", "word", "number"] [] := T.F_Play_step.binds (ps := ["self", "word", "number"]) fun _ _ _ _ _ _ us hl => match us, hl with | [_, _, _], _ => rfl

theorem b_Play_begun {K : PySem.W.Frag} {mg : Str → Option Value} (T : Txt K mg) : Binds K T.fd_Play_begun ["self", "word"] [] := T.F_Play_begun.binds (ps := ["self", "word"]) fun _ _ _ _ _ _ us hl => match us, hl with | [_, _], _ => rfl

theorem b_Play_carry_out {K : PySem.W.Frag} {mg : Str → Option Value} (T : Txt K mg) : Binds K T.fd_Play_carry_out ["self", "kind", "number"] [] := T.F_Play_carry_out.binds (ps := ["self", "kind", "number"]) fun _ _ _ _ _ _ us hl => match us, hl with | [_, _, _], _ => rfl

theorem b_Play_is_at_rest {K : PySem.W.Frag} {mg : Str → Option Value} (T : Txt K mg) : Binds K T.fd_Play_is_at_rest ["self"] [] := T.F_Play_is_at_rest.binds (ps := ["self"]) fun _ _ _ _ _ _ us hl => match us, hl with | [_], _ => rfl

theorem b_Play_rested {K : PySem.W.Frag} {mg : Str → Option Value} (T : Txt K mg) : Binds K T.fd_Play_rested ["self"] [] := T.F_Play_rested.binds (ps := ["self"]) fun _ _ _ _ _ _ us hl => match us, hl with | [_], _ => rfl

theorem b_Play_look {K : PySem.W.Frag} {mg : Str → Option Value} (T : Txt K mg) : Binds K T.fd_Play_look ["self", "read"] [] := T.F_Play_look.binds (ps := ["self", "read"]) fun _ _ _ _ _ _ us hl => match us, hl with | [_, _], _ => rfl

theorem b_Play_share {K : PySem.W.Frag} {mg : Str → Option Value} (T : Txt K mg) : Binds K T.fd_Play_share ["self", "read"] [] := T.F_Play_share.binds (ps := ["self", "read"]) fun _ _ _ _ _ _ us hl => match us, hl with | [_, _], _ => rfl

theorem b_Play_fetch {K : PySem.W.Frag} {mg : Str → Option Value} (T : Txt K mg) : Binds K T.fd_Play_fetch ["self", "read"] [] := T.F_Play_fetch.binds (ps := ["self", "read"]) fun _ _ _ _ _ _ us hl => match us, hl with | [_, _], _ => rfl

theorem b_Play_fill {K : PySem.W.Frag} {mg : Str → Option Value} (T : Txt K mg) : Binds K T.fd_Play_fill ["self", "read"] [] := T.F_Play_fill.binds (ps := ["self", "read"]) fun _ _ _ _ _ _ us hl => match us, hl with | [_, _], _ => rfl

theorem b_Play_take {K : PySem.W.Frag} {mg : Str → Option Value} (T : Txt K mg) : Binds K T.fd_Play_take ["self", "read"] [] := T.F_Play_take.binds (ps := ["self", "read"]) fun _ _ _ _ _ _ us hl => match us, hl with | [_, _], _ => rfl

theorem b_Play_store {K : PySem.W.Frag} {mg : Str → Option Value} (T : Txt K mg) : Binds K T.fd_Play_store ["self", "write"] [] := T.F_Play_store.binds (ps := ["self", "write"]) fun _ _ _ _ _ _ us hl => match us, hl with | [_, _], _ => rfl

theorem b_Play_drop {K : PySem.W.Frag} {mg : Str → Option Value} (T : Txt K mg) : Binds K T.fd_Play_drop ["self", "write"] [] := T.F_Play_drop.binds (ps := ["self", "write"]) fun _ _ _ _ _ _ us hl => match us, hl with | [_, _], _ => rfl

theorem b_Play_put {K : PySem.W.Frag} {mg : Str → Option Value} (T : Txt K mg) : Binds K T.fd_Play_put ["self", "write"] [] := T.F_Play_put.binds (ps := ["self", "write"]) fun _ _ _ _ _ _ us hl => match us, hl with | [_, _], _ => rfl

theorem b_Play_lets_fill {K : PySem.W.Frag} {mg : Str → Option Value} (T : Txt K mg) : Binds K T.fd_Play_lets_fill ["self", "read"] [] := T.F_Play_lets_fill.binds (ps := ["self", "read"]) fun _ _ _ _ _ _ us hl => match us, hl with | [_, _], _ => rfl

theorem b_Play_lets_in {K : PySem.W.Frag} {mg : Str → Option Value} (T : Txt K mg) : Binds K T.fd_Play_lets_in ["self", "version"] [] := T.F_Play_lets_in.binds (ps := ["self", "version"]) fun _ _ _ _ _ _ us hl => match us, hl with | [_, _], _ => rfl

theorem b_Play_hold {K : PySem.W.Frag} {mg : Str → Option Value} (T : Txt K mg) : Binds K T.fd_Play_hold ["self", "version"] [] := T.F_Play_hold.binds (ps := ["self", "version"]) fun _ _ _ _ _ _ us hl => match us, hl with | [_, _], _ => rfl

theorem b_Play_raise_mark {K : PySem.W.Frag} {mg : Str → Option Value} (T : Txt K mg) : Binds K T.fd_Play_raise_mark ["self", "version"] [] := T.F_Play_raise_mark.binds (ps := ["self", "version"]) fun _ _ _ _ _ _ us hl => match us, hl with | [_, _], _ => rfl

theorem b_played {K : PySem.W.Frag} {mg : Str → Option Value} (T : Txt K mg) : Binds K T.fd_played ["design", "world", "run"] [] := T.F_played.binds (ps := ["design", "world", "run"]) fun _ _ _ _ _ _ us hl => match us, hl with | [_, _, _], _ => rfl

theorem b_breaks {K : PySem.W.Frag} {mg : Str → Option Value} (T : Txt K mg) : Binds K T.fd_breaks ["design", "world", "promise", "run"] [] := T.F_breaks.binds (ps := ["design", "world", "promise", "run"]) fun _ _ _ _ _ _ us hl => match us, hl with | [_, _, _, _], _ => rfl

theorem b_first_break {K : PySem.W.Frag} {mg : Str → Option Value} (T : Txt K mg) : Binds K T.fd_first_break ["design", "world", "promise", "run"] [] := T.F_first_break.binds (ps := ["design", "world", "promise", "run"]) fun _ _ _ _ _ _ us hl => match us, hl with | [_, _, _, _], _ => rfl

theorem b_check_question {K : PySem.W.Frag} {mg : Str → Option Value} (T : Txt K mg) : Binds K T.fd_check_question ["design", "world", "promise"] [] := T.F_check_question.binds (ps := ["design", "world", "promise"]) fun _ _ _ _ _ _ us hl => match us, hl with | [_, _, _], _ => rfl

theorem b_check_promise {K : PySem.W.Frag} {mg : Str → Option Value} (T : Txt K mg) : Binds K T.fd_check_promise ["value"] [] := T.F_check_promise.binds (ps := ["value"]) fun _ _ _ _ _ _ us hl => match us, hl with | [_], _ => rfl

theorem b_breaks_ending {K : PySem.W.Frag} {mg : Str → Option Value} (T : Txt K mg) : Binds K T.fd_breaks_ending ["play"] [] := T.F_breaks_ending.binds (ps := ["play"]) fun _ _ _ _ _ _ us hl => match us, hl with | [_], _ => rfl

theorem b_breaks_filled {K : PySem.W.Frag} {mg : Str → Option Value} (T : Txt K mg) : Binds K T.fd_breaks_filled ["play"] [] := T.F_breaks_filled.binds (ps := ["play"]) fun _ _ _ _ _ _ us hl => match us, hl with | [_], _ => rfl

theorem b_breaks_forward {K : PySem.W.Frag} {mg : Str → Option Value} (T : Txt K mg) : Binds K T.fd_breaks_forward ["play"] [] := T.F_breaks_forward.binds (ps := ["play"]) fun _ _ _ _ _ _ us hl => match us, hl with | [_], _ => rfl

theorem b_breaks_fresh {K : PySem.W.Frag} {mg : Str → Option Value} (T : Txt K mg) : Binds K T.fd_breaks_fresh ["play"] [] := T.F_breaks_fresh.binds (ps := ["play"]) fun _ _ _ _ _ _ us hl => match us, hl with | [_], _ => rfl

theorem b_returns_older {K : PySem.W.Frag} {mg : Str → Option Value} (T : Txt K mg) : Binds K T.fd_returns_older ["play", "kind"] [] := T.F_returns_older.binds (ps := ["play", "kind"]) fun _ _ _ _ _ _ us hl => match us, hl with | [_, _], _ => rfl

theorem b_last_read {K : PySem.W.Frag} {mg : Str → Option Value} (T : Txt K mg) : Binds K T.fd_last_read ["play"] [] := T.F_last_read.binds (ps := ["play"]) fun _ _ _ _ _ _ us hl => match us, hl with | [_], _ => rfl

theorem b_breaks_linear {K : PySem.W.Frag} {mg : Str → Option Value} (T : Txt K mg) : Binds K T.fd_breaks_linear ["play"] [] := T.F_breaks_linear.binds (ps := ["play"]) fun _ _ _ _ _ _ us hl => match us, hl with | [_], _ => rfl

theorem b_spans {K : PySem.W.Frag} {mg : Str → Option Value} (T : Txt K mg) : Binds K T.fd_spans ["play"] [] := T.F_spans.binds (ps := ["play"]) fun _ _ _ _ _ _ us hl => match us, hl with | [_], _ => rfl

theorem b_breaks_mended {K : PySem.W.Frag} {mg : Str → Option Value} (T : Txt K mg) : Binds K T.fd_breaks_mended ["play"] [] := T.F_breaks_mended.binds (ps := ["play"]) fun _ _ _ _ _ _ us hl => match us, hl with | [_], _ => rfl

theorem b_is_behind {K : PySem.W.Frag} {mg : Str → Option Value} (T : Txt K mg) : Binds K T.fd_is_behind ["play"] [] := T.F_is_behind.binds (ps := ["play"]) fun _ _ _ _ _ _ us hl => match us, hl with | [_], _ => rfl

theorem b_breaks_moving {K : PySem.W.Frag} {mg : Str → Option Value} (T : Txt K mg) : Binds K T.fd_breaks_moving ["play"] [] := T.F_breaks_moving.binds (ps := ["play"]) fun _ _ _ _ _ _ us hl => match us, hl with | [_], _ => rfl

theorem b_breaks_quiet {K : PySem.W.Frag} {mg : Str → Option Value} (T : Txt K mg) : Binds K T.fd_breaks_quiet ["play"] [] := T.F_breaks_quiet.binds (ps := ["play"]) fun _ _ _ _ _ _ us hl => match us, hl with | [_], _ => rfl

theorem b_breaks_rest {K : PySem.W.Frag} {mg : Str → Option Value} (T : Txt K mg) : Binds K T.fd_breaks_rest ["play"] [] := T.F_breaks_rest.binds (ps := ["play"]) fun _ _ _ _ _ _ us hl => match us, hl with | [_], _ => rfl

theorem b_breaks_single {K : PySem.W.Frag} {mg : Str → Option Value} (T : Txt K mg) : Binds K T.fd_breaks_single ["play"] [] := T.F_breaks_single.binds (ps := ["play"]) fun _ _ _ _ _ _ us hl => match us, hl with | [_], _ => rfl

theorem b_Ltaken {K : PySem.W.Frag} {mg : Str → Option Value} (T : Txt K mg) : Binds K T.fd_Ltaken ["row", "many"] [] := T.F_Ltaken.binds (ps := ["row", "many"]) fun _ _ _ _ _ _ us hl => match us, hl with | [_, _], _ => rfl

theorem b_Lpick {K : PySem.W.Frag} {mg : Str → Option Value} (T : Txt K mg) : Binds K T.fd_Lpick ["row", "kinds"] [] := T.F_Lpick.binds (ps := ["row", "kinds"]) fun _ _ _ _ _ _ us hl => match us, hl with | [_, _], _ => rfl

theorem b_Lalike {K : PySem.W.Frag} {mg : Str → Option Value} (T : Txt K mg) : Binds K T.fd_Lalike ["found", "due"] [] := T.F_Lalike.binds (ps := ["found", "due"]) fun _ _ _ _ _ _ us hl => match us, hl with | [_, _], _ => rfl

theorem b_Lpaths {K : PySem.W.Frag} {mg : Str → Option Value} (T : Txt K mg) : Binds K T.fd_Lpaths [] [] := T.F_Lpaths.binds (ps := []) fun _ _ _ _ _ _ us hl => match us, hl with | [], _ => rfl

theorem b_Ldesign {K : PySem.W.Frag} {mg : Str → Option Value} (T : Txt K mg) : Binds K T.fd_Ldesign ["row"] [] := T.F_Ldesign.binds (ps := ["row"]) fun _ _ _ _ _ _ us hl => match us, hl with | [_], _ => rfl

theorem b_Lworld {K : PySem.W.Frag} {mg : Str → Option Value} (T : Txt K mg) : Binds K T.fd_Lworld ["row"] [] := T.F_Lworld.binds (ps := ["row"]) fun _ _ _ _ _ _ us hl => match us, hl with | [_], _ => rfl

theorem b_Lbegin {K : PySem.W.Frag} {mg : Str → Option Value} (T : Txt K mg) : Binds K T.fd_Lbegin ["design", "world"] [] := T.F_Lbegin.binds (ps := ["design", "world"]) fun _ _ _ _ _ _ us hl => match us, hl with | [_, _], _ => rfl

theorem b_Lgoing {K : PySem.W.Frag} {mg : Str → Option Value} (T : Txt K mg) : Binds K T.fd_Lgoing ["h"] [] := T.F_Lgoing.binds (ps := ["h"]) fun _ _ _ _ _ _ us hl => match us, hl with | [_], _ => rfl

theorem b_Lnext {K : PySem.W.Frag} {mg : Str → Option Value} (T : Txt K mg) : Binds K T.fd_Lnext ["h", "one"] [] := T.F_Lnext.binds (ps := ["h", "one"]) fun _ _ _ _ _ _ us hl => match us, hl with | [_, _], _ => rfl

theorem b_Levents {K : PySem.W.Frag} {mg : Str → Option Value} (T : Txt K mg) : Binds K T.fd_Levents ["h"] [] := T.F_Levents.binds (ps := ["h"]) fun _ _ _ _ _ _ us hl => match us, hl with | [_], _ => rfl

theorem b_Lend {K : PySem.W.Frag} {mg : Str → Option Value} (T : Txt K mg) : Binds K T.fd_Lend ["h", "one", "stage"] [] := T.F_Lend.binds (ps := ["h", "one", "stage"]) fun _ _ _ _ _ _ us hl => match us, hl with | [_, _, _], _ => rfl

theorem b_Lhold {K : PySem.W.Frag} {mg : Str → Option Value} (T : Txt K mg) : Binds K T.fd_Lhold ["h", "version"] [] := T.F_Lhold.binds (ps := ["h", "version"]) fun _ _ _ _ _ _ us hl => match us, hl with | [_, _], _ => rfl

theorem b_Lnewer {K : PySem.W.Frag} {mg : Str → Option Value} (T : Txt K mg) : Binds K T.fd_Lnewer ["h", "version"] [] := T.F_Lnewer.binds (ps := ["h", "version"]) fun _ _ _ _ _ _ us hl => match us, hl with | [_, _], _ => rfl

theorem b_Llets {K : PySem.W.Frag} {mg : Str → Option Value} (T : Txt K mg) : Binds K T.fd_Llets ["h", "one"] [] := T.F_Llets.binds (ps := ["h", "one"]) fun _ _ _ _ _ _ us hl => match us, hl with | [_, _], _ => rfl

theorem b_Lwrite {K : PySem.W.Frag} {mg : Str → Option Value} (T : Txt K mg) : Binds K T.fd_Lwrite ["h", "one", "word"] [] := T.F_Lwrite.binds (ps := ["h", "one", "word"]) fun _ _ _ _ _ _ us hl => match us, hl with | [_, _, _], _ => rfl

theorem b_Lread {K : PySem.W.Frag} {mg : Str → Option Value} (T : Txt K mg) : Binds K T.fd_Lread ["h", "one", "word"] [] := T.F_Lread.binds (ps := ["h", "one", "word"]) fun _ _ _ _ _ _ us hl => match us, hl with | [_, _, _], _ => rfl

theorem b_Ldo {K : PySem.W.Frag} {mg : Str → Option Value} (T : Txt K mg) : Binds K T.fd_Ldo ["h", "event"] [] := T.F_Ldo.binds (ps := ["h", "event"]) fun _ _ _ _ _ _ us hl => match us, hl with | [_, _], _ => rfl

theorem b_Lrun {K : PySem.W.Frag} {mg : Str → Option Value} (T : Txt K mg) : Binds K T.fd_Lrun ["design", "world", "events"] [] := T.F_Lrun.binds (ps := ["design", "world", "events"]) fun _ _ _ _ _ _ us hl => match us, hl with | [_, _, _], _ => rfl

theorem b_Lwalk {K : PySem.W.Frag} {mg : Str → Option Value} (T : Txt K mg) : Binds K T.fd_Lwalk ["row", "design", "world", "most"] [] := T.F_Lwalk.binds (ps := ["row", "design", "world", "most"]) fun _ _ _ _ _ _ us hl => match us, hl with | [_, _, _, _], _ => rfl

theorem b_Lordered {K : PySem.W.Frag} {mg : Str → Option Value} (T : Txt K mg) : Binds K T.fd_Lordered ["left", "version"] [] := T.F_Lordered.binds (ps := ["left", "version"]) fun _ _ _ _ _ _ us hl => match us, hl with | [_, _], _ => rfl

theorem b_Lin_order {K : PySem.W.Frag} {mg : Str → Option Value} (T : Txt K mg) : Binds K T.fd_Lin_order ["h"] [] := T.F_Lin_order.binds (ps := ["h"]) fun _ _ _ _ _ _ us hl => match us, hl with | [_], _ => rfl

theorem b_law {K : PySem.W.Frag} {mg : Str → Option Value} (T : Txt K mg) : Binds K T.fd_law ["script"] [] := T.F_law.binds (ps := ["script"]) fun _ _ _ _ _ _ us hl => match us, hl with | [_], _ => rfl

/-! ### helpers -/
/-! rules whose reading names the written part: with that part outside, for a comprehension's block -/
section
variable {X : Cx} {K : PySem.W.Frag}
theorem op_inK (h : X.K = K) : OpR X (compareOp .In) (rIn K false) := h ▸ op_in_seq
theorem op_notInK (h : X.K = K) : OpR X (compareOp .NotIn) (rIn K true) := h ▸ op_notIn_seq
theorem ix_listK (h : X.K = K) : IxR X (rIxL K) := h ▸ ix_list
theorem ix_tupK (h : X.K = K) : IxR X (rIxT K) := h ▸ ix_tup
def lenK (K : PySem.W.Frag) : List V → Hp → VK → Prop := fun xs H Q => ∃ p ys, xs = [.ref p] ∧ (SqL K H p ys ∨ SqT K H p ys) ∧ Q (.int ys.length) H
theorem len_seqK (h : X.K = K) : CallR X (.builtin "len") (lenK K) := h ▸ call_len_seq
theorem isiK (h : X.K = K) : CallR X (.builtin "isinstance") (rIsi K) := h ▸ call_isi
theorem pe_fldK {e : Expr} {f : Str} {pos : Pos} {ta : TE} (h : X.K = K) (ha : PE X e ta) (hb : attributeBase e f X.env (eval e X.env) = eval e X.env) : PE X (.Attribute e f pos) (tFld K ta f) := h ▸ pe_fld ha hb
end
theorem dget {H : Hp} {a : Addr} {kvs : List (Key × V)} {x : Str} {v : V} (h : H a = some (.dK kvs)) (e : valV kvs (Sum.inr x) = some v) : DGet H a (.str x) (some v) := by
  rw [← e]
  exact DGet.k (k := Sum.inr x) h
theorem same_new {H : Hp} {p : Addr} {o : HO} (n : H p = none) : Same H (upd H p o) := fun b u e => by
  rw [upd_ne (ne_of_none e n)]
  exact e
theorem sN {H H1 : Hp} {p : Addr} {o : HO} (a : Same H H1) (n : H1 p = none) : Same H (upd H1 p o) := a.trans (same_new n)
theorem pget {α β : Type} {R : α → β → Prop} : ∀ {a : List α} {b : List β} {i : Nat} {x : α}, Paired R a b → a[i]? = some x → ∃ y, b[i]? = some y ∧ R x y
  | _, _, _, _, .nil, h => by simp at h
  | _, _, 0, _, .cons r _, h => by
    simp at h
    subst h
    exact ⟨_, rfl, r⟩
  | _, _, i + 1, _, .cons _ t, h => by
    obtain ⟨y, a, b⟩ := pget (i := i) t (by simpa using h)
    exact ⟨y, by simpa using a, b⟩
theorem small9 {n : Nat} (h : n ≤ 100 := by decide) : n < sizeLine := Nat.lt_of_le_of_lt h (by decide)
/-- what is not in F stands -/
def Keep (F : Addr → Prop) (H H' : Hp) : Prop := ∀ b o, H b = some o → ¬ F b → H' b = some o
theorem Keep.refl {F : Addr → Prop} {H : Hp} : Keep F H H := fun _ _ e _ => e
theorem Keep.trans {F : Addr → Prop} {H H1 H2 : Hp} (a : Keep F H H1) (b : Keep F H1 H2) : Keep F H H2 := fun c o e n => b c o (a c o e n) n
theorem Keep.new {F : Addr → Prop} {H H1 : Hp} {p : Addr} {o : HO} (a : Keep F H H1) (h : H1 p = none) : Keep F H (upd H1 p o) := fun c u e n => by
  have q := a c u e n
  rw [upd_ne (ne_of_none q h)]
  exact q
theorem Keep.put {F : Addr → Prop} {H H1 : Hp} {p : Addr} {o : HO} (a : Keep F H H1) (h : F p) : Keep F H (upd H1 p o) := fun c u e n => by
  have q := a c u e n
  rw [upd_ne (fun z => n (by rw [z]; exact h))]
  exact q
theorem Keep.mono {F G : Addr → Prop} {H H1 : Hp} (a : Keep F H H1) (h : ∀ b, F b → G b) : Keep G H H1 := fun c u e n => a c u e fun f => n (h c f)
theorem Keep.free {F : Addr → Prop} {H H1 : Hp} (a : Keep F H H1) {p : Addr} (h : H1 p = none) (n : ¬ F p) : H p = none := by
  cases q : H p with
  | none => rfl
  | some o =>
    rw [a p o q n] at h
    cases h
theorem Keep.same {F : Addr → Prop} {H0 H H1 : Hp} (a : Keep F H H1) (s : Same H0 H) (h : ∀ b, F b → H0 b = none) : Same H0 H1 := fun b o e => a b o (s b o e) fun f => by
  rw [h b f] at e
  cases e
end Ca

set_option Elab.async false
set_option linter.all false
set_option maxRecDepth 100000
set_option maxHeartbeats 4000000
namespace Ca
open PySem L2
/-! ### the row of draws: [script, place, mix, rest] -/
/-- what stands at a row: the script's list at a -/
def RowO (a : Addr) (o : HO) : Prop := ∃ i x y : Int, o = .lst [.ref a, .int i, .int x, .int y] ∧ 0 ≤ i ∧ 0 ≤ x ∧ x < 2147483647
/-- the row stands at r; ahead of it stood H0, the script at a in it -/
structure RowAt (K : PySem.W.Frag) (H0 : Hp) (a r : Addr) (H : Hp) : Prop where
  ex : ∃ ns : List Int, SqL K H0 a (ns.map V.int)
  no : H0 r = none
  sm : Same H0 H
  at_ : ∃ o, H r = some o ∧ RowO a o
theorem RowAt.put {K : PySem.W.Frag} {H0 H : Hp} {a r : Addr} {o : HO} (R : RowAt K H0 a r H) (h : RowO a o) : RowAt K H0 a r (upd H r o) := by
  refine ⟨R.ex, R.no, fun b u e => ?_, o, upd_same, h⟩
  rw [upd_ne (fun z => by rw [z, R.no] at e; cases e)]
  exact R.sm b u e
theorem RowAt.keep {K : PySem.W.Frag} {H0 H H' : Hp} {a r : Addr} {F : Addr → Prop} (R : RowAt K H0 a r H) (k : Keep F H H') (h : ∀ b, F b → H0 b = none) (hr : ¬ F r) : RowAt K H0 a r H' := by
  obtain ⟨o, e, q⟩ := R.at_
  exact ⟨R.ex, R.no, k.same R.sm h, o, k _ _ e hr, q⟩
/-- a draw below many: some number, the row turned, nothing else -/
@[irreducible] def spTaken (K : PySem.W.Frag) : Sp := fun vs H Q _ => ∃ (H0 : Hp) (a r : Addr) (m : Int), vs = [.ref r, .int m] ∧ RowAt K H0 a r H ∧ 0 < m ∧ m ≤ 1000 ∧ ∀ (k : Int) (o : HO), 0 ≤ k → k < m → RowO a o → Q (.int k) (upd H r o)
/-- a draw of one of some things -/
@[irreducible] def spPick (K : PySem.W.Frag) : Sp := fun vs H Q _ => ∃ (H0 : Hp) (a r l : Addr) (xs : List V), vs = [.ref r, .ref l] ∧ RowAt K H0 a r H ∧ H l = some (.lst xs) ∧ l ≠ r ∧ xs ≠ [] ∧ xs.length ≤ 1000 ∧ ∀ (x : V) (o : HO), x ∈ xs → RowO a o → Q x (upd H r o)
@[irreducible] def spPaths : Sp := fun vs H Q _ => vs = [] ∧ ∀ p, H p = none → Q (.ref p) (upd H p (.lst [.str "drop store", .str "drop store drop", .str "store", .str "store drop", .str "store set"]))
theorem taken_i {K : PySem.W.Frag} {H0 H : Hp} {a r : Addr} {m : Int} {Q : VK} {E : XK} (R : RowAt K H0 a r H) (m0 : 0 < m) (m1 : m ≤ 1000) (k : ∀ (k : Int) H', 0 ≤ k → k < m → RowAt K H0 a r H' → Keep (fun b => b = r) H H' → (∀ b, b ≠ r → H' b = H b) → Q (.int k) H') : spTaken K [.ref r, .int m] H Q E := by
  unfold spTaken
  exact ⟨H0, a, r, m, rfl, R, m0, m1, fun j o j0 j1 ro => k j _ j0 j1 (R.put ro) (Keep.refl.put rfl) fun b h => upd_ne h⟩
theorem pick_i {K : PySem.W.Frag} {H0 H : Hp} {a r l : Addr} {Q : VK} {E : XK} (xs : List V) (R : RowAt K H0 a r H) (hl : H l = some (.lst xs)) (n : l ≠ r) (h0 : xs ≠ []) (h1 : xs.length ≤ 1000) (k : ∀ x H', x ∈ xs → RowAt K H0 a r H' → Keep (fun b => b = r) H H' → Q x H') :
    spPick K [.ref r, .ref l] H Q E := by
  unfold spPick
  exact ⟨H0, a, r, l, xs, rfl, R, hl, n, h0, h1, fun x o m ro => k x _ m (R.put ro) (Keep.refl.put rfl)⟩
theorem paths_i {H : Hp} {Q : VK} {E : XK} (k : ∀ p, H p = none → Q (.ref p) (upd H p (.lst [.str "drop store", .str "drop store drop", .str "store", .str "store drop", .str "store set"]))) : spPaths [] H Q E := by
  unfold spPaths
  exact ⟨rfl, k⟩
section
variable {P : Program} {w : World} {K : PySem.W.Frag} {mg : Str → Option Value} {base : Heap}
theorem big18 : ((10 : Int) ^ (18 : Int).toNat) = 1000000000000000000 := by decide
theorem ok_Ltaken (T : Txt K mg) : FnOk P w K mg base CX0 1 T.f_Ltaken T.fd_Ltaken ["row", "many"] (spTaken K) := by
  refine T.F_Ltaken.ok sc_Ltaken (fun vs H Q E h => ?_) (fun cdv A outer s H vs Q E hr h => ?_)
  · unfold spTaken at h
    obtain ⟨H0, a, r, m, rfl, _⟩ := h
    rfl
  · unfold spTaken at h
    obtain ⟨H0, a, r, m, rfl, R, m0, m1, k⟩ := h
    have hu := hu_of hr
    obtain ⟨o, ho, i, x, y, rfl, i0, x0, x1⟩ := id R.at_
    refine ⟨_, (pss_cons (ps_if (pt_cmpR op_gt (pe_ix ix_list (pv 0) pe_int (fun _ _ => rfl)) pe_int (nomark _)) (pss_cons (ps_set (i := 2) sc_Ltaken.nd rfl (Or.inl rfl) (pe_op op_modN (pe_callTy call_int1 (by rfl) T.n_int (by decide +kernel) (pa_cons (pe_ix ix_list (pv 0) pe_int (fun _ _ => rfl)) pa_nil)) (pv 1)))
      (pss_cons (ps_asg (pe_op op_fdivN (pe_ix ix_list (pv 0) pe_int (fun _ _ => rfl)) (pv 1)) (pg_sub (pv 0) pe_int set_list))
      (pss_one (ps_ret (pv 2))))) pss_nil)
      (pss_cons (ps_asg (pe_op op_add (pe_ix ix_list (pv 0) pe_int (fun _ _ => rfl)) pe_int) (pg_sub (pv 0) pe_int set_list))
      (pss_cons (ps_if (pt_cmpR op_gt (pe_ix ix_list (pv 0) pe_int (fun _ _ => rfl)) (pe_callB call_len_seq (by rfl) T.n_len (by decide +kernel) (pa_cons (pe_ix ix_list (pv 0) pe_int (fun _ _ => rfl)) pa_nil)) (nomark _)) (pss_cons (ps_asg (pe_op op_modN (pe_callTy call_int1 (by rfl) T.n_int (by decide +kernel) (pa_cons (pe_op op_add (pe_op op_mul (pe_ix ix_list (pv 0) pe_int (fun _ _ => rfl)) pe_int) pe_int) pa_nil)) pe_int) (pg_sub (pv 0) pe_int set_list))
      (pss_one (ps_ret (pe_op op_modN (pe_callTy call_int1 (by rfl) T.n_int (by decide +kernel) (pa_cons (pe_op op_fdivN (pe_ix ix_list (pv 0) pe_int (fun _ _ => rfl)) pe_int) pa_nil)) (pv 1))))) pss_nil)
      (pss_cons (ps_set (i := 3) sc_Ltaken.nd rfl (Or.inl rfl) (pe_ix ix_list (pe_ix ix_list (pv 0) pe_int (fun _ _ => rfl)) (pe_op op_sub (pe_ix ix_list (pv 0) pe_int (fun _ _ => rfl)) pe_int) (fun _ _ => rfl)))
      (pss_cons (ps_asg (pe_op op_modN (pe_callTy call_int1 (by rfl) T.n_int (by decide +kernel) (pa_cons (pe_op op_add (pe_op op_add (pe_op op_mul (pe_ix ix_list (pv 0) pe_int (fun _ _ => rfl)) pe_int) (pv 3)) pe_int) pa_nil)) pe_int) (pg_sub (pv 0) pe_int set_list))
      (pss_cons (ps_if (pt_cmpR op_ge (pv 3) (pe_op op_pow pe_int pe_int) (nomark _)) (pss_one (ps_asg (pe_op op_fdivN (pv 3) (pv 1)) (pg_sub (pv 0) pe_int set_list))) pss_nil)
      (pss_one (ps_ret (pe_op op_modN (pe_callTy call_int1 (by rfl) T.n_int (by decide +kernel) (pa_cons (pv 3) pa_nil)) (pv 1)))))))))), ?_⟩
    refine ⟨_, rfl, _, _, _, _, rfl, rfl, SqL.of (ho), rfl, _, _, rfl, rfl, _, rfl, ?_⟩
    refine ite2 (fun hy => ?_) (fun hy => ?_)
    · have hy := of_decide_eq_true hy
      refine ⟨_, rfl, _, _, _, _, rfl, rfl, SqL.of (ho), rfl, .inl ⟨_, rfl, _, rfl, _, _, rfl, rfl, (by omega), ?_⟩⟩
      refine ⟨_, rfl, _, _, _, _, rfl, rfl, SqL.of (ho), rfl, _, rfl, _, _, rfl, rfl, ⟨by omega, by omega⟩, _, rfl, _, _, _, _, rfl, rfl, ho, rfl, ?_⟩
      refine ⟨_, rfl, ?_⟩
      exact k _ _ (Int.fmod_nonneg_of_pos _ m0) (Int.fmod_lt_of_pos _ m0) ⟨_, _, _, rfl, i0, x0, x1⟩
    · refine ⟨_, rfl, _, _, _, _, rfl, rfl, SqL.of (ho), rfl, _, _, rfl, rfl, _, rfl, _, _, _, _, rfl, rfl, ho, rfl, ?_⟩
      have h1 := upd_same (H := H) (a := r) (o := .lst [.ref a, .int (i + 1), .int x, .int y])
      have R1 : RowAt K H0 a r (upd H r (.lst [.ref a, .int (i + 1), .int x, .int y])) := R.put ⟨_, _, _, rfl, by omega, x0, x1⟩
      obtain ⟨ns, hs⟩ := R.ex
      have hS := R1.sm.seq hs
      refine ⟨_, rfl, _, _, _, _, rfl, rfl, SqL.of (h1), rfl, _, rfl, _, _, _, _, rfl, rfl, SqL.of (h1), rfl, a, ns.map V.int, rfl, .inl hS, _, _, rfl, rfl, _, rfl, ?_⟩
      refine ite2 (fun hi => ?_) (fun hi => ?_)
      · refine ⟨_, rfl, _, _, _, _, rfl, rfl, SqL.of (h1), rfl, _, _, rfl, rfl, .inl ⟨by omega, by omega⟩, _, _, rfl, rfl, .inl ⟨_, rfl, ?_⟩⟩
        refine ⟨_, _, rfl, rfl, (by show (2147483647 : Int) ≠ 0; decide), _, rfl, _, _, _, _, rfl, rfl, h1, rfl, ?_⟩
        have h2 := upd_same (H := upd H r (.lst [.ref a, .int (i + 1), .int x, .int y])) (a := r) (o := .lst [.ref a, .int (i + 1), .int ((x * 48271 + 11).fmod 2147483647), .int y])
        refine ⟨_, rfl, _, _, _, _, rfl, rfl, SqL.of (h2), rfl, _, _, rfl, rfl, ⟨by decide, by decide⟩, .inl ⟨_, rfl, _, rfl, _, _, rfl, rfl, (by omega), ?_⟩⟩
        rw [upd_upd]
        exact k _ _ (Int.fmod_nonneg_of_pos _ m0) (Int.fmod_lt_of_pos _ m0) ⟨_, _, _, rfl, by omega, Int.fmod_nonneg_of_pos _ (by decide), Int.fmod_lt_of_pos _ (by decide)⟩
      · have hi : ¬ ((ns.map V.int).length : Int) < i + 1 := of_decide_eq_false (by simpa using hi)
        have hlt : i.toNat < ns.length := by
          rw [List.length_map] at hi
          omega
        have hget : (ns.map V.int)[i.toNat]? = some (V.int (ns[i.toNat]'hlt)) := by
          rw [List.getElem?_map, List.getElem?_eq_getElem hlt]
          rfl
        refine ⟨_, rfl, _, _, _, _, rfl, rfl, SqL.of (h1), rfl, _, rfl, _, _, _, _, rfl, rfl, SqL.of (h1), rfl, _, _, rfl, rfl, a, ns.map V.int, _, _, rfl, rfl, hS, at_of (j := i.toNat) (by omega) hget, ?_⟩
        generalize ns[i.toNat]'hlt = c
        refine ⟨_, rfl, _, _, _, _, rfl, rfl, SqL.of (h1), rfl, _, _, rfl, rfl, .inl ⟨by omega, by omega⟩, _, rfl, _, _, rfl, rfl, _, _, rfl, rfl, .inl ⟨_, rfl, ?_⟩⟩
        refine ⟨_, _, rfl, rfl, (by show (2147483647 : Int) ≠ 0; decide), _, rfl, _, _, _, _, rfl, rfl, h1, rfl, ?_⟩
        refine ⟨_, rfl, _, _, rfl, rfl, ⟨by decide, by decide, by decide⟩, _, _, rfl, rfl, _, rfl, ?_⟩
        refine ite2 (fun hc => ?_) (fun hc => ?_)
        · refine ⟨_, rfl, _, rfl, _, _, rfl, rfl, ⟨by omega, by omega⟩, _, rfl, _, _, _, _, rfl, rfl, upd_same, rfl, ?_⟩
          refine ⟨_, rfl, .inl ⟨_, rfl, _, rfl, _, _, rfl, rfl, (by omega), ?_⟩⟩
          rw [upd_upd, upd_upd]
          exact k _ _ (Int.fmod_nonneg_of_pos _ m0) (Int.fmod_lt_of_pos _ m0) ⟨_, _, _, rfl, by omega, Int.fmod_nonneg_of_pos _ (by decide), Int.fmod_lt_of_pos _ (by decide)⟩
        · refine ⟨_, rfl, .inl ⟨_, rfl, _, rfl, _, _, rfl, rfl, (by omega), ?_⟩⟩
          rw [upd_upd]
          exact k _ _ (Int.fmod_nonneg_of_pos _ m0) (Int.fmod_lt_of_pos _ m0) ⟨_, _, _, rfl, by omega, Int.fmod_nonneg_of_pos _ (by decide), Int.fmod_lt_of_pos _ (by decide)⟩
theorem ok_Lpick (T : Txt K mg) : FnOk P w K mg base CX0 2 T.f_Lpick T.fd_Lpick ["row", "kinds"] (spPick K) := by
  refine T.F_Lpick.ok sc_Lpick (fun vs H Q E h => ?_) (fun cdv A outer s H vs Q E hr h => ?_)
  · unfold spPick at h
    obtain ⟨H0, a, r, l, xs, rfl, _⟩ := h
    rfl
  · unfold spPick at h
    obtain ⟨H0, a, r, l, xs, rfl, R, hl, nlr, ne, hn, k⟩ := h
    refine ⟨_, (pss_one (ps_ret (pe_ix ix_list (pv 1) (pe_call (ok_Ltaken T) (hr.mono (by decide)) rfl T.m_Ltaken T.F_Ltaken.kp (b_Ltaken T) .nil pass0 (pa_cons (pv 0) (pa_cons (pe_callB call_len_seq (by rfl) T.n_len (by decide +kernel) (pa_cons (pv 1) pa_nil)) pa_nil))) (fun _ _ => rfl)))), ?_⟩
    have hp : 0 < xs.length := List.length_pos_iff.mpr ne
    refine ⟨_, rfl, _, rfl, _, rfl, l, xs, rfl, .inl (SqL.of hl), ?_⟩
    have ht : ∀ Q' E', (∀ (j : Int) (o : HO), 0 ≤ j → j < (xs.length : Int) → RowO a o → Q' (.int j) (upd H r o)) → spTaken K [.ref r, .int (xs.length : Int)] H Q' E' := fun Q' E' k' => by
      unfold spTaken
      exact ⟨H0, a, r, _, rfl, R, by omega, by omega, k'⟩
    refine ht _ _ fun j o j0 j1 ro => ?_
    have hlt : j.toNat < xs.length := by omega
    have h2 : (upd H r o) l = some (.lst xs) := by rw [upd_ne nlr]; exact hl
    refine ⟨l, xs, j, xs[j.toNat], rfl, rfl, SqL.of h2, at_of (j := j.toNat) (by omega) (List.getElem?_eq_getElem hlt), ?_⟩
    exact k _ _ (List.getElem_mem hlt) ro
theorem ok_Lpaths (T : Txt K mg) : FnOk P w K mg base CX0 1 T.f_Lpaths T.fd_Lpaths [] (spPaths) := by
  refine T.F_Lpaths.ok sc_Lpaths (fun vs H Q E h => ?_) (fun cdv A outer s H vs Q E hr h => ?_)
  · unfold spPaths at h
    obtain ⟨rfl, _⟩ := h
    rfl
  · unfold spPaths at h
    obtain ⟨rfl, k⟩ := h
    refine ⟨_, (pss_one (ps_ret (pe_lst (pa_cons pe_str (pa_cons pe_str (pa_cons pe_str (pa_cons pe_str (pa_cons pe_str pa_nil)))))))), ?_⟩
    exact ⟨by show 5 ≤ sizeLine; decide, fun p hp => k p hp⟩
end
def pathsL : List Str := ["drop store", "drop store drop", "store", "store drop", "store set"]
def guardsL : List Str := ["always", "empty", "mark", "never", "newer", "token"]
def flightsL : List Str := ["alone", "shared"]
/-- a design's three words, a world's three -/
structure Conf where
  path : Str
  guard : Str
  flight : Str
  source : Str
  evict : Str
  stop : Str
structure Conf.Ok (c : Conf) : Prop where
  p : c.path ∈ pathsL
  g : c.guard ∈ guardsL
  f : c.flight ∈ flightsL
  s : c.source = "primary" ∨ c.source = "replica"
  e : c.evict = "evicts" ∨ c.evict = "keeps"
  t : c.stop = "finishes" ∨ c.stop = "stops"
section
variable {P : Program} {w : World} {K : PySem.W.Frag} {mg : Str → Option Value} {base : Heap}
theorem RowAt.ne {H0 H : Hp} {a r p : Addr} (R : RowAt K H0 a r H) (h : H p = none) : p ≠ r := fun z => by
  obtain ⟨o, e, _⟩ := R.at_
  rw [← z, h] at e
  cases e
theorem RowAt.new {H0 H : Hp} {a r p : Addr} {o : HO} (R : RowAt K H0 a r H) (h : H p = none) : RowAt K H0 a r (upd H p o) :=
  R.keep (F := fun _ => False) (Keep.new .refl h) (fun _ z => z.elim) id
theorem pick_lst {H0 H : Hp} {a r l : Addr} {Q : VK} {E : XK} (R : RowAt K H0 a r H) (n : H l = none) (xs : List V) (h0 : xs ≠ []) (h1 : xs.length ≤ 1000) (k : ∀ x H', x ∈ xs → RowAt K H0 a r H' → Keep (fun b => b = r) H H' → Q x H') :
    spPick K [.ref r, .ref l] (upd H l (.lst xs)) Q E := by
  unfold spPick
  exact ⟨H0, a, r, l, xs, rfl, R.new n, upd_same, R.ne n, h0, h1, fun x o m ro => k x _ m ((R.new n).put ro) ((Keep.refl.new n).put rfl)⟩
end
abbrev dT (c : Conf) : HO := .tup [.str c.path, .str c.guard, .str c.flight]
abbrev wT (c : Conf) : HO := .tup [.str c.source, .str c.evict, .str c.stop]
end Ca

set_option Elab.async false
set_option linter.all false
set_option maxRecDepth 100000
set_option maxHeartbeats 4000000
namespace Ca
open PySem L2
/-! ### the law's own cache as plain data -/
def on : Option Nat → V
  | none => .non
  | some k => .int (k : Int)
structure OpS where
  number : Nat
  kind : Str
  stage : Str
  version : Option Nat
  begun : Nat
  over : Option Nat
  step : Nat
  clean : Bool
  leader : Option Nat
structure HS where
  db : Nat
  rep : Nat
  cache : Option Nat
  mark : Nat
  opn : Option Nat
  ops : List OpS
  past : List Ev
def HS.begin : HS := ⟨0, 0, none, 0, none, [], []⟩
def Conf.steps (c : Conf) : List Str := Txt.split c.path " "
def endedB (o : OpS) : Bool := decide (o.stage = "ended") || decide (o.stage = "stopped")
def going (s : HS) : List OpS := s.ops.filter fun o => !endedB o
def nextOf (s : HS) (o : OpS) : Option Str :=
  if o.stage = "waits" then (match o.leader with
    | some l => (match s.ops[l]? with
      | some q => if q.stage = "ended" then some "take" else none
      | none => none)
    | none => none)
  else some o.stage
def firstW (c : Conf) : Str := c.steps.getD 0 ""
def evA (c : Conf) (s : HS) : List Ev := [("look", some (s.ops.length : Int)), (firstW c, some (s.ops.length : Int))]
def evB (s : HS) : List Ev := (going s).filterMap fun o => (nextOf s o).map fun w => (w, some (o.number : Int))
def evC (c : Conf) (s : HS) : List Ev := if c.stop = "stops" then (going s).map fun o => ("stop", some (o.number : Int)) else []
def canEvict (c : Conf) (s : HS) : Bool := decide (c.evict = "evicts") && (s.cache.isSome || decide (0 < s.mark))
def canCopy (c : Conf) (s : HS) : Bool := decide (c.source = "replica") && decide (s.rep < s.db)
def evD (c : Conf) (s : HS) : List Ev := if canEvict c s then [("evict", none)] else []
def evE (c : Conf) (s : HS) : List Ev := if canCopy c s then [("copy", none)] else []
def evList (c : Conf) (s : HS) : List Ev := evA c s ++ evB s ++ evC c s ++ evD c s ++ evE c s
def HS.put (s : HS) (k : Nat) (o : OpS) : HS := { s with ops := s.ops.set k o }
/-- an operation ends or stops -/
def endH (s : HS) (k : Nat) (o : OpS) (st : Str) : HS :=
  let s1 := s.put k { o with stage := st, over := some s.past.length }
  if st = "ended" ∧ s.opn = some o.number then { s1 with opn := none } else s1
def holdH (c : Conf) (s : HS) (v : Nat) : HS :=
  if c.guard = "mark" then { s with cache := some v, mark := max s.mark v } else { s with cache := some v }
def newerB (s : HS) (v : Nat) : Bool := match s.cache with
  | none => true
  | some x => decide (x < v)
def letsB (c : Conf) (s : HS) (o : OpS) (v : Nat) : Bool :=
  if c.guard = "token" then o.clean else if c.guard = "mark" then decide (s.mark ≤ v)
  else decide (c.guard = "always") || (if c.guard = "newer" then newerB s v else s.cache.isNone)
def setsB (c : Conf) (s : HS) (v : Nat) : Bool := if c.guard = "mark" then decide (s.mark ≤ v) else !decide (c.guard = "newer") || newerB s v
/-! one dict after the other, as it stands in the heap -/
def hK (d w : Addr) (s : HS) (lo lp : Addr) : List (Key × V) :=
  [(.inr "design", .ref d), (.inr "world", .ref w), (.inr "db", .int (s.db : Int)), (.inr "rep", .int (s.rep : Int)), (.inr "cache", on s.cache), (.inr "mark", .int (s.mark : Int)), (.inr "open", on s.opn), (.inr "ops", .ref lo), (.inr "past", .ref lp)]
def oK (o : OpS) : List (Key × V) :=
  [(.inr "number", .int (o.number : Int)), (.inr "kind", .str o.kind), (.inr "stage", .str o.stage), (.inr "version", on o.version), (.inr "begun", .int (o.begun : Int)), (.inr "over", on o.over), (.inr "step", .int (o.step : Int)), (.inr "clean", .bl o.clean), (.inr "leader", on o.leader)]
structure LA where
  d : Addr
  w : Addr
  lo : Addr
  lp : Addr
  oas : List Addr
  eas : List Addr
def Fp (h : Addr) (A : LA) : Addr → Prop := fun b => b = h ∨ b = A.lo ∨ b = A.lp ∨ b ∈ A.oas
structure LawAt (c : Conf) (H : Hp) (h : Addr) (A : LA) (s : HS) : Prop where
  hd : H h = some (.dK (hK A.d A.w s A.lo A.lp))
  dd : H A.d = some (.tup [.str c.path, .str c.guard, .str c.flight])
  ww : H A.w = some (.tup [.str c.source, .str c.evict, .str c.stop])
  lo : H A.lo = some (.lst (A.oas.map V.ref))
  lp : H A.lp = some (.lst (A.eas.map V.ref))
  ol : A.oas.length = s.ops.length
  og : ∀ (k : Nat) a o, A.oas[k]? = some a → s.ops[k]? = some o → H a = some (.dK (oK o))
  el : A.eas.length = s.past.length
  eg : ∀ (i : Nat) a e, A.eas[i]? = some a → s.past[i]? = some e → H a = some (.tup (evV e))
  nd : A.oas.Nodup
  nl : A.lo ≠ A.lp
section
variable {c : Conf} {H H' : Hp} {h : Addr} {A : LA} {s : HS}
theorem LawAt.same (L : LawAt c H h A s) (e : Same H H') : LawAt c H' h A s :=
  ⟨e _ _ L.hd, e _ _ L.dd, e _ _ L.ww, e _ _ L.lo, e _ _ L.lp, L.ol, fun k a o p q => e _ _ (L.og k a o p q), L.el, fun i a v p q => e _ _ (L.eg i a v p q), L.nd, L.nl⟩
theorem Same.new {H1 : Hp} {p : Addr} {o : HO} (a : Same H H1) (n : H1 p = none) : Same H (upd H1 p o) := a.trans (same_new n)
theorem LawAt.new {p : Addr} {o : HO} (L : LawAt c H h A s) (n : H p = none) : LawAt c (upd H p o) h A s := L.same (same_new n)
theorem LawAt.get (L : LawAt c H h A s) {k : Nat} {o : OpS} (e : s.ops[k]? = some o) : ∃ a, A.oas[k]? = some a ∧ H a = some (.dK (oK o)) := by
  have hlt : k < A.oas.length := by
    rw [L.ol]
    exact (List.getElem?_eq_some_iff.mp e).1
  exact ⟨A.oas[k], List.getElem?_eq_getElem hlt, L.og k _ o (List.getElem?_eq_getElem hlt) e⟩
theorem LawAt.ofAt (L : LawAt c H h A s) {k : Nat} {a : Addr} (e : A.oas[k]? = some a) : ∃ o, s.ops[k]? = some o ∧ H a = some (.dK (oK o)) := by
  have hlt : k < s.ops.length := by
    rw [← L.ol]
    exact (List.getElem?_eq_some_iff.mp e).1
  exact ⟨s.ops[k], List.getElem?_eq_getElem hlt, L.og k a _ e (List.getElem?_eq_getElem hlt)⟩
theorem hK_ne_oK {d w lo lp : Addr} {s : HS} {o : OpS} : hK d w s lo lp ≠ oK o := fun z => by
  have z1 := congrArg (fun l => l.map (·.1)) z
  revert z1
  show ¬ ([.inr "design", .inr "world", .inr "db", .inr "rep", .inr "cache", .inr "mark", .inr "open", .inr "ops", .inr "past"] : List Key) = [.inr "number", .inr "kind", .inr "stage", .inr "version", .inr "begun", .inr "over", .inr "step", .inr "clean", .inr "leader"]
  decide +kernel
theorem LawAt.ne_op (L : LawAt c H h A s) {k : Nat} {a : Addr} (e : A.oas[k]? = some a) : a ≠ h := by
  obtain ⟨o, _, q⟩ := L.ofAt e
  exact ne_of q L.hd fun z => hK_ne_oK (HO.dK.inj z).symm
/-- h's own ints and versions are stored -/
theorem LawAt.hput (L : LawAt c H h A s) {s' : HS} (eo : s'.ops = s.ops) (ep : s'.past = s.past) : LawAt c (upd H h (.dK (hK A.d A.w s' A.lo A.lp))) h A s' := by
  have n : ∀ {b : Addr} {o : HO}, H b = some o → (∀ kvs, o ≠ .dK kvs) → b ≠ h := fun {b o} e q z => by
    rw [z, L.hd] at e
    exact q _ (Option.some.inj e).symm
  refine ⟨upd_same, ?_, ?_, ?_, ?_, by rw [eo]; exact L.ol, fun k a o p q => ?_, by rw [ep]; exact L.el, fun i a v p q => ?_, L.nd, L.nl⟩
  · rw [upd_ne (n L.dd (by intro _ z; cases z))]; exact L.dd
  · rw [upd_ne (n L.ww (by intro _ z; cases z))]; exact L.ww
  · rw [upd_ne (n L.lo (by intro _ z; cases z))]; exact L.lo
  · rw [upd_ne (n L.lp (by intro _ z; cases z))]; exact L.lp
  · rw [upd_ne (L.ne_op p)]
    rw [eo] at q
    exact L.og k a o p q
  · rw [ep] at q
    have w := L.eg i a v p q
    rw [upd_ne (n w (by intro _ z; cases z))]
    exact w
theorem LawAt.oput (L : LawAt c H h A s) {k : Nat} {a : Addr} {o' : OpS} (e : A.oas[k]? = some a) : LawAt c (upd H a (.dK (oK o'))) h A (s.put k o') := by
  obtain ⟨o, eo, ha⟩ := L.ofAt e
  have n : ∀ {b : Addr} {u : HO}, H b = some u → (∀ kvs, u ≠ .dK kvs) → b ≠ a := fun {b u} e q z => by
    rw [z, ha] at e
    exact q _ (Option.some.inj e).symm
  refine ⟨?_, ?_, ?_, ?_, ?_, ?_, fun j b u p q => ?_, L.el, fun i b v p q => ?_, L.nd, L.nl⟩
  · rw [upd_ne (L.ne_op e).symm]; exact L.hd
  · rw [upd_ne (n L.dd (by intro _ z; cases z))]; exact L.dd
  · rw [upd_ne (n L.ww (by intro _ z; cases z))]; exact L.ww
  · rw [upd_ne (n L.lo (by intro _ z; cases z))]; exact L.lo
  · rw [upd_ne (n L.lp (by intro _ z; cases z))]; exact L.lp
  · show A.oas.length = (s.ops.set k o').length
    rw [List.length_set]
    exact L.ol
  · by_cases hj : j = k
    · subst hj
      rw [e] at p
      cases p
      have hlt : j < s.ops.length := (List.getElem?_eq_some_iff.mp eo).1
      have q' : (s.ops.set j o')[j]? = some u := q
      rw [List.getElem?_set_self hlt] at q'
      cases q'
      exact upd_same
    · have q' : (s.ops.set k o')[j]? = some u := q
      rw [List.getElem?_set_ne (Ne.symm hj)] at q'
      have nb : b ≠ a := fun z => by
        subst z
        exact hj (nd_ix L.nd p e)
      rw [upd_ne nb]
      exact L.og j b u p q'
  · have w := L.eg i b v p q
    rw [upd_ne (n w (by intro _ z; cases z))]
    exact w
/-- a new operation's dict at p is appended -/
theorem LawAt.opush (L : LawAt c H h A s) {p : Addr} {o : OpS} (np : ¬ p ∈ A.oas) (hp : H p = some (.dK (oK o))) : LawAt c (upd H A.lo (.lst (A.oas.map V.ref ++ [.ref p]))) h { A with oas := A.oas ++ [p] } { s with ops := s.ops ++ [o] } := by
  have n : ∀ {b : Addr} {u : HO}, H b = some u → (∀ kvs, u ≠ .lst kvs) → b ≠ A.lo := fun {b u} e q z => by
    rw [z, L.lo] at e
    exact q _ (Option.some.inj e).symm
  refine ⟨?_, ?_, ?_, ?_, ?_, ?_, fun j b u q1 q2 => ?_, L.el, fun i b v q1 q2 => ?_, ?_, L.nl⟩
  · rw [upd_ne (n L.hd (by intro _ z; cases z))]; exact L.hd
  · rw [upd_ne (n L.dd (by intro _ z; cases z))]; exact L.dd
  · rw [upd_ne (n L.ww (by intro _ z; cases z))]; exact L.ww
  · show upd H A.lo _ A.lo = some (.lst ((A.oas ++ [p]).map V.ref))
    rw [upd_same, List.map_append]
    rfl
  · rw [upd_ne L.nl.symm]; exact L.lp
  · show (A.oas ++ [p]).length = (s.ops ++ [o]).length
    rw [List.length_append, List.length_append, L.ol]
    rfl
  · have q1' : (A.oas ++ [p])[j]? = some b := q1
    have q2' : (s.ops ++ [o])[j]? = some u := q2
    by_cases hj : j < A.oas.length
    · rw [List.getElem?_append_left hj] at q1'
      rw [List.getElem?_append_left (by rw [← L.ol]; exact hj)] at q2'
      have z := L.og j b u q1' q2'
      rw [upd_ne (n z (by intro _ z; cases z))]
      exact z
    · rw [List.getElem?_append_right (by omega)] at q1'
      rw [List.getElem?_append_right (by rw [← L.ol]; omega)] at q2'
      have e0 : j - A.oas.length = 0 := by
        have := (List.getElem?_eq_some_iff.mp q1').1
        simp at this
        omega
      rw [e0] at q1'
      rw [← L.ol, e0] at q2'
      cases q1'
      cases q2'
      rw [upd_ne (n hp (by intro _ z; cases z))]
      exact hp
  · have w := L.eg i b v q1 q2
    rw [upd_ne (n w (by intro _ z; cases z))]
    exact w
  · show (A.oas ++ [p]).Nodup
    rw [List.nodup_append]
    refine ⟨L.nd, by simp, fun x hx y hy => ?_⟩
    simp at hy
    subst hy
    exact fun z => np (by rw [← z]; exact hx)
/-- an event is noted -/
theorem LawAt.epush (L : LawAt c H h A s) {p : Addr} {e : Ev} (hp : H p = some (.tup (evV e))) : LawAt c (upd H A.lp (.lst (A.eas.map V.ref ++ [.ref p]))) h { A with eas := A.eas ++ [p] } { s with past := s.past ++ [e] } := by
  have n : ∀ {b : Addr} {u : HO}, H b = some u → (∀ kvs, u ≠ .lst kvs) → b ≠ A.lp := fun {b u} e q z => by
    rw [z, L.lp] at e
    exact q _ (Option.some.inj e).symm
  refine ⟨?_, ?_, ?_, ?_, ?_, L.ol, fun j b u q1 q2 => ?_, ?_, fun i b v q1 q2 => ?_, L.nd, L.nl⟩
  · rw [upd_ne (n L.hd (by intro _ z; cases z))]; exact L.hd
  · rw [upd_ne (n L.dd (by intro _ z; cases z))]; exact L.dd
  · rw [upd_ne (n L.ww (by intro _ z; cases z))]; exact L.ww
  · rw [upd_ne L.nl]; exact L.lo
  · show upd H A.lp _ A.lp = some (.lst ((A.eas ++ [p]).map V.ref))
    rw [upd_same, List.map_append]
    rfl
  · have w := L.og j b u q1 q2
    rw [upd_ne (n w (by intro _ z; cases z))]
    exact w
  · show (A.eas ++ [p]).length = (s.past ++ [e]).length
    rw [List.length_append, List.length_append, L.el]
    rfl
  · have q1' : (A.eas ++ [p])[i]? = some b := q1
    have q2' : (s.past ++ [e])[i]? = some v := q2
    by_cases hj : i < A.eas.length
    · rw [List.getElem?_append_left hj] at q1'
      rw [List.getElem?_append_left (by rw [← L.el]; exact hj)] at q2'
      have z := L.eg i b v q1' q2'
      rw [upd_ne (n z (by intro _ z; cases z))]
      exact z
    · rw [List.getElem?_append_right (by omega)] at q1'
      rw [List.getElem?_append_right (by rw [← L.el]; omega)] at q2'
      have e0 : i - A.eas.length = 0 := by
        have := (List.getElem?_eq_some_iff.mp q1').1
        simp at this
        omega
      rw [e0] at q1'
      rw [← L.el, e0] at q2'
      cases q1'
      cases q2'
      rw [upd_ne (n hp (by intro _ z; cases z))]
      exact hp
end
/-! ### lists of events in the heap -/
def evOf (H : Hp) : V → Ev
  | .ref t => match H t with
    | some (.tup [.str w]) => (w, none)
    | some (.tup [.str w, .int k]) => (w, some k)
    | _ => ("", none)
  | _ => ("", none)
theorem evOf_eq {H : Hp} {t : Addr} {e : Ev} (h : H t = some (.tup (evV e))) : evOf H (.ref t) = e := by
  obtain ⟨w, k⟩ := e
  cases k <;> simp [evOf, h, evV]
abbrev EvsAt (H : Hp) (xs : List V) (es : List Ev) : Prop := Paired (fun x e => ∃ t, x = V.ref t ∧ H t = some (.tup (evV e))) xs es
theorem EvsAt.same {H H' : Hp} {xs : List V} {es : List Ev} (x : EvsAt H xs es) (s : Same H H') : EvsAt H' xs es := Paired.mapP x fun _ _ ⟨t, a, b⟩ => ⟨t, a, s _ _ b⟩
theorem EvsAt.map : ∀ {H : Hp} {xs : List V} {es : List Ev}, EvsAt H xs es → es = xs.map (evOf H)
  | _, _, _, .nil => rfl
  | H, _, _, .cons ⟨t, a, b⟩ r => by
    subst a
    rw [List.map_cons, evOf_eq b, ← EvsAt.map r]
theorem EvsAt.all : ∀ {H : Hp} {xs : List V} {es : List Ev}, EvsAt H xs es → ∀ x ∈ xs, ∃ t, x = V.ref t ∧ H t = some (.tup (evV (evOf H x)))
  | _, _, _, .nil, x, h => absurd h (by simp)
  | H, _, _, .cons ⟨t, a, b⟩ r, x, h => by
    rcases List.mem_cons.mp h with z | z
    · subst z
      subst a
      exact ⟨t, rfl, by rw [evOf_eq b]; exact b⟩
    · exact EvsAt.all r x z
theorem EvsAt.of_all {H : Hp} : ∀ {xs : List V}, (∀ x ∈ xs, ∃ t, x = V.ref t ∧ H t = some (.tup (evV (evOf H x)))) → EvsAt H xs (xs.map (evOf H))
  | [], _ => .nil
  | x :: xs, h => .cons (h x (List.mem_cons_self ..)) (EvsAt.of_all fun y hy => h y (List.mem_cons_of_mem _ hy))
theorem Paired.app {α β : Type} {R : α → β → Prop} : ∀ {a b : List α} {c d : List β}, Paired R a c → Paired R b d → Paired R (a ++ b) (c ++ d)
  | _, _, _, _, .nil, y => y
  | _, _, _, _, .cons x r, y => .cons x (Paired.app r y)
theorem EvsAt.get : ∀ {H : Hp} {xs : List V} {es : List Ev} {x : V}, EvsAt H xs es → x ∈ xs → ∃ t e, x = V.ref t ∧ H t = some (.tup (evV e)) ∧ e ∈ es
  | _, _, _, _, .nil, h => absurd h (by simp)
  | H, _, _, x, .cons ⟨t, a, b⟩ r, h => by
    rcases List.mem_cons.mp h with z | z
    · subst z
      exact ⟨t, _, a, b, List.mem_cons_self ..⟩
    · obtain ⟨t, e, a, b, c⟩ := EvsAt.get r z
      exact ⟨t, e, a, b, List.mem_cons_of_mem _ c⟩
/-- what sorted makes of such a list -/
theorem EvsAt.sorted {H : Hp} {xs ys : List V} {es : List Ev} (x : EvsAt H xs es) (s : SrtO.Srtd (fun a b => evLt (evOf H a) (evOf H b)) ys) (p : ys.Perm xs) : EvsAt H ys (ys.map (evOf H)) ∧ Srt (ys.map (evOf H)) ∧ (ys.map (evOf H)).Perm es := by
  refine ⟨EvsAt.of_all fun y hy => x.all y (p.mem_iff.mp hy), List.pairwise_map.mpr s, ?_⟩
  rw [x.map]
  exact p.map _
end Ca

set_option Elab.async false
set_option linter.all false
set_option maxRecDepth 100000
set_option maxHeartbeats 4000000
namespace Ca
open PySem L2
/-! ### tests on written words and on versions -/
theorem dput {H : Hp} {a : Addr} {kvs kvs' : List (Key × V)} {x : Str} {v : V} (h : H a = some (.dK kvs)) (e : putK kvs (Sum.inr x) v = kvs') (hl : kvs.length < sizeLine := by first | exact small9 (by show (9 : Nat) ≤ 100; decide) | exact small9 (by show (6 : Nat) ≤ 100; decide)) : DPut H a (.str x) v (upd H a (.dK kvs')) := by
  rw [← e]
  exact DPut.k (k := Sum.inr x) h hl
theorem iteS {a b : Str} {A B : Prop} (h1 : a = b → A) (h2 : ¬ a = b → B) : if decide (V.str a = V.str b) = true then A else B := by
  by_cases h : a = b
  · rw [if_pos (decide_eq_true (by rw [h]))]
    exact h1 h
  · rw [if_neg (by rw [decide_eq_false (fun z => h (V.str.inj z))]; decide)]
    exact h2 h
theorem iteSn {a b : Str} {A B : Prop} (h1 : ¬ a = b → A) (h2 : a = b → B) : if (!decide (V.str a = V.str b)) = true then A else B := by
  by_cases h : a = b
  · rw [decide_eq_true (show V.str a = V.str b by rw [h])]
    exact h2 h
  · rw [decide_eq_false (fun z => h (V.str.inj z))]
    exact h1 h
theorem on_inj {x y : Option Nat} (h : on x = on y) : x = y := by
  cases x <;> cases y <;> simp [on] at h ⊢
  omega
theorem iteO {x y : Option Nat} {A B : Prop} (h1 : x = y → A) (h2 : ¬ x = y → B) : if decide (on x = on y) = true then A else B := by
  by_cases h : x = y
  · rw [if_pos (decide_eq_true (by rw [h]))]
    exact h1 h
  · rw [if_neg (by rw [decide_eq_false (fun z => h (on_inj z))]; decide)]
    exact h2 h
theorem iteNo {x : Option Nat} {A B : Prop} (h1 : x = none → A) (h2 : ∀ v, x = some v → B) : if decide (on x = V.non) = true then A else B := by
  cases x with
  | none => exact h1 rfl
  | some v => exact h2 v rfl
theorem iteNn {x : Option Nat} {A B : Prop} (h1 : ∀ v, x = some v → A) (h2 : x = none → B) : if (!decide (on x = V.non)) = true then A else B := by
  cases x with
  | none => exact h2 rfl
  | some v => exact h1 v rfl
theorem iteI {a b : Nat} {A B : Prop} (h1 : a = b → A) (h2 : ¬ a = b → B) : if decide (V.int (a : Int) = V.int (b : Int)) = true then A else B := by
  by_cases h : a = b
  · rw [if_pos (decide_eq_true (by rw [h]))]
    exact h1 h
  · rw [if_neg (by rw [decide_eq_false (fun z => h (by have := V.int.inj z; omega))]; decide)]
    exact h2 h
theorem scal_on (x y : Option Nat) : scal (on x) (on y) = true := by cases x <;> cases y <;> rfl
theorem max_nat (a b : Nat) : (if (b : Int) > (a : Int) then (b : Int) else (a : Int)) = ((max a b : Nat) : Int) := by
  split <;> omega
/-- a change of h's things alone: what is promised of each -/
def Done (c : Conf) (h : Addr) (A : LA) (H : Hp) (s' : HS) (Q : VK) : Prop := ∀ H', LawAt c H' h A s' → Keep (Fp h A) H H' → Q .non H'
@[irreducible] def spEnd : Sp := fun vs H Q _ => ∃ (c : Conf) (h a : Addr) (A : LA) (s : HS) (k : Nat) (o : OpS) (st : Str), vs = [.ref h, .ref a, .str st] ∧ LawAt c H h A s ∧ A.oas[k]? = some a ∧ s.ops[k]? = some o ∧ Done c h A H (endH s k o st) Q
@[irreducible] def spHold : Sp := fun vs H Q _ => ∃ (c : Conf) (h : Addr) (A : LA) (s : HS) (v : Nat), vs = [.ref h, .int (v : Int)] ∧ LawAt c H h A s ∧ Done c h A H (holdH c s v) Q
@[irreducible] def spNewer : Sp := fun vs H Q _ => ∃ (c : Conf) (h : Addr) (A : LA) (s : HS) (v : Nat), vs = [.ref h, .int (v : Int)] ∧ LawAt c H h A s ∧ Q (.bl (newerB s v)) H
@[irreducible] def spLets : Sp := fun vs H Q _ => ∃ (c : Conf) (h a : Addr) (A : LA) (s : HS) (k : Nat) (o : OpS) (v : Nat), vs = [.ref h, .ref a] ∧ LawAt c H h A s ∧ A.oas[k]? = some a ∧ s.ops[k]? = some o ∧ o.version = some v ∧ Q (.bl (letsB c s o v)) H
section
variable {c : Conf} {h a : Addr} {A : LA} {s : HS} {k : Nat} {o : OpS} {st : Str} {v : Nat} {H H' : Hp} {Q : VK} {E : XK}
theorem end_i (L : LawAt c H h A s) (e : A.oas[k]? = some a) (e' : s.ops[k]? = some o) (d : Done c h A H (endH s k o st) Q) : spEnd [.ref h, .ref a, .str st] H Q E := by
  unfold spEnd
  exact ⟨c, h, a, A, s, k, o, st, rfl, L, e, e', d⟩
theorem hold_i (L : LawAt c H h A s) (d : Done c h A H (holdH c s v) Q) : spHold [.ref h, .int (v : Int)] H Q E := by
  unfold spHold
  exact ⟨c, h, A, s, v, rfl, L, d⟩
theorem newer_i (L : LawAt c H h A s) (d : Q (.bl (newerB s v)) H) : spNewer [.ref h, .int (v : Int)] H Q E := by
  unfold spNewer
  exact ⟨c, h, A, s, v, rfl, L, d⟩
theorem lets_i (L : LawAt c H h A s) (e : A.oas[k]? = some a) (e' : s.ops[k]? = some o) (ev : o.version = some v) (d : Q (.bl (letsB c s o v)) H) : spLets [.ref h, .ref a] H Q E := by
  unfold spLets
  exact ⟨c, h, a, A, s, k, o, v, rfl, L, e, e', ev, d⟩
theorem fp_op (e : A.oas[k]? = some a) : Fp h A a := .inr (.inr (.inr (List.mem_of_getElem? e)))
theorem fp_h : Fp h A h := .inl rfl
theorem put_put (s : HS) (k : Nat) (o o' : OpS) : (s.put k o).put k o' = s.put k o' := by
  unfold HS.put
  simp [List.set_set]
theorem put_get {s : HS} {k : Nat} {o o' : OpS} (e : s.ops[k]? = some o) : (s.put k o').ops[k]? = some o' := List.getElem?_set_self (List.getElem?_eq_some_iff.mp e).1
theorem put_same {s : HS} {k : Nat} {o : OpS} (e : s.ops[k]? = some o) : s.put k o = s := by
  have : s.ops.set k o = s.ops := by
    apply List.ext_getElem?
    intro i
    by_cases hi : k = i
    · subst hi
      rw [List.getElem?_set_self (List.getElem?_eq_some_iff.mp e).1, e]
    · rw [List.getElem?_set_ne hi]
  unfold HS.put
  rw [this]
end
section
variable {P : Program} {w : World} {K : PySem.W.Frag} {mg : Str → Option Value} {base : Heap}
theorem ok_Lend (T : Txt K mg) : FnOk P w K mg base CX0 1 T.f_Lend T.fd_Lend ["h", "one", "stage"] spEnd := by
  refine T.F_Lend.ok sc_Lend (fun vs H Q E h => ?_) (fun cdv A outer s H vs Q E hr h => ?_)
  · unfold spEnd at h
    obtain ⟨c, h, a, A, s, k, o, st, rfl, _⟩ := h
    rfl
  · unfold spEnd at h
    obtain ⟨c, h, a, A, s, k, o, st, rfl, L, e, e', d⟩ := h
    have hu := hu_of hr
    refine ⟨_, (pss_cons (ps_asg (pe_tup (pa_cons (pv 2) (pa_cons (pe_callB call_len_seq (by rfl) T.n_len (by decide +kernel) (pa_cons (pe_dget hu (pv 0) pe_str (fun _ _ => rfl)) pa_nil)) pa_nil))) (pg_tup rfl (pgs_cons (pg_sub (pv 1) pe_str (set_dict hu)) (pgs_cons (pg_sub (pv 1) pe_str (set_dict hu)) pgs_nil))))
      (pss_one (ps_if (PW.pt (pw_and (pt_cmpR op_eq (pv 2) pe_str (nomark _)) (pw_and1 (pt_cmpR op_eq (pe_dget hu (pv 0) pe_str (fun _ _ => rfl)) (pe_dget hu (pv 1) pe_str (fun _ _ => rfl)) (nomark _))))) (pss_one (ps_dput hu (pv 0) pe_str pe_non rfl)) pss_nil))), ?_⟩
    refine ⟨_, rfl, _, rfl, _, _, rfl, dget (L.hd) rfl, _, _, rfl, .inl (SqL.of L.lp), (by show 2 ≤ sizeLine; decide), fun p np => ?_⟩
    have L1 := L.new (o := .tup [.str st, .int ((A.eas.map V.ref).length : Int)]) np
    have K1 := (Keep.refl (F := Fp h A) (H := H)).new (o := .tup [.str st, .int ((A.eas.map V.ref).length : Int)]) np
    have hT : (upd H p (.tup [.str st, .int ((A.eas.map V.ref).length : Int)])) p = some (.tup [.str st, .int ((A.eas.map V.ref).length : Int)]) := upd_same
    have eL : ((A.eas.map V.ref).length : Int) = (s.past.length : Int) := by rw [List.length_map, L.el]
    rw [eL] at L1 K1 hT ⊢
    generalize upd H p (.tup [.str st, .int (s.past.length : Int)]) = H1 at L1 K1 hT
    refine ⟨_, _, rfl, SqT.of hT, rfl, _, _, rfl, _, rfl, _, _, rfl, dput (kvs' := oK { o with stage := st }) (L1.og k a o e e') rfl, ?_⟩
    have L2 := L1.oput (o' := { o with stage := st }) e
    have g2 := put_get (o' := { o with stage := st }) e'
    refine ⟨_, _, rfl, _, rfl, _, _, rfl, dput (kvs' := oK { o with stage := st, over := some s.past.length }) (L2.og k a _ e g2) rfl, rfl, ?_⟩
    have L3 := L2.oput (o' := { o with stage := st, over := some s.past.length }) e
    rw [put_put] at L3
    have g3 := put_get (o' := { o with stage := st, over := some s.past.length }) e'
    have K3 := (K1.put (o := .dK (oK { o with stage := st })) (fp_op e)).put (o := .dK (oK { o with stage := st, over := some s.past.length })) (fp_op e)
    generalize upd (upd H1 a _) a _ = H3 at L3 K3
    refine ⟨_, rfl, rfl, _, rfl, ?_⟩
    refine iteS (fun q => ?_) (fun q => ?_)
    · refine ⟨_, rfl, _, _, rfl, dget (L3.hd) rfl, _, rfl, _, _, rfl, dget (L3.og k a _ e g3) rfl, scal_on _ (some o.number), _, rfl, ?_⟩
      refine iteO (y := some o.number) (fun q2 => ?_) (fun q2 => ?_)
      · refine ⟨_, rfl, _, _, rfl, dput (kvs' := hK A.d A.w { s.put k { o with stage := st, over := some s.past.length } with opn := none } A.lo A.lp) L3.hd rfl, ?_⟩
        refine d _ ?_ (K3.put fp_h)
        have z : endH s k o st = { s.put k { o with stage := st, over := some s.past.length } with opn := none } := if_pos ⟨q, q2⟩
        rw [z]
        exact L3.hput rfl rfl
      · refine d _ ?_ K3
        have z : endH s k o st = s.put k { o with stage := st, over := some s.past.length } := if_neg fun y => q2 y.2
        rw [z]
        exact L3
    · refine d _ ?_ K3
      have z : endH s k o st = s.put k { o with stage := st, over := some s.past.length } := if_neg fun y => q y.1
      rw [z]
      exact L3
theorem ok_Lhold (T : Txt K mg) : FnOk P w K mg base CX0 1 T.f_Lhold T.fd_Lhold ["h", "version"] spHold := by
  refine T.F_Lhold.ok sc_Lhold (fun vs H Q E h => ?_) (fun cdv A outer s H vs Q E hr h => ?_)
  · unfold spHold at h
    obtain ⟨c, h, A, s, v, rfl, _⟩ := h
    rfl
  · unfold spHold at h
    obtain ⟨c, h, A, s, v, rfl, L, d⟩ := h
    have hu := hu_of hr
    refine ⟨_, (pss_cons (ps_dput hu (pv 0) pe_str (pv 1) rfl)
      (pss_one (ps_if (pt_cmpR op_eq (pe_ix ix_tup (pe_dget hu (pv 0) pe_str (fun _ _ => rfl)) pe_int (fun _ _ => rfl)) pe_str (nomark _)) (pss_one (ps_dput hu (pv 0) pe_str (pe_callB (call_max2 rfl) (by rfl) T.n_max (by decide +kernel) (pa_cons (pe_dget hu (pv 0) pe_str (fun _ _ => rfl)) (pa_cons (pv 1) pa_nil))) rfl)) pss_nil))), ?_⟩
    refine ⟨_, rfl, _, rfl, _, _, rfl, dput (kvs' := hK A.d A.w { s with cache := some v } A.lo A.lp) L.hd rfl, ?_⟩
    have L1 := L.hput (s' := { s with cache := some v }) rfl rfl
    have K1 := (Keep.refl (F := Fp h A) (H := H)).put (o := .dK (hK A.d A.w { s with cache := some v } A.lo A.lp)) (p := h) fp_h
    generalize upd H h _ = H1 at L1 K1
    refine ⟨_, rfl, _, _, rfl, dget (L1.hd) rfl, _, _, _, _, rfl, rfl, SqT.of (L1.dd), rfl, rfl, _, rfl, ?_⟩
    refine iteS (fun q => ?_) (fun q => ?_)
    · refine ⟨_, rfl, _, _, rfl, dget (L1.hd) rfl, _, rfl, _, _, rfl, _, rfl, _, _, rfl, dput (kvs' := hK A.d A.w { s with cache := some v, mark := max s.mark v } A.lo A.lp) L1.hd (by
        show putK _ _ (V.int (if (v : Int) > (s.mark : Int) then (v : Int) else (s.mark : Int))) = _
        rw [max_nat]
        rfl), ?_⟩
      refine d _ ?_ (K1.put fp_h)
      have z : holdH c s v = { s with cache := some v, mark := max s.mark v } := if_pos q
      rw [z]
      exact L1.hput rfl rfl
    · refine d _ ?_ K1
      have z : holdH c s v = { s with cache := some v } := if_neg q
      rw [z]
      exact L1
theorem ok_Lnewer (T : Txt K mg) : FnOk P w K mg base CX0 1 T.f_Lnewer T.fd_Lnewer ["h", "version"] spNewer := by
  refine T.F_Lnewer.ok sc_Lnewer (fun vs H Q E h => ?_) (fun cdv A outer s H vs Q E hr h => ?_)
  · unfold spNewer at h
    obtain ⟨c, h, A, s, v, rfl, _⟩ := h
    rfl
  · unfold spNewer at h
    obtain ⟨c, h, A, s, v, rfl, L, d⟩ := h
    have hu := hu_of hr
    refine ⟨_, (pss_one (ps_ret (pe_or (pe_cmpR op_isN (pe_dget hu (pv 0) pe_str (fun _ _ => rfl)) pe_non (nomark _)) (pe_one (pe_cmpR op_lt (pe_dget hu (pv 0) pe_str (fun _ _ => rfl)) (pv 1) (nomark _)))))), ?_⟩
    refine ⟨_, rfl, _, _, rfl, dget (L.hd) rfl, rfl, _, rfl, ?_⟩
    refine iteNo (fun q => ?_) (fun x q => ?_)
    · have z : newerB s v = true := by unfold newerB; rw [q]
      rw [z] at d
      exact d
    · have z : newerB s v = decide (x < v) := by unfold newerB; rw [q]
      rw [z] at d
      refine ⟨_, rfl, _, _, rfl, dget (L.hd) rfl, _, rfl, (x : Int), (v : Int), (by rw [q]; rfl), rfl, ?_⟩
      have e : decide ((x : Int) < (v : Int)) = decide (x < v) := by simp
      show Q (.bl (decide ((x : Int) < (v : Int)))) H
      rw [e]
      exact d
theorem ok_Llets (T : Txt K mg) : FnOk P w K mg base CX0 2 T.f_Llets T.fd_Llets ["h", "one"] spLets := by
  refine T.F_Llets.ok sc_Llets (fun vs H Q E h => ?_) (fun cdv A outer s H vs Q E hr h => ?_)
  · unfold spLets at h
    obtain ⟨c, h, a, A, s, k, o, v, rfl, _⟩ := h
    rfl
  · unfold spLets at h
    obtain ⟨c, h, a, A, s, k, o, v, rfl, L, e, e', ev, d⟩ := h
    have hu := hu_of hr
    refine ⟨_, (pss_cons (ps_par (i := 2) (j := 3) rfl sc_Llets.nd rfl rfl (by decide) rfl rfl (pa_cons (pe_ix ix_tup (pe_dget hu (pv 0) pe_str (fun _ _ => rfl)) pe_int (fun _ _ => rfl)) (pa_cons (pe_dget hu (pv 1) pe_str (fun _ _ => rfl)) pa_nil)) (by rfl))
      (pss_cons (ps_if (pt_cmpR op_eq (pv 2) pe_str (nomark _)) (pss_one (ps_ret (pe_dget hu (pv 1) pe_str (fun _ _ => rfl)))) pss_nil)
      (pss_cons (ps_if (pt_cmpR op_eq (pv 2) pe_str (nomark _)) (pss_one (ps_ret (pe_cmpR op_ge (pv 3) (pe_dget hu (pv 0) pe_str (fun _ _ => rfl)) (nomark _)))) pss_nil)
      (pss_one (ps_ret (pe_or (pe_cmpR op_eq (pv 2) pe_str (nomark _)) (pe_one (pe_ifExp (pt_cmpR op_eq (pv 2) pe_str (nomark _)) (pe_call (ok_Lnewer T) (hr.mono (by decide)) rfl T.m_Lnewer T.F_Lnewer.kp (b_Lnewer T) .nil pass0 (pa_cons (pv 0) (pa_cons (pv 3) pa_nil))) (pe_cmpR op_isN (pe_dget hu (pv 0) pe_str (fun _ _ => rfl)) pe_non (nomark _)))))))))), ?_⟩
    refine ⟨_, rfl, _, _, rfl, dget (L.hd) rfl, _, _, _, _, rfl, rfl, SqT.of (L.dd), rfl, _, rfl, _, _, rfl, dget (L.og k a o e e') rfl, _, _, rfl, ?_⟩
    have d1 := d
    have L1 := L
    unfold letsB at d1
    refine ⟨_, rfl, rfl, _, rfl, ?_⟩
    refine iteS (fun q => ?_) (fun q => ?_)
    · rw [if_pos q] at d1
      exact ⟨_, rfl, _, _, rfl, dget (L1.og k a o e e') rfl, d1⟩
    rw [if_neg q] at d1
    refine ⟨_, rfl, rfl, _, rfl, ?_⟩
    refine iteS (fun q2 => ?_) (fun q2 => ?_)
    · rw [if_pos q2] at d1
      refine ⟨_, rfl, _, rfl, _, _, rfl, dget (L1.hd) rfl, (v : Int), (s.mark : Int), (by rw [ev]; rfl), rfl, ?_⟩
      have z : decide ((s.mark : Int) ≤ (v : Int)) = decide (s.mark ≤ v) := by simp
      show Q (.bl (decide ((s.mark : Int) ≤ (v : Int)))) H
      rw [z]
      exact d1
    rw [if_neg q2] at d1
    refine ⟨_, rfl, rfl, _, rfl, ?_⟩
    refine iteS (fun q3 => ?_) (fun q3 => ?_)
    · rw [decide_eq_true q3, Bool.true_or] at d1
      exact d1
    rw [decide_eq_false q3, Bool.false_or] at d1
    refine ⟨_, rfl, rfl, _, rfl, ?_⟩
    refine iteS (fun q4 => ?_) (fun q4 => ?_)
    · rw [if_pos q4] at d1
      refine ⟨_, rfl, _, rfl, ?_⟩
      rw [ev]
      exact newer_i L1 d1
    · rw [if_neg q4] at d1
      refine ⟨_, rfl, _, _, rfl, dget (L1.hd) rfl, rfl, ?_⟩
      cases q5 : s.cache with
      | none =>
        rw [q5] at d1
        exact d1
      | some x =>
        rw [q5] at d1
        exact d1
end
end Ca

set_option Elab.async false
set_option linter.all false
set_option maxRecDepth 100000
set_option maxHeartbeats 4000000
namespace Ca
open PySem L2
/-! ### a step of a write, a step of a read -/
def cf (o : OpS) : OpS := { o with clean := false }
def wr1 (s : HS) (k : Nat) (o : OpS) (w : Str) : HS := if w = "store" then { s with db := s.db + 1, ops := s.ops.set k { o with version := some (s.db + 1) } } else { s with ops := s.ops.map cf }
def wo1 (s : HS) (o : OpS) (w : Str) : OpS := if w = "store" then { o with version := some (s.db + 1) } else cf o
def wr2 (c : Conf) (s : HS) (o : OpS) (w : Str) : HS := if w = "drop" then (if c.guard = "mark" ∧ o.version.isSome then { s with cache := none, mark := max s.mark (o.version.getD 0) } else { s with cache := none }) else s
def wr3 (c : Conf) (s : HS) (o : OpS) (w : Str) : HS := if w = "set" then (if setsB c s (o.version.getD 0) then holdH c s (o.version.getD 0) else s) else s
def wr4 (c : Conf) (s : HS) (k : Nat) (o : OpS) : HS :=
  if o.step + 1 = c.steps.length then endH (s.put k { o with step := o.step + 1 }) k { o with step := o.step + 1 } "ended"
  else s.put k { o with step := o.step + 1, stage := c.steps.getD (o.step + 1) "" }
def writeH (c : Conf) (s : HS) (k : Nat) (o : OpS) (w : Str) : HS := wr4 c (wr3 c (wr2 c (wr1 s k o w) (wo1 s o w) w) (wo1 s o w) w) k (wo1 s o w)
def leadV (s : HS) (o : OpS) : Option Nat := match o.leader with
  | some l => (match s.ops[l]? with
    | some q => q.version
    | none => none)
  | none => none
def readH (c : Conf) (s : HS) (k : Nat) (o : OpS) (w : Str) : HS :=
  if w = "look" ∧ s.cache.isSome then endH (s.put k { o with version := s.cache }) k { o with version := s.cache } "ended"
  else if w = "look" ∧ s.opn.isSome then s.put k { o with stage := "waits", leader := s.opn }
  else if w = "look" then { s.put k { o with stage := "fetch" } with opn := if c.flight = "shared" then some o.number else none }
  else if w = "fetch" then (if c.guard = "never" then endH (s.put k { o with version := some (if c.source = "replica" then s.rep else s.db), stage := "fill" }) k { o with version := some (if c.source = "replica" then s.rep else s.db), stage := "fill" } "ended"
    else s.put k { o with version := some (if c.source = "replica" then s.rep else s.db), stage := "fill" })
  else if w = "take" then endH (s.put k { o with version := leadV s o }) k { o with version := leadV s o } "ended"
  else endH (if letsB c s o (o.version.getD 0) then holdH c s (o.version.getD 0) else s) k o "ended"
theorem hold_ops {c : Conf} {s : HS} {v : Nat} : (holdH c s v).ops = s.ops := by
  unfold holdH
  split <;> rfl
theorem Conf.Ok.plen {c : Conf} (O : c.Ok) : c.path.length + 2 ≤ sizeLine := by
  have := O.p
  simp only [pathsL, List.mem_cons, List.not_mem_nil, or_false] at this
  rcases this with e | e | e | e | e <;> rw [e] <;> decide +kernel
theorem Conf.Ok.slen {c : Conf} (O : c.Ok) : 0 < c.steps.length ∧ c.steps.length ≤ 3 := by
  have := O.p
  simp only [pathsL, List.mem_cons, List.not_mem_nil, or_false] at this
  unfold Conf.steps
  rcases this with e | e | e | e | e <;> rw [e] <;> decide +kernel
theorem cl_step {l : List OpS} {i : Nat} {o : OpS} (e : l[i]? = some o) : ((l.take i).map cf ++ l.drop i).set i (cf o) = (l.take (i + 1)).map cf ++ l.drop (i + 1) := by
  have hlt := (List.getElem?_eq_some_iff.mp e).1
  have h1 : ((l.take i).map cf).length = i := by rw [List.length_map, List.length_take]; omega
  have h2 : l.drop i = o :: l.drop (i + 1) := by
    rw [List.drop_eq_getElem_cons hlt]
    have := (List.getElem?_eq_some_iff.mp e).2
    rw [this]
  have h3 : l.take (i + 1) = l.take i ++ [o] := by
    rw [List.take_succ, e]
    rfl
  rw [List.set_append_right _ _ (by omega), h1, Nat.sub_self, h2, List.set_cons_zero, h3, List.map_append, List.append_assoc]
  rfl
theorem cl_get {l : List OpS} {i : Nat} : ((l.take i).map cf ++ l.drop i)[i]? = l[i]? := by
  by_cases hlt : i < l.length
  · have h1 : ((l.take i).map cf).length = i := by rw [List.length_map, List.length_take]; omega
    rw [List.getElem?_append_right (by omega), h1, Nat.sub_self, List.getElem?_drop]
    rfl
  · rw [List.getElem?_eq_none (l := l) (by omega), List.getElem?_eq_none]
    rw [List.length_append, List.length_map, List.length_take, List.length_drop]
    omega
@[irreducible] def spWrite : Sp := fun vs H Q _ => ∃ (c : Conf) (h a : Addr) (A : LA) (s : HS) (k : Nat) (o : OpS) (w : Str), vs = [.ref h, .ref a, .str w] ∧ c.Ok ∧ LawAt c H h A s ∧ A.oas[k]? = some a ∧ s.ops[k]? = some o ∧ o.step < c.steps.length ∧ (w = "set" → o.version.isSome = true) ∧ Done c h A H (writeH c s k o w) Q
@[irreducible] def spRead : Sp := fun vs H Q _ => ∃ (c : Conf) (h a : Addr) (A : LA) (s : HS) (k : Nat) (o : OpS) (w : Str), vs = [.ref h, .ref a, .str w] ∧ c.Ok ∧ LawAt c H h A s ∧ A.oas[k]? = some a ∧ s.ops[k]? = some o ∧
  (w = "take" → ∃ l q, o.leader = some l ∧ s.ops[l]? = some q) ∧ (w = "look" ∨ w = "fetch" ∨ w = "take" ∨ o.version.isSome = true) ∧ Done c h A H (readH c s k o w) Q
section
variable {c : Conf} {h a : Addr} {A : LA} {s : HS} {k : Nat} {o : OpS} {w : Str} {H H' : Hp} {Q : VK} {E : XK}
theorem write_i (O : c.Ok) (L : LawAt c H h A s) (e : A.oas[k]? = some a) (e' : s.ops[k]? = some o) (h1 : o.step < c.steps.length) (h2 : w = "set" → o.version.isSome = true) (d : Done c h A H (writeH c s k o w) Q) : spWrite [.ref h, .ref a, .str w] H Q E := by
  unfold spWrite
  exact ⟨c, h, a, A, s, k, o, w, rfl, O, L, e, e', h1, h2, d⟩
theorem read_i (O : c.Ok) (L : LawAt c H h A s) (e : A.oas[k]? = some a) (e' : s.ops[k]? = some o) (h1 : w = "take" → ∃ l q, o.leader = some l ∧ s.ops[l]? = some q) (h2 : w = "look" ∨ w = "fetch" ∨ w = "take" ∨ o.version.isSome = true)
    (d : Done c h A H (readH c s k o w) Q) : spRead [.ref h, .ref a, .str w] H Q E := by
  unfold spRead
  exact ⟨c, h, a, A, s, k, o, w, rfl, O, L, e, e', h1, h2, d⟩
theorem offF {F : Addr → Prop} {H : Hp} {p x : Addr} {o u : HO} (n : ¬ F p) (f : F x) (h : H p = some u) : upd H x o p = some u := by
  rw [upd_ne (fun z => n (by rw [z]; exact f))]
  exact h
theorem LawAt.nfp (L : LawAt c H h A s) {p : Addr} (n : H p = none) : ¬ Fp h A p := by
  rintro (z | z | z | z)
  · rw [z, L.hd] at n; cases n
  · rw [z, L.lo] at n; cases n
  · rw [z, L.lp] at n; cases n
  · obtain ⟨k, hk, e⟩ := List.getElem_of_mem z
    obtain ⟨o, _, q⟩ := L.ofAt (k := k) (a := p) (by rw [List.getElem?_eq_getElem hk, e])
    rw [q] at n; cases n
end
section
variable {P : Program} {w : World} {K : PySem.W.Frag} {mg : Str → Option Value} {base : Heap}
theorem ok_Lwrite (T : Txt K mg) : FnOk P w K mg base CX0 2 T.f_Lwrite T.fd_Lwrite ["h", "one", "word"] spWrite := by
  refine T.F_Lwrite.ok sc_Lwrite (fun vs H Q E h => ?_) (fun cdv A outer s H vs Q E hr h => ?_)
  · unfold spWrite at h
    obtain ⟨c, h, a, A, s, k, o, w, rfl, _⟩ := h
    rfl
  · unfold spWrite at h
    obtain ⟨c, h, a, A, s, k, o, w, rfl, O, L, e, e', hst, hv, d⟩ := h
    have hu := hu_of hr
    refine ⟨_, (pss_cons (ps_par (i := 3) (j := 4) rfl sc_Lwrite.nd rfl rfl (by decide) rfl rfl (pa_cons (pe_split (pe_ix ix_tup (pe_dget hu (pv 0) pe_str (fun _ _ => rfl)) pe_int (fun _ _ => rfl)) pe_str) (pa_cons (pe_ix ix_tup (pe_dget hu (pv 0) pe_str (fun _ _ => rfl)) pe_int (fun _ _ => rfl)) pa_nil)) (by rfl))
      (Evl.pss_cut (ps_if (pt_cmpR op_eq (pv 2) pe_str (nomark _)) (pss_cons (ps_dput hu (pv 0) pe_str (pe_op op_add (pe_dget hu (pv 0) pe_str (fun _ _ => rfl)) pe_int) rfl)
      (pss_one (ps_dput hu (pv 1) pe_str (pe_dget hu (pv 0) pe_str (fun _ _ => rfl)) rfl))) (pss_one (ps_for PassesOwn.never rfl (pi_list (pe_dget hu (pv 0) pe_str (fun _ _ => rfl))) (pg_name (i := 5) sc_Lwrite.nd rfl (Or.inl rfl)) (pss_one (ps_dput hu (pv 5) pe_str pe_bl rfl)))))
      (Evl.pss_cut (ps_if (pt_cmpR op_eq (pv 2) pe_str (nomark _)) (pss_cons (ps_dput hu (pv 0) pe_str pe_non rfl)
      (pss_one (ps_if (PW.pt (pw_and (pt_cmpR op_eq (pv 4) pe_str (nomark _)) (pw_and1 (pt_cmpR op_notN (pe_dget hu (pv 1) pe_str (fun _ _ => rfl)) pe_non (nomark _))))) (pss_one (ps_dput hu (pv 0) pe_str (pe_callB (call_max2 rfl) (by rfl) T.n_max (by decide +kernel) (pa_cons (pe_dget hu (pv 0) pe_str (fun _ _ => rfl)) (pa_cons (pe_dget hu (pv 1) pe_str (fun _ _ => rfl)) pa_nil))) rfl)) pss_nil))) pss_nil)
      (Evl.pss_cut (ps_if (pt_cmpR op_eq (pv 2) pe_str (nomark _)) (Evl.pss_cut (ps_set (i := 6) sc_Lwrite.nd rfl (Or.inl rfl) (pe_ifExp (pt_cmpR op_eq (pv 4) pe_str (nomark _)) (pe_cmpR op_ge (pe_dget hu (pv 1) pe_str (fun _ _ => rfl)) (pe_dget hu (pv 0) pe_str (fun _ _ => rfl)) (nomark _)) (pe_or (pe_cmpR op_ne (pv 4) pe_str (nomark _)) (pe_one (pe_call (ok_Lnewer T) (hr.mono (by decide)) rfl T.m_Lnewer T.F_Lnewer.kp (b_Lnewer T) .nil pass0 (pa_cons (pv 0) (pa_cons (pe_dget hu (pv 1) pe_str (fun _ _ => rfl)) pa_nil)))))))
      (pss_one (ps_if (pt_val (pv 6)) (pss_one (ps_expr (pe_call (ok_Lhold T) (hr.mono (by decide)) rfl T.m_Lhold T.F_Lhold.kp (b_Lhold T) .nil pass0 (pa_cons (pv 0) (pa_cons (pe_dget hu (pv 1) pe_str (fun _ _ => rfl)) pa_nil))))) pss_nil))) pss_nil)
      (pss_cons (ps_dput hu (pv 1) pe_str (pe_op op_add (pe_dget hu (pv 1) pe_str (fun _ _ => rfl)) pe_int) rfl)
      (pss_one (ps_if (pt_cmpR op_eq (pe_dget hu (pv 1) pe_str (fun _ _ => rfl)) (pe_callB call_len_seq (by rfl) T.n_len (by decide +kernel) (pa_cons (pv 3) pa_nil)) (nomark _)) (pss_one (ps_expr (pe_call (ok_Lend T) (hr.mono (by decide)) rfl T.m_Lend T.F_Lend.kp (b_Lend T) .nil pass0 (pa_cons (pv 0) (pa_cons (pv 1) (pa_cons pe_str pa_nil)))))) (pss_one (ps_dput hu (pv 1) pe_str (pe_ix ix_list (pv 3) (pe_dget hu (pv 1) pe_str (fun _ _ => rfl)) (fun _ _ => rfl)) rfl))))))))), ?_⟩
    refine ⟨_, rfl, _, _, rfl, dget (L.hd) rfl, _, _, _, _, rfl, rfl, SqT.of (L.dd), rfl, ⟨_, rfl⟩, _, _, rfl, rfl, rfl, O.plen, fun p np => ?_⟩
    have L1 := L.new (o := .lst ((Txt.split c.path " ").map V.str)) np
    have K1 := (Keep.refl (F := Fp h A) (H := H)).new (o := .lst ((Txt.split c.path " ").map V.str)) np
    have hp : (upd H p (.lst ((Txt.split c.path " ").map V.str))) p = some (.lst (c.steps.map V.str)) := upd_same
    have fp := L.nfp np
    generalize upd H p (.lst ((Txt.split c.path " ").map V.str)) = H1 at L1 K1 hp ⊢
    refine ⟨_, rfl, _, _, rfl, dget (L1.hd) rfl, _, _, _, _, rfl, rfl, SqT.of (L1.dd), rfl, _, _, rfl, ?_⟩
    refine ⟨fun σ' H' => ∃ x, σ' = [some (.ref h), some (.ref a), some (.str w), some (.ref p), some (.str c.guard), x, none] ∧ LawAt c H' h A (wr1 s k o w) ∧ (wr1 s k o w).ops[k]? = some (wo1 s o w) ∧ Keep (Fp h A) H H' ∧ H' p = some (.lst (c.steps.map V.str)), ?_, ?_⟩
    · refine ⟨_, rfl, rfl, _, rfl, ?_⟩
      refine iteS (fun q => ?_) (fun q => ?_)
      · refine ⟨_, rfl, _, _, rfl, dget (L1.hd) rfl, _, _, rfl, rfl, _, rfl, _, _, rfl, dput (kvs' := hK A.d A.w { s with db := s.db + 1 } A.lo A.lp) L1.hd (by show putK _ _ (V.int ((s.db : Int) + 1)) = hK _ _ _ _ _; rfl), ?_⟩
        have L2 := L1.hput (s' := { s with db := s.db + 1 }) rfl rfl
        have K2 := K1.put (o := .dK (hK A.d A.w { s with db := s.db + 1 } A.lo A.lp)) (fp_h (A := A))
        have hp2 : upd H1 h (.dK (hK A.d A.w { s with db := s.db + 1 } A.lo A.lp)) p = some (.lst (c.steps.map V.str)) := offF fp (fp_h) hp
        generalize upd H1 h _ = H2 at L2 K2 hp2
        refine ⟨_, rfl, _, _, rfl, dget (L2.hd) rfl, _, rfl, _, _, rfl, dput (kvs' := oK { o with version := some (s.db + 1) }) (L2.og k a o e e') rfl, ?_⟩
        have z1 : wr1 s k o w = { s with db := s.db + 1, ops := s.ops.set k { o with version := some (s.db + 1) } } := if_pos q
        have z2 : wo1 s o w = { o with version := some (s.db + 1) } := if_pos q
        rw [z1, z2]
        exact ⟨none, rfl, L2.oput e, put_get e', K2.put (fp_op e), offF fp (fp_op e) hp2⟩
      · have z1 : wr1 s k o w = { s with ops := s.ops.map cf } := if_neg q
        have z2 : wo1 s o w = cf o := if_neg q
        rw [z1, z2]
        refine ⟨_, rfl, _, _, rfl, dget (L1.hd) rfl, A.lo, rfl, ⟨_, SqL.of L1.lo⟩, for_list (K := K) (a := A.lo) (xs := A.oas.map V.ref) (fun i σ' H' => ∃ x, σ' = [some (.ref h), some (.ref a), some (.str w), some (.ref p), some (.str c.guard), x, none] ∧ LawAt c H' h A { s with ops := (s.ops.take i).map cf ++ s.ops.drop i } ∧ Keep (Fp h A) H H' ∧ H' p = some (.lst (c.steps.map V.str)))
          ⟨none, rfl, L1, K1, hp⟩ (fun i σ' H' _ ⟨_, _, L2, _⟩ => SqL.of L2.lo) ?_ ?_⟩
        · rintro i y σ' H' hi ⟨x, rfl, L2, K2, hp2⟩
          rw [List.getElem?_map] at hi
          obtain ⟨b, eb, rfl⟩ : ∃ b, A.oas[i]? = some b ∧ V.ref b = y := by
            cases ez : A.oas[i]? with
            | none => rw [ez] at hi; cases hi
            | some b => rw [ez] at hi; exact ⟨b, rfl, Option.some.inj hi⟩
          obtain ⟨o2, eo2, ho2⟩ := L2.ofAt eb
          have eo2' : s.ops[i]? = some o2 := by
            rw [← cl_get (l := s.ops)]
            exact eo2
          refine ⟨_, rfl, _, _, rfl, dput (kvs' := oK (cf o2)) ho2 rfl, ?_⟩
          have L3 := L2.oput (o' := cf o2) eb
          have z3 : ({ s with ops := (s.ops.take i).map cf ++ s.ops.drop i } : HS).put i (cf o2) = { s with ops := (s.ops.take (i + 1)).map cf ++ s.ops.drop (i + 1) } := by
            unfold HS.put
            rw [cl_step eo2']
          rw [z3] at L3
          exact ⟨_, rfl, L3, K2.put (fp_op eb), offF fp (fp_op eb) hp2⟩
        · rintro σ' H' ⟨x, rfl, L2, K2, hp2⟩
          have z3 : (s.ops.take (A.oas.map V.ref).length).map cf ++ s.ops.drop (A.oas.map V.ref).length = s.ops.map cf := by
            rw [List.length_map, L.ol, List.take_length, List.drop_length, List.append_nil]
          rw [z3] at L2
          exact ⟨x, rfl, L2, by show (s.ops.map cf)[k]? = _; rw [List.getElem?_map, e']; rfl, K2, hp2⟩
    · rintro σ' H' ⟨x, rfl, L2, e2, K2, hp2⟩
      unfold writeH at d
      have hv1 : w = "set" → (wo1 s o w).version.isSome = true := fun q => by
        unfold wo1
        split
        · rfl
        · exact hv q
      have hs1 : (wo1 s o w).step = o.step := by
        unfold wo1
        split <;> rfl
      rw [← hs1] at hst
      generalize wr1 s k o w = s1 at L2 e2 d
      generalize wo1 s o w = o1 at e2 hv1 hst d
      refine ⟨fun σ' H' => ∃ x, σ' = [some (.ref h), some (.ref a), some (.str w), some (.ref p), some (.str c.guard), x, none] ∧ LawAt c H' h A (wr2 c s1 o1 w) ∧ (wr2 c s1 o1 w).ops[k]? = some o1 ∧ Keep (Fp h A) H H' ∧ H' p = some (.lst (c.steps.map V.str)), ?_, ?_⟩
      · refine ⟨_, rfl, rfl, _, rfl, ?_⟩
        unfold wr2
        refine iteS (fun q => ?_) (fun q => ?_)
        · rw [if_pos q]
          refine ⟨_, rfl, _, _, rfl, dput (kvs' := hK A.d A.w { s1 with cache := none } A.lo A.lp) L2.hd rfl, ?_⟩
          have L3 := L2.hput (s' := { s1 with cache := none }) rfl rfl
          have K3 := K2.put (o := .dK (hK A.d A.w { s1 with cache := none } A.lo A.lp)) (fp_h (A := A))
          have hp3 : upd H' h (.dK (hK A.d A.w { s1 with cache := none } A.lo A.lp)) p = some (.lst (c.steps.map V.str)) := offF fp (fp_h) hp2
          generalize upd H' h _ = H3 at L3 K3 hp3
          refine ⟨_, rfl, rfl, _, rfl, ?_⟩
          refine iteS (fun q2 => ?_) (fun q2 => ?_)
          · refine ⟨_, rfl, _, _, rfl, dget (L3.og k a o1 e e2) rfl, rfl, _, rfl, ?_⟩
            refine iteNn (fun v q3 => ?_) (fun q3 => ?_)
            · rw [if_pos ⟨q2, by rw [q3]; rfl⟩, q3]
              refine ⟨_, rfl, _, _, rfl, dget (L3.hd) rfl, _, rfl, _, _, rfl, dget (L3.og k a o1 e e2) rfl, (s1.mark : Int), (v : Int), (by rw [q3]; rfl), _, rfl, _, _, rfl, dput (kvs' := hK A.d A.w { s1 with cache := none, mark := max s1.mark v } A.lo A.lp) L3.hd (by
                show putK _ _ (V.int (if (v : Int) > (s1.mark : Int) then (v : Int) else (s1.mark : Int))) = _
                rw [max_nat]
                rfl), ?_⟩
              exact ⟨x, rfl, L3.hput rfl rfl, e2, K3.put fp_h, offF fp (fp_h) hp3⟩
            · rw [if_neg (fun z => by rw [q3] at z; exact absurd z.2 (by decide))]
              exact ⟨x, rfl, L3, e2, K3, hp3⟩
          · rw [if_neg (fun z => q2 z.1)]
            exact ⟨x, rfl, L3, e2, K3, hp3⟩
        · rw [if_neg q]
          exact ⟨x, rfl, L2, e2, K2, hp2⟩
      · rintro σ' H' ⟨x, rfl, L2, e2, K2, hp2⟩
        generalize wr2 c s1 o1 w = s2 at L2 e2 d
        refine ⟨fun σ' H' => ∃ x y, σ' = [some (.ref h), some (.ref a), some (.str w), some (.ref p), some (.str c.guard), x, y] ∧ LawAt c H' h A (wr3 c s2 o1 w) ∧ (wr3 c s2 o1 w).ops[k]? = some o1 ∧ Keep (Fp h A) H H' ∧ H' p = some (.lst (c.steps.map V.str)), ?_, ?_⟩
        · refine ⟨_, rfl, rfl, _, rfl, ?_⟩
          unfold wr3
          refine iteS (fun q => ?_) (fun q => ?_)
          · rw [if_pos q]
            obtain ⟨v, ev⟩ := Option.isSome_iff_exists.mp (hv1 q)
            rw [ev, Option.getD_some]
            refine ⟨fun σ2 H2 => σ2 = [some (.ref h), some (.ref a), some (.str w), some (.ref p), some (.str c.guard), x, some (.bl (setsB c s2 v))] ∧ H2 = H', ?_, ?_⟩
            · refine ⟨_, rfl, rfl, _, rfl, ?_⟩
              refine iteS (fun q2 => ?_) (fun q2 => ?_)
              · refine ⟨_, rfl, _, _, rfl, dget (L2.og k a o1 e e2) rfl, _, rfl, _, _, rfl, dget (L2.hd) rfl, (v : Int), (s2.mark : Int), (by rw [ev]; rfl), rfl, ?_⟩
                have z : setsB c s2 v = decide ((s2.mark : Int) ≤ (v : Int)) := by unfold setsB; rw [if_pos q2]; simp
                rw [z]
                exact ⟨rfl, rfl⟩
              · refine ⟨_, rfl, rfl, _, rfl, ?_⟩
                refine iteSn (fun q3 => ?_) (fun q3 => ?_)
                · have z : setsB c s2 v = true := by unfold setsB; rw [if_neg q2, decide_eq_false q3]; rfl
                  rw [z]
                  exact ⟨rfl, rfl⟩
                · have z : setsB c s2 v = newerB s2 v := by unfold setsB; rw [if_neg q2, decide_eq_true q3]; rfl
                  rw [z]
                  refine ⟨_, rfl, _, rfl, _, _, rfl, dget (L2.og k a o1 e e2) rfl, ?_⟩
                  rw [ev]
                  exact newer_i L2 ⟨rfl, rfl⟩
            · rintro σ2 H2 ⟨rfl, rfl⟩
              refine ⟨_, rfl, _, rfl, ?_⟩
              cases setsB c s2 v with
              | true =>
                refine iteT ?_
                refine ⟨_, rfl, _, rfl, _, _, rfl, dget (L2.og k a o1 e e2) rfl, ?_⟩
                rw [ev]
                refine hold_i L2 fun H3 L3 K3 => ?_
                exact ⟨x, _, rfl, L3, by show (holdH c s2 v).ops[k]? = _; rw [hold_ops]; exact e2, K2.trans K3, K3 p _ hp2 fp⟩
              | false =>
                refine iteF ?_
                exact ⟨x, _, rfl, L2, e2, K2, hp2⟩
          · rw [if_neg q]
            exact ⟨x, none, rfl, L2, e2, K2, hp2⟩
        · rintro σ' H' ⟨x, y, rfl, L2, e2, K2, hp2⟩
          generalize wr3 c s2 o1 w = s3 at L2 e2 d
          unfold wr4 at d
          refine ⟨_, rfl, _, _, rfl, dget (L2.og k a o1 e e2) rfl, _, _, rfl, rfl, _, rfl, _, _, rfl, dput (kvs' := oK { o1 with step := o1.step + 1 }) (L2.og k a o1 e e2) (by show putK _ _ (V.int ((o1.step : Int) + 1)) = oK _; rfl), ?_⟩
          have L3 := L2.oput (o' := { o1 with step := o1.step + 1 }) e
          have e3 := put_get (o' := { o1 with step := o1.step + 1 }) e2
          have K3 := K2.put (o := .dK (oK { o1 with step := o1.step + 1 })) (fp_op e)
          have hp3 : upd H' a (.dK (oK { o1 with step := o1.step + 1 })) p = some (.lst (c.steps.map V.str)) := offF fp (fp_op e) hp2
          generalize upd H' a _ = H3 at L3 K3 hp3
          refine ⟨_, rfl, _, _, rfl, dget (L3.og k a _ e e3) rfl, _, rfl, _, _, rfl, .inl (SqL.of hp3), rfl, _, rfl, ?_⟩
          rw [List.length_map]
          refine iteI (a := o1.step + 1) (fun q => ?_) (fun q => ?_)
          · rw [if_pos q] at d
            refine ⟨_, rfl, _, rfl, ?_⟩
            exact end_i L3 e e3 fun H4 L4 K4 => d H4 L4 (K3.trans K4)
          · rw [if_neg q] at d
            have hlt : o1.step + 1 < c.steps.length := by omega
            have hget : (c.steps.map V.str)[o1.step + 1]? = some (.str (c.steps.getD (o1.step + 1) "")) := by
              rw [List.getElem?_map, List.getD_eq_getElem?_getD, List.getElem?_eq_getElem hlt]
              rfl
            refine ⟨_, rfl, _, rfl, _, _, rfl, dget (L3.og k a _ e e3) rfl, p, _, _, _, rfl, rfl, SqL.of hp3, at_of (j := o1.step + 1) rfl hget, _, rfl, _, _, rfl, dput (kvs' := oK { o1 with step := o1.step + 1, stage := c.steps.getD (o1.step + 1) "" }) (L3.og k a _ e e3) rfl, ?_⟩
            have L4 := L3.oput (o' := { o1 with step := o1.step + 1, stage := c.steps.getD (o1.step + 1) "" }) e
            rw [put_put] at L4
            exact d _ L4 (K3.put (fp_op e))
end
end Ca

set_option Elab.async false
set_option linter.all false
set_option maxRecDepth 100000
set_option maxHeartbeats 4000000
namespace Ca
open PySem L2
/-! ### events as data, their tuples compared -/
def evD' (e : Ev) : PyData := .tuple (match e.2 with
  | none => [.str e.1]
  | some k => [.str e.1, .int k])
theorem beq_eq_decide (a b : Str) : (a == b) = decide (a = b) := by
  by_cases h : a = b <;> simp [h]
theorem evD_eqv (e f : Ev) : PyData.eqv (evD' e) (evD' f) = decide (e = f) := by
  obtain ⟨w, k⟩ := e
  obtain ⟨v, j⟩ := f
  cases k <;> cases j <;> simp [evD', PyData.eqv, PyData.eqvAll, Prod.ext_iff]
  · exact beq_eq_decide w v
  · rename_i a b
    rw [beq_eq_decide w v]
    by_cases h : w = v <;> by_cases g : a = b <;> simp [h, g]
theorem evD_shaped {e : Ev} (h : PyData.strOk e.1 = true) : SeqAt.shaped (evD' e) = true := by
  obtain ⟨w, k⟩ := e
  have h : PyData.strOk w = true := h
  cases k <;> simp [evD', SeqAt.shaped, PyData.canLay0, PyData.canLayAll0, PyData.depth, PyData.depthAll, h]
theorem evD_dp {K : PySem.W.Frag} {H : Hp} {t : Addr} {e : Ev} (h : H t = some (.tup (evV e))) : Dp K H (.ref t) (evD' e) := by
  obtain ⟨w, k⟩ := e
  cases k with
  | none => exact .tup (SqT.of h) (.cons (.str _) .nil)
  | some k => exact .tup (SqT.of h) (.cons (.str _) (.cons (.int _) .nil))
theorem iteE {e f : Ev} {A B : Prop} (h1 : e = f → A) (h2 : ¬ e = f → B) : if PyData.eqv (evD' e) (evD' f) = true then A else B := by
  rw [evD_eqv]
  by_cases h : e = f
  · rw [if_pos (decide_eq_true h)]
    exact h1 h
  · rw [if_neg (by rw [decide_eq_false h]; decide)]
    exact h2 h
/-! ### one event -/
def evictE : Ev := (Str.ofString "evict", none)
def copyE : Ev := (Str.ofString "copy", none)
def newOp (s : HS) (w : Str) : OpS := ⟨s.ops.length, if w = "look" then "read" else "write", w, none, s.past.length, none, 0, true, none⟩
def preH (s : HS) (w : Str) (k : Nat) : HS := if k = s.ops.length then { s with ops := s.ops ++ [newOp s w] } else s
def doOp (c : Conf) (s : HS) (k : Nat) (o : OpS) (w : Str) : HS := if w = "stop" then endH s k o "stopped" else if o.kind = "write" then writeH c s k o w else readH c s k o w
def doE (c : Conf) (s : HS) (e : Ev) : HS :=
  if e = evictE then { s with cache := none, mark := 0 } else if e = copyE then { s with rep := s.rep + 1 }
  else match e.2 with
    | some n => (match (preH s e.1 n.toNat).ops[n.toNat]? with
      | some o => doOp c (preH s e.1 n.toNat) n.toNat o e.1
      | none => s)
    | none => s
def doH (c : Conf) (s : HS) (e : Ev) : HS := { doE c s e with past := s.past ++ [e] }
def OpOk (c : Conf) (s : HS) (o : OpS) (w : Str) : Prop := w = "stop" ∨ (o.kind = "write" ∧ o.step < c.steps.length ∧ (w = "set" → o.version.isSome = true)) ∨
  (¬ o.kind = "write" ∧ (w = "take" → ∃ l q, o.leader = some l ∧ s.ops[l]? = some q) ∧ (w = "look" ∨ w = "fetch" ∨ w = "take" ∨ o.version.isSome = true))
def EvOk (c : Conf) (s : HS) (e : Ev) : Prop := e = evictE ∨ e = copyE ∨ ∃ (k : Nat) (w : Str), e = (w, some (k : Int)) ∧ k ≤ s.ops.length ∧ ∀ o, (preH s w k).ops[k]? = some o → OpOk c (preH s w k) o w
theorem end_past {s : HS} {k : Nat} {o : OpS} {st : Str} : (endH s k o st).past = s.past := by
  simp only [endH]
  split <;> rfl
theorem hold_past {c : Conf} {s : HS} {v : Nat} : (holdH c s v).past = s.past := by unfold holdH; split <;> rfl
theorem write_past {c : Conf} {s : HS} {k : Nat} {o : OpS} {w : Str} : (writeH c s k o w).past = s.past := by
  have h1 : (wr1 s k o w).past = s.past := by unfold wr1; split <;> rfl
  have h2 : ∀ (s : HS) (o : OpS), (wr2 c s o w).past = s.past := fun s o => by
    unfold wr2
    split
    · split <;> rfl
    · rfl
  have h3 : ∀ (s : HS) (o : OpS), (wr3 c s o w).past = s.past := fun s o => by
    unfold wr3
    split
    · split
      · rw [hold_past]
      · rfl
    · rfl
  have h4 : ∀ (s : HS) (o : OpS), (wr4 c s k o).past = s.past := fun s o => by
    unfold wr4
    split
    · rw [end_past]
      rfl
    · rfl
  unfold writeH
  rw [h4, h3, h2, h1]
theorem read_past {c : Conf} {s : HS} {k : Nat} {o : OpS} {w : Str} : (readH c s k o w).past = s.past := by
  unfold readH
  split
  · rw [end_past]
    rfl
  split
  · rfl
  split
  · rfl
  split
  · split
    · rw [end_past]
      rfl
    · rfl
  split
  · rw [end_past]
    rfl
  · rw [end_past]
    split
    · exact hold_past
    · rfl
theorem doE_past {c : Conf} {s : HS} {e : Ev} : (doE c s e).past = s.past := by
  have h0 : ∀ w k, (preH s w k).past = s.past := fun w k => by unfold preH; split <;> rfl
  unfold doE
  split
  · rfl
  split
  · rfl
  split
  · split
    · unfold doOp
      split
      · rw [end_past, h0]
      split
      · rw [write_past, h0]
      · rw [read_past, h0]
    · rfl
  · rfl
/-- the event is done, noted, its operation maybe begun -/
@[irreducible] def spDo : Sp := fun vs H Q _ => ∃ (c : Conf) (h t : Addr) (A : LA) (s : HS) (e : Ev), vs = [.ref h, .ref t] ∧ c.Ok ∧ LawAt c H h A s ∧ H t = some (.tup (evV e)) ∧ PyData.strOk e.1 = true ∧ EvOk c s e ∧ s.ops.length ≤ 100 ∧ s.past.length ≤ 100 ∧
  ∀ H' A', LawAt c H' h A' (doH c s e) → A'.d = A.d → A'.w = A.w → A'.lo = A.lo → A'.lp = A.lp → ((∀ b, b ∈ A'.oas → b ∈ A.oas ∨ H b = none) ∧ A.oas <+: A'.oas) → Keep (Fp h A) H H' → Q .non H'
theorem do_i {c : Conf} {h t : Addr} {A : LA} {s : HS} {e : Ev} {H : Hp} {Q : VK} {E : XK} (O : c.Ok) (L : LawAt c H h A s) (ht : H t = some (.tup (evV e))) (ok : PyData.strOk e.1 = true) (k : EvOk c s e) (h1 : s.ops.length ≤ 100) (h2 : s.past.length ≤ 100)
    (d : ∀ H' A', LawAt c H' h A' (doH c s e) → A'.d = A.d → A'.w = A.w → A'.lo = A.lo → A'.lp = A.lp → ((∀ b, b ∈ A'.oas → b ∈ A.oas ∨ H b = none) ∧ A.oas <+: A'.oas) → Keep (Fp h A) H H' → Q .non H') : spDo [.ref h, .ref t] H Q E := by
  unfold spDo
  exact ⟨c, h, t, A, s, e, rfl, O, L, ht, ok, k, h1, h2, d⟩
section
variable {P : Program} {w : World} {K : PySem.W.Frag} {mg : Str → Option Value} {base : Heap}
theorem ok_Lread (T : Txt K mg) : FnOk P w K mg base CX0 3 T.f_Lread T.fd_Lread ["h", "one", "word"] spRead := by
  refine T.F_Lread.ok sc_Lread (fun vs H Q E h => ?_) (fun cdv A outer s H vs Q E hr h => ?_)
  · unfold spRead at h
    obtain ⟨c, h, a, A, s, k, o, w, rfl, _⟩ := h
    rfl
  · unfold spRead at h
    obtain ⟨c, h, a, A, s, k, o, w, rfl, O, L, e, e', hl, hv, d⟩ := h
    have hu := hu_of hr
    have Ho := L.og k a o e e'
    have endd : ∀ (H1 : Hp) (s1 : HS) (o1 : OpS) (st : Str), LawAt c H1 h A s1 → s1.ops[k]? = some o1 → Keep (Fp h A) H H1 → readH c s k o w = endH s1 k o1 st → ∀ (E : XK), spEnd [.ref h, .ref a, .str st] H1 (fun v H' => Q .non H') E := fun H1 s1 o1 st L1 e1 K1 z E => by
      refine end_i L1 e e1 fun H2 L2 K2 => d H2 ?_ (K1.trans K2)
      rw [z]
      exact L2
    refine ⟨_, (pss_one (ps_if (PW.pt (pw_and (pt_cmpR op_eq (pv 2) pe_str (nomark _)) (pw_and1 (pt_cmpR op_notN (pe_dget hu (pv 0) pe_str (fun _ _ => rfl)) pe_non (nomark _))))) (pss_cons (ps_dput hu (pv 1) pe_str (pe_dget hu (pv 0) pe_str (fun _ _ => rfl)) rfl)
      (pss_one (ps_expr (pe_call (ok_Lend T) (hr.mono (by decide)) rfl T.m_Lend T.F_Lend.kp (b_Lend T) .nil pass0 (pa_cons (pv 0) (pa_cons (pv 1) (pa_cons pe_str pa_nil))))))) (pss_one (ps_if (PW.pt (pw_and (pt_cmpR op_eq (pv 2) pe_str (nomark _)) (pw_and1 (pt_cmpR op_notN (pe_dget hu (pv 0) pe_str (fun _ _ => rfl)) pe_non (nomark _))))) (pss_one (ps_asg (pe_tup (pa_cons pe_str (pa_cons (pe_dget hu (pv 0) pe_str (fun _ _ => rfl)) pa_nil))) (pg_tup rfl (pgs_cons (pg_sub (pv 1) pe_str (set_dict hu)) (pgs_cons (pg_sub (pv 1) pe_str (set_dict hu)) pgs_nil))))) (pss_one (ps_if (pt_cmpR op_eq (pv 2) pe_str (nomark _)) (pss_cons (ps_dput hu (pv 1) pe_str pe_str rfl)
      (pss_one (ps_dput hu (pv 0) pe_str (pe_ifExp (pt_cmpR op_eq (pe_ix ix_tup (pe_dget hu (pv 0) pe_str (fun _ _ => rfl)) pe_int (fun _ _ => rfl)) pe_str (nomark _)) (pe_dget hu (pv 1) pe_str (fun _ _ => rfl)) pe_non) rfl))) (pss_one (ps_if (pt_cmpR op_eq (pv 2) pe_str (nomark _)) (Evl.pss_cut (ps_dput hu (pv 1) pe_str (pe_ifExp (pt_cmpR op_eq (pe_ix ix_tup (pe_dget hu (pv 0) pe_str (fun _ _ => rfl)) pe_int (fun _ _ => rfl)) pe_str (nomark _)) (pe_dget hu (pv 0) pe_str (fun _ _ => rfl)) (pe_dget hu (pv 0) pe_str (fun _ _ => rfl))) rfl)
      (pss_cons (ps_dput hu (pv 1) pe_str pe_str rfl)
      (pss_one (ps_if (pt_cmpR op_eq (pe_ix ix_tup (pe_dget hu (pv 0) pe_str (fun _ _ => rfl)) pe_int (fun _ _ => rfl)) pe_str (nomark _)) (pss_one (ps_expr (pe_call (ok_Lend T) (hr.mono (by decide)) rfl T.m_Lend T.F_Lend.kp (b_Lend T) .nil pass0 (pa_cons (pv 0) (pa_cons (pv 1) (pa_cons pe_str pa_nil)))))) pss_nil)))) (pss_one (ps_if (pt_cmpR op_eq (pv 2) pe_str (nomark _)) (pss_cons (ps_dput hu (pv 1) pe_str (pe_dget hu (pe_ix ix_list (pe_dget hu (pv 0) pe_str (fun _ _ => rfl)) (pe_dget hu (pv 1) pe_str (fun _ _ => rfl)) (fun _ _ => rfl)) pe_str (fun _ _ => rfl)) rfl)
      (pss_one (ps_expr (pe_call (ok_Lend T) (hr.mono (by decide)) rfl T.m_Lend T.F_Lend.kp (b_Lend T) .nil pass0 (pa_cons (pv 0) (pa_cons (pv 1) (pa_cons pe_str pa_nil))))))) (pss_cons (ps_if (pt_val (pe_call (ok_Llets T) (hr.mono (by decide)) rfl T.m_Llets T.F_Llets.kp (b_Llets T) .nil pass0 (pa_cons (pv 0) (pa_cons (pv 1) pa_nil)))) (pss_one (ps_expr (pe_call (ok_Lhold T) (hr.mono (by decide)) rfl T.m_Lhold T.F_Lhold.kp (b_Lhold T) .nil pass0 (pa_cons (pv 0) (pa_cons (pe_dget hu (pv 1) pe_str (fun _ _ => rfl)) pa_nil))))) pss_nil)
      (pss_one (ps_expr (pe_call (ok_Lend T) (hr.mono (by decide)) rfl T.m_Lend T.F_Lend.kp (b_Lend T) .nil pass0 (pa_cons (pv 0) (pa_cons (pv 1) (pa_cons pe_str pa_nil))))))))))))))))), ?_⟩
    have fetchD : ∀ H1, LawAt c H1 h A s → True := fun _ _ => trivial
    unfold readH at d endd
    refine ⟨_, rfl, rfl, _, rfl, ?_⟩
    refine iteS (fun q => ?_) (fun q => ?_)
    · -- look
      refine ⟨_, rfl, _, _, rfl, dget (L.hd) rfl, rfl, _, rfl, ?_⟩
      refine iteNn (fun v q2 => ?_) (fun q2 => ?_)
      · refine ⟨_, rfl, _, _, rfl, dget (L.hd) rfl, _, rfl, _, _, rfl, dput (kvs' := oK { o with version := s.cache }) Ho rfl, ?_⟩
        refine ⟨_, rfl, _, rfl, ?_⟩
        exact endd _ _ _ _ (L.oput e) (put_get e') (Keep.refl.put (fp_op e)) (if_pos ⟨q, by rw [q2]; rfl⟩) _
      · have z0 : ¬ (w = "look" ∧ s.cache.isSome = true) := fun z => by rw [q2] at z; exact absurd z.2 (by decide)
        rw [if_neg z0] at d
        refine ⟨_, rfl, rfl, _, rfl, ?_⟩
        refine iteS (fun _ => ?_) (fun n => (n q).elim)
        refine ⟨_, rfl, _, _, rfl, dget (L.hd) rfl, rfl, _, rfl, ?_⟩
        refine iteNn (fun v q3 => ?_) (fun q3 => ?_)
        · rw [if_pos ⟨q, by rw [q3]; rfl⟩] at d
          refine ⟨_, rfl, _, _, rfl, dget (L.hd) rfl, (by show 2 ≤ sizeLine; decide), fun p np => ?_⟩
          have L1 := L.new (o := .tup [.str "waits", on s.opn]) np
          have K1 := (Keep.refl (F := Fp h A) (H := H)).new (o := .tup [.str "waits", on s.opn]) np
          have hT : (upd H p (.tup [.str "waits", on s.opn])) p = some (.tup [.str "waits", on s.opn]) := upd_same
          generalize upd H p (.tup [.str "waits", on s.opn]) = H1 at L1 K1 hT
          refine ⟨_, _, rfl, SqT.of hT, rfl, _, _, rfl, _, rfl, _, _, rfl, dput (kvs' := oK { o with stage := "waits" }) (L1.og k a o e e') rfl, ?_⟩
          have L2 := L1.oput (o' := { o with stage := "waits" }) e
          refine ⟨_, _, rfl, _, rfl, _, _, rfl, dput (kvs' := oK { o with stage := "waits", leader := s.opn }) (L2.og k a _ e (put_get e')) rfl, rfl, ?_⟩
          have L3 := L2.oput (o' := { o with stage := "waits", leader := s.opn }) e
          rw [put_put] at L3
          exact d _ L3 ((K1.put (fp_op e)).put (fp_op e))
        · have z1 : ¬ (w = "look" ∧ s.opn.isSome = true) := fun z => by rw [q3] at z; exact absurd z.2 (by decide)
          rw [if_neg z1, if_pos q] at d
          refine ⟨_, rfl, rfl, _, rfl, ?_⟩
          refine iteS (fun _ => ?_) (fun n => (n q).elim)
          refine ⟨_, rfl, _, _, rfl, dput (kvs' := oK { o with stage := "fetch" }) Ho rfl, ?_⟩
          have L1 := L.oput (o' := { o with stage := "fetch" }) e
          have e1 := put_get (o' := { o with stage := "fetch" }) e'
          have K1 := (Keep.refl (F := Fp h A) (H := H)).put (o := .dK (oK { o with stage := "fetch" })) (fp_op e)
          generalize upd H a (.dK (oK { o with stage := "fetch" })) = H1 at L1 K1
          refine ⟨_, rfl, _, _, rfl, dget (L1.hd) rfl, _, _, _, _, rfl, rfl, SqT.of (L1.dd), rfl, rfl, _, rfl, ?_⟩
          refine iteS (fun q4 => ?_) (fun q4 => ?_)
          · rw [if_pos q4] at d
            refine ⟨_, rfl, _, _, rfl, dget (L1.og k a _ e e1) rfl, _, rfl, _, _, rfl, dput (kvs' := hK A.d A.w { s.put k { o with stage := "fetch" } with opn := some o.number } A.lo A.lp) L1.hd rfl, ?_⟩
            exact d _ (L1.hput rfl rfl) (K1.put fp_h)
          · rw [if_neg q4] at d
            refine ⟨_, rfl, _, _, rfl, dput (kvs' := hK A.d A.w { s.put k { o with stage := "fetch" } with opn := none } A.lo A.lp) L1.hd rfl, ?_⟩
            exact d _ (L1.hput rfl rfl) (K1.put fp_h)
    · have n1 : ∀ P : Prop, ¬ (w = "look" ∧ P) := fun P z => q z.1
      rw [if_neg (n1 _), if_neg (n1 _), if_neg q] at d
      refine ⟨_, rfl, rfl, _, rfl, ?_⟩
      refine iteS (fun n => (q n).elim) (fun _ => ?_)
      refine ⟨_, rfl, rfl, _, rfl, ?_⟩
      refine iteS (fun n => (q n).elim) (fun _ => ?_)
      refine ⟨_, rfl, rfl, _, rfl, ?_⟩
      refine iteS (fun q2 => ?_) (fun q2 => ?_)
      · -- fetch
        rw [if_pos q2] at d
        refine ⟨fun σ' H' => ∃ x y, σ' = [some (.ref h), some (.ref a), some (.str w)] ∧ x = { o with version := some (if c.source = "replica" then s.rep else s.db) } ∧ y = oK x ∧ H' = upd H a (.dK y), ?_, ?_⟩
        · refine ⟨_, rfl, _, _, rfl, dget (L.hd) rfl, _, _, _, _, rfl, rfl, SqT.of (L.ww), rfl, rfl, _, rfl, ?_⟩
          refine iteS (fun q3 => ?_) (fun q3 => ?_)
          · rw [if_pos q3]
            exact ⟨_, rfl, _, _, rfl, dget (L.hd) rfl, _, rfl, _, _, rfl, dput (kvs' := oK { o with version := some s.rep }) Ho rfl, _, _, rfl, rfl, rfl, rfl⟩
          · rw [if_neg q3]
            exact ⟨_, rfl, _, _, rfl, dget (L.hd) rfl, _, rfl, _, _, rfl, dput (kvs' := oK { o with version := some s.db }) Ho rfl, _, _, rfl, rfl, rfl, rfl⟩
        · rintro σ' H' ⟨x, y, rfl, rfl, rfl, rfl⟩
          generalize (if c.source = "replica" then s.rep else s.db) = v at d
          have L1 := L.oput (o' := { o with version := some v }) e
          have e1 := put_get (o' := { o with version := some v }) e'
          have K1 := (Keep.refl (F := Fp h A) (H := H)).put (o := .dK (oK { o with version := some v })) (fp_op e)
          generalize upd H a (.dK (oK { o with version := some v })) = H1 at L1 K1
          refine ⟨_, rfl, _, _, rfl, dput (kvs' := oK { o with version := some v, stage := "fill" }) (L1.og k a _ e e1) rfl, ?_⟩
          have L2 := L1.oput (o' := { o with version := some v, stage := "fill" }) e
          rw [put_put] at L2
          have e2 := put_get (o' := { o with version := some v, stage := "fill" }) e'
          have K2 := K1.put (o := .dK (oK { o with version := some v, stage := "fill" })) (fp_op e)
          generalize upd H1 a (.dK (oK { o with version := some v, stage := "fill" })) = H2 at L2 K2
          refine ⟨_, rfl, _, _, rfl, dget (L2.hd) rfl, _, _, _, _, rfl, rfl, SqT.of (L2.dd), rfl, rfl, _, rfl, ?_⟩
          refine iteS (fun q4 => ?_) (fun q4 => ?_)
          · rw [if_pos q4] at d
            refine ⟨_, rfl, _, rfl, ?_⟩
            exact end_i L2 e e2 fun H3 L3 K3 => d H3 L3 (K2.trans K3)
          · rw [if_neg q4] at d
            exact d _ L2 K2
      rw [if_neg q2] at d
      refine ⟨_, rfl, rfl, _, rfl, ?_⟩
      refine iteS (fun q3 => ?_) (fun q3 => ?_)
      · -- take
        rw [if_pos q3] at d
        obtain ⟨l, qo, el, eq⟩ := hl q3
        obtain ⟨b, eb, hb⟩ := L.get eq
        have z : leadV s o = qo.version := by unfold leadV; rw [el]; show (match s.ops[l]? with | some q => q.version | none => none) = _; rw [eq]
        rw [z] at d
        have hbr : (A.oas.map V.ref)[l]? = some (.ref b) := by rw [List.getElem?_map, eb]; rfl
        refine ⟨_, rfl, _, _, rfl, dget (L.hd) rfl, _, rfl, _, _, rfl, dget (Ho) rfl, _, _, (l : Int), _, rfl, (by rw [el]; rfl), SqL.of L.lo, at_of rfl hbr, _, _, rfl, dget (hb) rfl, _, rfl, _, _, rfl, dput (kvs' := oK { o with version := qo.version }) Ho rfl, ?_⟩
        have L1 := L.oput (o' := { o with version := qo.version }) e
        refine ⟨_, rfl, _, rfl, ?_⟩
        exact end_i L1 e (put_get e') fun H3 L3 K3 => d H3 L3 ((Keep.refl.put (fp_op e)).trans K3)
      · rw [if_neg q3] at d
        have hv : o.version.isSome = true := by
          rcases hv with z | z | z | z
          · exact (q z).elim
          · exact (q2 z).elim
          · exact (q3 z).elim
          · exact z
        obtain ⟨v, ev⟩ := Option.isSome_iff_exists.mp hv
        rw [ev, Option.getD_some] at d
        refine ⟨_, rfl, _, rfl, ?_⟩
        refine lets_i L e e' ev ⟨_, rfl, ?_⟩
        cases hb : letsB c s o v with
        | true =>
          rw [hb, if_pos rfl] at d
          refine iteT ?_
          refine ⟨_, rfl, _, rfl, _, _, rfl, dget (Ho) rfl, ?_⟩
          rw [ev]
          refine hold_i L fun H1 L1 K1 => ?_
          refine ⟨_, rfl, _, rfl, ?_⟩
          exact end_i L1 e (by rw [hold_ops]; exact e') fun H3 L3 K3 => d H3 L3 (K1.trans K3)
        | false =>
          rw [hb, if_neg (by decide)] at d
          refine iteF ?_
          refine ⟨_, rfl, _, rfl, ?_⟩
          exact end_i L e e' fun H3 L3 K3 => d H3 L3 K3
end
end Ca

set_option Elab.async false
set_option linter.all false
set_option maxRecDepth 100000
set_option maxHeartbeats 4000000
namespace Ca
open PySem L2
def oneK (s : HS) (k : Nat) (w : Str) (kd : Str) : List (Key × V) :=
  [(.inr "number", .int (k : Int)), (.inr "kind", .str kd), (.inr "stage", .str w), (.inr "version", .non), (.inr "begun", .int (s.past.length : Int)), (.inr "over", .non)]
def restK : List (Key × V) := [(.inr "step", .int 0), (.inr "clean", .bl true), (.inr "leader", .non)]
theorem one_all {s : HS} {w : Str} : mergeK [] (oneK s s.ops.length w (newOp s w).kind ++ restK) = oK (newOp s w) := by rfl
section
variable {P : Program} {w : World} {K : PySem.W.Frag} {mg : Str → Option Value} {base : Heap}
/-- the state in the middle of a do: the addresses but the operations' are as they were -/
structure Mid (c : Conf) (h : Addr) (A : LA) (H : Hp) (s : HS) (A' : LA) (H' : Hp) : Prop where
  L : LawAt c H' h A' s
  d : A'.d = A.d
  w : A'.w = A.w
  lo : A'.lo = A.lo
  lp : A'.lp = A.lp
  oa : (∀ b, b ∈ A'.oas → b ∈ A.oas ∨ H b = none) ∧ A.oas <+: A'.oas
  k : Keep (Fp h A) H H'
theorem ok_Ldo (T : Txt K mg) : FnOk P w K mg base CX0 4 T.f_Ldo T.fd_Ldo ["h", "event"] spDo := by
  refine T.F_Ldo.ok sc_Ldo (fun vs H Q E h => ?_) (fun cdv A outer s H vs Q E hr h => ?_)
  · unfold spDo at h
    obtain ⟨c, h, t, A, s, e, rfl, _⟩ := h
    rfl
  · unfold spDo at h
    obtain ⟨c, h, t, A, s, e, rfl, O, L, ht, ok, hk, l1, l2, d⟩ := h
    have hu := hu_of hr
    refine ⟨_, (Evl.pss_cut (ps_if (pt_cmpR (op_eqD hr.units) (pv 1) (pe_tup (pa_cons pe_str pa_nil)) (nomark _)) (pss_one (ps_asg (pe_tup (pa_cons pe_non (pa_cons pe_int pa_nil))) (pg_tup rfl (pgs_cons (pg_sub (pv 0) pe_str (set_dict hu)) (pgs_cons (pg_sub (pv 0) pe_str (set_dict hu)) pgs_nil))))) (pss_one (ps_if (pt_cmpR (op_eqD hr.units) (pv 1) (pe_tup (pa_cons pe_str pa_nil)) (nomark _)) (pss_one (ps_dput hu (pv 0) pe_str (pe_op op_add (pe_dget hu (pv 0) pe_str (fun _ _ => rfl)) pe_int) rfl)) (pss_cons (ps_asg (pv 1) (pg_tup rfl (pgs_cons (pg_name (i := 2) sc_Ldo.nd rfl (Or.inl rfl)) (pgs_cons (pg_name (i := 3) sc_Ldo.nd rfl (Or.inl rfl)) pgs_nil))))
      (Evl.pss_cut (ps_if (pt_cmpR op_eq (pv 3) (pe_callB call_len_seq (by rfl) T.n_len (by decide +kernel) (pa_cons (pe_dget hu (pv 0) pe_str (fun _ _ => rfl)) pa_nil)) (nomark _)) (Evl.pss_cut (ps_set (i := 4) sc_Ldo.nd rfl (Or.inl rfl) (pe_ifExp (pt_cmpR op_eq (pv 2) pe_str (nomark _)) pe_str pe_str))
      (pss_cons (ps_set (i := 5) sc_Ldo.nd rfl (Or.inl rfl) (pe_disp (pps_cons pe_str (pv 3) (pps_cons pe_str (pv 4) (pps_cons pe_str (pv 2) (pps_cons pe_str pe_non (pps_cons pe_str (pe_callB call_len_seq (by rfl) T.n_len (by decide +kernel) (pa_cons (pe_dget hu (pv 0) pe_str (fun _ _ => rfl)) pa_nil)) (pps_cons pe_str pe_non pps_nil)))))) rfl rfl (by simp) (by decide)))
      (pss_one (ps_expr (pe_bm PySem.F.plainAttrs_list PySem.F.slot_list_append PySem.F.type_list_append mt_append (pe_dget hu (pv 0) pe_str (fun _ _ => rfl)) (pa_cons (pe_callTy (call_dictP rfl) (by rfl) T.n_dict (by decide +kernel) (pa_cons (pe_op op_cat (LiI.pe_listItems rfl (pv 5) (by rfl) T.n_list (by decide +kernel)) (pe_lst (pa_cons (pe_tup (pa_cons pe_str (pa_cons pe_int pa_nil))) (pa_cons (pe_tup (pa_cons pe_str (pa_cons pe_bl pa_nil))) (pa_cons (pe_tup (pa_cons pe_str (pa_cons pe_non pa_nil))) pa_nil))))) pa_nil)) pa_nil)))))) pss_nil)
      (pss_cons (ps_set (i := 5) sc_Ldo.nd rfl (Or.inl rfl) (pe_ix ix_list (pe_dget hu (pv 0) pe_str (fun _ _ => rfl)) (pv 3) (fun _ _ => rfl)))
      (pss_one (ps_if (pt_cmpR op_eq (pv 2) pe_str (nomark _)) (pss_one (ps_expr (pe_call (ok_Lend T) (hr.mono (by decide)) rfl T.m_Lend T.F_Lend.kp (b_Lend T) .nil pass0 (pa_cons (pv 0) (pa_cons (pv 5) (pa_cons pe_str pa_nil)))))) (pss_one (ps_if (pt_cmpR op_eq (pe_dget hu (pv 5) pe_str (fun _ _ => rfl)) pe_str (nomark _)) (pss_one (ps_expr (pe_call (ok_Lwrite T) (hr.mono (by decide)) rfl T.m_Lwrite T.F_Lwrite.kp (b_Lwrite T) .nil pass0 (pa_cons (pv 0) (pa_cons (pv 5) (pa_cons (pv 2) pa_nil)))))) (pss_one (ps_expr (pe_call (ok_Lread T) (hr.mono (by decide)) rfl T.m_Lread T.F_Lread.kp (b_Lread T) .nil pass0 (pa_cons (pv 0) (pa_cons (pv 5) (pa_cons (pv 2) pa_nil))))))))))))))))
      (pss_one (ps_expr (pe_bm PySem.F.plainAttrs_list PySem.F.slot_list_append PySem.F.type_list_append mt_append (pe_dget hu (pv 0) pe_str (fun _ _ => rfl)) (pa_cons (pv 1) pa_nil))))), ?_⟩
    refine ⟨fun σ' H' => ∃ x2 x3 x4 x5 A', σ' = [some (.ref h), some (.ref t), x2, x3, x4, x5] ∧ Mid c h A H (doE c s e) A' H', ?_, ?_⟩
    · refine ⟨_, rfl, (by show 1 ≤ sizeLine; decide), fun p np => ?_⟩
      have L1 := L.new (o := .tup [.str "evict"]) np
      have K1 := (Keep.refl (F := Fp h A) (H := H)).new (o := .tup [.str "evict"]) np
      have hp : (upd H p (.tup [.str "evict"])) p = some (.tup (evV evictE)) := upd_same
      have ht1 := same_new (o := .tup [.str "evict"]) np _ _ ht
      generalize upd H p (.tup [.str "evict"]) = H1 at L1 K1 hp ht1
      refine ⟨_, _, evD_dp ht1, evD_dp hp, evD_shaped ok, evD_shaped (by decide +kernel), _, rfl, ?_⟩
      unfold doE
      refine iteE (fun q => ?_) (fun q => ?_)
      · rw [if_pos q]
        refine ⟨(by show 2 ≤ sizeLine; decide), fun p2 np2 => ?_⟩
        have L2 := L1.new (o := .tup [.non, .int 0]) np2
        have K2 := K1.new (o := .tup [.non, .int 0]) np2
        have hp2 : (upd H1 p2 (.tup [.non, .int 0])) p2 = some (.tup [.non, .int 0]) := upd_same
        generalize upd H1 p2 (.tup [.non, .int 0]) = H2 at L2 K2 hp2
        refine ⟨_, _, rfl, SqT.of hp2, rfl, _, _, rfl, _, rfl, _, _, rfl, dput (kvs' := hK A.d A.w { s with cache := none } A.lo A.lp) L2.hd rfl, ?_⟩
        have L3 := L2.hput (s' := { s with cache := none }) rfl rfl
        refine ⟨_, _, rfl, _, rfl, _, _, rfl, dput (kvs' := hK A.d A.w { s with cache := none, mark := 0 } A.lo A.lp) L3.hd rfl, rfl, ?_⟩
        exact ⟨_, _, _, _, A, rfl, L3.hput rfl rfl, rfl, rfl, rfl, rfl, ⟨fun b hb => .inl hb, List.prefix_refl _⟩, (K2.put fp_h).put fp_h⟩
      rw [if_neg q]
      refine ⟨_, rfl, (by show 1 ≤ sizeLine; decide), fun p2 np2 => ?_⟩
      have L2 := L1.new (o := .tup [.str "copy"]) np2
      have K2 := K1.new (o := .tup [.str "copy"]) np2
      have hp2 : (upd H1 p2 (.tup [.str "copy"])) p2 = some (.tup (evV copyE)) := upd_same
      have ht2 := same_new (o := .tup [.str "copy"]) np2 _ _ ht1
      generalize upd H1 p2 (.tup [.str "copy"]) = H2 at L2 K2 hp2 ht2
      refine ⟨_, _, evD_dp ht2, evD_dp hp2, evD_shaped ok, evD_shaped (by decide +kernel), _, rfl, ?_⟩
      refine iteE (fun q2 => ?_) (fun q2 => ?_)
      · rw [if_pos q2]
        refine ⟨_, rfl, _, _, rfl, dget (L2.hd) rfl, _, _, rfl, rfl, _, rfl, _, _, rfl, dput (kvs' := hK A.d A.w { s with rep := s.rep + 1 } A.lo A.lp) L2.hd (by show putK _ _ (V.int ((s.rep : Int) + 1)) = hK _ _ _ _ _; rfl), ?_⟩
        exact ⟨_, _, _, _, A, rfl, L2.hput rfl rfl, rfl, rfl, rfl, rfl, ⟨fun b hb => .inl hb, List.prefix_refl _⟩, K2.put fp_h⟩
      rw [if_neg q2]
      rcases hk with z | z | ⟨k, w, rfl, hle, hop⟩
      · exact (q z).elim
      · exact (q2 z).elim
      refine ⟨_, rfl, _, _, rfl, SqT.of ht2, rfl, _, _, rfl, _, _, rfl, rfl, ?_⟩
      show _
      have ek : (k : Int).toNat = k := Int.toNat_natCast k
      simp only [ek]
      refine ⟨fun σ' H' => ∃ x4 x5 A', σ' = [some (.ref h), some (.ref t), some (.str w), some (.int (k : Int)), x4, x5] ∧ Mid c h A H (preH s w k) A' H', ?_, ?_⟩
      · refine ⟨_, rfl, _, rfl, _, _, rfl, dget (L2.hd) rfl, _, _, rfl, .inl (SqL.of L2.lo), rfl, _, rfl, ?_⟩
        rw [List.length_map, L2.ol]
        unfold preH
        refine iteI (fun q3 => ?_) (fun q3 => ?_)
        · rw [if_pos q3]
          refine ⟨fun σ' H' => σ' = [some (.ref h), some (.ref t), some (.str w), some (.int (k : Int)), some (.str (newOp s w).kind), none] ∧ H' = H2, ?_, ?_⟩
          · refine ⟨_, rfl, rfl, _, rfl, ?_⟩
            refine iteS (fun q4 => ?_) (fun q4 => ?_)
            · have z : (newOp s w).kind = "read" := if_pos q4
              rw [z]
              exact ⟨rfl, rfl⟩
            · have z : (newOp s w).kind = "write" := if_neg q4
              rw [z]
              exact ⟨rfl, rfl⟩
          rintro σ' H' ⟨rfl, rfl⟩
          subst q3
          intro p3 np3
          have L3 := L2.new (o := .dK []) np3
          refine ⟨_, rfl, _, rfl, _, rfl, _, rfl, _, _, rfl, dget (L3.hd) rfl, _, _, rfl, .inl (SqL.of L3.lp), upd_same, oneK s s.ops.length w (newOp s w).kind, ?_, (by show 6 ≤ 15; decide), ?_⟩
          · rw [List.length_map, L3.el]
            rfl
          have e6 : mergeK [] (oneK s s.ops.length w (newOp s w).kind) = oneK s s.ops.length w (newOp s w).kind := by rfl
          rw [e6, upd_upd]
          have L4 := L2.new (o := .dK (oneK s s.ops.length w (newOp s w).kind)) np3
          have K4 := K2.new (o := .dK (oneK s s.ops.length w (newOp s w).kind)) np3
          have h4 : (upd H' p3 (.dK (oneK s s.ops.length w (newOp s w).kind))) p3 = some (.dK (oneK s s.ops.length w (newOp s w).kind)) := upd_same
          generalize upd H' p3 (.dK (oneK s s.ops.length w (newOp s w).kind)) = H4 at L4 K4 h4
          refine ⟨_, rfl, _, _, rfl, dget (L4.hd) rfl, .inl ⟨rfl, _, SqL.of L4.lo⟩, _, rfl, p3, _, rfl, h4, fun H5 l ts s5 nl nts nlt hl hts => ?_⟩
          have L5 := L4.same s5
          have K5 : Keep (Fp h A) H H5 := K4.trans fun b o e _ => s5 b o e
          refine ⟨(by show 2 ≤ sizeLine; decide), fun t1 n1 => ⟨(by show 2 ≤ sizeLine; decide), fun t2 n2 => ⟨(by show 2 ≤ sizeLine; decide), fun t3 n3 => ⟨(by show 3 ≤ sizeLine; decide), fun l3 nl3 => ?_⟩⟩⟩⟩
          have g1 : Same H5 (upd (upd (upd (upd H5 t1 (.tup [.str "step", .int 0])) t2 (.tup [.str "clean", .bl true])) t3 (.tup [.str "leader", .non])) l3 (.lst [.ref t1, .ref t2, .ref t3])) := sN (sN (sN (same_new n1) n2) n3) nl3
          have f1 : (upd (upd (upd (upd H5 t1 (.tup [.str "step", .int 0])) t2 (.tup [.str "clean", .bl true])) t3 (.tup [.str "leader", .non])) l3 (.lst [.ref t1, .ref t2, .ref t3])) t1 = some (.tup [.str "step", .int 0]) :=
            sN (sN (sN (Same.refl _) n2) n3) nl3 _ _ upd_same
          have f2 : (upd (upd (upd (upd H5 t1 (.tup [.str "step", .int 0])) t2 (.tup [.str "clean", .bl true])) t3 (.tup [.str "leader", .non])) l3 (.lst [.ref t1, .ref t2, .ref t3])) t2 = some (.tup [.str "clean", .bl true]) :=
            sN (sN (Same.refl _) n3) nl3 _ _ upd_same
          have f3 : (upd (upd (upd (upd H5 t1 (.tup [.str "step", .int 0])) t2 (.tup [.str "clean", .bl true])) t3 (.tup [.str "leader", .non])) l3 (.lst [.ref t1, .ref t2, .ref t3])) t3 = some (.tup [.str "leader", .non]) :=
            sN (Same.refl _) nl3 _ _ upd_same
          have f4 : (upd (upd (upd (upd H5 t1 (.tup [.str "step", .int 0])) t2 (.tup [.str "clean", .bl true])) t3 (.tup [.str "leader", .non])) l3 (.lst [.ref t1, .ref t2, .ref t3])) l3 = some (.lst [.ref t1, .ref t2, .ref t3]) := upd_same
          generalize upd (upd (upd (upd H5 t1 (.tup [.str "step", .int 0])) t2 (.tup [.str "clean", .bl true])) t3 (.tup [.str "leader", .non])) l3 (.lst [.ref t1, .ref t2, .ref t3]) = H6 at g1 f1 f2 f3 f4 ⊢
          have L6 := L5.same g1
          have K6 : Keep (Fp h A) H H6 := K5.trans fun b o e _ => g1 b o e
          have tl : ts.length = 6 := hts.length
          refine ⟨_, _, _, _, rfl, rfl, g1 _ _ hl, f4, (by rw [List.length_map, tl]; show 9 ≤ sizeLine; decide), fun l7 n7 => ?_⟩
          have L7 := L6.new (o := .lst (ts.map V.ref ++ [.ref t1, .ref t2, .ref t3])) n7
          have K7 := K6.new (o := .lst (ts.map V.ref ++ [.ref t1, .ref t2, .ref t3])) n7
          have s67 := same_new (o := .lst (ts.map V.ref ++ [.ref t1, .ref t2, .ref t3])) n7
          have h7 : (upd H6 l7 (.lst (ts.map V.ref ++ [.ref t1, .ref t2, .ref t3]))) l7 = some (.lst ((ts ++ [t1, t2, t3]).map V.ref)) := by
            rw [upd_same, List.map_append]
            rfl
          generalize upd H6 l7 (.lst (ts.map V.ref ++ [.ref t1, .ref t2, .ref t3])) = H7 at L7 K7 s67 h7
          refine ⟨l7, ts ++ [t1, t2, t3], oneK s s.ops.length w (newOp s w).kind ++ restK, rfl, SqL.of h7, ?_, fun p8 n8 => ?_⟩
          · refine Paired.app (Paired.mapP hts fun a b q => SqT.of (s67 _ _ (g1 _ _ q))) ?_
            exact .cons (SqT.of (s67 _ _ f1)) (.cons (SqT.of (s67 _ _ f2)) (.cons (SqT.of (s67 _ _ f3)) .nil))
          rw [one_all]
          have L8 := L7.new (o := .dK (oK (newOp s w))) n8
          have K8 := K7.new (o := .dK (oK (newOp s w))) n8
          have h8 : (upd H7 p8 (.dK (oK (newOp s w)))) p8 = some (.dK (oK (newOp s w))) := upd_same
          have nf8 : ¬ Fp h A p8 := L7.nfp n8
          have n8' : H p8 = none := K7.free n8 nf8
          generalize upd H7 p8 (.dK (oK (newOp s w))) = H8 at L8 K8 h8
          refine ⟨A.lo, _, _, rfl, rfl, L8.lo, (by rw [List.length_map, L8.ol]; exact small9 l1), ?_⟩
          refine ⟨_, _, _, rfl, L8.opush (fun z => nf8 (.inr (.inr (.inr z)))) h8, rfl, rfl, rfl, rfl, ⟨fun b hb => ?_, List.prefix_append _ _⟩, K8.put (.inr (.inl rfl))⟩
          rcases List.mem_append.mp hb with z | z
          · exact .inl z
          · rw [List.mem_singleton.mp z]
            exact .inr n8'
        · rw [if_neg q3]
          exact ⟨_, _, A, rfl, L2, rfl, rfl, rfl, rfl, ⟨fun b hb => .inl hb, List.prefix_refl _⟩, K2⟩
      · rintro σ' H' ⟨x4, x5, A', rfl, M⟩
        have hlt : k < (preH s w k).ops.length := by
          unfold preH
          split
          · rename_i z
            rw [z]
            simp
          · show k < s.ops.length
            omega
        obtain ⟨o, eo⟩ : ∃ o, (preH s w k).ops[k]? = some o := ⟨_, List.getElem?_eq_getElem hlt⟩
        obtain ⟨a, ea, ha⟩ := M.L.get eo
        have hop := hop o eo
        have har : (A'.oas.map V.ref)[k]? = some (.ref a) := by rw [List.getElem?_map, ea]; rfl
        refine ⟨_, rfl, _, _, rfl, dget (M.L.hd) rfl, _, rfl, A'.lo, _, (k : Int), _, rfl, rfl, SqL.of M.L.lo, at_of rfl har, ?_⟩
        simp only [eo]
        have fin : ∀ (s' : HS) (H'' : Hp), LawAt c H'' h A' s' → Keep (Fp h A') H' H'' → Mid c h A H s' A' H'' := fun s' H'' L' K' => by
          refine ⟨L', M.d, M.w, M.lo, M.lp, M.oa, fun b u eb nb => K' b u (M.k b u eb nb) fun z => ?_⟩
          rcases z with z | z | z | z
          · exact nb (.inl z)
          · exact nb (.inr (.inl (by rw [← M.lo]; exact z)))
          · exact nb (.inr (.inr (.inl (by rw [← M.lp]; exact z))))
          · rcases M.oa.1 b z with y | y
            · exact nb (.inr (.inr (.inr y)))
            · rw [y] at eb; cases eb
        unfold doOp
        refine ⟨_, rfl, rfl, _, rfl, ?_⟩
        refine iteS (fun q4 => ?_) (fun q4 => ?_)
        · rw [if_pos q4]
          refine ⟨_, rfl, _, rfl, ?_⟩
          exact end_i M.L ea eo fun H2 L2 K2 => ⟨_, _, _, _, A', rfl, fin _ _ L2 K2⟩
        · rw [if_neg q4]
          refine ⟨_, rfl, _, _, rfl, dget (ha) rfl, rfl, _, rfl, ?_⟩
          refine iteS (fun q5 => ?_) (fun q5 => ?_)
          · rw [if_pos q5]
            refine ⟨_, rfl, _, rfl, _, rfl, ?_⟩
            rcases hop with z | ⟨_, z1, z2⟩ | ⟨z, _⟩
            · exact (q4 z).elim
            · exact write_i O M.L ea eo z1 z2 fun H2 L2 K2 => ⟨_, _, _, _, A', rfl, fin _ _ L2 K2⟩
            · exact (z q5).elim
          · rw [if_neg q5]
            refine ⟨_, rfl, _, rfl, _, rfl, ?_⟩
            rcases hop with z | ⟨z, _⟩ | ⟨_, z1, z2⟩
            · exact (q4 z).elim
            · exact (q5 z).elim
            · exact read_i O M.L ea eo z1 z2 fun H2 L2 K2 => ⟨_, _, _, _, A', rfl, fin _ _ L2 K2⟩
    · rintro σ' H' ⟨x2, x3, x4, x5, A', rfl, M⟩
      refine ⟨_, rfl, _, _, rfl, dget (M.L.hd) rfl, .inl ⟨rfl, _, SqL.of M.L.lp⟩, _, rfl, A'.lp, _, _, rfl, rfl, M.L.lp, (by rw [List.length_map, M.L.el, doE_past]; exact small9 l2), ?_⟩
      have L5 := M.L.epush (M.k t _ ht (fun z => ?_))
      · have zE : ({ doE c s e with past := (doE c s e).past ++ [e] } : HS) = doH c s e := by unfold doH; rw [doE_past]
        rw [zE] at L5
        refine d _ { A' with eas := A'.eas ++ [t] } L5 M.d M.w M.lo M.lp M.oa (M.k.put ?_)
        right; right; left
        exact M.lp
      · rcases z with z | z | z | z
        · rw [z, L.hd] at ht; cases ht
        · rw [z, L.lo] at ht; cases ht
        · rw [z, L.lp] at ht; cases ht
        · obtain ⟨j, hj, ej⟩ := List.getElem_of_mem z
          obtain ⟨o, _, q⟩ := L.ofAt (k := j) (a := t) (by rw [List.getElem?_eq_getElem hj, ej])
          rw [q] at ht; cases ht
end
end Ca

set_option Elab.async false
set_option linter.all false
set_option maxRecDepth 100000
set_option maxHeartbeats 4000000
namespace Ca
open PySem L2
/-! ### what the law's own cache tells: who is under way, what can come -/
def sv : Option Str → V
  | none => .non
  | some w => .str w
/-- a list of operations' dicts -/
abbrev OpRefs (A : LA) (s : HS) (xs : List V) (os : List OpS) : Prop := Paired (fun (x : V) (o : OpS) => ∃ (k : Nat) (a : Addr), x = .ref a ∧ A.oas[k]? = some a ∧ s.ops[k]? = some o) xs os
def WaitOk (s : HS) (o : OpS) : Prop := o.stage = "waits" → ∃ l q, o.leader = some l ∧ s.ops[l]? = some q
@[irreducible] def spBegin : Sp := fun vs H Q _ => ∃ (c : Conf) (d w : Addr), vs = [.ref d, .ref w] ∧ H d = some (.tup [.str c.path, .str c.guard, .str c.flight]) ∧ H w = some (.tup [.str c.source, .str c.evict, .str c.stop]) ∧
  ∀ h lo lp H', Same H H' → H h = none → H lo = none → H lp = none → LawAt c H' h ⟨d, w, lo, lp, [], []⟩ HS.begin → Q (.ref h) H'
@[irreducible] def spNext : Sp := fun vs H Q _ => ∃ (c : Conf) (h a : Addr) (A : LA) (s : HS) (k : Nat) (o : OpS), vs = [.ref h, .ref a] ∧ LawAt c H h A s ∧ A.oas[k]? = some a ∧ s.ops[k]? = some o ∧ WaitOk s o ∧ Q (sv (nextOf s o)) H
@[irreducible] def spGoing : Sp := fun vs H Q _ => ∃ (c : Conf) (h : Addr) (A : LA) (s : HS), vs = [.ref h] ∧ LawAt c H h A s ∧ s.ops.length ≤ 100 ∧ ∀ p xs H', Same H H' → H p = none → H' p = some (.lst xs) → OpRefs A s xs (going s) → Q (.ref p) H'
@[irreducible] def spEvents : Sp := fun vs H Q _ => ∃ (c : Conf) (h : Addr) (A : LA) (s : HS), vs = [.ref h] ∧ c.Ok ∧ LawAt c H h A s ∧ s.ops.length ≤ 100 ∧ (∀ o ∈ s.ops, WaitOk s o) ∧
  ∀ p xs es H', Same H H' → H p = none → H' p = some (.lst xs) → EvsAt H' xs es → Srt es → es.Perm (evList c s) → Q (.ref p) H'
section
variable {c : Conf} {h a d w : Addr} {A : LA} {s : HS} {k : Nat} {o : OpS} {H : Hp} {Q : VK} {E : XK}
theorem begin_i (h1 : H d = some (.tup [.str c.path, .str c.guard, .str c.flight])) (h2 : H w = some (.tup [.str c.source, .str c.evict, .str c.stop]))
    (q : ∀ h lo lp H', Same H H' → H h = none → H lo = none → H lp = none → LawAt c H' h ⟨d, w, lo, lp, [], []⟩ HS.begin → Q (.ref h) H') : spBegin [.ref d, .ref w] H Q E := by
  unfold spBegin
  exact ⟨c, d, w, rfl, h1, h2, q⟩
theorem next_i (L : LawAt c H h A s) (e : A.oas[k]? = some a) (e' : s.ops[k]? = some o) (wt : WaitOk s o) (q : Q (sv (nextOf s o)) H) : spNext [.ref h, .ref a] H Q E := by
  unfold spNext
  exact ⟨c, h, a, A, s, k, o, rfl, L, e, e', wt, q⟩
theorem going_i (L : LawAt c H h A s) (l : s.ops.length ≤ 100) (q : ∀ p xs H', Same H H' → H p = none → H' p = some (.lst xs) → OpRefs A s xs (going s) → Q (.ref p) H') : spGoing [.ref h] H Q E := by
  unfold spGoing
  exact ⟨c, h, A, s, rfl, L, l, q⟩
theorem events_i (O : c.Ok) (L : LawAt c H h A s) (l : s.ops.length ≤ 100) (wt : ∀ o ∈ s.ops, WaitOk s o) (q : ∀ p xs es H', Same H H' → H p = none → H' p = some (.lst xs) → EvsAt H' xs es → Srt es → es.Perm (evList c s) → Q (.ref p) H') : spEvents [.ref h] H Q E := by
  unfold spEvents
  exact ⟨c, h, A, s, rfl, O, L, l, wt, q⟩
end
theorem sN' {H H1 : Hp} {p : Addr} {o : HO} (a : Same H H1) (n : H p = none) : Same H (upd H1 p o) := fun b u e => by
  rw [upd_ne (ne_of_none e n)]
  exact a b u e
theorem iteB {b : Bool} {A B : Prop} (h1 : b = true → A) (h2 : b = false → B) : if b = true then A else B := by
  cases b with
  | true => exact h1 rfl
  | false => exact h2 rfl
section
variable {P : Program} {w : World} {K : PySem.W.Frag} {mg : Str → Option Value} {base : Heap}
theorem ok_Lbegin (T : Txt K mg) : FnOk P w K mg base CX0 1 T.f_Lbegin T.fd_Lbegin ["design", "world"] spBegin := by
  refine T.F_Lbegin.ok sc_Lbegin (fun vs H Q E h => ?_) (fun cdv A outer s H vs Q E hr h => ?_)
  · unfold spBegin at h
    obtain ⟨c, d, w, rfl, _⟩ := h
    rfl
  · unfold spBegin at h
    obtain ⟨c, d, w, rfl, h1, h2, q⟩ := h
    refine ⟨_, (pss_one (ps_ret (pe_disp (pps_cons pe_str (pv 0) (pps_cons pe_str (pv 1) (pps_cons pe_str pe_int (pps_cons pe_str pe_int (pps_cons pe_str pe_non (pps_cons pe_str pe_int (pps_cons pe_str pe_non (pps_cons pe_str (pe_lst pa_nil) (pps_cons pe_str (pe_lst pa_nil) pps_nil))))))))) rfl rfl (by simp) (by decide)))), ?_⟩
    intro p np
    refine ⟨_, rfl, _, rfl, Nat.zero_le _, fun lo nlo => ⟨Nat.zero_le _, fun lp nlp => ?_⟩⟩
    have nlo' : H lo = none := (same_new np).free nlo
    have nlp1 : (upd H p (.dK [])) lp = none := (same_new nlo).free nlp
    have nlp' : H lp = none := (same_new np).free nlp1
    have ep : (upd (upd (upd H p (.dK [])) lo (.lst [])) lp (.lst [])) p = some (.dK []) := same_new nlp _ _ (same_new nlo _ _ upd_same)
    refine ⟨ep, [(.inr "design", .ref d), (.inr "world", .ref w), (.inr "db", .int 0), (.inr "rep", .int 0), (.inr "cache", .non), (.inr "mark", .int 0), (.inr "open", .non), (.inr "ops", .ref lo), (.inr "past", .ref lp)], rfl, (by show 9 ≤ 15; decide), ?_⟩
    have em : mergeK [] [(.inr "design", .ref d), (.inr "world", .ref w), (.inr "db", .int 0), (.inr "rep", .int 0), (.inr "cache", .non), (.inr "mark", .int 0), (.inr "open", .non), (.inr "ops", .ref lo), (.inr "past", .ref lp)] = hK d w HS.begin lo lp := by rfl
    rw [em]
    have npo : p ≠ lo := ne_of_none upd_same nlo
    have npl : p ≠ lp := ne_of_none (same_new nlo _ _ upd_same) nlp
    have nll : lo ≠ lp := ne_of_none upd_same nlp
    have S : Same H (upd (upd (upd (upd H p (.dK [])) lo (.lst [])) lp (.lst [])) p (.dK (hK d w HS.begin lo lp))) := sN' (sN' (sN' (same_new np) nlo') nlp') np
    refine q p lo lp _ S np nlo' nlp' ⟨upd_same, S _ _ h1, S _ _ h2, ?_, ?_, rfl, fun k a o e => by simp at e, rfl, fun i a e z => by simp at z, List.nodup_nil, nll⟩
    · rw [upd_ne npo.symm, upd_ne nll, upd_same]
      rfl
    · rw [upd_ne npl.symm, upd_same]
      rfl
theorem ok_Lnext (T : Txt K mg) : FnOk P w K mg base CX0 1 T.f_Lnext T.fd_Lnext ["h", "one"] spNext := by
  refine T.F_Lnext.ok sc_Lnext (fun vs H Q E h => ?_) (fun cdv A outer s H vs Q E hr h => ?_)
  · unfold spNext at h
    obtain ⟨c, h, a, A, s, k, o, rfl, _⟩ := h
    rfl
  · unfold spNext at h
    obtain ⟨c, h, a, A, s, k, o, rfl, L, e, e', wt, q⟩ := h
    have hu := hu_of hr
    have Ho := L.og k a o e e'
    refine ⟨_, (pss_cons (ps_if (pt_cmpR op_ne (pe_dget hu (pv 1) pe_str (fun _ _ => rfl)) pe_str (nomark _)) (pss_one (ps_ret (pe_dget hu (pv 1) pe_str (fun _ _ => rfl)))) pss_nil)
      (pss_one (ps_ret (pe_ifExp (pt_cmpR op_eq (pe_dget hu (pe_ix ix_list (pe_dget hu (pv 0) pe_str (fun _ _ => rfl)) (pe_dget hu (pv 1) pe_str (fun _ _ => rfl)) (fun _ _ => rfl)) pe_str (fun _ _ => rfl)) pe_str (nomark _)) pe_str pe_non)))), ?_⟩
    unfold nextOf at q
    refine ⟨_, rfl, _, _, rfl, dget (Ho) rfl, rfl, _, rfl, ?_⟩
    refine iteSn (fun n => ?_) (fun n => ?_)
    · rw [if_neg n] at q
      exact ⟨_, rfl, _, _, rfl, dget (Ho) rfl, q⟩
    · rw [if_pos n] at q
      obtain ⟨l, qo, el, eq⟩ := wt n
      obtain ⟨b, eb, hb⟩ := L.get eq
      have hbr : (A.oas.map V.ref)[l]? = some (.ref b) := by rw [List.getElem?_map, eb]; rfl
      rw [el] at q
      simp only [eq] at q
      refine ⟨_, rfl, _, _, rfl, dget (L.hd) rfl, _, rfl, _, _, rfl, dget (Ho) rfl, _, _, (l : Int), _, rfl, (by rw [el]; rfl), SqL.of L.lo, at_of rfl hbr, _, _, rfl, dget (hb) rfl, rfl, _, rfl, ?_⟩
      refine iteS (fun n2 => ?_) (fun n2 => ?_)
      · rw [if_pos n2] at q
        exact q
      · rw [if_neg n2] at q
        exact q
theorem ended_in (st : Str) : inV (.str st) [.str "ended", .str "stopped"] = (decide (st = "ended") || decide (st = "stopped")) := by
  have e1 : ∀ a b : Str, eqV (.str a) (.str b) = decide (b = a) := fun a b => by
    by_cases h : a = b
    · subst h; simp [eqV]
    · simp [eqV, h, Ne.symm h]
      try exact fun z => h z.symm
  unfold inV
  simp only [List.any_cons, List.any_nil, e1, Bool.or_false]
theorem ok_Lgoing (T : Txt K mg) : FnOk P w K mg base CX0 1 T.f_Lgoing T.fd_Lgoing ["h"] spGoing := by
  refine T.F_Lgoing.ok sc_Lgoing (fun vs H Q E h => ?_) (fun cdv A outer s H vs Q E hr h => ?_)
  · unfold spGoing at h
    obtain ⟨c, h, A, s, rfl, _⟩ := h
    rfl
  · unfold spGoing at h
    obtain ⟨c, h, A, s, rfl, L, l, q⟩ := h
    have hu := hu_of hr
    refine ⟨_, (pss_one (ps_ret (pe_lc (own := [("one", 1)]) rfl sc_Lgoing.nd (pi_list (pe_dget hu (pv 0) pe_str (fun _ _ => rfl))) (blkOk_by (N := ["h", "one"]) (sc := defScope s_Lgoing) (by decide +kernel)) (fun _ _ _ _ _ => (pg_name (i := 1) sc_Lgoing.nd rfl (Or.inl rfl))) (fun _ _ _ _ _ => (pts_one (pt_cmpR (op_notInK (K := K) rfl) (pe_dget hu (pv 1) pe_str (fun _ _ => rfl)) (pe_lst (pa_cons pe_str (pa_cons pe_str pa_nil))) (by rfl)))) (fun _ _ _ _ _ => (pv 1))))), ?_⟩
    refine ⟨_, rfl, _, _, rfl, dget (L.hd) rfl, A.lo, rfl, ⟨_, SqL.of L.lo⟩, fun D nD => ?_⟩
    refine lc_list (xs := A.oas.map V.ref) (fun i H' => ∃ acc, Same H H' ∧ H' D = some (.lst acc) ∧ OpRefs A s acc ((s.ops.take i).filter fun o => !endedB o)) ⟨[], same_new nD, upd_same, .nil⟩ (fun i H' _ ⟨_, S, _⟩ => SqL.of (L.same S).lo) ?_ ?_
    · rintro i y H' hi ⟨acc, S, hD, R⟩
      rw [List.getElem?_map] at hi
      obtain ⟨b, eb, rfl⟩ : ∃ b, A.oas[i]? = some b ∧ V.ref b = y := by
        cases ez : A.oas[i]? with
        | none => rw [ez] at hi; cases hi
        | some b => rw [ez] at hi; exact ⟨b, rfl, Option.some.inj hi⟩
      have L1 := L.same S
      obtain ⟨o, eo, ho⟩ := L1.ofAt eb
      have h3 : s.ops.take (i + 1) = s.ops.take i ++ [o] := by
        rw [List.take_succ, eo]
        rfl
      have al : acc.length ≤ 100 := by
        rw [R.length]
        refine Nat.le_trans (List.length_filter_le _ _) ?_
        rw [List.length_take]
        omega
      refine ⟨rfl, _, rfl, _, _, rfl, dget (ho) rfl, (by show 2 ≤ sizeLine; decide), fun p np => ?_⟩
      have S2 := sN S (o := .lst [.str "ended", .str "stopped"]) np
      have hp : (upd H' p (.lst [.str "ended", .str "stopped"])) p = some (.lst [.str "ended", .str "stopped"]) := upd_same
      have hD2 := same_new (o := .lst [.str "ended", .str "stopped"]) np _ _ hD
      generalize upd H' p (.lst [.str "ended", .str "stopped"]) = H2 at S2 hp hD2
      refine ⟨p, _, rfl, .inl (SqL.of hp), rfl, rfl, _, rfl, ?_⟩
      have z : (if true = true then !inV (.str o.stage) [.str "ended", .str "stopped"] else inV (.str o.stage) [.str "ended", .str "stopped"]) = !endedB o := by
        rw [if_pos rfl, ended_in]
        rfl
      rw [z]
      refine iteB (fun n => ?_) (fun n => ?_)
      · refine ⟨_, rfl, acc, hD2, small9 al, acc ++ [.ref b], sN' S2 nD, upd_same, ?_⟩
        rw [h3, List.filter_append, List.filter_cons, if_pos n]
        exact Paired.app R (.cons ⟨i, b, rfl, eb, eo⟩ .nil)
      · refine ⟨acc, S2, hD2, ?_⟩
        rw [h3, List.filter_append, List.filter_cons, if_neg (by rw [n]; decide)]
        simpa using R
    · rintro H' ⟨acc, S, hD, R⟩
      rw [List.length_map, L.ol, List.take_length] at R
      exact q D acc H' S nD hD R
end
end Ca

set_option Elab.async false
set_option linter.all false
set_option maxRecDepth 100000
set_option maxHeartbeats 4000000
namespace Ca
open PySem L2
theorem EvsAt.upd {H : Hp} {xs zs : List V} {es : List Ev} {f : Addr} {o : HO} (x : EvsAt H xs es) (h : H f = some (.lst zs)) : EvsAt (upd H f o) xs es := Paired.mapP x fun _ _ ⟨t, a, b⟩ => ⟨t, a, by
  rw [upd_ne (ne_of b h (by intro z; cases z))]
  exact b⟩
theorem take_snoc {α : Type} {l : List α} {i : Nat} {o : α} (e : l[i]? = some o) : l.take (i + 1) = l.take i ++ [o] := by
  rw [List.take_succ, e]
  rfl
theorem take_len {α : Type} (l : List α) (i : Nat) : (l.take i).length ≤ l.length := by rw [List.length_take]; omega
theorem going_len (s : HS) : (going s).length ≤ s.ops.length := List.length_filter_le _ _
section
variable {P : Program} {w : World} {K : PySem.W.Frag} {mg : Str → Option Value} {base : Heap}
def evBf (s : HS) (o : OpS) : Option Ev := (nextOf s o).map fun w => (w, some (o.number : Int))
theorem ok_Levents (T : Txt K mg) : FnOk P w K mg base CX0 2 T.f_Levents T.fd_Levents ["h"] spEvents := by
  refine T.F_Levents.ok sc_Levents (fun vs H Q E h => ?_) (fun cdv A outer s H vs Q E hr h => ?_)
  · unfold spEvents at h
    obtain ⟨c, h, A, s, rfl, _⟩ := h
    rfl
  · unfold spEvents at h
    obtain ⟨c, h, A, s, rfl, O, L, ln, wt, q⟩ := h
    have hu := hu_of hr
    refine ⟨_, (pss_cons (ps_par (i := 1) (j := 2) rfl sc_Levents.nd rfl rfl (by decide) rfl rfl (pa_cons (pe_callB call_len_seq (by rfl) T.n_len (by decide +kernel) (pa_cons (pe_dget hu (pv 0) pe_str (fun _ _ => rfl)) pa_nil)) (pa_cons (pe_call (ok_Lgoing T) (hr.mono (by decide)) rfl T.m_Lgoing T.F_Lgoing.kp (b_Lgoing T) .nil pass0 (pa_cons (pv 0) pa_nil)) pa_nil)) (by rfl))
      (pss_cons (ps_set (i := 3) sc_Levents.nd rfl (Or.inl rfl) (pe_lst (pa_cons (pe_tup (pa_cons pe_str (pa_cons (pv 1) pa_nil))) (pa_cons (pe_tup (pa_cons (pe_ix ix_list (pe_split (pe_ix ix_tup (pe_dget hu (pv 0) pe_str (fun _ _ => rfl)) pe_int (fun _ _ => rfl)) pe_str) pe_int (fun _ _ => rfl)) (pa_cons (pv 1) pa_nil))) pa_nil))))
      (pss_cons (ps_set (i := 3) sc_Levents.nd rfl (Or.inl rfl) (pe_op op_cat (pv 3) (pe_lc (own := [("one", 4)]) rfl sc_Levents.nd (pi_list (pv 2)) (blkOk_by (N := ["h", "many", "going", "found", "one"]) (sc := defScope s_Levents) (by decide +kernel)) (fun _ _ _ _ _ => (pg_name (i := 4) sc_Levents.nd rfl (Or.inl rfl))) (fun _ _ _ _ _ => (pts_one (pt_cmpR op_notN (pe_call (ok_Lnext T) (hr.mono (by decide)) rfl T.m_Lnext T.F_Lnext.kp (b_Lnext T) .nil pass0 (pa_cons (pv 0) (pa_cons (pv 4) pa_nil))) pe_non (nomark _)))) (fun _ _ _ _ _ => (pe_tup (pa_cons (pe_call (ok_Lnext T) (hr.mono (by decide)) rfl T.m_Lnext T.F_Lnext.kp (b_Lnext T) .nil pass0 (pa_cons (pv 0) (pa_cons (pv 4) pa_nil))) (pa_cons (pe_dget hu (pv 4) pe_str (fun _ _ => rfl)) pa_nil)))))))
      (Evl.pss_cut (ps_if (pt_cmpR op_eq (pe_ix ix_tup (pe_dget hu (pv 0) pe_str (fun _ _ => rfl)) pe_int (fun _ _ => rfl)) pe_str (nomark _)) (pss_one (ps_set (i := 3) sc_Levents.nd rfl (Or.inl rfl) (pe_op op_cat (pv 3) (pe_lc (own := [("one", 4)]) rfl sc_Levents.nd (pi_list (pv 2)) (blkOk_by (N := ["h", "many", "going", "found", "one"]) (sc := defScope s_Levents) (by decide +kernel)) (fun _ _ _ _ _ => (pg_name (i := 4) sc_Levents.nd rfl (Or.inl rfl))) (fun _ _ _ _ _ => pts_nil) (fun _ _ _ _ _ => (pe_tup (pa_cons pe_str (pa_cons (pe_dget hu (pv 4) pe_str (fun _ _ => rfl)) pa_nil)))))))) pss_nil)
      (Evl.pss_cut (ps_if (PW.pt (pw_and (pt_cmpR op_eq (pe_ix ix_tup (pe_dget hu (pv 0) pe_str (fun _ _ => rfl)) pe_int (fun _ _ => rfl)) pe_str (nomark _)) (pw_and1 (PW.pt (pw_or (pt_cmpR op_notN (pe_dget hu (pv 0) pe_str (fun _ _ => rfl)) pe_non (nomark _)) (pw_or1 (pt_cmpR op_gt (pe_dget hu (pv 0) pe_str (fun _ _ => rfl)) pe_int (nomark _)))))))) (pss_one (ps_expr (pe_bm PySem.F.plainAttrs_list PySem.F.slot_list_append PySem.F.type_list_append mt_append (pv 3) (pa_cons (pe_tup (pa_cons pe_str pa_nil)) pa_nil)))) pss_nil)
      (Evl.pss_cut (ps_if (PW.pt (pw_and (pt_cmpR op_eq (pe_ix ix_tup (pe_dget hu (pv 0) pe_str (fun _ _ => rfl)) pe_int (fun _ _ => rfl)) pe_str (nomark _)) (pw_and1 (pt_cmpR op_lt (pe_dget hu (pv 0) pe_str (fun _ _ => rfl)) (pe_dget hu (pv 0) pe_str (fun _ _ => rfl)) (nomark _))))) (pss_one (ps_expr (pe_bm PySem.F.plainAttrs_list PySem.F.slot_list_append PySem.F.type_list_append mt_append (pv 3) (pa_cons (pe_tup (pa_cons pe_str pa_nil)) pa_nil)))) pss_nil)
      (pss_one (ps_ret (pe_callB cr_sortedE (by rfl) T.n_sorted (by decide +kernel) (pa_cons (pv 3) pa_nil)))))))))), ?_⟩
    refine ⟨_, rfl, _, _, rfl, dget (L.hd) rfl, _, _, rfl, .inl (SqL.of L.lo), _, rfl, ?_⟩
    rw [List.length_map, L.ol]
    refine going_i L ln fun g gs H1 S1 ng hg R => ?_
    have L1 := L.same S1
    refine ⟨_, _, rfl, _, rfl, (by show 2 ≤ sizeLine; decide), fun t1 n1 => ?_⟩
    have L2 := L1.new (o := .tup [.str "look", .int (s.ops.length : Int)]) n1
    have S2 := sN S1 (o := .tup [.str "look", .int (s.ops.length : Int)]) n1
    have hg2 := same_new (o := .tup [.str "look", .int (s.ops.length : Int)]) n1 _ _ hg
    have h21 : (upd H1 t1 (.tup [.str "look", .int (s.ops.length : Int)])) t1 = some (.tup (evV ("look", some (s.ops.length : Int)))) := upd_same
    generalize upd H1 t1 (.tup [.str "look", .int (s.ops.length : Int)]) = H2 at L2 S2 hg2 h21
    refine ⟨_, rfl, _, _, rfl, dget (L2.hd) rfl, _, _, _, _, rfl, rfl, SqT.of (L2.dd), rfl, ⟨_, rfl⟩, _, _, rfl, rfl, rfl, O.plen, fun p3 np3 => ?_⟩
    have hp3 : (upd H2 p3 (.lst ((Txt.split c.path " ").map V.str))) p3 = some (.lst (c.steps.map V.str)) := upd_same
    have L3 := L2.new (o := .lst ((Txt.split c.path " ").map V.str)) np3
    have S3 := sN S2 (o := .lst ((Txt.split c.path " ").map V.str)) np3
    have S23 := same_new (o := .lst ((Txt.split c.path " ").map V.str)) np3
    generalize upd H2 p3 (.lst ((Txt.split c.path " ").map V.str)) = H3 at hp3 L3 S3 S23
    have hfw : (c.steps.map V.str)[0]? = some (.str (firstW c)) := by
      rw [List.getElem?_map]
      unfold firstW
      rw [List.getD_eq_getElem?_getD, List.getElem?_eq_getElem O.slen.1]
      rfl
    refine ⟨p3, _, _, _, rfl, rfl, SqL.of hp3, at_of (j := 0) rfl hfw, _, rfl, (by show 2 ≤ sizeLine; decide), fun t2 n2 => ⟨(by show 2 ≤ sizeLine; decide), fun f nf => ?_⟩⟩
    have S4 : Same H3 (upd (upd H3 t2 (.tup [.str (firstW c), .int (s.ops.length : Int)])) f (.lst [.ref t1, .ref t2])) := sN (same_new n2) nf
    have hf : (upd (upd H3 t2 (.tup [.str (firstW c), .int (s.ops.length : Int)])) f (.lst [.ref t1, .ref t2])) f = some (.lst [.ref t1, .ref t2]) := upd_same
    have hx : EvsAt (upd (upd H3 t2 (.tup [.str (firstW c), .int (s.ops.length : Int)])) f (.lst [.ref t1, .ref t2])) [.ref t1, .ref t2] (evA c s) := by
      refine .cons ⟨t1, rfl, S4 _ _ (S23 _ _ h21)⟩ (.cons ⟨t2, rfl, same_new nf _ _ upd_same⟩ .nil)
    generalize upd (upd H3 t2 (.tup [.str (firstW c), .int (s.ops.length : Int)])) f (.lst [.ref t1, .ref t2]) = H4 at S4 hf hx
    have S5 := S3.trans S4
    have L5 := L.same S5
    have hg5 := S4 _ _ (S23 _ _ hg2)
    -- the steps that can be done
    refine ⟨_, rfl, _, rfl, g, rfl, ⟨_, SqL.of hg5⟩, fun D nD => ?_⟩
    refine lc_list (xs := gs) (fun i H' => ∃ acc, Same H4 H' ∧ H' D = some (.lst acc) ∧ EvsAt H' acc (((going s).take i).filterMap (evBf s))) ⟨[], same_new nD, upd_same, .nil⟩ (fun i H' _ ⟨_, S, _⟩ => SqL.of (S _ _ hg5)) ?_ ?_
    · rintro i y H' hi ⟨acc, S, hD, X⟩
      obtain ⟨o, eo, k, a, rfl, ea, ek⟩ := pget R hi
      have L6 := L5.same S
      have ho := L6.og k a o ea ek
      have wo := wt o (List.mem_of_getElem? ek)
      have al : acc.length ≤ 100 := by
        rw [X.length]
        exact Nat.le_trans (List.length_filterMap_le _ _) (Nat.le_trans (take_len _ _) (Nat.le_trans (going_len s) ln))
      rw [take_snoc eo, List.filterMap_append]
      refine ⟨rfl, _, rfl, _, rfl, ?_⟩
      refine next_i L6 ea ek wo ⟨rfl, _, rfl, ?_⟩
      cases en : nextOf s o with
      | none =>
        refine iteF ⟨acc, S, hD, ?_⟩
        have z : List.filterMap (evBf s) [o] = [] := by simp [evBf, en]
        rw [z, List.append_nil]
        exact X
      | some nw =>
        refine iteT ?_
        refine ⟨_, rfl, _, rfl, ?_⟩
        refine next_i L6 ea ek wo ?_
        rw [en]
        refine ⟨_, rfl, _, _, rfl, dget (ho) rfl, (by show 2 ≤ sizeLine; decide), fun t nt => ?_⟩
        have z : List.filterMap (evBf s) [o] = [(nw, some (o.number : Int))] := by simp [evBf, en]
        rw [z]
        have X7 := X.same (same_new (o := .tup [sv (some nw), .int (o.number : Int)]) nt)
        have ht : (upd H' t (.tup [sv (some nw), .int (o.number : Int)])) t = some (.tup (evV (nw, some (o.number : Int)))) := upd_same
        have hD7 := same_new (o := .tup [sv (some nw), .int (o.number : Int)]) nt _ _ hD
        have S7 := sN S (o := .tup [sv (some nw), .int (o.number : Int)]) nt
        generalize upd H' t (.tup [sv (some nw), .int (o.number : Int)]) = H7 at X7 ht hD7 S7
        refine ⟨acc, hD7, small9 al, acc ++ [.ref t], sN' S7 nD, upd_same, ?_⟩
        exact EvsAt.upd (Paired.app X7 (.cons ⟨t, rfl, ht⟩ .nil)) hD7
    rintro H' ⟨acc, S, hD, X⟩
    have eg : gs.length = (going s).length := R.length
    rw [eg, List.take_length] at X
    have al : acc.length ≤ 100 := by
      rw [X.length]
      exact Nat.le_trans (List.length_filterMap_le _ _) (Nat.le_trans (going_len s) ln)
    have S6 := S5.trans S
    have hg6 := S _ _ hg5
    have hf6 := S _ _ hf
    have hx6 := hx.same S
    refine ⟨f, D, _, _, rfl, rfl, hf6, hD, (Nat.le_trans (show 2 + acc.length ≤ 300 by omega) (by decide)), fun f2 nf2 => ?_⟩
    have S8 := sN S6 (o := .lst ([.ref t1, .ref t2] ++ acc)) nf2
    have hg8 := same_new (o := .lst ([.ref t1, .ref t2] ++ acc)) nf2 _ _ hg6
    have hf8 : (upd H' f2 (.lst ([.ref t1, .ref t2] ++ acc))) f2 = some (.lst ([.ref t1, .ref t2] ++ acc)) := upd_same
    have X8 : EvsAt (upd H' f2 (.lst ([.ref t1, .ref t2] ++ acc))) ([.ref t1, .ref t2] ++ acc) (evA c s ++ evB s) := EvsAt.same (Paired.app hx6 X) (same_new nf2)
    have nf8 : H f2 = none := S6.free nf2
    have ll : ([.ref t1, .ref t2] ++ acc : List V).length ≤ 200 := by
      rw [List.length_append]
      show 2 + acc.length ≤ 200
      omega
    generalize ([.ref t1, .ref t2] ++ acc : List V) = xs at S8 hg8 hf8 X8 ll
    generalize upd H' f2 (.lst xs) = H8 at S8 hg8 hf8 X8
    clear X al hx6 hf6 hg6 S6 S hD hx hf hg5 S5 S4 L5 S23 L3 S3 hp3 hg2 S2 L2 L1 h21
    -- stops
    refine ⟨fun σ' H' => ∃ f xs, σ' = [some (.ref h), some (.int (s.ops.length : Int)), some (.ref g), some (.ref f), none] ∧ Same H H' ∧ H f = none ∧ H' f = some (.lst xs) ∧ EvsAt H' xs (evA c s ++ evB s ++ evC c s) ∧ xs.length ≤ 400, ?_, ?_⟩
    · have L8 := L.same S8
      refine ⟨_, rfl, _, _, rfl, dget (L8.hd) rfl, _, _, _, _, rfl, rfl, SqT.of (L8.ww), rfl, rfl, _, rfl, ?_⟩
      unfold evC
      refine iteS (fun n => ?_) (fun n => ?_)
      · rw [if_pos n]
        refine ⟨_, rfl, _, rfl, g, rfl, ⟨_, SqL.of hg8⟩, fun D nD => ?_⟩
        refine lc_list (xs := gs) (fun i H' => ∃ acc, Same H8 H' ∧ H' D = some (.lst acc) ∧ EvsAt H' acc (((going s).take i).map fun o => ("stop", some (o.number : Int)))) ⟨[], same_new nD, upd_same, .nil⟩ (fun i H' _ ⟨_, S, _⟩ => SqL.of (S _ _ hg8)) ?_ ?_
        · rintro i y H' hi ⟨acc, S, hD, X⟩
          obtain ⟨o, eo, k, a, rfl, ea, ek⟩ := pget R hi
          have L6 := L8.same S
          have ho := L6.og k a o ea ek
          have al : acc.length ≤ 100 := by
            rw [X.length, List.length_map]
            exact Nat.le_trans (take_len _ _) (Nat.le_trans (going_len s) ln)
          rw [take_snoc eo, List.map_append]
          refine ⟨rfl, ?_⟩
          simp only [tYes, reduceIte]
          refine ⟨_, rfl, _, _, rfl, dget (ho) rfl, (by show 2 ≤ sizeLine; decide), fun t nt => ?_⟩
          have X7 := X.same (same_new (o := .tup [.str "stop", .int (o.number : Int)]) nt)
          have ht : (upd H' t (.tup [.str "stop", .int (o.number : Int)])) t = some (.tup (evV ("stop", some (o.number : Int)))) := upd_same
          have hD7 := same_new (o := .tup [.str "stop", .int (o.number : Int)]) nt _ _ hD
          have S7 := sN S (o := .tup [.str "stop", .int (o.number : Int)]) nt
          generalize upd H' t (.tup [.str "stop", .int (o.number : Int)]) = H7 at X7 ht hD7 S7
          refine ⟨acc, hD7, small9 al, acc ++ [.ref t], sN' S7 nD, upd_same, ?_⟩
          exact EvsAt.upd (Paired.app X7 (.cons ⟨t, rfl, ht⟩ .nil)) hD7
        · rintro H' ⟨acc, S, hD, X⟩
          have eg : gs.length = (going s).length := R.length
          rw [eg, List.take_length] at X
          have al : acc.length ≤ 100 := by
            rw [X.length, List.length_map]
            exact Nat.le_trans (going_len s) ln
          refine ⟨f2, D, _, _, rfl, rfl, S _ _ hf8, hD, (Nat.le_trans (show xs.length + acc.length ≤ 300 by omega) (by decide)), fun f3 nf3 => ?_⟩
          refine ⟨f3, _, rfl, sN (S8.trans S) nf3, (S8.trans S).free nf3, upd_same, ?_, by rw [List.length_append]; omega⟩
          exact EvsAt.same (Paired.app (X8.same S) X) (same_new nf3)
      · rw [if_neg n, List.append_nil]
        exact ⟨f2, xs, rfl, S8, nf8, hf8, X8, by omega⟩
    · rintro σ' H' ⟨f3, ys, rfl, S9, nf3, hf9, X9, l9⟩
      clear X8 hf8 nf8 hg8 S8 ll
      refine ⟨fun σ' H' => ∃ f xs, σ' = [some (.ref h), some (.int (s.ops.length : Int)), some (.ref g), some (.ref f), none] ∧ Same H H' ∧ H f = none ∧ H' f = some (.lst xs) ∧ EvsAt H' xs (evA c s ++ evB s ++ evC c s ++ evD c s) ∧ xs.length ≤ 401, ?_, ?_⟩
      · have L9 := L.same S9
        have push : canEvict c s = true → ∀ t, H' t = none → ∃ f xs, [some (V.ref h), some (V.int (s.ops.length : Int)), some (V.ref g), some (V.ref f3), none] = [some (V.ref h), some (V.int (s.ops.length : Int)), some (V.ref g), some (V.ref f), none] ∧ Same H (upd (upd H' t (.tup [.str "evict"])) f3 (.lst (ys ++ [.ref t]))) ∧ H f = none ∧ (upd (upd H' t (.tup [.str "evict"])) f3 (.lst (ys ++ [.ref t]))) f = some (.lst xs) ∧ EvsAt (upd (upd H' t (.tup [.str "evict"])) f3 (.lst (ys ++ [.ref t]))) xs (evA c s ++ evB s ++ evC c s ++ evD c s) ∧ xs.length ≤ 401 := fun ce t nt => by
          refine ⟨f3, ys ++ [.ref t], rfl, sN' (sN S9 nt) nf3, nf3, upd_same, ?_, by rw [List.length_append, List.length_singleton]; omega⟩
          unfold evD
          rw [if_pos ce]
          refine EvsAt.upd (zs := ys) (Paired.app (X9.same (same_new nt)) (.cons ⟨t, rfl, upd_same⟩ .nil)) (same_new nt _ _ hf9)
        have skip : canEvict c s = false → ∃ f xs, [some (V.ref h), some (V.int (s.ops.length : Int)), some (V.ref g), some (V.ref f3), none] = [some (V.ref h), some (V.int (s.ops.length : Int)), some (V.ref g), some (V.ref f), none] ∧ Same H H' ∧ H f = none ∧ H' f = some (.lst xs) ∧ EvsAt H' xs (evA c s ++ evB s ++ evC c s ++ evD c s) ∧ xs.length ≤ 401 := fun ce => by
          refine ⟨f3, ys, rfl, S9, nf3, hf9, ?_, by omega⟩
          unfold evD
          rw [if_neg (by rw [ce]; decide), List.append_nil]
          exact X9
        unfold canEvict at push skip
        refine ⟨_, rfl, _, _, rfl, dget (L9.hd) rfl, _, _, _, _, rfl, rfl, SqT.of (L9.ww), rfl, rfl, _, rfl, ?_⟩
        refine iteS (fun n => ?_) (fun n => ?_)
        · rw [decide_eq_true n, Bool.true_and] at push skip
          refine ⟨_, rfl, _, _, rfl, dget (L9.hd) rfl, rfl, _, rfl, ?_⟩
          refine iteNn (fun v n2 => ?_) (fun n2 => ?_)
          · rw [n2] at push
            refine ⟨_, rfl, .inl ⟨rfl, _, SqL.of hf9⟩, (by show 1 ≤ sizeLine; decide), fun t nt => ⟨f3, ys, _, rfl, rfl, same_new nt _ _ hf9, Nat.lt_of_le_of_lt l9 (by decide), ?_⟩⟩
            exact push rfl t nt
          · rw [n2] at push skip
            refine ⟨_, rfl, _, _, rfl, dget (L9.hd) rfl, (s.mark : Int), 0, rfl, rfl, _, rfl, ?_⟩
            refine iteB (fun n3 => ?_) (fun n3 => ?_)
            · have n3 : 0 < s.mark := by have := of_decide_eq_true n3; omega
              refine ⟨_, rfl, .inl ⟨rfl, _, SqL.of hf9⟩, (by show 1 ≤ sizeLine; decide), fun t nt => ⟨f3, ys, _, rfl, rfl, same_new nt _ _ hf9, Nat.lt_of_le_of_lt l9 (by decide), ?_⟩⟩
              exact push (by simpa using n3) t nt
            · have n3 : ¬ 0 < s.mark := by have := of_decide_eq_false n3; omega
              exact skip (by simpa using n3)
        · rw [decide_eq_false n, Bool.false_and] at skip
          exact skip rfl
      · rintro σ' H'' ⟨f4, zs, rfl, S10, nf4, hf10, X10, l10⟩
        clear X9 hf9 nf3 S9 l9
        refine ⟨fun σ' H' => ∃ f xs, σ' = [some (.ref h), some (.int (s.ops.length : Int)), some (.ref g), some (.ref f), none] ∧ Same H H' ∧ H f = none ∧ H' f = some (.lst xs) ∧ EvsAt H' xs (evList c s) ∧ xs.length ≤ 402, ?_, ?_⟩
        · have L10 := L.same S10
          have push : canCopy c s = true → ∀ t, H'' t = none → ∃ f xs, [some (V.ref h), some (V.int (s.ops.length : Int)), some (V.ref g), some (V.ref f4), none] = [some (V.ref h), some (V.int (s.ops.length : Int)), some (V.ref g), some (V.ref f), none] ∧ Same H (upd (upd H'' t (.tup [.str "copy"])) f4 (.lst (zs ++ [.ref t]))) ∧ H f = none ∧ (upd (upd H'' t (.tup [.str "copy"])) f4 (.lst (zs ++ [.ref t]))) f = some (.lst xs) ∧ EvsAt (upd (upd H'' t (.tup [.str "copy"])) f4 (.lst (zs ++ [.ref t]))) xs (evList c s) ∧ xs.length ≤ 402 := fun ce t nt => by
            refine ⟨f4, zs ++ [.ref t], rfl, sN' (sN S10 nt) nf4, nf4, upd_same, ?_, by rw [List.length_append, List.length_singleton]; omega⟩
            unfold evList evE
            rw [if_pos ce]
            refine EvsAt.upd (zs := zs) (Paired.app (X10.same (same_new nt)) (.cons ⟨t, rfl, upd_same⟩ .nil)) (same_new nt _ _ hf10)
          have skip : canCopy c s = false → ∃ f xs, [some (V.ref h), some (V.int (s.ops.length : Int)), some (V.ref g), some (V.ref f4), none] = [some (V.ref h), some (V.int (s.ops.length : Int)), some (V.ref g), some (V.ref f), none] ∧ Same H H'' ∧ H f = none ∧ H'' f = some (.lst xs) ∧ EvsAt H'' xs (evList c s) ∧ xs.length ≤ 402 := fun ce => by
            refine ⟨f4, zs, rfl, S10, nf4, hf10, ?_, by omega⟩
            unfold evList evE
            rw [if_neg (by rw [ce]; decide), List.append_nil]
            exact X10
          unfold canCopy at push skip
          refine ⟨_, rfl, _, _, rfl, dget (L10.hd) rfl, _, _, _, _, rfl, rfl, SqT.of (L10.ww), rfl, rfl, _, rfl, ?_⟩
          refine iteS (fun n => ?_) (fun n => ?_)
          · rw [decide_eq_true n, Bool.true_and] at push skip
            refine ⟨_, rfl, _, _, rfl, dget (L10.hd) rfl, _, rfl, _, _, rfl, dget (L10.hd) rfl, (s.rep : Int), (s.db : Int), rfl, rfl, _, rfl, ?_⟩
            refine iteB (fun n3 => ?_) (fun n3 => ?_)
            · have n3 : s.rep < s.db := by have := of_decide_eq_true n3; omega
              refine ⟨_, rfl, .inl ⟨rfl, _, SqL.of hf10⟩, (by show 1 ≤ sizeLine; decide), fun t nt => ⟨f4, zs, _, rfl, rfl, same_new nt _ _ hf10, Nat.lt_of_le_of_lt l10 (by decide), ?_⟩⟩
              exact push (by simpa using n3) t nt
            · have n3 : ¬ s.rep < s.db := by have := of_decide_eq_false n3; omega
              exact skip (by simpa using n3)
          · rw [decide_eq_false n, Bool.false_and] at skip
            exact skip rfl
        · rintro σ' H3 ⟨f5, us, rfl, S11, nf5, hf11, X11, l11⟩
          refine ⟨_, rfl, f5, us, evOf H3, rfl, SqL.of hf11, X11.all, fun vs p sr pm np => ?_⟩
          obtain ⟨x1, x2, x3⟩ := X11.sorted sr pm
          exact q p vs _ _ (sN S11 np) (S11.free np) upd_same (x1.same (same_new np)) x2 x3
end
end Ca

set_option Elab.async false
set_option linter.all false
set_option maxRecDepth 100000
set_option maxHeartbeats 4000000
namespace Ca
open PySem L2
/-! ### what holds of the law's own cache behind every run -/
structure OpWf (c : Conf) (n k : Nat) (o : OpS) : Prop where
  num : o.number = k
  kd : o.kind = "read" ∨ o.kind = "write"
  wr : o.kind = "write" → ¬ o.stage = "ended" → ¬ o.stage = "stopped" → o.step < c.steps.length ∧ o.stage = c.steps.getD o.step "" ∧ (o.stage = "set" → o.version.isSome = true)
  rd : o.kind = "read" → o.stage = "look" ∨ o.stage = "fetch" ∨ (o.stage = "fill" ∧ o.version.isSome = true) ∨ (o.stage = "waits" ∧ ∃ l, o.leader = some l ∧ l < n) ∨ o.stage = "ended" ∨ o.stage = "stopped"
  str : PyData.strOk o.stage = true
def WfL (c : Conf) (l : List OpS) : Prop := ∀ (k : Nat) o, l[k]? = some o → OpWf c l.length k o
structure Wf (c : Conf) (s : HS) : Prop where
  ops : WfL c s.ops
  opn : ∀ l, s.opn = some l → l < s.ops.length
structure PathOk (p : Str) : Prop where
  fst : (Txt.split p " ").getD 0 "" = "drop" ∨ (Txt.split p " ").getD 0 "" = "store"
  words : ∀ w ∈ Txt.split p " ", w = "drop" ∨ w = "store" ∨ w = "set"
  set : ∀ j, (Txt.split p " ").getD (j + 1) "" = "set" → (Txt.split p " ").getD j "" = "store"
theorem pathOk_of {p : Str} {a : List Str} (h : Txt.split p " " = a) (h1 : a.getD 0 "" = "drop" ∨ a.getD 0 "" = "store") (h2 : ∀ w ∈ a, w = "drop" ∨ w = "store" ∨ w = "set") (h3 : ∀ j, j < 3 → a.getD (j + 1) "" = "set" → a.getD j "" = "store") (h4 : a.length ≤ 3) : PathOk p := by
  refine ⟨by rw [h]; exact h1, by rw [h]; exact h2, fun j => ?_⟩
  rw [h]
  by_cases hj : j < 3
  · exact h3 j hj
  · intro e
    rw [List.getD_eq_getElem?_getD, List.getElem?_eq_none (by omega)] at e
    exact absurd e (by decide +kernel)
theorem Conf.Ok.path {c : Conf} (O : c.Ok) : PathOk c.path := by
  have := O.p
  simp only [pathsL, List.mem_cons, List.not_mem_nil, or_false] at this
  rcases this with e | e | e | e | e <;> rw [e]
  · exact pathOk_of (a := ["drop", "store"]) (by decide +kernel) (by decide +kernel) (by decide +kernel) (by decide +kernel) (by decide)
  · exact pathOk_of (a := ["drop", "store", "drop"]) (by decide +kernel) (by decide +kernel) (by decide +kernel) (by decide +kernel) (by decide)
  · exact pathOk_of (a := ["store"]) (by decide +kernel) (by decide +kernel) (by decide +kernel) (by decide +kernel) (by decide)
  · exact pathOk_of (a := ["store", "drop"]) (by decide +kernel) (by decide +kernel) (by decide +kernel) (by decide +kernel) (by decide)
  · exact pathOk_of (a := ["store", "set"]) (by decide +kernel) (by decide +kernel) (by decide +kernel) (by decide +kernel) (by decide)
theorem ne_words : (¬ ("drop" : Str) = "waits" ∧ ¬ ("store" : Str) = "waits" ∧ ¬ ("set" : Str) = "waits") ∧ (¬ ("drop" : Str) = "look" ∧ ¬ ("store" : Str) = "look" ∧ ¬ ("set" : Str) = "look") ∧ (¬ ("drop" : Str) = "set" ∧ ¬ ("store" : Str) = "set") ∧
    (¬ ("read" : Str) = "write") ∧ (¬ ("look" : Str) = "waits" ∧ ¬ ("fetch" : Str) = "waits" ∧ ¬ ("fill" : Str) = "waits") ∧ (¬ ("drop" : Str) = "ended" ∧ ¬ ("store" : Str) = "ended" ∧ ¬ ("set" : Str) = "ended") ∧ (¬ ("drop" : Str) = "stopped" ∧ ¬ ("store" : Str) = "stopped" ∧ ¬ ("set" : Str) = "stopped") ∧
    (¬ ("look" : Str) = "ended" ∧ ¬ ("look" : Str) = "stopped") := by decide +kernel
theorem step_word {c : Conf} (O : c.Ok) {j : Nat} (h : j < c.steps.length) : c.steps.getD j "" = "drop" ∨ c.steps.getD j "" = "store" ∨ c.steps.getD j "" = "set" := by
  rw [List.getD_eq_getElem?_getD, List.getElem?_eq_getElem h, Option.getD_some]
  exact O.path.words _ (List.getElem_mem h)
theorem word_str {w : Str} (h : w = "drop" ∨ w = "store" ∨ w = "set") : PyData.strOk w = true := by
  rcases h with e | e | e <;> rw [e] <;> decide +kernel
section
variable {c : Conf} {l : List OpS} {k n : Nat} {o o' : OpS} {s : HS}
theorem OpWf.mono {m : Nat} (h : OpWf c n k o) (e : n ≤ m) : OpWf c m k o := ⟨h.num, h.kd, h.wr, fun r => by
  rcases h.rd r with z | z | z | ⟨z, l, y, x⟩ | z | z
  · exact .inl z
  · exact .inr (.inl z)
  · exact .inr (.inr (.inl z))
  · exact .inr (.inr (.inr (.inl ⟨z, l, y, by omega⟩)))
  · exact .inr (.inr (.inr (.inr (.inl z))))
  · exact .inr (.inr (.inr (.inr (.inr z)))), h.str⟩
theorem WfL.set (h : WfL c l) (p : OpWf c l.length k o') : WfL c (l.set k o') := fun j u e => by
  rw [List.length_set]
  by_cases q : k = j
  · subst q
    by_cases hk : k < l.length
    · rw [List.getElem?_set_self hk] at e
      cases e
      exact p
    · rw [List.getElem?_eq_none (by rw [List.length_set]; omega)] at e
      cases e
  · rw [List.getElem?_set_ne q] at e
    exact h j u e
theorem WfL.snoc (h : WfL c l) (p : OpWf c (l.length + 1) l.length o') : WfL c (l ++ [o']) := fun j u e => by
  rw [List.length_append, List.length_singleton]
  by_cases hj : j < l.length
  · rw [List.getElem?_append_left hj] at e
    exact (h j u e).mono (by omega)
  · rw [List.getElem?_append_right (by omega)] at e
    have e0 : j - l.length = 0 := by
      have := (List.getElem?_eq_some_iff.mp e).1
      simp at this
      omega
    rw [e0] at e
    cases e
    have : j = l.length := by omega
    rw [this]
    exact p
theorem WfL.cf (h : WfL c l) : WfL c (l.map cf) := fun j u e => by
  rw [List.length_map]
  rw [List.getElem?_map] at e
  cases q : l[j]? with
  | none => rw [q] at e; cases e
  | some v =>
    rw [q] at e
    cases e
    have p := h j v q
    exact ⟨p.num, p.kd, p.wr, p.rd, p.str⟩
theorem end_ops {st : Str} : (endH s k o st).ops = s.ops.set k { o with stage := st, over := some s.past.length } := by
  simp only [endH]
  split <;> rfl
theorem end_opn {st : Str} : (endH s k o st).opn = s.opn ∨ (endH s k o st).opn = none := by
  simp only [endH]
  split
  · exact .inr rfl
  · exact .inl rfl
theorem set_set' (a b : OpS) : (l.set k a).set k b = l.set k b := by simp [List.set_set]
theorem OpWf.done (h : OpWf c n k o) {st : Str} (e : st = "ended" ∨ st = "stopped") {x : Option Nat} : OpWf c n k { o with stage := st, over := x } := by
  refine ⟨h.num, h.kd, fun _ a b => ?_, fun _ => ?_, ?_⟩
  · rcases e with e | e
    · exact (a e).elim
    · exact (b e).elim
  · rcases e with e | e
    · exact .inr (.inr (.inr (.inr (.inl e))))
    · exact .inr (.inr (.inr (.inr (.inr e))))
  · show PyData.strOk st = true
    rcases e with e | e <;> rw [e] <;> decide +kernel
theorem Wf.end' (W : Wf c s) (p : OpWf c s.ops.length k o) {st : Str} (e : st = "ended" ∨ st = "stopped") : Wf c (endH s k o st) := by
  refine ⟨?_, fun l h => ?_⟩
  · rw [end_ops]
    exact W.ops.set (p.done e)
  · rw [end_ops, List.length_set]
    rcases end_opn (s := s) (k := k) (o := o) (st := st) with z | z
    · rw [z] at h
      exact W.opn l h
    · rw [z] at h
      cases h
theorem Wf.put (W : Wf c s) (p : OpWf c s.ops.length k o') : Wf c (s.put k o') := ⟨W.ops.set p, fun l h => by
  show l < (s.ops.set k o').length
  rw [List.length_set]
  exact W.opn l h⟩
theorem put_len : (s.put k o').ops.length = s.ops.length := List.length_set ..
theorem Wf.of (W : Wf c s) {s' : HS} (h1 : s'.ops = s.ops) (h2 : s'.opn = s.opn) : Wf c s' := ⟨by rw [h1]; exact W.ops, by rw [h1, h2]; exact W.opn⟩
theorem hold_opn {v : Nat} : (holdH c s v).opn = s.opn := by
  unfold holdH
  split <;> rfl
theorem Wf.hold (W : Wf c s) {v : Nat} : Wf c (holdH c s v) := W.of hold_ops hold_opn
/-- the op has the step w ahead of it, or is to stop -/
def Ahead (s : HS) (o : OpS) (w : Str) : Prop := w = "stop" ∨ (¬ o.stage = "ended" ∧ ¬ o.stage = "stopped" ∧ nextOf s o = some w)
theorem ahead_stage {w : Str} (h1 : nextOf s o = some w) (h2 : ¬ o.stage = "waits") : o.stage = w := by
  unfold nextOf at h1
  rw [if_neg h2] at h1
  exact Option.some.inj h1
theorem ahead_take {w : Str} (h1 : nextOf s o = some w) (h2 : o.stage = "waits") : w = "take" := by
  unfold nextOf at h1
  rw [if_pos h2] at h1
  split at h1
  · split at h1
    · split at h1
      · exact (Option.some.inj h1).symm
      · cases h1
    · cases h1
  · cases h1
theorem OpWf.wait (h : OpWf c s.ops.length k o) (O : c.Ok) : WaitOk s o := fun e => by
  have nw := ne_words
  rcases h.kd with z | z
  · rcases h.rd z with y | y | ⟨y, _⟩ | ⟨_, l, y, x⟩ | y | y
    · rw [y] at e; exact (nw.2.2.2.2.1.1 e).elim
    · rw [y] at e; exact (nw.2.2.2.2.1.2.1 e).elim
    · rw [y] at e; exact (nw.2.2.2.2.1.2.2 e).elim
    · exact ⟨l, _, y, List.getElem?_eq_getElem x⟩
    · rw [y] at e; exact absurd e (by decide +kernel)
    · rw [y] at e; exact absurd e (by decide +kernel)
  · have n1 : ¬ o.stage = "ended" := fun y => by rw [y] at e; exact absurd e (by decide +kernel)
    have n2 : ¬ o.stage = "stopped" := fun y => by rw [y] at e; exact absurd e (by decide +kernel)
    obtain ⟨a, b, _⟩ := h.wr z n1 n2
    rw [e] at b
    rcases step_word O a with y | y | y <;> rw [y] at b
    · exact (nw.1.1 b.symm).elim
    · exact (nw.1.2.1 b.symm).elim
    · exact (nw.1.2.2 b.symm).elim
/-- a write under way: its step, its word -/
theorem OpWf.write (h : OpWf c s.ops.length k o) (O : c.Ok) {w : Str} (kd : o.kind = "write") (n1 : ¬ o.stage = "ended") (n2 : ¬ o.stage = "stopped") (hn : nextOf s o = some w) :
    o.step < c.steps.length ∧ w = c.steps.getD o.step "" ∧ o.stage = w ∧ (w = "set" → o.version.isSome = true) := by
  have nw := ne_words
  obtain ⟨a, b, d⟩ := h.wr kd n1 n2
  have e : o.stage = w := by
    refine ahead_stage hn fun z => ?_
    rw [b] at z
    rcases step_word O a with y | y | y <;> rw [y] at z
    · exact nw.1.1 z
    · exact nw.1.2.1 z
    · exact nw.1.2.2 z
  exact ⟨a, by rw [← e]; exact b, e, fun z => d (by rw [e]; exact z)⟩
theorem OpWf.read (h : OpWf c s.ops.length k o) (O : c.Ok) {w : Str} (kd : ¬ o.kind = "write") (n1 : ¬ o.stage = "ended") (n2 : ¬ o.stage = "stopped") (hn : nextOf s o = some w) :
    (w = "look" ∧ o.stage = "look") ∨ (w = "fetch" ∧ o.stage = "fetch") ∨ (w = "fill" ∧ o.stage = "fill" ∧ o.version.isSome = true) ∨ (w = "take" ∧ o.stage = "waits" ∧ ∃ l q, o.leader = some l ∧ s.ops[l]? = some q) := by
  have nw := ne_words
  have kr : o.kind = "read" := h.kd.resolve_right kd
  rcases h.rd kr with y | y | ⟨y, v⟩ | ⟨y, _⟩ | y | y
  · have e := ahead_stage hn (by rw [y]; exact nw.2.2.2.2.1.1)
    exact .inl ⟨by rw [← e]; exact y, y⟩
  · have e := ahead_stage hn (by rw [y]; exact nw.2.2.2.2.1.2.1)
    exact .inr (.inl ⟨by rw [← e]; exact y, y⟩)
  · have e := ahead_stage hn (by rw [y]; exact nw.2.2.2.2.1.2.2)
    exact .inr (.inr (.inl ⟨by rw [← e]; exact y, y, v⟩))
  · exact .inr (.inr (.inr ⟨ahead_take hn y, y, h.wait O y⟩))
  · exact (n1 y).elim
  · exact (n2 y).elim
theorem OpWf.opOk (h : OpWf c s.ops.length k o) (O : c.Ok) {w : Str} (a : Ahead s o w) : OpOk c s o w := by
  rcases a with z | ⟨n1, n2, hn⟩
  · exact .inl z
  by_cases kd : o.kind = "write"
  · obtain ⟨a, _, _, d⟩ := h.write O kd n1 n2 hn
    exact .inr (.inl ⟨kd, a, d⟩)
  · refine .inr (.inr ⟨kd, ?_⟩)
    rcases h.read O kd n1 n2 hn with ⟨z, _⟩ | ⟨z, _⟩ | ⟨z, _, v⟩ | ⟨z, _, y⟩
    · exact ⟨fun q => by rw [z] at q; exact absurd q (by decide +kernel), .inl z⟩
    · exact ⟨fun q => by rw [z] at q; exact absurd q (by decide +kernel), .inr (.inl z)⟩
    · exact ⟨fun q => by rw [z] at q; exact absurd q (by decide +kernel), .inr (.inr (.inr v))⟩
    · exact ⟨fun _ => y, .inr (.inr (.inl z))⟩
theorem wr1_ops {w : Str} : (wr1 s k o w).ops = (if w = "store" then s.ops.set k { o with version := some (s.db + 1) } else s.ops.map cf) ∧ (wr1 s k o w).opn = s.opn := by
  unfold wr1
  split <;> exact ⟨rfl, rfl⟩
theorem wr2_ops {w : Str} : (wr2 c s o w).ops = s.ops ∧ (wr2 c s o w).opn = s.opn := by
  unfold wr2
  split
  · split <;> exact ⟨rfl, rfl⟩
  · exact ⟨rfl, rfl⟩
theorem wr3_ops {w : Str} : (wr3 c s o w).ops = s.ops ∧ (wr3 c s o w).opn = s.opn := by
  unfold wr3
  split
  · split
    · exact ⟨hold_ops, hold_opn⟩
    · exact ⟨rfl, rfl⟩
  · exact ⟨rfl, rfl⟩
theorem Wf.write (W : Wf c s) (O : c.Ok) {w : Str} (eo : s.ops[k]? = some o) (kd : o.kind = "write") (n1 : ¬ o.stage = "ended") (n2 : ¬ o.stage = "stopped") (hn : nextOf s o = some w) : Wf c (writeH c s k o w) := by
  have p := W.ops k o eo
  obtain ⟨hst, hw, hse, hv⟩ := p.write O kd n1 n2 hn
  have hlt := (List.getElem?_eq_some_iff.mp eo).1
  have W1 : Wf c (wr1 s k o w) := by
    obtain ⟨e1, e2⟩ := wr1_ops (s := s) (k := k) (o := o) (w := w)
    refine ⟨?_, fun l h => ?_⟩
    · rw [e1]
      split
      · exact W.ops.set ⟨p.num, p.kd, fun a b d => ⟨hst, (p.wr kd n1 n2).2.1, fun _ => rfl⟩, fun r => by rw [kd] at r; exact (ne_words.2.2.2.1 r.symm).elim, p.str⟩
      · exact W.ops.cf
    · rw [e2] at h
      rw [e1]
      split
      · rw [List.length_set]; exact W.opn l h
      · rw [List.length_map]; exact W.opn l h
  have ln1 : (wr1 s k o w).ops.length = s.ops.length := by
    rw [wr1_ops.1]
    split
    · rw [List.length_set]
    · rw [List.length_map]
  have o1 : (wo1 s o w).number = o.number ∧ (wo1 s o w).kind = o.kind ∧ (wo1 s o w).step = o.step ∧ (wo1 s o w).leader = o.leader ∧ (w = "store" → (wo1 s o w).version.isSome = true) := by
    unfold wo1
    split
    · exact ⟨rfl, rfl, rfl, rfl, fun _ => rfl⟩
    · rename_i z
      exact ⟨rfl, rfl, rfl, rfl, fun y => (z y).elim⟩
  obtain ⟨q1, q2, q3, q4, q5⟩ := o1
  have W3 : Wf c (wr3 c (wr2 c (wr1 s k o w) (wo1 s o w) w) (wo1 s o w) w) := (W1.of (wr2_ops (w := w)).1 (wr2_ops (w := w)).2).of (wr3_ops (w := w)).1 (wr3_ops (w := w)).2
  have ln3 : (wr3 c (wr2 c (wr1 s k o w) (wo1 s o w) w) (wo1 s o w) w).ops.length = s.ops.length := by rw [wr3_ops.1, wr2_ops.1, ln1]
  unfold writeH
  generalize wr3 c (wr2 c (wr1 s k o w) (wo1 s o w) w) (wo1 s o w) w = s3 at W3 ln3
  generalize wo1 s o w = u at q1 q2 q3 q4 q5
  have nr : ¬ u.kind = "read" := fun z => by rw [q2, kd] at z; exact ne_words.2.2.2.1 z.symm
  have pe : ∀ (st : Str) (x : Option Nat), (st = "ended" ∨ st = "stopped") → OpWf c s.ops.length k { u with step := u.step + 1, stage := st, over := x } := fun st x e => by
    refine ⟨q1.trans p.num, .inr (q2.trans kd), fun _ a b => ?_, fun r => (nr r).elim, ?_⟩
    · rcases e with e | e
      · exact (a e).elim
      · exact (b e).elim
    · show PyData.strOk st = true
      rcases e with e | e <;> rw [e] <;> decide +kernel
  unfold wr4
  split
  · refine ⟨?_, fun l h => ?_⟩
    · rw [end_ops]
      show WfL c ((s3.ops.set k _).set k _)
      rw [set_set']
      exact W3.ops.set (by rw [ln3]; exact pe _ _ (.inl rfl))
    · rw [end_ops]
      show l < ((s3.ops.set k _).set k _).length
      rw [List.length_set, List.length_set]
      rcases end_opn (s := s3.put k { u with step := u.step + 1 }) (k := k) (o := { u with step := u.step + 1 }) (st := "ended") with z | z
      · rw [z] at h
        exact W3.opn l h
      · rw [z] at h
        cases h
  · rename_i hne
    have hlt2 : u.step + 1 < c.steps.length := by rw [q3] at hne ⊢; omega
    refine W3.put ?_
    rw [ln3]
    refine ⟨q1.trans p.num, .inr (q2.trans kd), fun _ a b => ⟨hlt2, rfl, fun z => ?_⟩, fun r => (nr r).elim, ?_⟩
    · have z : c.steps.getD (u.step + 1) "" = "set" := z
      refine q5 ?_
      rw [hw]
      rw [q3] at z
      exact O.path.set o.step z
    · exact word_str (step_word O hlt2)
theorem Wf.read (W : Wf c s) (O : c.Ok) {w : Str} (eo : s.ops[k]? = some o) (kd : ¬ o.kind = "write") (n1 : ¬ o.stage = "ended") (n2 : ¬ o.stage = "stopped") (hn : nextOf s o = some w) : Wf c (readH c s k o w) := by
  have p := W.ops k o eo
  have hlt := (List.getElem?_eq_some_iff.mp eo).1
  have ed : ∀ (s' : HS) (u : OpS), Wf c s' → s'.ops.length = s.ops.length → u.number = o.number → u.kind = o.kind → Wf c (endH s' k u "ended") := fun s' u W' e1 e2 e3 => by
    refine ⟨?_, fun l h => ?_⟩
    · rw [end_ops]
      refine W'.ops.set ?_
      rw [e1]
      refine ⟨e2.trans p.num, by rw [show ({ u with stage := "ended", over := some s'.past.length } : OpS).kind = o.kind from e3]; exact p.kd, fun _ a _ => (a rfl).elim, fun _ => .inr (.inr (.inr (.inr (.inl rfl)))), (by show PyData.strOk "ended" = true; decide +kernel)⟩
    · rw [end_ops, List.length_set]
      rcases end_opn (s := s') (k := k) (o := u) (st := "ended") with z | z
      · rw [z] at h
        exact W'.opn l h
      · rw [z] at h
        cases h
  have pk : ∀ (u : OpS), u.number = o.number → u.kind = o.kind → (u.stage = "look" ∨ u.stage = "fetch" ∨ (u.stage = "fill" ∧ u.version.isSome = true) ∨ (u.stage = "waits" ∧ ∃ l, u.leader = some l ∧ l < s.ops.length)) → OpWf c s.ops.length k u := fun u e1 e2 e3 => by
    refine ⟨e1.trans p.num, by rw [e2]; exact p.kd, fun z => by rw [e2] at z; exact (kd z).elim, fun _ => ?_, ?_⟩
    · rcases e3 with z | z | z | z
      · exact .inl z
      · exact .inr (.inl z)
      · exact .inr (.inr (.inl z))
      · exact .inr (.inr (.inr (.inl z)))
    · rcases e3 with z | z | ⟨z, _⟩ | ⟨z, _⟩ <;> rw [z] <;> decide +kernel
  have same : ∀ v, Wf c (s.put k { o with version := v }) → True := fun _ _ => trivial
  have raw : ∀ u : OpS, u.number = o.number → u.kind = o.kind → u.stage = o.stage → u.leader = o.leader → (u.stage = "fill" → u.version.isSome = true) → OpWf c s.ops.length k u := fun u e1 e2 e3 e4 e5 => by
    refine ⟨e1.trans p.num, by rw [e2]; exact p.kd, fun z => by rw [e2] at z; exact (kd z).elim, fun r => ?_, by rw [e3]; exact p.str⟩
    rw [e2] at r
    rcases p.rd r with z | z | ⟨z, _⟩ | ⟨z, l, y, x⟩ | z | z
    · exact .inl (e3.trans z)
    · exact .inr (.inl (e3.trans z))
    · exact .inr (.inr (.inl ⟨e3.trans z, e5 (e3.trans z)⟩))
    · exact .inr (.inr (.inr (.inl ⟨e3.trans z, l, e4.trans y, x⟩)))
    · exact .inr (.inr (.inr (.inr (.inl (e3.trans z)))))
    · exact .inr (.inr (.inr (.inr (.inr (e3.trans z)))))
  have cases_ := p.read O kd n1 n2 hn
  unfold readH
  split
  · rename_i z
    refine ed _ _ (W.put (raw _ rfl rfl rfl rfl fun y => ?_)) put_len rfl rfl
    exact z.2
  split
  · rename_i z
    refine W.put (pk _ rfl rfl (.inr (.inr (.inr ⟨rfl, ?_⟩))))
    obtain ⟨l, el⟩ := Option.isSome_iff_exists.mp z.2
    exact ⟨l, el, W.opn l el⟩
  split
  · refine ⟨W.ops.set (pk _ rfl rfl (.inr (.inl rfl))), fun l h => ?_⟩
    show l < (s.ops.set k _).length
    rw [List.length_set]
    have h : (if c.flight = "shared" then some o.number else none) = some l := h
    split at h
    · cases h
      rw [p.num]
      exact hlt
    · cases h
  split
  · have pf : OpWf c s.ops.length k { o with version := some (if c.source = "replica" then s.rep else s.db), stage := "fill" } := pk _ rfl rfl (.inr (.inr (.inl ⟨rfl, rfl⟩)))
    split
    · exact ed _ _ (W.put pf) put_len rfl rfl
    · exact W.put pf
  split
  · rename_i _ _ _ _ z
    refine ed _ _ (W.put (raw _ rfl rfl rfl rfl fun y => ?_)) put_len rfl rfl
    have y : o.stage = "fill" := y
    rcases cases_ with ⟨x, _⟩ | ⟨x, _⟩ | ⟨x, _⟩ | ⟨_, x, _⟩
    · rw [x] at z; exact absurd z (by decide +kernel)
    · rw [x] at z; exact absurd z (by decide +kernel)
    · rw [x] at z; exact absurd z (by decide +kernel)
    · rw [x] at y; exact absurd y (by decide +kernel)
  · split
    · exact ed _ _ W.hold (by rw [hold_ops]) rfl rfl
    · exact ed _ _ W rfl rfl rfl
theorem Wf.op (W : Wf c s) (O : c.Ok) {w : Str} (eo : s.ops[k]? = some o) (a : Ahead s o w) : Wf c (doOp c s k o w) := by
  unfold doOp
  split
  · exact W.end' (W.ops k o eo) (.inr rfl)
  · rename_i nz
    rcases a with z | ⟨n1, n2, hn⟩
    · exact (nz z).elim
    split
    · rename_i kd
      exact W.write O eo kd n1 n2 hn
    · rename_i kd
      exact W.read O eo kd n1 n2 hn
end
end Ca

set_option Elab.async false
set_option linter.all false
set_option maxRecDepth 100000
set_option maxHeartbeats 4000000
namespace Ca
open PySem L2
/-! ### an event that can come, done -/
/-- what an event that can come is -/
inductive EvCase (c : Conf) (s : HS) : Ev → Prop where
  | evict (h : canEvict c s = true) : EvCase c s evictE
  | copy (h : canCopy c s = true) : EvCase c s copyE
  | new (w : Str) (h : w = "look" ∨ w = firstW c) : EvCase c s (w, some (s.ops.length : Int))
  | step (k : Nat) (o : OpS) (w : Str) (e : s.ops[k]? = some o) (h1 : ¬ o.stage = "ended") (h2 : ¬ o.stage = "stopped") (h3 : nextOf s o = some w) : EvCase c s (w, some (k : Int))
  | stop (k : Nat) (o : OpS) (e : s.ops[k]? = some o) (h1 : ¬ o.stage = "ended") (h2 : ¬ o.stage = "stopped") (h3 : c.stop = "stops") : EvCase c s ("stop", some (k : Int))
theorem going_mem {c : Conf} {s : HS} {o : OpS} (W : Wf c s) (h : o ∈ going s) : s.ops[o.number]? = some o ∧ ¬ o.stage = "ended" ∧ ¬ o.stage = "stopped" := by
  obtain ⟨h1, h2⟩ := List.mem_filter.mp h
  obtain ⟨k, hk, e⟩ := List.getElem_of_mem h1
  have e' : s.ops[k]? = some o := by rw [List.getElem?_eq_getElem hk, e]
  have n := (W.ops k o e').num
  rw [n]
  refine ⟨e', ?_⟩
  unfold endedB at h2
  simp at h2
  exact h2
theorem ev_case {c : Conf} {s : HS} {e : Ev} (W : Wf c s) (h : e ∈ evList c s) : EvCase c s e := by
  unfold evList at h
  rcases List.mem_append.mp h with h | h
  · rcases List.mem_append.mp h with h | h
    · rcases List.mem_append.mp h with h | h
      · rcases List.mem_append.mp h with h | h
        · unfold evA at h
          simp only [List.mem_cons, List.not_mem_nil, or_false] at h
          rcases h with z | z <;> rw [z]
          · exact .new _ (.inl rfl)
          · exact .new _ (.inr rfl)
        · unfold evB at h
          obtain ⟨o, ho, eo⟩ := List.mem_filterMap.mp h
          cases en : nextOf s o with
          | none => rw [en] at eo; cases eo
          | some w =>
            rw [en] at eo
            cases eo
            obtain ⟨a, b, d⟩ := going_mem W ho
            exact .step o.number o w a b d en
      · unfold evC at h
        split at h
        · rename_i st
          obtain ⟨o, ho, eo⟩ := List.mem_map.mp h
          rw [← eo]
          obtain ⟨a, b, d⟩ := going_mem W ho
          exact .stop o.number o a b d st
        · cases h
    · unfold evD at h
      split at h
      · rename_i z
        simp at h
        rw [h]
        exact .evict z
      · cases h
  · unfold evE at h
    split at h
    · rename_i z
      simp at h
      rw [h]
      exact .copy z
    · cases h
theorem fst_ne {c : Conf} (O : c.Ok) : ¬ firstW c = "look" ∧ ¬ firstW c = "set" ∧ PyData.strOk (firstW c) = true ∧ ¬ firstW c = "waits" ∧ ¬ firstW c = "ended" ∧ ¬ firstW c = "stopped" ∧ ¬ firstW c = "stop" := by
  have h : firstW c = "drop" ∨ firstW c = "store" := O.path.fst
  rcases h with e | e <;> rw [e] <;> decide +kernel
theorem new_wf {c : Conf} {s : HS} {w : Str} (O : c.Ok) (h : w = "look" ∨ w = firstW c) : OpWf c (s.ops.length + 1) s.ops.length (newOp s w) := by
  rcases h with e | e
  · subst e
    have zk : (newOp s "look").kind = "read" := show (if ("look" : Str) = "look" then ("read" : Str) else "write") = "read" from if_pos rfl
    exact ⟨rfl, .inl zk, fun z => by rw [zk] at z; exact absurd z (by decide +kernel), fun _ => .inl rfl, by show PyData.strOk "look" = true; decide +kernel⟩
  · obtain ⟨n1, n2, n3, _⟩ := fst_ne O
    have z : (newOp s w).kind = "write" := by
      show (if w = "look" then ("read" : Str) else "write") = "write"
      rw [e]
      exact if_neg n1
    exact ⟨rfl, .inr z, fun _ _ _ => ⟨O.slen.1, e, fun y => by
      have y : w = "set" := y
      rw [e] at y
      exact (n2 y).elim⟩, fun y => by rw [z] at y; exact absurd y (by decide +kernel), by show PyData.strOk w = true; rw [e]; exact n3⟩
theorem pre_new {s : HS} {w : Str} : preH s w s.ops.length = { s with ops := s.ops ++ [newOp s w] } := if_pos rfl
theorem pre_old {s : HS} {w : Str} {k : Nat} {o : OpS} (e : s.ops[k]? = some o) : preH s w k = s := if_neg fun z => by
  have := (List.getElem?_eq_some_iff.mp e).1
  omega
theorem Wf.pre {c : Conf} {s : HS} {w : Str} (W : Wf c s) (O : c.Ok) (h : w = "look" ∨ w = firstW c) : Wf c (preH s w s.ops.length) := by
  rw [pre_new]
  exact ⟨W.ops.snoc (new_wf O h), fun l e => by
    show l < (s.ops ++ [newOp s w]).length
    rw [List.length_append]
    exact Nat.lt_of_lt_of_le (W.opn l e) (Nat.le_add_right _ _)⟩
theorem new_next {c : Conf} {s s' : HS} {w : Str} (O : c.Ok) (h : w = "look" ∨ w = firstW c) : ¬ (newOp s w).stage = "ended" ∧ ¬ (newOp s w).stage = "stopped" ∧ nextOf s' (newOp s w) = some w := by
  have n : ¬ w = "waits" ∧ ¬ w = "ended" ∧ ¬ w = "stopped" := by
    rcases h with e | e
    · rw [e]; decide +kernel
    · rw [e]
      obtain ⟨_, _, _, a, b, d, _⟩ := fst_ne O
      exact ⟨a, b, d⟩
  exact ⟨n.2.1, n.2.2, if_neg n.1⟩
theorem doE_at {c : Conf} {s : HS} {k : Nat} {w : Str} {o : OpS} (e : (preH s w k).ops[k]? = some o) : doE c s (w, some (k : Int)) = doOp c (preH s w k) k o w := by
  unfold doE
  rw [if_neg (fun z => by cases z), if_neg (fun z => by cases z)]
  show (match (preH s w (k : Int).toNat).ops[(k : Int).toNat]? with | some o => doOp c (preH s w (k : Int).toNat) (k : Int).toNat o w | none => s) = _
  rw [Int.toNat_natCast, e]
theorem op_len {c : Conf} {s : HS} {k : Nat} {o : OpS} {w : Str} : (doOp c s k o w).ops.length = s.ops.length := by
  have e1 : ∀ (s' : HS) (u : OpS) (st : Str), s'.ops.length = s.ops.length → (endH s' k u st).ops.length = s.ops.length := fun s' u st z => by rw [end_ops, List.length_set, z]
  unfold doOp
  split
  · exact e1 _ _ _ rfl
  split
  · have e2 : (wr3 c (wr2 c (wr1 s k o w) (wo1 s o w) w) (wo1 s o w) w).ops.length = s.ops.length := by
      rw [wr3_ops.1, wr2_ops.1, wr1_ops.1]
      split
      · rw [List.length_set]
      · rw [List.length_map]
    unfold writeH wr4
    split
    · exact e1 _ _ _ (by rw [put_len]; exact e2)
    · rw [put_len]; exact e2
  · unfold readH
    split
    · exact e1 _ _ _ put_len
    split
    · exact put_len
    split
    · exact put_len
    split
    · split
      · exact e1 _ _ _ put_len
      · exact put_len
    split
    · exact e1 _ _ _ put_len
    · split
      · exact e1 _ _ _ (by rw [hold_ops])
      · exact e1 _ _ _ rfl
structure DoneOk (c : Conf) (s : HS) (e : Ev) : Prop where
  ok : EvOk c s e
  str : PyData.strOk e.1 = true
  wf : Wf c (doH c s e)
  len : (doH c s e).ops.length ≤ s.ops.length + 1
theorem Wf.past {c : Conf} {s : HS} (W : Wf c s) (l : List Ev) : Wf c { s with past := l } := ⟨W.ops, W.opn⟩
theorem do_ok {c : Conf} {s : HS} {e : Ev} (W : Wf c s) (O : c.Ok) (h : e ∈ evList c s) : DoneOk c s e := by
  have hc := ev_case W h
  have key : ∀ (k : Nat) (w : Str) (o : OpS), (preH s w k).ops[k]? = some o → k ≤ s.ops.length → Wf c (preH s w k) → Ahead (preH s w k) o w → PyData.strOk w = true → DoneOk c s (w, some (k : Int)) := fun k w o eo hk W1 a st => by
    have W2 := W1.op O eo a
    refine ⟨.inr (.inr ⟨k, w, rfl, hk, fun o' eo' => ?_⟩), st, ?_, ?_⟩
    · rw [eo] at eo'
      cases eo'
      exact (W1.ops k o eo).opOk O a
    · unfold doH
      rw [doE_at eo]
      exact W2.past _
    · unfold doH
      show (doE c s (w, some (k : Int))).ops.length ≤ _
      rw [doE_at eo, op_len]
      unfold preH
      split
      · show (s.ops ++ [newOp s w]).length ≤ _
        rw [List.length_append]
        exact Nat.le_refl _
      · exact Nat.le_succ _
  cases hc with
  | evict z =>
    refine ⟨.inl rfl, by decide +kernel, ?_, ?_⟩
    · unfold doH doE
      rw [if_pos rfl]
      exact ⟨W.ops, W.opn⟩
    · unfold doH doE
      rw [if_pos rfl]
      exact Nat.le_succ _
  | copy z =>
    have n : ¬ copyE = evictE := by decide +kernel
    refine ⟨.inr (.inl rfl), by decide +kernel, ?_, ?_⟩
    · unfold doH doE
      rw [if_neg n, if_pos rfl]
      exact ⟨W.ops, W.opn⟩
    · unfold doH doE
      rw [if_neg n, if_pos rfl]
      exact Nat.le_succ _
  | new w hw =>
    refine key _ w (newOp s w) ?_ (Nat.le_refl _) (W.pre O hw) (.inr (new_next O hw)) ?_
    · rw [pre_new]
      show (s.ops ++ [newOp s w])[s.ops.length]? = _
      rw [List.getElem?_append_right (Nat.le_refl _), Nat.sub_self]
      rfl
    · rcases hw with z | z
      · rw [z]; decide +kernel
      · rw [z]; exact (fst_ne O).2.2.1
  | step k o w eo h1 h2 h3 =>
    have hlt := (List.getElem?_eq_some_iff.mp eo).1
    refine key k w o ?_ (Nat.le_of_lt hlt) ?_ ?_ ?_
    · rw [pre_old eo]; exact eo
    · rw [pre_old eo]; exact W
    · rw [pre_old eo]; exact .inr ⟨h1, h2, h3⟩
    · have p := W.ops k o eo
      by_cases hw : o.stage = "waits"
      · rw [ahead_take h3 hw]; decide +kernel
      · rw [← ahead_stage h3 hw]; exact p.str
  | stop k o eo h1 h2 h3 =>
    have hlt := (List.getElem?_eq_some_iff.mp eo).1
    refine key k "stop" o ?_ (Nat.le_of_lt hlt) ?_ ?_ (by decide +kernel)
    · rw [pre_old eo]; exact eo
    · rw [pre_old eo]; exact W
    · exact .inl rfl
inductive Reach (c : Conf) : HS → Prop where
  | begin : Reach c HS.begin
  | step {s : HS} {e : Ev} (r : Reach c s) (h : e ∈ evList c s) : Reach c (doH c s e)
theorem wf_begin (c : Conf) : Wf c HS.begin := ⟨fun k o e => by simp [HS.begin] at e, fun l e => by simp [HS.begin] at e⟩
theorem Reach.wf {c : Conf} {s : HS} (O : c.Ok) (r : Reach c s) : Wf c s ∧ s.ops.length ≤ s.past.length := by
  induction r with
  | begin => exact ⟨wf_begin c, Nat.le_refl _⟩
  | @step s e r h ih =>
    have d := do_ok ih.1 O h
    refine ⟨d.wf, ?_⟩
    have z : (doH c s e).past.length = s.past.length + 1 := by
      unfold doH
      show (s.past ++ [e]).length = _
      rw [List.length_append]
      rfl
    have := d.len
    omega
theorem do_past {c : Conf} {s : HS} {e : Ev} : (doH c s e).past = s.past ++ [e] := rfl
theorem wait_all {c : Conf} {s : HS} (W : Wf c s) (O : c.Ok) : ∀ o ∈ s.ops, WaitOk s o := fun o h => by
  obtain ⟨k, hk, e⟩ := List.getElem_of_mem h
  exact (W.ops k o (by rw [List.getElem?_eq_getElem hk, e])).wait O
end Ca

set_option Elab.async false
set_option linter.all false
set_option maxRecDepth 100000
set_option maxHeartbeats 4000000
namespace Ca
open PySem L2
theorem ix_seqK {X : Cx} {K : PySem.W.Frag} (h : X.K = K) : IxR X (rIx K) := h ▸ ix_seq
theorem iteP {c : Bool} {A B : Prop} (h : c = true) (a : A) : if c = true then A else B := by
  rw [if_pos h]
  exact a
theorem iteQ {c : Bool} {A B : Prop} (h : c = false) (b : B) : if c = true then A else B := by
  rw [h]
  exact iteF b
/-! ### data at a bounded depth, tracked -/
def Dt (H : Hp) : Nat → V → PyData → Prop
  | n + 1, .ref a, .tuple ds => ∃ xs, H a = some (.tup xs) ∧ xs.length ≤ 1000 ∧ Paired (Dt H n) xs ds
  | n + 1, .ref a, .list ds => ∃ xs, H a = some (.lst xs) ∧ xs.length ≤ 1000 ∧ Paired (Dt H n) xs ds
  | _, .non, .none => True
  | _, .bl b, .bool c => b = c
  | _, .int i, .int j => i = j
  | _, .str x, .str y => x = y
  | _, _, _ => False
theorem Dt.same {H H' : Hp} (S : Same H H') : ∀ {n : Nat} {x : V} {d : PyData}, Dt H n x d → Dt H' n x d
  | 0, x, d, h => by
    cases x <;> cases d <;> first | exact h | (simp [Dt] at h)
  | n + 1, x, d, h => by
    cases x <;> cases d <;> first | exact h | skip
    · obtain ⟨xs, a, b, r⟩ := (show ∃ xs, _ from h)
      exact (show ∃ xs, _ from ⟨xs, S _ _ a, b, Paired.mapP r fun _ _ z => Dt.same S z⟩)
    · obtain ⟨xs, a, b, r⟩ := (show ∃ xs, _ from h)
      exact (show ∃ xs, _ from ⟨xs, S _ _ a, b, Paired.mapP r fun _ _ z => Dt.same S z⟩)
inductive DtC (H : Hp) : Nat → V → PyData → Prop where
  | non (n : Nat) : DtC H n .non .none
  | bl (n : Nat) (b : Bool) : DtC H n (.bl b) (.bool b)
  | int (n : Nat) (i : Int) : DtC H n (.int i) (.int i)
  | str (n : Nat) (x : Str) : DtC H n (.str x) (.str x)
  | tup (n : Nat) (a : Addr) (xs : List V) (ds : List PyData) (h : H a = some (.tup xs)) (l : xs.length ≤ 1000) (r : Paired (Dt H n) xs ds) : DtC H (n + 1) (.ref a) (.tuple ds)
  | lst (n : Nat) (a : Addr) (xs : List V) (ds : List PyData) (h : H a = some (.lst xs)) (l : xs.length ≤ 1000) (r : Paired (Dt H n) xs ds) : DtC H (n + 1) (.ref a) (.list ds)
theorem Dt.c {H : Hp} : ∀ {n : Nat} {x : V} {d : PyData}, Dt H n x d → DtC H n x d
  | 0, x, d, h => by
    cases x <;> cases d <;> simp [Dt] at h
    · exact .non _
    · subst h; exact .bl _ _
    · subst h; exact .int _ _
    · subst h; exact .str _ _
  | n + 1, x, d, h => by
    cases x <;> cases d <;> simp [Dt] at h
    · exact .non _
    · subst h; exact .bl _ _
    · subst h; exact .int _ _
    · subst h; exact .str _ _
    · obtain ⟨xs, a, b, r⟩ := h
      exact .lst _ _ _ _ a b r
    · obtain ⟨xs, a, b, r⟩ := h
      exact .tup _ _ _ _ a b r
def tyN : PyData → String
  | .none => "NoneType"
  | .bool _ => "bool"
  | .int _ => "int"
  | .str _ => "str"
  | .list _ => "list"
  | .tuple _ => "tuple"
  | .dict _ => "dict"
theorem dtc_ty {K : PySem.W.Frag} {H : Hp} {n : Nat} {x : V} {d : PyData} (h : DtC H n x d) : TyX K H x (.type (tyN d)) := by
  cases h with
  | non => exact .base .non
  | bl _ b => exact .base (.bl b)
  | int _ i => exact .base (.int i)
  | str _ x => exact .base (.str x)
  | tup _ a xs ds h l r => exact .base (.tup h)
  | lst _ a xs ds h l r => exact .base (.lst h)
theorem tyx_same {K : PySem.W.Frag} {H H' : Hp} {n : Nat} {x : V} {d : PyData} (h : DtC H n x d) (S : Same H H') : TyX K H' x (.type (tyN d)) := by
  cases h with
  | non => exact .base .non
  | bl _ b => exact .base (.bl b)
  | int _ i => exact .base (.int i)
  | str _ x => exact .base (.str x)
  | tup _ a xs ds h l r => exact .base (.tup (S _ _ h))
  | lst _ a xs ds h l r => exact .base (.lst (S _ _ h))
def isB (T : String) (d : PyData) : Bool := match d with
  | .none => false
  | .bool _ => T == "bool" || T == "int"
  | .int _ => T == "int"
  | .str _ => T == "str"
  | .list _ => T == "list"
  | .tuple _ => T == "tuple"
  | .dict _ => false
theorem kit_d {K : PySem.W.Frag} {H : Hp} {n : Nat} {x : V} {d : PyData} (h : DtC H n x d) (T : String) (hT : T = "list" ∨ T = "tuple" ∨ T = "str" ∨ T = "int" ∨ T = "bool") : PySem.W.kitOne K (.type (tyN d)) (.type T) = some (isB T d) := by
  refine kit_ty ?_
  rcases hT with e | e | e | e | e <;> subst e <;> cases h <;> simp only [tyN, isB] <;> decide +kernel
theorem kit_tl {K : PySem.W.Frag} {H : Hp} {n : Nat} {x : V} {d : PyData} (h : DtC H n x d) : PySem.W.kitAny K (.type (tyN d)) [.type "tuple", .type "list"] = some (isB "tuple" d || isB "list" d) := by
  refine kitAny_cons (kit_d h "tuple" (by simp)) (fun e => ?_) (fun e => by rw [e]; rfl)
  rw [e, Bool.false_or]
  refine kitAny_cons (kit_d h "list" (by simp)) (fun e => ?_) (fun e => e)
  rw [e]
  rfl
@[irreducible] def spAlike (n : Nat) : Sp := fun vs H Q _ => ∃ (x y : V) (d : PyData), vs = [x, y] ∧ Dt H n x d ∧ Dt H n y d ∧ ∀ H', Same H H' → Q (.bl true) H'
theorem alike_i {n : Nat} {x y : V} {d : PyData} {H : Hp} {Q : VK} {E : XK} (h1 : Dt H n x d) (h2 : Dt H n y d) (q : ∀ H', Same H H' → Q (.bl true) H') : spAlike n [x, y] H Q E := by
  unfold spAlike
  exact ⟨x, y, d, rfl, h1, h2, q⟩
section
variable {P : Program} {w : World} {K : PySem.W.Frag} {mg : Str → Option Value} {base : Heap}
/-- the two tests behind the lists and tuples: for what is neither -/
theorem alike_tail (T : Txt K mg) : True := trivial
theorem ok_alike0 (T : Txt K mg) : FnOk P w K mg base CX0 1 T.f_Lalike T.fd_Lalike ["found", "due"] (spAlike 0) := by
  refine T.F_Lalike.ok sc_Lalike (fun vs H Q E h => ?_) (fun cdv A outer s H vs Q E hr h => ?_)
  · unfold spAlike at h
    obtain ⟨x, y, d, rfl, _⟩ := h
    rfl
  · unfold spAlike at h
    obtain ⟨x, y, d, rfl, h1, h2, q⟩ := h
    have c1 := h1.c
    have c2 := h2.c
    refine ⟨_, (pss_cons (ps_if (pt_val (pe_callB call_isiT (by rfl) T.n_isinstance (by decide +kernel) (pa_cons (pv 1) (pa_cons (pe_tup (pa_cons (pe_bltn (v := .ty "tuple") (by rfl) T.n_tuple (by decide +kernel) rfl) (pa_cons (pe_bltn (v := .ty "list") (by rfl) T.n_list (by decide +kernel) rfl) pa_nil))) pa_nil)))) (pss_cons ps_never
      (pss_cons ps_never
      (pss_one ps_never))) pss_nil)
      (pss_cons (ps_if (PW.pt (pw_or (pt_cmpR op_isN (pv 1) pe_non (nomark _)) (pw_or1 (pt_val (pe_callB call_isi (by rfl) T.n_isinstance (by decide +kernel) (pa_cons (pv 1) (pa_cons (pe_bltn (v := .ty "str") (by rfl) T.n_str (by decide +kernel) rfl) pa_nil))))))) (pss_one (ps_ret (pe_and (pe_cmpR op_eq (pv 0) (pv 1) (nomark _)) (pe_one (pe_cmpR op_eq (pe_callB call_isi (by rfl) T.n_isinstance (by decide +kernel) (pa_cons (pv 0) (pa_cons (pe_bltn (v := .ty "str") (by rfl) T.n_str (by decide +kernel) rfl) pa_nil))) (pe_callB call_isi (by rfl) T.n_isinstance (by decide +kernel) (pa_cons (pv 1) (pa_cons (pe_bltn (v := .ty "str") (by rfl) T.n_str (by decide +kernel) rfl) pa_nil))) (nomark _)))))) pss_nil)
      (pss_one (ps_ret (pe_and (pe_callB call_isi (by rfl) T.n_isinstance (by decide +kernel) (pa_cons (pv 0) (pa_cons (pe_bltn (v := .ty "int") (by rfl) T.n_int (by decide +kernel) rfl) pa_nil))) (pe_and (pe_cmpR op_eq (pe_callB call_isi (by rfl) T.n_isinstance (by decide +kernel) (pa_cons (pv 0) (pa_cons (pe_bltn (v := .ty "bool") (by rfl) T.n_bool (by decide +kernel) rfl) pa_nil))) (pe_callB call_isi (by rfl) T.n_isinstance (by decide +kernel) (pa_cons (pv 1) (pa_cons (pe_bltn (v := .ty "bool") (by rfl) T.n_bool (by decide +kernel) rfl) pa_nil))) (nomark _)) (pe_one (pe_cmpR op_eq (pv 0) (pv 1) (nomark _))))))))), ?_⟩
    refine ⟨_, rfl, (by show 2 ≤ sizeLine; decide), fun p np => ⟨_, _, _, _, _, _, rfl, upd_same, .cons (.ty _) (.cons (.ty _) .nil), tyx_same c2 (same_new np), kit_tl c2, _, rfl, ?_⟩⟩
    have S1 := same_new (o := .tup [.ty "tuple", .ty "list"]) np
    generalize upd H p (.tup [.ty "tuple", .ty "list"]) = H1 at S1
    have sq : (isB "tuple" d || isB "list" d) = false := by cases c2 <;> rfl
    rw [sq]
    refine iteF ?_
    cases c1 with
    | non =>
      cases c2
      refine ⟨_, rfl, rfl, _, rfl, ?_⟩
      refine iteP rfl ?_
      refine ⟨_, rfl, _, rfl, rfl, _, rfl, ?_⟩
      refine iteT ?_
      refine ⟨_, rfl, _, _, _, _, false, rfl, .ty _, .base .non, kit_ty (by decide +kernel), _, rfl, _, _, _, _, false, rfl, .ty _, .base .non, kit_ty (by decide +kernel), rfl, ?_⟩
      exact q _ S1
    | str _ z =>
      cases c2
      refine ⟨_, rfl, rfl, _, rfl, ?_⟩
      refine iteQ rfl ?_
      refine ⟨_, rfl, _, _, _, _, true, rfl, .ty _, .base (.str z), kit_ty (by decide +kernel), _, rfl, ?_⟩
      refine iteT ?_
      refine ⟨_, rfl, _, rfl, rfl, _, rfl, ?_⟩
      rw [decide_eq_true (rfl : V.str z = V.str z)]
      refine iteT ?_
      refine ⟨_, rfl, _, _, _, _, true, rfl, .ty _, .base (.str z), kit_ty (by decide +kernel), _, rfl, _, _, _, _, true, rfl, .ty _, .base (.str z), kit_ty (by decide +kernel), rfl, ?_⟩
      exact q _ S1
    | int _ z =>
      cases c2
      refine ⟨_, rfl, rfl, _, rfl, ?_⟩
      refine iteQ rfl ?_
      refine ⟨_, rfl, _, _, _, _, false, rfl, .ty _, .base (.int z), kit_ty (by decide +kernel), _, rfl, ?_⟩
      refine iteF ?_
      refine ⟨_, rfl, _, _, _, _, true, rfl, .ty _, .base (.int z), kit_ty (by decide +kernel), _, rfl, ?_⟩
      refine iteT ?_
      refine ⟨_, rfl, _, _, _, _, false, rfl, .ty _, .base (.int z), kit_ty (by decide +kernel), _, rfl, _, _, _, _, false, rfl, .ty _, .base (.int z), kit_ty (by decide +kernel), rfl, _, rfl, ?_⟩
      refine iteP rfl ?_
      refine ⟨_, rfl, _, rfl, rfl, ?_⟩
      show Q (.bl (decide (V.int z = V.int z))) H1
      rw [decide_eq_true (rfl : V.int z = V.int z)]
      exact q _ S1
    | bl _ z =>
      cases c2
      refine ⟨_, rfl, rfl, _, rfl, ?_⟩
      refine iteQ rfl ?_
      refine ⟨_, rfl, _, _, _, _, false, rfl, .ty _, .base (.bl z), kit_ty (by decide +kernel), _, rfl, ?_⟩
      refine iteF ?_
      refine ⟨_, rfl, _, _, _, _, true, rfl, .ty _, .base (.bl z), kit_ty (by decide +kernel), _, rfl, ?_⟩
      refine iteT ?_
      refine ⟨_, rfl, _, _, _, _, true, rfl, .ty _, .base (.bl z), kit_ty (by decide +kernel), _, rfl, _, _, _, _, true, rfl, .ty _, .base (.bl z), kit_ty (by decide +kernel), rfl, _, rfl, ?_⟩
      refine iteP rfl ?_
      refine ⟨_, rfl, _, rfl, rfl, ?_⟩
      show Q (.bl (decide (V.bl z = V.bl z))) H1
      rw [decide_eq_true (rfl : V.bl z = V.bl z)]
      exact q _ S1
theorem ok_alike (n : Nat) : ∀ (T : Txt K mg), FnOk P w K mg base CX0 (n + 1) T.f_Lalike T.fd_Lalike ["found", "due"] (spAlike n) := by
  induction n with
  | zero => exact ok_alike0
  | succ n ih =>
    intro T
    refine T.F_Lalike.ok sc_Lalike (fun vs H Q E h => ?_) (fun cdv A outer s H vs Q E hr h => ?_)
    · unfold spAlike at h
      obtain ⟨x, y, d, rfl, _⟩ := h
      rfl
    · unfold spAlike at h
      obtain ⟨x, y, d, rfl, h1, h2, q⟩ := h
      have c1 := h1.c
      have c2 := h2.c
      refine ⟨_, (pss_cons (ps_if (pt_val (pe_callB call_isiT (by rfl) T.n_isinstance (by decide +kernel) (pa_cons (pv 1) (pa_cons (pe_tup (pa_cons (pe_bltn (v := .ty "tuple") (by rfl) T.n_tuple (by decide +kernel) rfl) (pa_cons (pe_bltn (v := .ty "list") (by rfl) T.n_list (by decide +kernel) rfl) pa_nil))) pa_nil)))) (pss_cons (ps_if (PW.pt (pw_or (pt_not (pt_val (pe_callB call_isiT (by rfl) T.n_isinstance (by decide +kernel) (pa_cons (pv 0) (pa_cons (pe_tup (pa_cons (pe_bltn (v := .ty "tuple") (by rfl) T.n_tuple (by decide +kernel) rfl) (pa_cons (pe_bltn (v := .ty "list") (by rfl) T.n_list (by decide +kernel) rfl) pa_nil))) pa_nil))))) (pw_or1 (pt_cmpR op_ne (pe_callB call_isi (by rfl) T.n_isinstance (by decide +kernel) (pa_cons (pv 0) (pa_cons (pe_bltn (v := .ty "list") (by rfl) T.n_list (by decide +kernel) rfl) pa_nil))) (pe_callB call_isi (by rfl) T.n_isinstance (by decide +kernel) (pa_cons (pv 1) (pa_cons (pe_bltn (v := .ty "list") (by rfl) T.n_list (by decide +kernel) rfl) pa_nil))) (nomark _))))) (pss_one (ps_ret pe_bl)) pss_nil)
      (pss_cons (ps_if (pt_cmpR op_ne (pe_callB call_len_seq (by rfl) T.n_len (by decide +kernel) (pa_cons (pv 0) pa_nil)) (pe_callB call_len_seq (by rfl) T.n_len (by decide +kernel) (pa_cons (pv 1) pa_nil)) (nomark _)) (pss_one (ps_ret pe_bl)) pss_nil)
      (pss_one (ps_ret (pe_cmpR (op_eqD hr.units) (pe_lc (own := [("k", 2)]) rfl sc_Lalike.nd (pi_range1 rfl T.n_range (pa_cons (pe_callB call_len_seq (by rfl) T.n_len (by decide +kernel) (pa_cons (pv 1) pa_nil)) pa_nil)) (blkOk_by (N := ["found", "due", "k"]) (sc := defScope s_Lalike) (by decide +kernel)) (fun _ _ _ _ _ => (pg_name (i := 2) sc_Lalike.nd rfl (Or.inl rfl))) (fun _ _ _ _ _ => (pts_one (pt_not (pt_val (pe_call (ih T) hr rfl T.m_Lalike T.F_Lalike.kp (b_Lalike T) .nil pass0 (pa_cons (pe_ix (ix_seqK (K := K) rfl) (pv 0) (pv 2) (fun _ _ => rfl)) (pa_cons (pe_ix (ix_seqK (K := K) rfl) (pv 1) (pv 2) (fun _ _ => rfl)) pa_nil))))))) (fun _ _ _ _ _ => (pv 2))) (pe_lst pa_nil) (nomark _)))))) pss_nil)
      (pss_cons (ps_if (PW.pt (pw_or (pt_cmpR op_isN (pv 1) pe_non (nomark _)) (pw_or1 (pt_val (pe_callB call_isi (by rfl) T.n_isinstance (by decide +kernel) (pa_cons (pv 1) (pa_cons (pe_bltn (v := .ty "str") (by rfl) T.n_str (by decide +kernel) rfl) pa_nil))))))) (pss_one (ps_ret (pe_and (pe_cmpR op_eq (pv 0) (pv 1) (nomark _)) (pe_one (pe_cmpR op_eq (pe_callB call_isi (by rfl) T.n_isinstance (by decide +kernel) (pa_cons (pv 0) (pa_cons (pe_bltn (v := .ty "str") (by rfl) T.n_str (by decide +kernel) rfl) pa_nil))) (pe_callB call_isi (by rfl) T.n_isinstance (by decide +kernel) (pa_cons (pv 1) (pa_cons (pe_bltn (v := .ty "str") (by rfl) T.n_str (by decide +kernel) rfl) pa_nil))) (nomark _)))))) pss_nil)
      (pss_one (ps_ret (pe_and (pe_callB call_isi (by rfl) T.n_isinstance (by decide +kernel) (pa_cons (pv 0) (pa_cons (pe_bltn (v := .ty "int") (by rfl) T.n_int (by decide +kernel) rfl) pa_nil))) (pe_and (pe_cmpR op_eq (pe_callB call_isi (by rfl) T.n_isinstance (by decide +kernel) (pa_cons (pv 0) (pa_cons (pe_bltn (v := .ty "bool") (by rfl) T.n_bool (by decide +kernel) rfl) pa_nil))) (pe_callB call_isi (by rfl) T.n_isinstance (by decide +kernel) (pa_cons (pv 1) (pa_cons (pe_bltn (v := .ty "bool") (by rfl) T.n_bool (by decide +kernel) rfl) pa_nil))) (nomark _)) (pe_one (pe_cmpR op_eq (pv 0) (pv 1) (nomark _))))))))), ?_⟩
      refine ⟨_, rfl, (by show 2 ≤ sizeLine; decide), fun p np => ⟨_, _, _, _, _, _, rfl, upd_same, .cons (.ty _) (.cons (.ty _) .nil), tyx_same c2 (same_new np), kit_tl c2, _, rfl, ?_⟩⟩
      have S1 := same_new (o := .tup [.ty "tuple", .ty "list"]) np
      generalize upd H p (.tup [.ty "tuple", .ty "list"]) = H1 at S1
      by_cases sq : (isB "tuple" d || isB "list" d) = true
      · rw [sq]
        refine iteT ?_
        have L2 : ∃ xs ys ds, (Paired (Dt H n) xs ds ∧ Paired (Dt H n) ys ds) ∧ (xs.length ≤ 1000 ∧ ys.length ≤ 1000) ∧ (∃ a b, x = .ref a ∧ y = .ref b ∧ ((H a = some (.tup xs) ∧ H b = some (.tup ys)) ∨ (H a = some (.lst xs) ∧ H b = some (.lst ys)))) := by
          cases c1 with
          | non => simp [isB] at sq
          | bl => simp [isB] at sq
          | int => simp [isB] at sq
          | str => simp [isB] at sq
          | tup _ a xs ds h l r =>
            cases c2 with
            | tup _ b ys ds h' l' r' => exact ⟨xs, ys, ds, ⟨r, r'⟩, ⟨l, l'⟩, a, b, rfl, rfl, .inl ⟨h, h'⟩⟩
          | lst _ a xs ds h l r =>
            cases c2 with
            | lst _ b ys ds h' l' r' => exact ⟨xs, ys, ds, ⟨r, r'⟩, ⟨l, l'⟩, a, b, rfl, rfl, .inr ⟨h, h'⟩⟩
        obtain ⟨xs, ys, ds, ⟨r1, r2⟩, ⟨l1, l2⟩, a, b, rfl, rfl, hh⟩ := L2
        have sqx : ∀ H', Same H H' → (SqL K H' a xs ∨ SqT K H' a xs) := fun H' S => by
          rcases hh with ⟨z, _⟩ | ⟨z, _⟩
          · exact .inr (SqT.of (S _ _ z))
          · exact .inl (SqL.of (S _ _ z))
        have sqy : ∀ H', Same H H' → (SqL K H' b ys ∨ SqT K H' b ys) := fun H' S => by
          rcases hh with ⟨_, z⟩ | ⟨_, z⟩
          · exact .inr (SqT.of (S _ _ z))
          · exact .inl (SqL.of (S _ _ z))
        have ixx : ∀ H' (i : Nat) (z : V) (Q' : VK), Same H H' → xs[i]? = some z → Q' z H' → rIx K (.ref a) (.int ((0 : Int) + (i : Int))) H' Q' := fun H' i z Q' S e k => by
          rcases sqx H' S with w | w
          · exact .inl ⟨a, xs, _, z, rfl, rfl, w, at_of (j := i) (by omega) e, k⟩
          · exact .inr (.inl ⟨a, xs, _, z, rfl, rfl, w, at_of (j := i) (by omega) e, k⟩)
        have ixy : ∀ H' (i : Nat) (z : V) (Q' : VK), Same H H' → ys[i]? = some z → Q' z H' → rIx K (.ref b) (.int ((0 : Int) + (i : Int))) H' Q' := fun H' i z Q' S e k => by
          rcases sqy H' S with w | w
          · exact .inl ⟨b, ys, _, z, rfl, rfl, w, at_of (j := i) (by omega) e, k⟩
          · exact .inr (.inl ⟨b, ys, _, z, rfl, rfl, w, at_of (j := i) (by omega) e, k⟩)
        have ey : ys.length = xs.length := r2.length.trans r1.length.symm
        refine ⟨_, rfl, (by show 2 ≤ sizeLine; decide), fun p2 np2 => ⟨_, _, _, _, _, _, rfl, upd_same, .cons (.ty _) (.cons (.ty _) .nil), tyx_same c1 (S1.trans (same_new np2)), kit_tl c1, _, rfl, ?_⟩⟩
        rw [sq]
        have S2 := sN S1 (o := .tup [.ty "tuple", .ty "list"]) np2
        generalize upd H1 p2 (.tup [.ty "tuple", .ty "list"]) = H2 at S2
        refine iteF ?_
        refine ⟨_, rfl, _, _, _, _, _, rfl, .ty _, tyx_same c1 S2, kit_d c1 "list" (by simp), _, rfl, _, _, _, _, _, rfl, .ty _, tyx_same c2 S2, kit_d c2 "list" (by simp), rfl, _, rfl, ?_⟩
        rw [decide_eq_true (rfl : V.bl (isB "list" d) = V.bl (isB "list" d))]
        refine iteF ?_
        refine ⟨_, rfl, a, xs, rfl, sqx H2 S2, _, rfl, b, ys, rfl, sqy H2 S2, rfl, _, rfl, ?_⟩
        rw [ey, decide_eq_true (rfl : V.int (xs.length : Int) = V.int (xs.length : Int))]
        refine iteF ?_
        refine ⟨_, rfl, b, ys, rfl, sqy H2 S2, _, rfl, by omega, by omega, fun D nD => ?_⟩
        refine lc_range (lo := 0) (n := (ys.length : Int).toNat) (fun i H' => Same H2 H' ∧ H' D = some (.lst [])) ⟨same_new nD, upd_same⟩ ?_ ?_
        · rintro i H' hi ⟨S, hD⟩
          rw [Int.toNat_natCast] at hi
          have S3 := S2.trans S
          have hx : xs[i]? = some (xs[i]'(by omega)) := List.getElem?_eq_getElem _
          have hy : ys[i]? = some (ys[i]'hi) := List.getElem?_eq_getElem _
          obtain ⟨d1, e1, t1⟩ := pget r1 hx
          obtain ⟨d2, e2, t2⟩ := pget r2 hy
          rw [e1] at e2
          cases e2
          refine ⟨rfl, _, rfl, _, rfl, ixx H' i _ _ S3 hx ⟨_, rfl, _, rfl, ixy H' i _ _ S3 hy ?_⟩⟩
          refine alike_i (t1.same S3) (t2.same S3) fun H4 S4 => ⟨_, rfl, ?_⟩
          refine iteF ?_
          exact ⟨S.trans S4, S4 _ _ hD⟩
        · rintro H' ⟨S, hD⟩
          refine ⟨Nat.zero_le _, fun p5 np5 => ⟨_, _, .lst (SqL.of (same_new np5 _ _ hD)) .nil, .lst (SqL.of upd_same) .nil, rfl, rfl, ?_⟩⟩
          exact q _ (sN (S2.trans S) np5)
      · have sq : (isB "tuple" d || isB "list" d) = false := by simpa using sq
        rw [sq]
        refine iteF ?_
        cases c1 with
        | tup _ a xs ds h l r => simp [isB] at sq
        | lst _ a xs ds h l r => simp [isB] at sq
        | non =>
          cases c2
          refine ⟨_, rfl, rfl, _, rfl, ?_⟩
          refine iteP rfl ?_
          refine ⟨_, rfl, _, rfl, rfl, _, rfl, ?_⟩
          refine iteT ?_
          refine ⟨_, rfl, _, _, _, _, false, rfl, .ty _, .base .non, kit_ty (by decide +kernel), _, rfl, _, _, _, _, false, rfl, .ty _, .base .non, kit_ty (by decide +kernel), rfl, ?_⟩
          exact q _ S1
        | str _ z =>
          cases c2
          refine ⟨_, rfl, rfl, _, rfl, ?_⟩
          refine iteQ rfl ?_
          refine ⟨_, rfl, _, _, _, _, true, rfl, .ty _, .base (.str z), kit_ty (by decide +kernel), _, rfl, ?_⟩
          refine iteT ?_
          refine ⟨_, rfl, _, rfl, rfl, _, rfl, ?_⟩
          rw [decide_eq_true (rfl : V.str z = V.str z)]
          refine iteT ?_
          refine ⟨_, rfl, _, _, _, _, true, rfl, .ty _, .base (.str z), kit_ty (by decide +kernel), _, rfl, _, _, _, _, true, rfl, .ty _, .base (.str z), kit_ty (by decide +kernel), rfl, ?_⟩
          exact q _ S1
        | int _ z =>
          cases c2
          refine ⟨_, rfl, rfl, _, rfl, ?_⟩
          refine iteQ rfl ?_
          refine ⟨_, rfl, _, _, _, _, false, rfl, .ty _, .base (.int z), kit_ty (by decide +kernel), _, rfl, ?_⟩
          refine iteF ?_
          refine ⟨_, rfl, _, _, _, _, true, rfl, .ty _, .base (.int z), kit_ty (by decide +kernel), _, rfl, ?_⟩
          refine iteT ?_
          refine ⟨_, rfl, _, _, _, _, false, rfl, .ty _, .base (.int z), kit_ty (by decide +kernel), _, rfl, _, _, _, _, false, rfl, .ty _, .base (.int z), kit_ty (by decide +kernel), rfl, _, rfl, ?_⟩
          refine iteP rfl ?_
          refine ⟨_, rfl, _, rfl, rfl, ?_⟩
          show Q (.bl (decide (V.int z = V.int z))) H1
          rw [decide_eq_true (rfl : V.int z = V.int z)]
          exact q _ S1
        | bl _ z =>
          cases c2
          refine ⟨_, rfl, rfl, _, rfl, ?_⟩
          refine iteQ rfl ?_
          refine ⟨_, rfl, _, _, _, _, false, rfl, .ty _, .base (.bl z), kit_ty (by decide +kernel), _, rfl, ?_⟩
          refine iteF ?_
          refine ⟨_, rfl, _, _, _, _, true, rfl, .ty _, .base (.bl z), kit_ty (by decide +kernel), _, rfl, ?_⟩
          refine iteT ?_
          refine ⟨_, rfl, _, _, _, _, true, rfl, .ty _, .base (.bl z), kit_ty (by decide +kernel), _, rfl, _, _, _, _, true, rfl, .ty _, .base (.bl z), kit_ty (by decide +kernel), rfl, _, rfl, ?_⟩
          refine iteP rfl ?_
          refine ⟨_, rfl, _, rfl, rfl, ?_⟩
          show Q (.bl (decide (V.bl z = V.bl z))) H1
          rw [decide_eq_true (rfl : V.bl z = V.bl z)]
          exact q _ S1
end
end Ca

set_option Elab.async false
set_option linter.all false
set_option maxRecDepth 100000
set_option maxHeartbeats 4000000
namespace Ca
open PySem L2
/-- the constants of the program's modules -/
structure TxtC (K : PySem.W.Frag) (mg : Str → Option Value) where
  v_PATHS : Addr
  m_PATHS : mg "PATHS" = some (.ref v_PATHS)
  s_PATHS : ∀ H, SqT K H v_PATHS (pathsL.map V.str)
  v_GUARDS : Addr
  m_GUARDS : mg "GUARDS" = some (.ref v_GUARDS)
  s_GUARDS : ∀ H, SqT K H v_GUARDS (guardsL.map V.str)
  v_FLIGHTS : Addr
  m_FLIGHTS : mg "FLIGHTS" = some (.ref v_FLIGHTS)
  s_FLIGHTS : ∀ H, SqT K H v_FLIGHTS (flightsL.map V.str)
  v_SOURCES : Addr
  m_SOURCES : mg "SOURCES" = some (.ref v_SOURCES)
  s_SOURCES : ∀ H, SqT K H v_SOURCES ((["primary", "replica"] : List Str).map V.str)
  v_EVICTIONS : Addr
  m_EVICTIONS : mg "EVICTIONS" = some (.ref v_EVICTIONS)
  s_EVICTIONS : ∀ H, SqT K H v_EVICTIONS ((["evicts", "keeps"] : List Str).map V.str)
  v_STOPS : Addr
  m_STOPS : mg "STOPS" = some (.ref v_STOPS)
  s_STOPS : ∀ H, SqT K H v_STOPS ((["finishes", "stops"] : List Str).map V.str)
  v_PROMISES : Addr
  m_PROMISES : mg "PROMISES" = some (.ref v_PROMISES)
  s_PROMISES : ∀ H, SqT K H v_PROMISES ((["ending", "filled", "forward", "fresh", "linear", "mended", "moving", "quiet", "rest", "single"] : List Str).map V.str)
  t_MOST_EVENTS : Tok
  m_MOST_EVENTS : mg "MOST_EVENTS" = some (.int 60 t_MOST_EVENTS)
theorem in_map {x : Str} {l : List Str} (h : x ∈ l) : inV (.str x) (l.map V.str) = true := by
  unfold inV
  rw [List.any_eq_true]
  exact ⟨.str x, List.mem_map_of_mem h, by simp [eqV]⟩
theorem flat_map (l : List Str) : (l.map V.str).all flatV = true := by
  rw [List.all_eq_true]
  intro y hy
  obtain ⟨x, _, rfl⟩ := List.mem_map.mp hy
  rfl
@[irreducible] def spTri (K : PySem.W.Frag) : Sp := fun vs H Q _ => ∃ (a f s t : Addr) (x y z : Str) (l1 l2 l3 : List Str), vs = [.ref a, .ref f, .ref s, .ref t] ∧ H a = some (.tup [.str x, .str y, .str z]) ∧ SqT K H f (l1.map V.str) ∧ SqT K H s (l2.map V.str) ∧ SqT K H t (l3.map V.str) ∧
  x ∈ l1 ∧ y ∈ l2 ∧ z ∈ l3 ∧ Q (.bl true) H
@[irreducible] def spIsD : Sp := fun vs H Q _ => ∃ (c : Conf) (d : Addr), vs = [.ref d] ∧ H d = some (dT c) ∧ c.Ok ∧ Q (.bl true) H
@[irreducible] def spIsW : Sp := fun vs H Q _ => ∃ (c : Conf) (w : Addr), vs = [.ref w] ∧ H w = some (wT c) ∧ c.Ok ∧ Q (.bl true) H
@[irreducible] def spChD : Sp := fun vs H Q _ => ∃ (c : Conf) (d : Addr), vs = [.ref d] ∧ H d = some (dT c) ∧ c.Ok ∧ Q .non H
@[irreducible] def spChW : Sp := fun vs H Q _ => ∃ (c : Conf) (w : Addr), vs = [.ref w] ∧ H w = some (wT c) ∧ c.Ok ∧ Q .non H
section
variable {K : PySem.W.Frag} {c : Conf} {d w a f s t : Addr} {H : Hp} {Q : VK} {E : XK}
theorem tri_i {x y z : Str} {l1 l2 l3 : List Str} (h : H a = some (.tup [.str x, .str y, .str z])) (h1 : SqT K H f (l1.map V.str)) (h2 : SqT K H s (l2.map V.str)) (h3 : SqT K H t (l3.map V.str)) (m1 : x ∈ l1) (m2 : y ∈ l2) (m3 : z ∈ l3) (q : Q (.bl true) H) :
    spTri K [.ref a, .ref f, .ref s, .ref t] H Q E := by
  unfold spTri
  exact ⟨a, f, s, t, x, y, z, l1, l2, l3, rfl, h, h1, h2, h3, m1, m2, m3, q⟩
theorem isd_i (h : H d = some (dT c)) (O : c.Ok) (q : Q (.bl true) H) : spIsD [.ref d] H Q E := by
  unfold spIsD
  exact ⟨c, d, rfl, h, O, q⟩
theorem isw_i (h : H w = some (wT c)) (O : c.Ok) (q : Q (.bl true) H) : spIsW [.ref w] H Q E := by
  unfold spIsW
  exact ⟨c, w, rfl, h, O, q⟩
theorem chd_i (h : H d = some (dT c)) (O : c.Ok) (q : Q .non H) : spChD [.ref d] H Q E := by
  unfold spChD
  exact ⟨c, d, rfl, h, O, q⟩
theorem chw_i (h : H w = some (wT c)) (O : c.Ok) (q : Q .non H) : spChW [.ref w] H Q E := by
  unfold spChW
  exact ⟨c, w, rfl, h, O, q⟩
end
section
variable {P : Program} {w : World} {K : PySem.W.Frag} {mg : Str → Option Value} {base : Heap}
theorem ok_is_triple (T : Txt K mg) : FnOk P w K mg base CX0 1 T.f_is_triple T.fd_is_triple ["value", "firsts", "seconds", "thirds"] (spTri K) := by
  refine T.F_is_triple.ok sc_is_triple (fun vs H Q E h => ?_) (fun cdv A outer s H vs Q E hr h => ?_)
  · unfold spTri at h
    obtain ⟨a, f, s, t, x, y, z, l1, l2, l3, rfl, _⟩ := h
    rfl
  · unfold spTri at h
    obtain ⟨a, f, s, t, x, y, z, l1, l2, l3, rfl, ha, h1, h2, h3, m1, m2, m3, q⟩ := h
    refine ⟨_, (pss_cons (ps_if (PW.pt (pw_or (pt_not (pt_val (pe_callB call_isi (by rfl) T.n_isinstance (by decide +kernel) (pa_cons (pv 0) (pa_cons (pe_bltn (v := .ty "tuple") (by rfl) T.n_tuple (by decide +kernel) rfl) pa_nil))))) (pw_or1 (pt_cmpR op_ne (pe_callB call_len_seq (by rfl) T.n_len (by decide +kernel) (pa_cons (pv 0) pa_nil)) pe_int (nomark _))))) (pss_one ps_never) pss_nil)
      (pss_one (ps_ret (pe_and (pe_cmpR op_in_seq (pe_ix ix_tup (pv 0) pe_int (fun _ _ => rfl)) (pv 1) (by rfl)) (pe_and (pe_cmpR op_in_seq (pe_ix ix_tup (pv 0) pe_int (fun _ _ => rfl)) (pv 2) (by rfl)) (pe_one (pe_cmpR op_in_seq (pe_ix ix_tup (pv 0) pe_int (fun _ _ => rfl)) (pv 3) (by rfl)))))))), ?_⟩
    refine ⟨_, rfl, _, _, _, _, true, rfl, .ty _, .base (.tup ha), kit_ty (by decide +kernel), _, rfl, ?_⟩
    refine iteF ?_
    refine ⟨_, rfl, _, _, rfl, .inr (SqT.of ha), rfl, _, rfl, iteF ?_⟩
    refine ⟨_, rfl, _, _, _, _, rfl, rfl, SqT.of (ha), rfl, _, rfl, _, _, rfl, .inr h1, rfl, flat_map l1, true, (by show V.bl (inV _ _) = _; rw [in_map m1]), iteT ?_⟩
    refine ⟨_, rfl, _, _, _, _, rfl, rfl, SqT.of (ha), rfl, _, rfl, _, _, rfl, .inr h2, rfl, flat_map l2, true, (by show V.bl (inV _ _) = _; rw [in_map m2]), iteT ?_⟩
    refine ⟨_, rfl, _, _, _, _, rfl, rfl, SqT.of (ha), rfl, _, rfl, _, _, rfl, .inr h3, rfl, flat_map l3, ?_⟩
    show Q (.bl (inV _ _)) H
    rw [in_map m3]
    exact q
theorem ok_is_design (T : Txt K mg) (U : TxtC K mg) : FnOk P w K mg base CX0 2 T.f_is_design T.fd_is_design ["value"] spIsD := by
  refine T.F_is_design.ok sc_is_design (fun vs H Q E h => ?_) (fun cdv A outer s H vs Q E hr h => ?_)
  · unfold spIsD at h
    obtain ⟨c, d, rfl, _⟩ := h
    rfl
  · unfold spIsD at h
    obtain ⟨c, d, rfl, hd, O, q⟩ := h
    refine ⟨_, (pss_one (ps_ret (pe_call (ok_is_triple T) (hr.mono (by decide)) rfl T.m_is_triple T.F_is_triple.kp (b_is_triple T) .nil pass0 (pa_cons (pv 0) (pa_cons (pe_glob (v := .ref U.v_PATHS) rfl U.m_PATHS rfl) (pa_cons (pe_glob (v := .ref U.v_GUARDS) rfl U.m_GUARDS rfl) (pa_cons (pe_glob (v := .ref U.v_FLIGHTS) rfl U.m_FLIGHTS rfl) pa_nil))))))), ?_⟩
    refine ⟨_, rfl, ?_⟩
    exact tri_i hd (U.s_PATHS H) (U.s_GUARDS H) (U.s_FLIGHTS H) O.p O.g O.f q
theorem ok_is_world (T : Txt K mg) (U : TxtC K mg) : FnOk P w K mg base CX0 2 T.f_is_world T.fd_is_world ["value"] spIsW := by
  refine T.F_is_world.ok sc_is_world (fun vs H Q E h => ?_) (fun cdv A outer s H vs Q E hr h => ?_)
  · unfold spIsW at h
    obtain ⟨c, d, rfl, _⟩ := h
    rfl
  · unfold spIsW at h
    obtain ⟨c, d, rfl, hd, O, q⟩ := h
    refine ⟨_, (pss_one (ps_ret (pe_call (ok_is_triple T) (hr.mono (by decide)) rfl T.m_is_triple T.F_is_triple.kp (b_is_triple T) .nil pass0 (pa_cons (pv 0) (pa_cons (pe_glob (v := .ref U.v_SOURCES) rfl U.m_SOURCES rfl) (pa_cons (pe_glob (v := .ref U.v_EVICTIONS) rfl U.m_EVICTIONS rfl) (pa_cons (pe_glob (v := .ref U.v_STOPS) rfl U.m_STOPS rfl) pa_nil))))))), ?_⟩
    refine ⟨_, rfl, ?_⟩
    have two : ∀ {x a b : Str}, x = a ∨ x = b → x ∈ [a, b] := fun h => by
      rcases h with e | e <;> simp [e]
    exact tri_i hd (U.s_SOURCES H) (U.s_EVICTIONS H) (U.s_STOPS H) (two O.s) (two O.e) (two O.t) q
theorem ok_check_design (T : Txt K mg) (U : TxtC K mg) : FnOk P w K mg base CX0 3 T.f_check_design T.fd_check_design ["value"] spChD := by
  refine T.F_check_design.ok sc_check_design (fun vs H Q E h => ?_) (fun cdv A outer s H vs Q E hr h => ?_)
  · unfold spChD at h
    obtain ⟨c, d, rfl, _⟩ := h
    rfl
  · unfold spChD at h
    obtain ⟨c, d, rfl, hd, O, q⟩ := h
    refine ⟨_, (pss_one (ps_if (pt_not (pt_val (pe_call (ok_is_design T U) (hr.mono (by decide)) rfl T.m_is_design T.F_is_design.kp (b_is_design T) .nil pass0 (pa_cons (pv 0) pa_nil)))) (pss_one ps_never) pss_nil)), ?_⟩
    refine ⟨_, rfl, ?_⟩
    refine isd_i hd O ⟨_, rfl, ?_⟩
    exact iteF q
theorem ok_check_world (T : Txt K mg) (U : TxtC K mg) : FnOk P w K mg base CX0 3 T.f_check_world T.fd_check_world ["value"] spChW := by
  refine T.F_check_world.ok sc_check_world (fun vs H Q E h => ?_) (fun cdv A outer s H vs Q E hr h => ?_)
  · unfold spChW at h
    obtain ⟨c, d, rfl, _⟩ := h
    rfl
  · unfold spChW at h
    obtain ⟨c, d, rfl, hd, O, q⟩ := h
    refine ⟨_, (pss_one (ps_if (pt_not (pt_val (pe_call (ok_is_world T U) (hr.mono (by decide)) rfl T.m_is_world T.F_is_world.kp (b_is_world T) .nil pass0 (pa_cons (pv 0) pa_nil)))) (pss_one ps_never) pss_nil)), ?_⟩
    refine ⟨_, rfl, ?_⟩
    refine isw_i hd O ⟨_, rfl, ?_⟩
    exact iteF q
end
end Ca

set_option Elab.async false
set_option linter.all false
set_option maxRecDepth 100000
set_option maxHeartbeats 4000000
namespace Ca
open PySem L2
/-! ### the program's own data -/
structure POp where
  kind : Str
  steps : List Str
  began : Nat
  left : Option Nat
  stopped : Bool
  version : Option Nat
  awaited : Option Nat
  seen : Nat
structure PSt where
  db : Nat
  rep : Nat
  cache : Option Nat
  mark : Nat
  ops : List POp
  leader : Option Nat
  wipes : Nat
  past : List Ev
/-- where a play's parts stand -/
structure PL where
  g : Nat
  d : Addr
  w : Addr
  dx : Addr
  tp : Addr
  lo : Addr
  pa : Addr
  oas : List Addr
  eas : List Addr
def refO (oas : List Addr) : Option Nat → V
  | none => .non
  | some l => match oas[l]? with
    | some a => .ref a
    | none => .non
def opF (oas : List Addr) (o : POp) (ta : Addr) : List (Str × V) :=
  [("kind", .str o.kind), ("steps", .ref ta), ("began", .int (o.began : Int)), ("left", on o.left), ("stopped", .bl o.stopped), ("version", on o.version), ("awaited", refO oas o.awaited), ("wipes_seen", .int (o.seen : Int))]
def plF (c : Conf) (A : PL) (t : PSt) : List (Str × V) :=
  [("design", .ref A.d), ("world", .ref A.w), ("path", .ref A.tp), ("guard", .str c.guard), ("flight", .str c.flight), ("source", .str c.source), ("evictions", .str c.evict), ("stops", .str c.stop), ("database", .int (t.db : Int)), ("replica", .int (t.rep : Int)), ("cache", on t.cache), ("mark", .int (t.mark : Int)), ("operations", .ref A.lo), ("past", .ref A.pa), ("leader", refO A.oas t.leader), ("wipes", .int (t.wipes : Int))]
/-! ### the fields looked up and put -/
section
variable {c : Conf} {oas : List Addr} {o : POp} {t : PSt} {A : PL} {ta : Addr}
theorem l_Operation_kind : (opF oas o ta).lookup ("kind" : Str) = some (.str o.kind) := by kernel_rfl
theorem l_Operation_steps : (opF oas o ta).lookup ("steps" : Str) = some (.ref ta) := by kernel_rfl
theorem l_Operation_began : (opF oas o ta).lookup ("began" : Str) = some (.int (o.began : Int)) := by kernel_rfl
theorem l_Operation_left : (opF oas o ta).lookup ("left" : Str) = some (on o.left) := by kernel_rfl
theorem ln_Operation_had_ended_by : (opF oas o ta).lookup ("had_ended_by" : Str) = none := by kernel_rfl
theorem ln_Operation_was_under_way_from : (opF oas o ta).lookup ("was_under_way_from" : Str) = none := by kernel_rfl
theorem l_Operation_stopped : (opF oas o ta).lookup ("stopped" : Str) = some (.bl o.stopped) := by kernel_rfl
theorem l_Operation_version : (opF oas o ta).lookup ("version" : Str) = some (on o.version) := by kernel_rfl
theorem l_Operation_awaited : (opF oas o ta).lookup ("awaited" : Str) = some (refO oas o.awaited) := by kernel_rfl
theorem l_Operation_wipes_seen : (opF oas o ta).lookup ("wipes_seen" : Str) = some (.int (o.seen : Int)) := by kernel_rfl
theorem ln_Operation_has_ended : (opF oas o ta).lookup ("has_ended" : Str) = none := by kernel_rfl
theorem ln_Operation_is_under_way : (opF oas o ta).lookup ("is_under_way" : Str) = none := by kernel_rfl
theorem ln_Operation_can_step : (opF oas o ta).lookup ("can_step" : Str) = none := by kernel_rfl
theorem ln_Operation_stage : (opF oas o ta).lookup ("stage" : Str) = none := by kernel_rfl
theorem l_Play_design : (plF c A t).lookup ("design" : Str) = some (.ref A.d) := by kernel_rfl
theorem l_Play_world : (plF c A t).lookup ("world" : Str) = some (.ref A.w) := by kernel_rfl
theorem l_Play_past : (plF c A t).lookup ("past" : Str) = some (.ref A.pa) := by kernel_rfl
theorem ln_Play_carry_out : (plF c A t).lookup ("carry_out" : Str) = none := by kernel_rfl
theorem ln_Play_is_at_rest : (plF c A t).lookup ("is_at_rest" : Str) = none := by kernel_rfl
theorem ln_Play_rested : (plF c A t).lookup ("rested" : Str) = none := by kernel_rfl
theorem l_Play_path : (plF c A t).lookup ("path" : Str) = some (.ref A.tp) := by kernel_rfl
theorem l_Play_guard : (plF c A t).lookup ("guard" : Str) = some (.str c.guard) := by kernel_rfl
theorem l_Play_flight : (plF c A t).lookup ("flight" : Str) = some (.str c.flight) := by kernel_rfl
theorem l_Play_source : (plF c A t).lookup ("source" : Str) = some (.str c.source) := by kernel_rfl
theorem l_Play_evictions : (plF c A t).lookup ("evictions" : Str) = some (.str c.evict) := by kernel_rfl
theorem l_Play_stops : (plF c A t).lookup ("stops" : Str) = some (.str c.stop) := by kernel_rfl
theorem l_Play_database : (plF c A t).lookup ("database" : Str) = some (.int (t.db : Int)) := by kernel_rfl
theorem l_Play_replica : (plF c A t).lookup ("replica" : Str) = some (.int (t.rep : Int)) := by kernel_rfl
theorem l_Play_cache : (plF c A t).lookup ("cache" : Str) = some (on t.cache) := by kernel_rfl
theorem l_Play_mark : (plF c A t).lookup ("mark" : Str) = some (.int (t.mark : Int)) := by kernel_rfl
theorem l_Play_operations : (plF c A t).lookup ("operations" : Str) = some (.ref A.lo) := by kernel_rfl
theorem l_Play_leader : (plF c A t).lookup ("leader" : Str) = some (refO A.oas t.leader) := by kernel_rfl
theorem l_Play_wipes : (plF c A t).lookup ("wipes" : Str) = some (.int (t.wipes : Int)) := by kernel_rfl
theorem ln_Play_can_come : (plF c A t).lookup ("can_come" : Str) = none := by kernel_rfl
theorem ln_Play_events : (plF c A t).lookup ("events" : Str) = none := by kernel_rfl
theorem ln_Play_do : (plF c A t).lookup ("do" : Str) = none := by kernel_rfl
theorem ln_Play_step : (plF c A t).lookup ("step" : Str) = none := by kernel_rfl
theorem ln_Play_begun : (plF c A t).lookup ("begun" : Str) = none := by kernel_rfl
theorem ln_Play_look : (plF c A t).lookup ("look" : Str) = none := by kernel_rfl
theorem ln_Play_share : (plF c A t).lookup ("share" : Str) = none := by kernel_rfl
theorem ln_Play_fetch : (plF c A t).lookup ("fetch" : Str) = none := by kernel_rfl
theorem ln_Play_fill : (plF c A t).lookup ("fill" : Str) = none := by kernel_rfl
theorem ln_Play_take : (plF c A t).lookup ("take" : Str) = none := by kernel_rfl
theorem ln_Play_store : (plF c A t).lookup ("store" : Str) = none := by kernel_rfl
theorem ln_Play_drop : (plF c A t).lookup ("drop" : Str) = none := by kernel_rfl
theorem ln_Play_put : (plF c A t).lookup ("put" : Str) = none := by kernel_rfl
theorem ln_Play_lets_fill : (plF c A t).lookup ("lets_fill" : Str) = none := by kernel_rfl
theorem ln_Play_lets_in : (plF c A t).lookup ("lets_in" : Str) = none := by kernel_rfl
theorem ln_Play_hold : (plF c A t).lookup ("hold" : Str) = none := by kernel_rfl
theorem ln_Play_raise_mark : (plF c A t).lookup ("raise_mark" : Str) = none := by kernel_rfl
theorem sz_Operation : (opF oas o ta).length < 1000 := by show 8 < 1000; decide
theorem sz_Play : (plF c A t).length < 1000 := by show 16 < 1000; decide
theorem p_Operation_steps {ta2 : Addr} {st : List Str} : putF "steps" (.ref ta2) (opF oas o ta) = opF oas { o with steps := st } ta2 := by kernel_rfl
theorem p_Operation_left {l : Option Nat} : putF "left" (on l) (opF oas o ta) = opF oas { o with left := l } ta := by kernel_rfl
theorem p_Operation_stopped {b : Bool} : putF "stopped" (.bl b) (opF oas o ta) = opF oas { o with stopped := b } ta := by kernel_rfl
theorem p_Operation_version {v : Option Nat} : putF "version" (on v) (opF oas o ta) = opF oas { o with version := v } ta := by kernel_rfl
theorem p_Operation_awaited {l : Option Nat} : putF "awaited" (refO oas l) (opF oas o ta) = opF oas { o with awaited := l } ta := by kernel_rfl
theorem p_Operation_wipes_seen {n : Nat} : putF "wipes_seen" (.int (n : Int)) (opF oas o ta) = opF oas { o with seen := n } ta := by kernel_rfl
theorem p_Play_database {n : Nat} : putF "database" (.int (n : Int)) (plF c A t) = plF c A { t with db := n } := by kernel_rfl
theorem p_Play_replica {n : Nat} : putF "replica" (.int (n : Int)) (plF c A t) = plF c A { t with rep := n } := by kernel_rfl
theorem p_Play_mark {n : Nat} : putF "mark" (.int (n : Int)) (plF c A t) = plF c A { t with mark := n } := by kernel_rfl
theorem p_Play_wipes {n : Nat} : putF "wipes" (.int (n : Int)) (plF c A t) = plF c A { t with wipes := n } := by kernel_rfl
theorem p_Play_cache {v : Option Nat} : putF "cache" (on v) (plF c A t) = plF c A { t with cache := v } := by kernel_rfl
theorem p_Play_leader {l : Option Nat} : putF "leader" (refO A.oas l) (plF c A t) = plF c A { t with leader := l } := by kernel_rfl
end
/-- an operation's object at a -/
structure OpAt (C : Addr) (H : Hp) (oas : List Addr) (a : Addr) (o : POp) : Prop where
  at_ : ∃ dx ta, H a = some (.ins C dx (opF oas o ta)) ∧ H ta = some (.tup (o.steps.map V.str))
structure OpsAt (C : Addr) (H : Hp) (oas : List Addr) (ops : List POp) : Prop where
  len : oas.length = ops.length
  get : ∀ (k : Nat) a o, oas[k]? = some a → ops[k]? = some o → OpAt C H oas a o
  nd : oas.Nodup
def POp.ended (o : POp) : Bool := o.steps.isEmpty
def POp.under (o : POp) : Bool := !o.stopped && !o.ended
def endedAt (ops : List POp) : Option Nat → Bool
  | none => true
  | some l => match ops[l]? with
    | some q => q.ended
    | none => true
def canStep (ops : List POp) (o : POp) : Bool := o.under && endedAt ops o.awaited
def POp.stage (o : POp) : Str := if o.stopped then "stopped" else if o.ended then "ended" else if o.awaited.isSome then "waits" else o.steps.getD 0 ""
@[irreducible] def spEnded (C : Addr) : Sp := fun vs H Q _ => ∃ (a : Addr) (oas : List Addr) (o : POp), vs = [.ref a] ∧ OpAt C H oas a o ∧ Q (.bl o.ended) H
@[irreducible] def spUnder (C : Addr) : Sp := fun vs H Q _ => ∃ (a : Addr) (oas : List Addr) (o : POp), vs = [.ref a] ∧ OpAt C H oas a o ∧ Q (.bl o.under) H
@[irreducible] def spCan (C : Addr) : Sp := fun vs H Q _ => ∃ (k : Nat) (a : Addr) (oas : List Addr) (ops : List POp) (o : POp), vs = [.ref a] ∧ OpsAt C H oas ops ∧ oas[k]? = some a ∧ ops[k]? = some o ∧ (∀ l, o.awaited = some l → l < ops.length) ∧ Q (.bl (canStep ops o)) H
@[irreducible] def spStage (C : Addr) : Sp := fun vs H Q _ => ∃ (a : Addr) (oas : List Addr) (o : POp), vs = [.ref a] ∧ OpAt C H oas a o ∧ (∀ l, o.awaited = some l → l < oas.length) ∧ Q (.str o.stage) H
section
variable {C a : Addr} {H : Hp} {oas : List Addr} {ops : List POp} {o : POp} {k : Nat} {Q : VK} {E : XK}
theorem refO_some {l : Nat} (h : l < oas.length) : ∃ b, oas[l]? = some b ∧ refO oas (some l) = .ref b := by
  refine ⟨oas[l], List.getElem?_eq_getElem h, ?_⟩
  show (match oas[l]? with | some a => V.ref a | none => V.non) = _
  rw [List.getElem?_eq_getElem h]
theorem ended_i (h : OpAt C H oas a o) (q : Q (.bl o.ended) H) : spEnded C [.ref a] H Q E := by
  unfold spEnded
  exact ⟨a, oas, o, rfl, h, q⟩
theorem under_i (h : OpAt C H oas a o) (q : Q (.bl o.under) H) : spUnder C [.ref a] H Q E := by
  unfold spUnder
  exact ⟨a, oas, o, rfl, h, q⟩
theorem can_i (h : OpsAt C H oas ops) (e : oas[k]? = some a) (e' : ops[k]? = some o) (w : ∀ l, o.awaited = some l → l < ops.length) (q : Q (.bl (canStep ops o)) H) : spCan C [.ref a] H Q E := by
  unfold spCan
  exact ⟨k, a, oas, ops, o, rfl, h, e, e', w, q⟩
theorem stage_i (h : OpAt C H oas a o) (w : ∀ l, o.awaited = some l → l < oas.length) (q : Q (.str o.stage) H) : spStage C [.ref a] H Q E := by
  unfold spStage
  exact ⟨a, oas, o, rfl, h, w, q⟩
end
section
variable {P : Program} {w : World} {K : PySem.W.Frag} {mg : Str → Option Value} {base : Heap}
theorem ok_Operation_has_ended (T : Txt K mg) : FnOk P w K mg base CX0 1 T.f_Operation_has_ended T.fd_Operation_has_ended ["self"] (spEnded T.C_Operation) := by
  refine T.F_Operation_has_ended.ok sc_Operation_has_ended (fun vs H Q E h => ?_) (fun cdv A outer s H vs Q E hr h => ?_)
  · unfold spEnded at h
    obtain ⟨a, oas, o, rfl, _⟩ := h
    rfl
  · unfold spEnded at h
    obtain ⟨a, oas, o, rfl, ⟨dx, ta, h1, h2⟩, q⟩ := h
    refine ⟨_, (pss_one (ps_ret (pe_notT (pe_fld (pv 0) rfl)))), ?_⟩
    refine ⟨_, rfl, _, _, _, _, _, rfl, h1, T.c_Operation, T.a_Operation_steps, l_Operation_steps, _, .inr (.inl ⟨_, SqT.of h2, rfl⟩), ?_⟩
    have e : (!!(o.steps.map V.str).isEmpty) = o.ended := by
      unfold POp.ended
      cases o.steps <;> rfl
    rw [e]
    exact q
theorem ok_Operation_is_under_way (T : Txt K mg) : FnOk P w K mg base CX0 2 T.f_Operation_is_under_way T.fd_Operation_is_under_way ["self"] (spUnder T.C_Operation) := by
  refine T.F_Operation_is_under_way.ok sc_Operation_is_under_way (fun vs H Q E h => ?_) (fun cdv A outer s H vs Q E hr h => ?_)
  · unfold spUnder at h
    obtain ⟨a, oas, o, rfl, _⟩ := h
    rfl
  · unfold spUnder at h
    obtain ⟨a, oas, o, rfl, O, q⟩ := h
    obtain ⟨dx, ta, h1, h2⟩ := id O
    refine ⟨_, (pss_one (ps_ret (pe_and (pe_not (pe_fld (pv 0) rfl)) (pe_one (pe_not (pe_meth0 (pv 0) T.c_Operation T.M_Operation_has_ended (ok_Operation_has_ended T) (hr.mono (by decide)) (b_Operation_has_ended T) .nil pass0)))))), ?_⟩
    refine ⟨_, rfl, _, _, _, _, _, rfl, h1, T.c_Operation, T.a_Operation_stopped, l_Operation_stopped, _, rfl, _, rfl, ?_⟩
    unfold POp.under at q
    cases es : o.stopped with
    | true =>
      rw [es] at q
      exact iteF q
    | false =>
      rw [es] at q
      refine iteT ?_
      refine ⟨_, rfl, _, _, _, rfl, h1, ln_Operation_has_ended, ?_⟩
      exact ended_i O ⟨_, rfl, q⟩
theorem ok_Operation_can_step (T : Txt K mg) : FnOk P w K mg base CX0 3 T.f_Operation_can_step T.fd_Operation_can_step ["self"] (spCan T.C_Operation) := by
  refine T.F_Operation_can_step.ok sc_Operation_can_step (fun vs H Q E h => ?_) (fun cdv A outer s H vs Q E hr h => ?_)
  · unfold spCan at h
    obtain ⟨k, a, oas, ops, o, rfl, _⟩ := h
    rfl
  · unfold spCan at h
    obtain ⟨k, a, oas, ops, o, rfl, L, ea, eo, wt, q⟩ := h
    have O := L.get k a o ea eo
    obtain ⟨dx, ta, h1, h2⟩ := id O
    refine ⟨_, (pss_one (ps_ret (pe_and (pe_meth0 (pv 0) T.c_Operation T.M_Operation_is_under_way (ok_Operation_is_under_way T) (hr.mono (by decide)) (b_Operation_is_under_way T) .nil pass0) (pe_one (pe_or (pe_cmpR op_isN (pe_fld (pv 0) rfl) pe_non (nomark _)) (pe_one (pe_meth0 (pe_fld (pv 0) rfl) T.c_Operation T.M_Operation_has_ended (ok_Operation_has_ended T) (hr.mono (by decide)) (b_Operation_has_ended T) .nil pass0))))))), ?_⟩
    refine ⟨_, rfl, _, _, _, rfl, h1, ln_Operation_is_under_way, ?_⟩
    refine under_i O ⟨_, rfl, ?_⟩
    unfold canStep at q
    cases es : o.under with
    | false =>
      rw [es] at q
      exact iteF q
    | true =>
      rw [es] at q
      refine iteT ?_
      refine ⟨_, rfl, _, _, _, _, _, rfl, h1, T.c_Operation, T.a_Operation_awaited, l_Operation_awaited, ?_⟩
      cases ew : o.awaited with
      | none =>
        rw [ew] at q
        exact ⟨rfl, _, rfl, iteT q⟩
      | some l =>
        rw [ew] at q
        have hl := wt l ew
        obtain ⟨b, hb, er⟩ := refO_some (oas := oas) (l := l) (by rw [L.len]; exact hl)
        obtain ⟨u, hu'⟩ : ∃ u, ops[l]? = some u := ⟨_, List.getElem?_eq_getElem hl⟩
        have OB := L.get l b u hb hu'
        obtain ⟨dx', ta', h1', h2'⟩ := id OB
        have eq0 : endedAt ops (some l) = u.ended := by
          show (match ops[l]? with | some q => q.ended | none => true) = _
          rw [hu']
        rw [eq0] at q
        rw [er]
        refine ⟨rfl, _, rfl, iteF ?_⟩
        have e2 : (opF oas o ta).lookup ("awaited" : Str) = some (.ref b) := by
          rw [l_Operation_awaited, ew, er]
        refine ⟨_, rfl, _, _, _, _, _, rfl, h1, T.c_Operation, T.a_Operation_awaited, e2, ?_⟩
        exact ⟨_, _, _, rfl, h1', ln_Operation_has_ended, ended_i OB q⟩
theorem ok_Operation_stage (T : Txt K mg) : FnOk P w K mg base CX0 2 T.f_Operation_stage T.fd_Operation_stage ["self"] (spStage T.C_Operation) := by
  refine T.F_Operation_stage.ok sc_Operation_stage (fun vs H Q E h => ?_) (fun cdv A outer s H vs Q E hr h => ?_)
  · unfold spStage at h
    obtain ⟨a, oas, o, rfl, _⟩ := h
    rfl
  · unfold spStage at h
    obtain ⟨a, oas, o, rfl, O, wt, q⟩ := h
    obtain ⟨dx, ta, h1, h2⟩ := id O
    refine ⟨_, (pss_cons (ps_if (pt_val (pe_fld (pv 0) rfl)) (pss_one (ps_ret pe_str)) pss_nil)
      (pss_cons (ps_if (pt_val (pe_meth0 (pv 0) T.c_Operation T.M_Operation_has_ended (ok_Operation_has_ended T) (hr.mono (by decide)) (b_Operation_has_ended T) .nil pass0)) (pss_one (ps_ret pe_str)) pss_nil)
      (pss_cons (ps_if (pt_cmpR op_notN (pe_fld (pv 0) rfl) pe_non (nomark _)) (pss_one (ps_ret pe_str)) pss_nil)
      (pss_one (ps_ret (pe_ix ix_tup (pe_fld (pv 0) rfl) pe_int (fun _ _ => rfl))))))), ?_⟩
    refine ⟨_, rfl, _, _, _, _, _, rfl, h1, T.c_Operation, T.a_Operation_stopped, l_Operation_stopped, _, rfl, ?_⟩
    unfold POp.stage at q
    refine iteB (fun es => ?_) (fun es => ?_)
    · rw [if_pos es] at q
      exact q
    rw [es, if_neg (by decide)] at q
    refine ⟨_, rfl, _, _, _, rfl, h1, ln_Operation_has_ended, ?_⟩
    refine ended_i O ⟨_, rfl, ?_⟩
    refine iteB (fun ee => ?_) (fun ee => ?_)
    · rw [if_pos ee] at q
      exact q
    rw [ee, if_neg (by decide)] at q
    refine ⟨_, rfl, _, _, _, _, _, rfl, h1, T.c_Operation, T.a_Operation_awaited, l_Operation_awaited, rfl, _, rfl, ?_⟩
    cases ew : o.awaited with
    | some l =>
      obtain ⟨b, hb, er⟩ := refO_some (oas := oas) (l := l) (wt l ew)
      rw [ew] at q
      rw [er]
      exact iteT q
    | none =>
      rw [ew] at q
      refine iteF ?_
      have hs : ∃ x r, o.steps = x :: r := by
        unfold POp.ended at ee
        cases z : o.steps with
        | nil => rw [z] at ee; cases ee
        | cons x r => exact ⟨x, r, rfl⟩
      obtain ⟨x, r, hs⟩ := hs
      rw [hs] at q
      have q : Q (.str x) H := q
      refine ⟨_, rfl, _, _, _, _, _, rfl, h1, T.c_Operation, T.a_Operation_steps, l_Operation_steps, ?_⟩
      exact ⟨_, _, _, _, rfl, rfl, SqT.of h2, (by rw [hs]; exact at_of (j := 0) (by omega) rfl), q⟩
end
end Ca

set_option Elab.async false
set_option linter.all false
set_option maxRecDepth 100000
set_option maxHeartbeats 4000000
namespace Ca
open PySem L2
def PF (p : Addr) (A : PL) : Addr → Prop := fun b => b = p ∨ b = A.lo ∨ b = A.pa ∨ b ∈ A.oas.drop A.g
theorem mem_drop {l : List Addr} {g k : Nat} {a : Addr} (h : g ≤ k) (e : l[k]? = some a) : a ∈ l.drop g := by
  refine List.mem_of_getElem? (i := k - g) ?_
  rw [List.getElem?_drop, show g + (k - g) = k by omega]
  exact e
/-- a play's object at p -/
structure PlayAt (C D : Addr) (c : Conf) (H : Hp) (p : Addr) (A : PL) (t : PSt) : Prop where
  at_ : H p = some (.ins D A.dx (plF c A t))
  tp : H A.tp = some (.tup (c.steps.map V.str))
  lo : H A.lo = some (.lst ((A.oas.drop A.g).map V.ref))
  gl : A.g ≤ A.oas.length
  ops : OpsAt C H A.oas t.ops
  dd : H A.d = some (dT c)
  ww : H A.w = some (wT c)
  pa : H A.pa = some (.lst (A.eas.map V.ref))
  evs : EvsAt H (A.eas.map V.ref) t.past
  nl : A.lo ≠ A.pa
  lw : ∀ l, t.leader = some l → l < t.ops.length
  aw : ∀ (k : Nat) o l, t.ops[k]? = some o → o.awaited = some l → l < t.ops.length
def PSt.put (t : PSt) (k : Nat) (o : POp) : PSt := { t with ops := t.ops.set k o }
section
variable {C D p : Addr} {c : Conf} {H H' : Hp} {A : PL} {t t' : PSt} {k : Nat} {a : Addr} {o o' : POp} {oas : List Addr}
theorem OpAt.same (h : OpAt C H oas a o) (s : Same H H') : OpAt C H' oas a o := by
  obtain ⟨dx, ta, h1, h2⟩ := h
  exact ⟨dx, ta, s _ _ h1, s _ _ h2⟩
theorem OpsAt.same {ops : List POp} (h : OpsAt C H oas ops) (s : Same H H') : OpsAt C H' oas ops := ⟨h.len, fun k a o e e' => (h.get k a o e e').same s, h.nd⟩
theorem PlayAt.same (L : PlayAt C D c H p A t) (s : Same H H') : PlayAt C D c H' p A t := ⟨s _ _ L.at_, s _ _ L.tp, s _ _ L.lo, L.gl, L.ops.same s, s _ _ L.dd, s _ _ L.ww, s _ _ L.pa, L.evs.same s, L.nl, L.lw, L.aw⟩
theorem PlayAt.new {q : Addr} {u : HO} (L : PlayAt C D c H p A t) (n : H q = none) : PlayAt C D c (upd H q u) p A t := L.same (same_new n)
theorem OpsAt.ofAt {ops : List POp} (h : OpsAt C H oas ops) (e : oas[k]? = some a) : ∃ o, ops[k]? = some o ∧ OpAt C H oas a o := by
  have hlt : k < ops.length := by
    rw [← h.len]
    exact (List.getElem?_eq_some_iff.mp e).1
  exact ⟨ops[k], List.getElem?_eq_getElem hlt, h.get k a _ e (List.getElem?_eq_getElem hlt)⟩
theorem OpsAt.ofOp {ops : List POp} (h : OpsAt C H oas ops) (e : ops[k]? = some o) : ∃ a, oas[k]? = some a ∧ OpAt C H oas a o := by
  have hlt : k < oas.length := by
    rw [h.len]
    exact (List.getElem?_eq_some_iff.mp e).1
  exact ⟨oas[k], List.getElem?_eq_getElem hlt, h.get k _ o (List.getElem?_eq_getElem hlt) e⟩
theorem PlayAt.ne_op (L : PlayAt C D c H p A t) (e : A.oas[k]? = some a) : a ≠ p := by
  obtain ⟨o, _, ⟨dx, ta, h1, _⟩⟩ := L.ops.ofAt e
  intro z
  rw [z, L.at_] at h1
  have z2 := Option.some.inj h1
  have z3 := congrArg List.length (HO.ins.inj z2).2.2
  exact absurd z3 (by show ¬ (16 : Nat) = 8; decide)
/-- the play's own fields change -/
theorem evs_put {q : Addr} {u u' : HO} {xs : List V} {es : List Ev} (x : EvsAt H xs es) (h : H q = some u) (n : ∀ ys, u ≠ .tup ys) : EvsAt (upd H q u') xs es := Paired.mapP x fun _ _ ⟨t, a, b⟩ => ⟨t, a, by
  rw [upd_ne (fun z => by rw [z, h] at b; exact n _ (Option.some.inj b))]
  exact b⟩
theorem PlayAt.hput (L : PlayAt C D c H p A t) (eo : t'.ops = t.ops) (ep : t'.past = t.past) (lw : ∀ l, t'.leader = some l → l < t.ops.length) : PlayAt C D c (upd H p (.ins D A.dx (plF c A t'))) p A t' := by
  have n : ∀ {b : Addr} {u : HO}, H b = some u → (∀ C dx fs, u ≠ .ins C dx fs) → b ≠ p := fun {b u} e q z => by
    rw [z, L.at_] at e
    exact q _ _ _ (Option.some.inj e).symm
  refine ⟨upd_same, ?_, ?_, L.gl, ⟨by rw [eo]; exact L.ops.len, fun k a o e e' => ?_, L.ops.nd⟩, ?_, ?_, ?_, ?_, L.nl, by rw [eo]; exact lw, by rw [eo]; exact L.aw⟩
  · rw [upd_ne (n L.tp (by intro _ _ _ z; cases z))]; exact L.tp
  · rw [upd_ne (n L.lo (by intro _ _ _ z; cases z))]; exact L.lo
  · rw [eo] at e'
    obtain ⟨dx, ta, h1, h2⟩ := L.ops.get k a o e e'
    exact ⟨dx, ta, by rw [upd_ne (L.ne_op e)]; exact h1, by rw [upd_ne (n h2 (by intro _ _ _ z; cases z))]; exact h2⟩
  · rw [upd_ne (n L.dd (by intro _ _ _ z; cases z))]; exact L.dd
  · rw [upd_ne (n L.ww (by intro _ _ _ z; cases z))]; exact L.ww
  · rw [upd_ne (n L.pa (by intro _ _ _ z; cases z))]; exact L.pa
  · rw [ep]; exact evs_put L.evs L.at_ (by intro _ z; cases z)
/-- one operation's fields change -/
theorem PlayAt.oput {dx ta' : Addr} (L : PlayAt C D c H p A t) (e : A.oas[k]? = some a) (eo : t.ops[k]? = some o) (ha : ∃ ta, H a = some (.ins C dx (opF A.oas o ta))) (ht : H ta' = some (.tup (o'.steps.map V.str))) (hw : ∀ l, o'.awaited = some l → l < t.ops.length) :
    PlayAt C D c (upd H a (.ins C dx (opF A.oas o' ta'))) p A (t.put k o') := by
  obtain ⟨ta, ha⟩ := ha
  have n : ∀ {b : Addr} {u : HO}, H b = some u → (∀ C dx fs, u ≠ .ins C dx fs) → b ≠ a := fun {b u} e q z => by
    rw [z, ha] at e
    exact q _ _ _ (Option.some.inj e).symm
  have hlt : k < t.ops.length := (List.getElem?_eq_some_iff.mp eo).1
  refine ⟨?_, ?_, ?_, L.gl, ⟨?_, fun j b u q1 q2 => ?_, L.ops.nd⟩, ?_, ?_, ?_, evs_put L.evs ha (by intro _ z; cases z), L.nl, fun l z => ?_, fun j u l q1 q2 => ?_⟩
  · rw [upd_ne (L.ne_op e).symm]; exact L.at_
  · rw [upd_ne (n L.tp (by intro _ _ _ z; cases z))]; exact L.tp
  · rw [upd_ne (n L.lo (by intro _ _ _ z; cases z))]; exact L.lo
  · show A.oas.length = (t.ops.set k o').length
    rw [List.length_set]
    exact L.ops.len
  · have q2' : (t.ops.set k o')[j]? = some u := q2
    by_cases hj : j = k
    · subst hj
      rw [e] at q1
      cases q1
      rw [List.getElem?_set_self hlt] at q2'
      cases q2'
      exact ⟨dx, ta', upd_same, by rw [upd_ne (n ht (by intro _ _ _ z; cases z))]; exact ht⟩
    · rw [List.getElem?_set_ne (Ne.symm hj)] at q2'
      have nb : b ≠ a := fun z => by
        subst z
        exact hj (nd_ix L.ops.nd q1 e)
      obtain ⟨dx2, ta2, h1, h2⟩ := L.ops.get j b u q1 q2'
      exact ⟨dx2, ta2, by rw [upd_ne nb]; exact h1, by rw [upd_ne (n h2 (by intro _ _ _ z; cases z))]; exact h2⟩
  · rw [upd_ne (n L.dd (by intro _ _ _ z; cases z))]; exact L.dd
  · rw [upd_ne (n L.ww (by intro _ _ _ z; cases z))]; exact L.ww
  · rw [upd_ne (n L.pa (by intro _ _ _ z; cases z))]; exact L.pa
  · show l < (t.ops.set k o').length
    rw [List.length_set]
    exact L.lw l z
  · show l < (t.ops.set k o').length
    rw [List.length_set]
    have q1' : (t.ops.set k o')[j]? = some u := q1
    by_cases hj : j = k
    · subst hj
      rw [List.getElem?_set_self hlt] at q1'
      cases q1'
      exact hw l q2
    · rw [List.getElem?_set_ne (Ne.symm hj)] at q1'
      exact L.aw j u l q1' q2
theorem refO_app {l : Option Nat} (h : ∀ j, l = some j → j < oas.length) : refO (oas ++ [a]) l = refO oas l := by
  cases l with
  | none => rfl
  | some j =>
    have e : (oas ++ [a])[j]? = oas[j]? := List.getElem?_append_left (h j rfl)
    show (match (oas ++ [a])[j]? with | some a => V.ref a | none => V.non) = (match oas[j]? with | some a => V.ref a | none => V.non)
    rw [e]
theorem opF_app {ta : Addr} (h : ∀ j, o.awaited = some j → j < oas.length) : opF (oas ++ [a]) o ta = opF oas o ta := by
  unfold opF
  rw [refO_app h]
/-- a new operation at a is appended -/
theorem PlayAt.opush {dx ta : Addr} (L : PlayAt C D c H p A t) (na : ¬ a ∈ A.oas) (ha : H a = some (.ins C dx (opF [] o ta))) (ht : H ta = some (.tup (o.steps.map V.str))) (w0 : o.awaited = none) :
    PlayAt C D c (upd H A.lo (.lst ((A.oas.drop A.g).map V.ref ++ [.ref a]))) p { A with oas := A.oas ++ [a] } { t with ops := t.ops ++ [o] } := by
  have n : ∀ {b : Addr} {u : HO}, H b = some u → (∀ xs, u ≠ .lst xs) → b ≠ A.lo := fun {b u} e q z => by
    rw [z, L.lo] at e
    exact q _ (Option.some.inj e).symm
  refine ⟨?_, ?_, ?_, by show A.g ≤ (A.oas ++ [a]).length; rw [List.length_append]; exact Nat.le_trans L.gl (Nat.le_add_right _ _), ⟨?_, fun j b u q1 q2 => ?_, ?_⟩, ?_, ?_, ?_, evs_put L.evs L.lo (by intro _ z; cases z), L.nl, fun l z => ?_, fun j u l q1 q2 => ?_⟩
  · show upd H A.lo _ p = some (.ins D A.dx (plF c { A with oas := A.oas ++ [a] } _))
    rw [upd_ne (n L.at_ (by intro _ z; cases z)), L.at_]
    unfold plF
    show _ = some (HO.ins D A.dx [_, _, _, _, _, _, _, _, _, _, _, _, _, _, ("leader", refO (A.oas ++ [a]) t.leader), _])
    rw [refO_app (fun j z => by rw [L.ops.len]; exact L.lw j z)]
  · show upd H A.lo _ A.tp = _
    rw [upd_ne (n L.tp (by intro _ z; cases z))]
    exact L.tp
  · show upd H A.lo _ A.lo = some (.lst (((A.oas ++ [a]).drop A.g).map V.ref))
    rw [upd_same, List.drop_append_of_le_length L.gl, List.map_append]
    rfl
  · show (A.oas ++ [a]).length = (t.ops ++ [o]).length
    rw [List.length_append, List.length_append, L.ops.len]
    rfl
  · have q1' : (A.oas ++ [a])[j]? = some b := q1
    have q2' : (t.ops ++ [o])[j]? = some u := q2
    by_cases hj : j < A.oas.length
    · rw [List.getElem?_append_left hj] at q1'
      rw [List.getElem?_append_left (by rw [← L.ops.len]; exact hj)] at q2'
      obtain ⟨dx2, ta2, h1, h2⟩ := L.ops.get j b u q1' q2'
      refine ⟨dx2, ta2, ?_, ?_⟩
      · show upd H A.lo _ b = some (.ins C dx2 (opF (A.oas ++ [a]) u ta2))
        rw [upd_ne (n h1 (by intro _ z; cases z)), h1, opF_app (fun l z => by rw [L.ops.len]; exact L.aw j u l q2' z)]
      · rw [upd_ne (n h2 (by intro _ z; cases z))]
        exact h2
    · rw [List.getElem?_append_right (by omega)] at q1'
      rw [List.getElem?_append_right (by rw [← L.ops.len]; omega)] at q2'
      have e0 : j - A.oas.length = 0 := by
        have := (List.getElem?_eq_some_iff.mp q1').1
        simp at this
        omega
      rw [e0] at q1'
      rw [← L.ops.len, e0] at q2'
      cases q1'
      cases q2'
      refine ⟨dx, ta, ?_, ?_⟩
      · show upd H A.lo _ a = some (.ins C dx (opF (A.oas ++ [a]) o ta))
        rw [upd_ne (n ha (by intro _ z; cases z)), ha]
        unfold opF
        rw [w0]
        rfl
      · rw [upd_ne (n ht (by intro _ z; cases z))]
        exact ht
  · show (A.oas ++ [a]).Nodup
    rw [List.nodup_append]
    refine ⟨L.ops.nd, by simp, fun x hx y hy => ?_⟩
    simp at hy
    subst hy
    exact fun z => na (by rw [← z]; exact hx)
  · show upd H A.lo _ A.d = _
    rw [upd_ne (n L.dd (by intro _ z; cases z))]; exact L.dd
  · show upd H A.lo _ A.w = _
    rw [upd_ne (n L.ww (by intro _ z; cases z))]; exact L.ww
  · show upd H A.lo _ A.pa = _
    rw [upd_ne L.nl.symm]; exact L.pa
  · show l < (t.ops ++ [o]).length
    rw [List.length_append]
    have := L.lw l z
    omega
  · show l < (t.ops ++ [o]).length
    rw [List.length_append]
    have q1' : (t.ops ++ [o])[j]? = some u := q1
    by_cases hj : j < t.ops.length
    · rw [List.getElem?_append_left hj] at q1'
      have := L.aw j u l q1' q2
      omega
    · rw [List.getElem?_append_right (by omega)] at q1'
      have e0 : j - t.ops.length = 0 := by
        have := (List.getElem?_eq_some_iff.mp q1').1
        simp at this
        omega
      rw [e0] at q1'
      cases q1'
      rw [w0] at q2
      cases q2
/-- an event at ea is noted -/
theorem PlayAt.ppush {ea : Addr} {e : Ev} (L : PlayAt C D c H p A t) (h : H ea = some (.tup (evV e))) :
    PlayAt C D c (upd H A.pa (.lst (A.eas.map V.ref ++ [.ref ea]))) p { A with eas := A.eas ++ [ea] } { t with past := t.past ++ [e] } := by
  have n : ∀ {b : Addr} {u : HO}, H b = some u → (∀ xs, u ≠ .lst xs) → b ≠ A.pa := fun {b u} e q z => by
    rw [z, L.pa] at e
    exact q _ (Option.some.inj e).symm
  refine ⟨?_, ?_, ?_, L.gl, ⟨L.ops.len, fun j b u q1 q2 => ?_, L.ops.nd⟩, ?_, ?_, ?_, ?_, L.nl, L.lw, L.aw⟩
  · show upd H A.pa _ p = some (.ins D A.dx (plF c A t))
    rw [upd_ne (n L.at_ (by intro _ z; cases z))]; exact L.at_
  · show upd H A.pa _ A.tp = _
    rw [upd_ne (n L.tp (by intro _ z; cases z))]; exact L.tp
  · show upd H A.pa _ A.lo = _
    rw [upd_ne L.nl]; exact L.lo
  · obtain ⟨dx2, ta2, h1, h2⟩ := L.ops.get j b u q1 q2
    exact ⟨dx2, ta2, by rw [upd_ne (n h1 (by intro _ z; cases z))]; exact h1, by rw [upd_ne (n h2 (by intro _ z; cases z))]; exact h2⟩
  · show upd H A.pa _ A.d = _
    rw [upd_ne (n L.dd (by intro _ z; cases z))]; exact L.dd
  · show upd H A.pa _ A.w = _
    rw [upd_ne (n L.ww (by intro _ z; cases z))]; exact L.ww
  · show upd H A.pa _ A.pa = some (.lst ((A.eas ++ [ea]).map V.ref))
    rw [upd_same, List.map_append]
    rfl
  · show EvsAt _ ((A.eas ++ [ea]).map V.ref) (t.past ++ [e])
    rw [List.map_append]
    refine Paired.app (evs_put L.evs L.pa (by intro _ z; cases z)) (.cons ⟨ea, rfl, ?_⟩ .nil)
    rw [upd_ne (n h (by intro _ z; cases z))]; exact h
end
/-- a play whose list holds all its operations -/
structure Play0 (C D : Addr) (c : Conf) (H : Hp) (p : Addr) (A : PL) (t : PSt) : Prop extends PlayAt C D c H p A t where
  g0 : A.g = 0
theorem Play0.same {C D p : Addr} {c : Conf} {H H' : Hp} {A : PL} {t : PSt} (L : Play0 C D c H p A t) (s : Same H H') : Play0 C D c H' p A t := ⟨L.toPlayAt.same s, L.g0⟩
theorem Play0.new {C D p q : Addr} {c : Conf} {H : Hp} {A : PL} {t : PSt} {u : HO} (L : Play0 C D c H p A t) (n : H q = none) : Play0 C D c (upd H q u) p A t := L.same (same_new n)
theorem Play0.lo0 {C D p : Addr} {c : Conf} {H : Hp} {A : PL} {t : PSt} (L : Play0 C D c H p A t) : H A.lo = some (.lst (A.oas.map V.ref)) := by
  have z := L.lo
  rw [L.g0] at z
  exact z
/-! ### what the methods do -/
def markP (c : Conf) (t : PSt) (v : Nat) : PSt := if c.guard = "mark" then { t with mark := max t.mark v } else t
def holdP (c : Conf) (t : PSt) (v : Nat) : PSt := markP c { t with cache := some v } v
def inP (c : Conf) (t : PSt) (v : Nat) : Bool :=
  if c.guard = "newer" then (match t.cache with | none => true | some x => decide (x < v)) else if c.guard = "mark" then decide (t.mark ≤ v) else true
def fillB (c : Conf) (t : PSt) (o : POp) (v : Nat) : Bool :=
  if c.guard = "empty" then t.cache.isNone else if c.guard = "token" then decide (o.seen = t.wipes) else inP c t v
/-- a method of a play that changes it -/
def Mut (C D : Addr) (c : Conf) (H : Hp) (p : Addr) (A : PL) (t' : PSt) (Q : VK) : Prop := ∀ H', PlayAt C D c H' p A t' → Keep (PF p A) H H' → Q .non H'
@[irreducible] def spMark (C D : Addr) : Sp := fun vs H Q _ => ∃ (c : Conf) (p : Addr) (A : PL) (t : PSt) (v : Nat), vs = [.ref p, .int (v : Int)] ∧ PlayAt C D c H p A t ∧ Mut C D c H p A (markP c t v) Q
@[irreducible] def spHoldP (C D : Addr) : Sp := fun vs H Q _ => ∃ (c : Conf) (p : Addr) (A : PL) (t : PSt) (v : Nat), vs = [.ref p, .int (v : Int)] ∧ PlayAt C D c H p A t ∧ Mut C D c H p A (holdP c t v) Q
@[irreducible] def spIn (C D : Addr) : Sp := fun vs H Q _ => ∃ (c : Conf) (p : Addr) (A : PL) (t : PSt) (v : Nat), vs = [.ref p, .int (v : Int)] ∧ PlayAt C D c H p A t ∧ Q (.bl (inP c t v)) H
section
variable {C D p : Addr} {c : Conf} {H : Hp} {A : PL} {t : PSt} {v : Nat} {Q : VK} {E : XK}
theorem mark_i (L : PlayAt C D c H p A t) (q : Mut C D c H p A (markP c t v) Q) : spMark C D [.ref p, .int (v : Int)] H Q E := by
  unfold spMark
  exact ⟨c, p, A, t, v, rfl, L, q⟩
theorem hold_ip (L : PlayAt C D c H p A t) (q : Mut C D c H p A (holdP c t v) Q) : spHoldP C D [.ref p, .int (v : Int)] H Q E := by
  unfold spHoldP
  exact ⟨c, p, A, t, v, rfl, L, q⟩
theorem in_i (L : PlayAt C D c H p A t) (q : Q (.bl (inP c t v)) H) : spIn C D [.ref p, .int (v : Int)] H Q E := by
  unfold spIn
  exact ⟨c, p, A, t, v, rfl, L, q⟩
end
section
variable {P : Program} {w : World} {K : PySem.W.Frag} {mg : Str → Option Value} {base : Heap}
theorem ok_Play_raise_mark (T : Txt K mg) : FnOk P w K mg base CX0 1 T.f_Play_raise_mark T.fd_Play_raise_mark ["self", "version"] (spMark T.C_Operation T.C_Play) := by
  refine T.F_Play_raise_mark.ok sc_Play_raise_mark (fun vs H Q E h => ?_) (fun cdv A outer s H vs Q E hr h => ?_)
  · unfold spMark at h
    obtain ⟨c, p, A, t, v, rfl, _⟩ := h
    rfl
  · unfold spMark at h
    obtain ⟨c, p, A, t, v, rfl, L, q⟩ := h
    refine ⟨_, (pss_one (ps_if (pt_cmpR op_eq (pe_fld (pv 0) rfl) pe_str (nomark _)) (pss_one (ps_fld (pv 0) (pe_callB (call_max2 rfl) (by rfl) T.n_max (by decide +kernel) (pa_cons (pe_fld (pv 0) rfl) (pa_cons (pv 1) pa_nil))) rfl)) pss_nil)), ?_⟩
    refine ⟨_, rfl, _, _, _, _, _, rfl, L.at_, T.c_Play, T.a_Play_guard, l_Play_guard, rfl, _, rfl, ?_⟩
    refine iteS (fun e => ?_) (fun e => ?_)
    · have z : markP c t v = { t with mark := max t.mark v } := if_pos e
      rw [z] at q
      refine ⟨_, rfl, _, _, _, _, _, rfl, L.at_, T.c_Play, T.a_Play_mark, l_Play_mark, _, rfl, _, _, rfl, _, rfl, _, _, _, _, rfl, L.at_, T.c_Play, T.a_Play_mark, sz_Play, ?_⟩
      rw [max_nat, p_Play_mark]
      exact q _ (L.hput rfl rfl L.lw) (Keep.refl.put (.inl rfl))
    · have z : markP c t v = t := if_neg e
      rw [z] at q
      exact q _ L Keep.refl
theorem ok_Play_hold (T : Txt K mg) : FnOk P w K mg base CX0 2 T.f_Play_hold T.fd_Play_hold ["self", "version"] (spHoldP T.C_Operation T.C_Play) := by
  refine T.F_Play_hold.ok sc_Play_hold (fun vs H Q E h => ?_) (fun cdv A outer s H vs Q E hr h => ?_)
  · unfold spHoldP at h
    obtain ⟨c, p, A, t, v, rfl, _⟩ := h
    rfl
  · unfold spHoldP at h
    obtain ⟨c, p, A, t, v, rfl, L, q⟩ := h
    refine ⟨_, (pss_cons (ps_fld (pv 0) (pv 1) rfl)
      (pss_one (ps_expr (pe_meth (pv 0) T.c_Play T.M_Play_raise_mark (ok_Play_raise_mark T) (hr.mono (by decide)) (b_Play_raise_mark T) .nil pass0 (pa_cons (pv 1) pa_nil))))), ?_⟩
    refine ⟨_, rfl, _, rfl, _, _, _, _, rfl, L.at_, T.c_Play, T.a_Play_cache, sz_Play, ?_⟩
    have e : V.int (v : Int) = on (some v) := rfl
    rw [e, p_Play_cache]
    have L1 := L.hput (t' := { t with cache := some v }) rfl rfl L.lw
    have K1 := (Keep.refl (F := PF p A) (H := H)).put (o := .ins T.C_Play A.dx (plF c A { t with cache := some v })) (p := p) (.inl rfl)
    generalize upd H p _ = H1 at L1 K1
    refine ⟨_, rfl, _, _, _, rfl, L1.at_, ln_Play_raise_mark, _, rfl, ?_⟩
    exact mark_i L1 fun H2 L2 K2 => q H2 L2 (K1.trans K2)
theorem ok_Play_lets_in (T : Txt K mg) : FnOk P w K mg base CX0 1 T.f_Play_lets_in T.fd_Play_lets_in ["self", "version"] (spIn T.C_Operation T.C_Play) := by
  refine T.F_Play_lets_in.ok sc_Play_lets_in (fun vs H Q E h => ?_) (fun cdv A outer s H vs Q E hr h => ?_)
  · unfold spIn at h
    obtain ⟨c, p, A, t, v, rfl, _⟩ := h
    rfl
  · unfold spIn at h
    obtain ⟨c, p, A, t, v, rfl, L, q⟩ := h
    refine ⟨_, (pss_cons (ps_if (pt_cmpR op_eq (pe_fld (pv 0) rfl) pe_str (nomark _)) (pss_one (ps_ret (pe_or (pe_cmpR op_isN (pe_fld (pv 0) rfl) pe_non (nomark _)) (pe_one (pe_cmpR op_lt (pe_fld (pv 0) rfl) (pv 1) (nomark _)))))) pss_nil)
      (pss_cons (ps_if (pt_cmpR op_eq (pe_fld (pv 0) rfl) pe_str (nomark _)) (pss_one (ps_ret (pe_cmpR op_ge (pv 1) (pe_fld (pv 0) rfl) (nomark _)))) pss_nil)
      (pss_one (ps_ret pe_bl)))), ?_⟩
    unfold inP at q
    refine ⟨_, rfl, _, _, _, _, _, rfl, L.at_, T.c_Play, T.a_Play_guard, l_Play_guard, rfl, _, rfl, ?_⟩
    refine iteS (fun e => ?_) (fun e => ?_)
    · rw [if_pos e] at q
      refine ⟨_, rfl, _, _, _, _, _, rfl, L.at_, T.c_Play, T.a_Play_cache, l_Play_cache, rfl, _, rfl, ?_⟩
      cases ec : t.cache with
      | none =>
        rw [ec] at q
        exact iteT q
      | some x =>
        rw [ec] at q
        refine iteF ?_
        have e2 : (plF c A t).lookup ("cache" : Str) = some (.int (x : Int)) := by
          rw [l_Play_cache, ec]
          rfl
        refine ⟨_, rfl, _, _, _, _, _, rfl, L.at_, T.c_Play, T.a_Play_cache, e2, _, rfl, _, _, rfl, rfl, ?_⟩
        show Q (.bl (decide ((x : Int) < (v : Int)))) H
        rw [show decide ((x : Int) < (v : Int)) = decide (x < v) from by simp]
        exact q
    · rw [if_neg e] at q
      refine ⟨_, rfl, _, _, _, _, _, rfl, L.at_, T.c_Play, T.a_Play_guard, l_Play_guard, rfl, _, rfl, ?_⟩
      refine iteS (fun e => ?_) (fun e => ?_)
      · rw [if_pos e] at q
        refine ⟨_, rfl, _, rfl, _, _, _, _, _, rfl, L.at_, T.c_Play, T.a_Play_mark, l_Play_mark, _, _, rfl, rfl, ?_⟩
        show Q (.bl (decide ((t.mark : Int) ≤ (v : Int)))) H
        rw [show decide ((t.mark : Int) ≤ (v : Int)) = decide (t.mark ≤ v) from by simp]
        exact q
      · rw [if_neg e] at q
        exact q
end
end Ca

set_option Elab.async false
set_option linter.all false
set_option maxRecDepth 100000
set_option maxHeartbeats 4000000
namespace Ca
open PySem L2
def fetchP (c : Conf) (t : PSt) (k : Nat) (o : POp) : PSt := t.put k { o with version := some (if c.source = "replica" then t.rep else t.db) }
def fillP (c : Conf) (t : PSt) (k : Nat) (o : POp) : PSt := match o.version with
  | some v => if fillB c t o v then holdP c t v else t
  | none => t
def versionAt (ops : List POp) : Option Nat → Option Nat
  | none => none
  | some l => (ops[l]?).bind (·.version)
def takeP (c : Conf) (t : PSt) (k : Nat) (o : POp) : PSt := t.put k { o with version := versionAt t.ops o.awaited }
def storeP (c : Conf) (t : PSt) (k : Nat) (o : POp) : PSt := { t with db := t.db + 1 }.put k { o with version := some (t.db + 1) }
def dropP (c : Conf) (t : PSt) (k : Nat) (o : POp) : PSt := match o.version with
  | some v => markP c { t with cache := none, wipes := t.wipes + 1 } v
  | none => { t with cache := none, wipes := t.wipes + 1 }
def putP (c : Conf) (t : PSt) (k : Nat) (o : POp) : PSt := match o.version with
  | some v => if inP c { t with wipes := t.wipes + 1 } v then holdP c { t with wipes := t.wipes + 1 } v else { t with wipes := t.wipes + 1 }
  | none => { t with wipes := t.wipes + 1 }
def shareP (c : Conf) (t : PSt) (k : Nat) (o : POp) : PSt := if endedAt t.ops t.leader then { t with leader := some k } else t.put k { o with awaited := t.leader, steps := ["take"] }
def lookP (c : Conf) (t : PSt) (k : Nat) (o : POp) : PSt := match t.cache with
  | some v => t.put k { o with seen := t.wipes, version := some v, steps := [] }
  | none => if c.flight = "shared" then shareP c (t.put k { o with seen := t.wipes }) k { o with seen := t.wipes } else t.put k { o with seen := t.wipes }
/-- a method of a play with an operation that changes it -/
@[irreducible] def spOp (C D : Addr) (pre : Conf → PSt → Nat → POp → Prop) (f : Conf → PSt → Nat → POp → PSt) : Sp := fun vs H Q _ => ∃ (c : Conf) (p : Addr) (A : PL) (t : PSt) (k : Nat) (a : Addr) (o : POp),
  vs = [.ref p, .ref a] ∧ PlayAt C D c H p A t ∧ A.g ≤ k ∧ A.oas[k]? = some a ∧ t.ops[k]? = some o ∧ pre c t k o ∧ Mut C D c H p A (f c t k o) Q
@[irreducible] def spFillB (C D : Addr) : Sp := fun vs H Q _ => ∃ (c : Conf) (p : Addr) (A : PL) (t : PSt) (k : Nat) (a : Addr) (o : POp) (v : Nat),
  vs = [.ref p, .ref a] ∧ PlayAt C D c H p A t ∧ A.oas[k]? = some a ∧ t.ops[k]? = some o ∧ o.version = some v ∧ Q (.bl (fillB c t o v)) H
section
variable {C D p : Addr} {c : Conf} {H H' : Hp} {A : PL} {t t' : PSt} {k : Nat} {a : Addr} {o o' : POp} {oas : List Addr} {v : Nat} {Q : VK} {E : XK}
theorem op_i {pre : Conf → PSt → Nat → POp → Prop} {f : Conf → PSt → Nat → POp → PSt} (L : PlayAt C D c H p A t) (hg : A.g ≤ k) (e : A.oas[k]? = some a) (e' : t.ops[k]? = some o) (h : pre c t k o) (q : Mut C D c H p A (f c t k o) Q) : spOp C D pre f [.ref p, .ref a] H Q E := by
  unfold spOp
  exact ⟨c, p, A, t, k, a, o, rfl, L, hg, e, e', h, q⟩
theorem fillB_i (L : PlayAt C D c H p A t) (e : A.oas[k]? = some a) (e' : t.ops[k]? = some o) (h : o.version = some v) (q : Q (.bl (fillB c t o v)) H) : spFillB C D [.ref p, .ref a] H Q E := by
  unfold spFillB
  exact ⟨c, p, A, t, k, a, o, v, rfl, L, e, e', h, q⟩
theorem inc_nat {n : Nat} : (n : Int) + 1 = ((n + 1 : Nat) : Int) := by omega
theorem pf_op (hg : A.g ≤ k) (e : A.oas[k]? = some a) : PF p A a := .inr (.inr (.inr (mem_drop hg e)))
theorem put_gP (e : t.ops[k]? = some o) : (t.put k o').ops[k]? = some o' := List.getElem?_set_self (List.getElem?_eq_some_iff.mp e).1
theorem put_pP {o'' : POp} : (t.put k o').put k o'' = t.put k o'' := by
  show ({ t with ops := (t.ops.set k o').set k o'' } : PSt) = { t with ops := t.ops.set k o'' }
  rw [List.set_set]
end
section
variable {P : Program} {w : World} {K : PySem.W.Frag} {mg : Str → Option Value} {base : Heap}
theorem ok_Play_lets_fill (T : Txt K mg) : FnOk P w K mg base CX0 2 T.f_Play_lets_fill T.fd_Play_lets_fill ["self", "read"] (spFillB T.C_Operation T.C_Play) := by
  refine T.F_Play_lets_fill.ok sc_Play_lets_fill (fun vs H Q E h => ?_) (fun cdv A outer s H vs Q E hr h => ?_)
  · unfold spFillB at h
    obtain ⟨c, p, A, t, k, a, o, v, rfl, _⟩ := h
    rfl
  · unfold spFillB at h
    obtain ⟨c, p, A, t, k, a, o, v, rfl, L, ea, eo, ev, q⟩ := h
    obtain ⟨dx, ta, h1, h2⟩ := L.ops.get k a o ea eo
    refine ⟨_, (pss_cons (ps_if (pt_cmpR op_eq (pe_fld (pv 0) rfl) pe_str (nomark _)) (pss_one (ps_ret (pe_cmpR op_isN (pe_fld (pv 0) rfl) pe_non (nomark _)))) pss_nil)
      (pss_cons (ps_if (pt_cmpR op_eq (pe_fld (pv 0) rfl) pe_str (nomark _)) (pss_one (ps_ret (pe_cmpR op_eq (pe_fld (pv 1) rfl) (pe_fld (pv 0) rfl) (nomark _)))) pss_nil)
      (pss_one (ps_ret (pe_meth (pv 0) T.c_Play T.M_Play_lets_in (ok_Play_lets_in T) (hr.mono (by decide)) (b_Play_lets_in T) .nil pass0 (pa_cons (pe_fld (pv 1) rfl) pa_nil)))))), ?_⟩
    unfold fillB at q
    refine ⟨_, rfl, _, _, _, _, _, rfl, L.at_, T.c_Play, T.a_Play_guard, l_Play_guard, rfl, _, rfl, ?_⟩
    refine iteS (fun e => ?_) (fun e => ?_)
    · rw [if_pos e] at q
      refine ⟨_, rfl, _, _, _, _, _, rfl, L.at_, T.c_Play, T.a_Play_cache, l_Play_cache, rfl, ?_⟩
      show Q (.bl (decide (on t.cache = V.non))) H
      rw [show decide (on t.cache = V.non) = t.cache.isNone from by cases t.cache <;> rfl]
      exact q
    rw [if_neg e] at q
    refine ⟨_, rfl, _, _, _, _, _, rfl, L.at_, T.c_Play, T.a_Play_guard, l_Play_guard, rfl, _, rfl, ?_⟩
    refine iteS (fun e => ?_) (fun e => ?_)
    · rw [if_pos e] at q
      refine ⟨_, rfl, _, _, _, _, _, rfl, h1, T.c_Operation, T.a_Operation_wipes_seen, l_Operation_wipes_seen, _, rfl, _, _, _, _, _, rfl, L.at_, T.c_Play, T.a_Play_wipes, l_Play_wipes, rfl, ?_⟩
      show Q (.bl (decide (V.int (o.seen : Int) = V.int (t.wipes : Int)))) H
      rw [show decide (V.int (o.seen : Int) = V.int (t.wipes : Int)) = decide (o.seen = t.wipes) from by rw [dec_int, Bool.eq_iff_iff]; simp; omega]
      exact q
    rw [if_neg e] at q
    have e2 : (opF A.oas o ta).lookup ("version" : Str) = some (.int (v : Int)) := by
      rw [l_Operation_version, ev]
      rfl
    refine ⟨_, rfl, _, _, _, rfl, L.at_, ln_Play_lets_in, _, rfl, _, _, _, _, _, rfl, h1, T.c_Operation, T.a_Operation_version, e2, ?_⟩
    exact in_i L q
theorem ok_Play_fetch (T : Txt K mg) : FnOk P w K mg base CX0 1 T.f_Play_fetch T.fd_Play_fetch ["self", "read"] (spOp T.C_Operation T.C_Play (fun _ _ _ _ => True) fetchP) := by
  refine T.F_Play_fetch.ok sc_Play_fetch (fun vs H Q E h => ?_) (fun cdv A outer s H vs Q E hr h => ?_)
  · unfold spOp at h
    obtain ⟨c, p, A, t, k, a, o, rfl, _⟩ := h
    rfl
  · unfold spOp at h
    obtain ⟨c, p, A, t, k, a, o, rfl, L, hgk, ea, eo, _, q⟩ := h
    have O := L.ops.get k a o ea eo
    obtain ⟨dx, ta, h1, h2⟩ := id O
    refine ⟨_, (pss_one (ps_if (pt_cmpR op_eq (pe_fld (pv 0) rfl) pe_str (nomark _)) (pss_one (ps_fld (pv 1) (pe_fld (pv 0) rfl) rfl)) (pss_one (ps_fld (pv 1) (pe_fld (pv 0) rfl) rfl)))), ?_⟩
    unfold fetchP at q
    have wt : ∀ l, o.awaited = some l → l < t.ops.length := fun l z => L.aw k o l eo z
    refine ⟨_, rfl, _, _, _, _, _, rfl, L.at_, T.c_Play, T.a_Play_source, l_Play_source, rfl, _, rfl, ?_⟩
    refine iteS (fun e => ?_) (fun e => ?_)
    · rw [if_pos e] at q
      refine ⟨_, rfl, _, _, _, _, _, rfl, L.at_, T.c_Play, T.a_Play_replica, l_Play_replica, _, rfl, _, _, _, _, rfl, h1, T.c_Operation, T.a_Operation_version, sz_Operation, ?_⟩
      have e1 : V.int (t.rep : Int) = on (some t.rep) := rfl
      rw [e1, p_Operation_version]
      exact q _ (L.oput ea eo ⟨_, h1⟩ h2 wt) (Keep.refl.put (pf_op hgk ea))
    · rw [if_neg e] at q
      refine ⟨_, rfl, _, _, _, _, _, rfl, L.at_, T.c_Play, T.a_Play_database, l_Play_database, _, rfl, _, _, _, _, rfl, h1, T.c_Operation, T.a_Operation_version, sz_Operation, ?_⟩
      have e1 : V.int (t.db : Int) = on (some t.db) := rfl
      rw [e1, p_Operation_version]
      exact q _ (L.oput ea eo ⟨_, h1⟩ h2 wt) (Keep.refl.put (pf_op hgk ea))
theorem ok_Play_fill (T : Txt K mg) : FnOk P w K mg base CX0 3 T.f_Play_fill T.fd_Play_fill ["self", "read"] (spOp T.C_Operation T.C_Play (fun _ _ _ o => ∃ v, o.version = some v) fillP) := by
  refine T.F_Play_fill.ok sc_Play_fill (fun vs H Q E h => ?_) (fun cdv A outer s H vs Q E hr h => ?_)
  · unfold spOp at h
    obtain ⟨c, p, A, t, k, a, o, rfl, _⟩ := h
    rfl
  · unfold spOp at h
    obtain ⟨c, p, A, t, k, a, o, rfl, L, hgk, ea, eo, ⟨v, ev⟩, q⟩ := h
    obtain ⟨dx, ta, h1, h2⟩ := L.ops.get k a o ea eo
    refine ⟨_, (pss_one (ps_if (pt_val (pe_meth (pv 0) T.c_Play T.M_Play_lets_fill (ok_Play_lets_fill T) (hr.mono (by decide)) (b_Play_lets_fill T) .nil pass0 (pa_cons (pv 1) pa_nil))) (pss_one (ps_expr (pe_meth (pv 0) T.c_Play T.M_Play_hold (ok_Play_hold T) (hr.mono (by decide)) (b_Play_hold T) .nil pass0 (pa_cons (pe_fld (pv 1) rfl) pa_nil)))) pss_nil)), ?_⟩
    have z : fillP c t k o = if fillB c t o v then holdP c t v else t := by
      unfold fillP
      rw [ev]
    rw [z] at q
    refine ⟨_, rfl, _, _, _, rfl, L.at_, ln_Play_lets_fill, _, rfl, ?_⟩
    refine fillB_i L ea eo ev ⟨_, rfl, ?_⟩
    refine iteB (fun e => ?_) (fun e => ?_)
    · rw [if_pos e] at q
      have e2 : (opF A.oas o ta).lookup ("version" : Str) = some (.int (v : Int)) := by
        rw [l_Operation_version, ev]
        rfl
      refine ⟨_, rfl, _, _, _, rfl, L.at_, ln_Play_hold, _, rfl, _, _, _, _, _, rfl, h1, T.c_Operation, T.a_Operation_version, e2, ?_⟩
      exact hold_ip L q
    · rw [e, if_neg (by decide)] at q
      exact q _ L Keep.refl
theorem ok_Play_take (T : Txt K mg) : FnOk P w K mg base CX0 1 T.f_Play_take T.fd_Play_take ["self", "read"] (spOp T.C_Operation T.C_Play (fun _ _ _ o => ∃ l, o.awaited = some l) takeP) := by
  refine T.F_Play_take.ok sc_Play_take (fun vs H Q E h => ?_) (fun cdv A outer s H vs Q E hr h => ?_)
  · unfold spOp at h
    obtain ⟨c, p, A, t, k, a, o, rfl, _⟩ := h
    rfl
  · unfold spOp at h
    obtain ⟨c, p, A, t, k, a, o, rfl, L, hgk, ea, eo, ⟨l, el⟩, q⟩ := h
    obtain ⟨dx, ta, h1, h2⟩ := L.ops.get k a o ea eo
    refine ⟨_, (pss_one (ps_fld (pv 1) (pe_fld (pe_fld (pv 1) rfl) rfl) rfl)), ?_⟩
    have wt : ∀ l, o.awaited = some l → l < t.ops.length := fun l z => L.aw k o l eo z
    have hl := wt l el
    obtain ⟨b, hb, er⟩ := refO_some (oas := A.oas) (l := l) (by rw [L.ops.len]; exact hl)
    obtain ⟨u, eu⟩ : ∃ u, t.ops[l]? = some u := ⟨_, List.getElem?_eq_getElem hl⟩
    obtain ⟨dx', ta', h1', h2'⟩ := L.ops.get l b u hb eu
    have z : takeP c t k o = t.put k { o with version := u.version } := by
      have z1 : versionAt t.ops o.awaited = u.version := by
        rw [el]
        show (t.ops[l]?).bind (·.version) = _
        rw [eu]
        rfl
      unfold takeP
      rw [z1]
    rw [z] at q
    have e2 : (opF A.oas o ta).lookup ("awaited" : Str) = some (.ref b) := by
      rw [l_Operation_awaited, el, er]
    refine ⟨_, rfl, _, _, _, _, _, rfl, h1, T.c_Operation, T.a_Operation_awaited, e2, _, _, _, _, _, rfl, h1', T.c_Operation, T.a_Operation_version, l_Operation_version, _, rfl, _, _, _, _, rfl, h1, T.c_Operation, T.a_Operation_version, sz_Operation, ?_⟩
    rw [p_Operation_version]
    exact q _ (L.oput ea eo ⟨_, h1⟩ h2 wt) (Keep.refl.put (pf_op hgk ea))
theorem ok_Play_store (T : Txt K mg) : FnOk P w K mg base CX0 1 T.f_Play_store T.fd_Play_store ["self", "write"] (spOp T.C_Operation T.C_Play (fun _ _ _ _ => True) storeP) := by
  refine T.F_Play_store.ok sc_Play_store (fun vs H Q E h => ?_) (fun cdv A outer s H vs Q E hr h => ?_)
  · unfold spOp at h
    obtain ⟨c, p, A, t, k, a, o, rfl, _⟩ := h
    rfl
  · unfold spOp at h
    obtain ⟨c, p, A, t, k, a, o, rfl, L, hgk, ea, eo, _, q⟩ := h
    refine ⟨_, (pss_cons (ps_fldaug (pv 0) pe_int in_add)
      (pss_one (ps_fld (pv 1) (pe_fld (pv 0) rfl) rfl))), ?_⟩
    unfold storeP at q
    refine ⟨_, rfl, _, _, _, _, _, rfl, L.at_, T.c_Play, T.a_Play_database, l_Play_database, _, _, rfl, rfl, _, _, L.at_, sz_Play, ?_⟩
    rw [inc_nat, p_Play_database]
    have L1 := L.hput (t' := { t with db := t.db + 1 }) rfl rfl L.lw
    have K1 := (Keep.refl (F := PF p A) (H := H)).put (o := .ins T.C_Play A.dx (plF c A { t with db := t.db + 1 })) (p := p) (.inl rfl)
    generalize upd H p _ = H1 at L1 K1
    obtain ⟨dx, ta, h1, h2⟩ := L1.ops.get k a o ea eo
    have wt : ∀ l, o.awaited = some l → l < t.ops.length := fun l z => L.aw k o l eo z
    refine ⟨_, rfl, _, _, _, _, _, rfl, L1.at_, T.c_Play, T.a_Play_database, l_Play_database, _, rfl, _, _, _, _, rfl, h1, T.c_Operation, T.a_Operation_version, sz_Operation, ?_⟩
    have e1 : V.int ((t.db + 1 : Nat) : Int) = on (some (t.db + 1)) := rfl
    rw [e1, p_Operation_version]
    exact q _ (L1.oput ea eo ⟨_, h1⟩ h2 wt) (K1.put (pf_op hgk ea))
theorem ok_Play_drop (T : Txt K mg) : FnOk P w K mg base CX0 2 T.f_Play_drop T.fd_Play_drop ["self", "write"] (spOp T.C_Operation T.C_Play (fun _ _ _ _ => True) dropP) := by
  refine T.F_Play_drop.ok sc_Play_drop (fun vs H Q E h => ?_) (fun cdv A outer s H vs Q E hr h => ?_)
  · unfold spOp at h
    obtain ⟨c, p, A, t, k, a, o, rfl, _⟩ := h
    rfl
  · unfold spOp at h
    obtain ⟨c, p, A, t, k, a, o, rfl, L, hgk, ea, eo, _, q⟩ := h
    refine ⟨_, (pss_cons (ps_fld (pv 0) pe_non rfl)
      (pss_cons (ps_fldaug (pv 0) pe_int in_add)
      (pss_one (ps_if (pt_cmpR op_notN (pe_fld (pv 1) rfl) pe_non (nomark _)) (pss_one (ps_expr (pe_meth (pv 0) T.c_Play T.M_Play_raise_mark (ok_Play_raise_mark T) (hr.mono (by decide)) (b_Play_raise_mark T) .nil pass0 (pa_cons (pe_fld (pv 1) rfl) pa_nil)))) pss_nil)))), ?_⟩
    unfold dropP at q
    refine ⟨_, rfl, _, _, _, _, rfl, L.at_, T.c_Play, T.a_Play_cache, sz_Play, ?_⟩
    rw [show putF "cache" V.non (plF c A t) = plF c A { t with cache := none } from p_Play_cache (v := none)]
    have L1 := L.hput (t' := { t with cache := none }) rfl rfl L.lw
    have K1 := (Keep.refl (F := PF p A) (H := H)).put (o := .ins T.C_Play A.dx (plF c A { t with cache := none })) (p := p) (.inl rfl)
    generalize upd H p _ = H1 at L1 K1
    refine ⟨_, rfl, _, _, _, _, _, rfl, L1.at_, T.c_Play, T.a_Play_wipes, l_Play_wipes, _, _, rfl, rfl, _, _, L1.at_, sz_Play, ?_⟩
    rw [inc_nat, p_Play_wipes]
    have L2 := L1.hput (t' := { t with cache := none, wipes := t.wipes + 1 }) rfl rfl L.lw
    have K2 := K1.put (o := .ins T.C_Play A.dx (plF c A { t with cache := none, wipes := t.wipes + 1 })) (p := p) (.inl rfl)
    generalize upd H1 p _ = H2 at L2 K2
    obtain ⟨dx, ta, h1, h2⟩ := L2.ops.get k a o ea eo
    refine ⟨_, rfl, _, _, _, _, _, rfl, h1, T.c_Operation, T.a_Operation_version, l_Operation_version, rfl, _, rfl, ?_⟩
    refine iteNn (fun v ev => ?_) (fun ev => ?_)
    · rw [ev] at q
      have e2 : (opF A.oas o ta).lookup ("version" : Str) = some (.int (v : Int)) := by
        rw [l_Operation_version, ev]
        rfl
      refine ⟨_, rfl, _, _, _, rfl, L2.at_, ln_Play_raise_mark, _, rfl, _, _, _, _, _, rfl, h1, T.c_Operation, T.a_Operation_version, e2, ?_⟩
      exact mark_i L2 fun H3 L3 K3 => q H3 L3 (K2.trans K3)
    · rw [ev] at q
      exact q _ L2 K2
theorem ok_Play_put (T : Txt K mg) : FnOk P w K mg base CX0 3 T.f_Play_put T.fd_Play_put ["self", "write"] (spOp T.C_Operation T.C_Play (fun _ _ _ o => ∃ v, o.version = some v) putP) := by
  refine T.F_Play_put.ok sc_Play_put (fun vs H Q E h => ?_) (fun cdv A outer s H vs Q E hr h => ?_)
  · unfold spOp at h
    obtain ⟨c, p, A, t, k, a, o, rfl, _⟩ := h
    rfl
  · unfold spOp at h
    obtain ⟨c, p, A, t, k, a, o, rfl, L, hgk, ea, eo, ⟨v, ev⟩, q⟩ := h
    refine ⟨_, (pss_cons (ps_fldaug (pv 0) pe_int in_add)
      (pss_one (ps_if (pt_val (pe_meth (pv 0) T.c_Play T.M_Play_lets_in (ok_Play_lets_in T) (hr.mono (by decide)) (b_Play_lets_in T) .nil pass0 (pa_cons (pe_fld (pv 1) rfl) pa_nil))) (pss_one (ps_expr (pe_meth (pv 0) T.c_Play T.M_Play_hold (ok_Play_hold T) (hr.mono (by decide)) (b_Play_hold T) .nil pass0 (pa_cons (pe_fld (pv 1) rfl) pa_nil)))) pss_nil))), ?_⟩
    unfold putP at q
    rw [ev] at q
    refine ⟨_, rfl, _, _, _, _, _, rfl, L.at_, T.c_Play, T.a_Play_wipes, l_Play_wipes, _, _, rfl, rfl, _, _, L.at_, sz_Play, ?_⟩
    rw [inc_nat, p_Play_wipes]
    have L2 := L.hput (t' := { t with wipes := t.wipes + 1 }) rfl rfl L.lw
    have K2 := (Keep.refl (F := PF p A) (H := H)).put (o := .ins T.C_Play A.dx (plF c A { t with wipes := t.wipes + 1 })) (p := p) (.inl rfl)
    generalize upd H p _ = H2 at L2 K2
    obtain ⟨dx, ta, h1, h2⟩ := L2.ops.get k a o ea eo
    have e2 : (opF A.oas o ta).lookup ("version" : Str) = some (.int (v : Int)) := by
      rw [l_Operation_version, ev]
      rfl
    refine ⟨_, rfl, _, _, _, rfl, L2.at_, ln_Play_lets_in, _, rfl, _, _, _, _, _, rfl, h1, T.c_Operation, T.a_Operation_version, e2, ?_⟩
    refine in_i L2 ⟨_, rfl, ?_⟩
    refine iteB (fun e => ?_) (fun e => ?_)
    · have q : Mut T.C_Operation T.C_Play c H p A (if inP c { t with wipes := t.wipes + 1 } v then holdP c { t with wipes := t.wipes + 1 } v else { t with wipes := t.wipes + 1 }) Q := q
      rw [if_pos e] at q
      refine ⟨_, rfl, _, _, _, rfl, L2.at_, ln_Play_hold, _, rfl, _, _, _, _, _, rfl, h1, T.c_Operation, T.a_Operation_version, e2, ?_⟩
      exact hold_ip L2 fun H3 L3 K3 => q H3 L3 (K2.trans K3)
    · have q : Mut T.C_Operation T.C_Play c H p A (if inP c { t with wipes := t.wipes + 1 } v then holdP c { t with wipes := t.wipes + 1 } v else { t with wipes := t.wipes + 1 }) Q := q
      rw [e, if_neg (by decide)] at q
      exact q _ L2 K2
theorem ok_Play_share (T : Txt K mg) : FnOk P w K mg base CX0 2 T.f_Play_share T.fd_Play_share ["self", "read"] (spOp T.C_Operation T.C_Play (fun _ _ _ _ => True) shareP) := by
  refine T.F_Play_share.ok sc_Play_share (fun vs H Q E h => ?_) (fun cdv A outer s H vs Q E hr h => ?_)
  · unfold spOp at h
    obtain ⟨c, p, A, t, k, a, o, rfl, _⟩ := h
    rfl
  · unfold spOp at h
    obtain ⟨c, p, A, t, k, a, o, rfl, L, hgk, ea, eo, _, q⟩ := h
    refine ⟨_, (pss_one (ps_if (PW.pt (pw_or (pt_cmpR op_isN (pe_fld (pv 0) rfl) pe_non (nomark _)) (pw_or1 (pt_val (pe_meth0 (pe_fld (pv 0) rfl) T.c_Operation T.M_Operation_has_ended (ok_Operation_has_ended T) (hr.mono (by decide)) (b_Operation_has_ended T) .nil pass0))))) (pss_one (ps_fld (pv 0) (pv 1) rfl)) (pss_cons (ps_fld (pv 1) (pe_fld (pv 0) rfl) rfl)
      (pss_one (ps_fld (pv 1) (pe_tup (pa_cons pe_str pa_nil)) rfl))))), ?_⟩
    unfold shareP at q
    refine ⟨_, rfl, _, _, _, _, _, rfl, L.at_, T.c_Play, T.a_Play_leader, l_Play_leader, rfl, _, rfl, ?_⟩
    have yes : endedAt t.ops t.leader = true → ∀ H1, H1 = H → Mut T.C_Operation T.C_Play c H p A (if endedAt t.ops t.leader then { t with leader := some k } else t.put k { o with awaited := t.leader, steps := ["take"] }) Q → True := fun _ _ _ _ => trivial
    have eA : V.ref a = refO A.oas (some k) := by
      show _ = (match A.oas[k]? with | some a => V.ref a | none => V.non)
      rw [ea]
    have hk : k < t.ops.length := (List.getElem?_eq_some_iff.mp eo).1
    have pY : putF "leader" (V.ref a) (plF c A t) = plF c A { t with leader := some k } := by
      rw [eA]
      exact p_Play_leader
    have qY : endedAt t.ops t.leader = true → Q .non (upd H p (.ins T.C_Play A.dx (putF "leader" (V.ref a) (plF c A t)))) := fun e => by
      rw [if_pos e] at q
      rw [pY]
      exact q _ (L.hput rfl rfl fun l z => by cases z; exact hk) (Keep.refl.put (.inl rfl))
    cases el : t.leader with
    | none =>
      rw [el] at qY
      refine iteT (iteT ?_)
      refine ⟨_, rfl, _, rfl, _, _, _, _, rfl, L.at_, T.c_Play, T.a_Play_leader, sz_Play, ?_⟩
      exact qY rfl
    | some l =>
      have hl := L.lw l el
      obtain ⟨b, hb, er⟩ := refO_some (oas := A.oas) (l := l) (by rw [L.ops.len]; exact hl)
      obtain ⟨u, eu⟩ : ∃ u, t.ops[l]? = some u := ⟨_, List.getElem?_eq_getElem hl⟩
      have OB := L.ops.get l b u hb eu
      obtain ⟨dx', ta', h1', h2'⟩ := id OB
      have eE : endedAt t.ops t.leader = u.ended := by
        rw [el]
        show (match t.ops[l]? with | some q => q.ended | none => true) = _
        rw [eu]
      rw [er]
      refine iteF ?_
      have e2 : (plF c A t).lookup ("leader" : Str) = some (.ref b) := by
        rw [l_Play_leader, el, er]
      refine ⟨_, rfl, _, _, _, _, _, rfl, L.at_, T.c_Play, T.a_Play_leader, e2, _, _, _, rfl, h1', ln_Operation_has_ended, ?_⟩
      refine ended_i OB ⟨_, rfl, ?_⟩
      refine iteB (fun e => ?_) (fun e => ?_)
      · refine ⟨_, rfl, _, rfl, _, _, _, _, rfl, L.at_, T.c_Play, T.a_Play_leader, sz_Play, ?_⟩
        exact qY (by rw [eE]; exact e)
      · rw [eE, e, if_neg (by decide)] at q
        obtain ⟨dx, ta, h1, h2⟩ := L.ops.get k a o ea eo
        refine ⟨_, rfl, _, _, _, _, _, rfl, L.at_, T.c_Play, T.a_Play_leader, e2, _, rfl, _, _, _, _, rfl, h1, T.c_Operation, T.a_Operation_awaited, sz_Operation, ?_⟩
        have pA : putF "awaited" (V.ref b) (opF A.oas o ta) = opF A.oas { o with awaited := t.leader } ta := by
          rw [el, ← er]
          exact p_Operation_awaited
        rw [pA]
        have L1 := L.oput (o' := { o with awaited := t.leader }) ea eo ⟨_, h1⟩ h2 L.lw
        have g1 := put_gP (o' := { o with awaited := t.leader }) eo
        have K1 := (Keep.refl (F := PF p A) (H := H)).put (o := .ins T.C_Operation dx (opF A.oas { o with awaited := t.leader } ta)) (pf_op hgk ea)
        generalize upd H a _ = H1 at L1 K1
        refine ⟨(by show 1 ≤ sizeLine; decide), fun pt np => ?_⟩
        have L2 := L1.new (u := .tup [.str "take"]) np
        have K2 := K1.new (o := .tup [.str "take"]) np
        have hT : (upd H1 pt (.tup [.str "take"])) pt = some (.tup ((["take"] : List Str).map V.str)) := upd_same
        generalize upd H1 pt _ = H2 at L2 K2 hT
        obtain ⟨dx2, ta2, h3, h4⟩ := L2.ops.get k a _ ea g1
        refine ⟨_, rfl, _, _, _, _, rfl, h3, T.c_Operation, T.a_Operation_steps, sz_Operation, ?_⟩
        rw [p_Operation_steps (st := ["take"])]
        have L3 := L2.oput (o' := { o with awaited := t.leader, steps := ["take"] }) ea g1 ⟨_, h3⟩ hT (fun l z => by rw [show (t.put k { o with awaited := t.leader }).ops.length = t.ops.length from List.length_set ..]; exact L.lw l z)
        rw [put_pP] at L3
        exact q _ L3 (K2.put (pf_op hgk ea))
theorem ok_Play_look (T : Txt K mg) : FnOk P w K mg base CX0 3 T.f_Play_look T.fd_Play_look ["self", "read"] (spOp T.C_Operation T.C_Play (fun _ _ _ _ => True) lookP) := by
  refine T.F_Play_look.ok sc_Play_look (fun vs H Q E h => ?_) (fun cdv A outer s H vs Q E hr h => ?_)
  · unfold spOp at h
    obtain ⟨c, p, A, t, k, a, o, rfl, _⟩ := h
    rfl
  · unfold spOp at h
    obtain ⟨c, p, A, t, k, a, o, rfl, L, hgk, ea, eo, _, q⟩ := h
    refine ⟨_, (pss_cons (ps_fld (pv 1) (pe_fld (pv 0) rfl) rfl)
      (pss_one (ps_if (pt_cmpR op_notN (pe_fld (pv 0) rfl) pe_non (nomark _)) (pss_cons (ps_fld (pv 1) (pe_fld (pv 0) rfl) rfl)
      (pss_one (ps_fld (pv 1) (pe_tup pa_nil) rfl))) (pss_one (ps_if (pt_cmpR op_eq (pe_fld (pv 0) rfl) pe_str (nomark _)) (pss_one (ps_expr (pe_meth (pv 0) T.c_Play T.M_Play_share (ok_Play_share T) (hr.mono (by decide)) (b_Play_share T) .nil pass0 (pa_cons (pv 1) pa_nil)))) pss_nil))))), ?_⟩
    unfold lookP at q
    obtain ⟨dx, ta, h1, h2⟩ := L.ops.get k a o ea eo
    have wt : ∀ l, o.awaited = some l → l < t.ops.length := fun l z => L.aw k o l eo z
    refine ⟨_, rfl, _, _, _, _, _, rfl, L.at_, T.c_Play, T.a_Play_wipes, l_Play_wipes, _, rfl, _, _, _, _, rfl, h1, T.c_Operation, T.a_Operation_wipes_seen, sz_Operation, ?_⟩
    rw [p_Operation_wipes_seen]
    have L1 := L.oput (o' := { o with seen := t.wipes }) ea eo ⟨_, h1⟩ h2 wt
    have g1 := put_gP (o' := { o with seen := t.wipes }) eo
    have K1 := (Keep.refl (F := PF p A) (H := H)).put (o := .ins T.C_Operation dx (opF A.oas { o with seen := t.wipes } ta)) (pf_op hgk ea)
    generalize upd H a _ = H1 at L1 K1
    refine ⟨_, rfl, _, _, _, _, _, rfl, L1.at_, T.c_Play, T.a_Play_cache, l_Play_cache, rfl, _, rfl, ?_⟩
    refine iteNn (fun v ev => ?_) (fun ev => ?_)
    · have ev' : t.cache = some v := ev
      rw [ev'] at q
      obtain ⟨dx2, ta2, h3, h4⟩ := L1.ops.get k a _ ea g1
      have e2 : (plF c A (t.put k { o with seen := t.wipes })).lookup ("cache" : Str) = some (on (some v)) := by
        rw [l_Play_cache, ev]
      refine ⟨_, rfl, _, _, _, _, _, rfl, L1.at_, T.c_Play, T.a_Play_cache, e2, _, rfl, _, _, _, _, rfl, h3, T.c_Operation, T.a_Operation_version, sz_Operation, ?_⟩
      rw [p_Operation_version]
      have L2 := L1.oput (o' := { o with seen := t.wipes, version := some v }) ea g1 ⟨_, h3⟩ h4 (fun l z => by rw [show (t.put k { o with seen := t.wipes }).ops.length = t.ops.length from List.length_set ..]; exact wt l z)
      rw [put_pP] at L2
      have g2 := put_gP (o' := { o with seen := t.wipes, version := some v }) eo
      have K2 := K1.put (o := .ins T.C_Operation dx2 (opF A.oas { o with seen := t.wipes, version := some v } ta2)) (pf_op hgk ea)
      generalize upd H1 a _ = H2 at L2 K2
      refine ⟨(by show 0 ≤ sizeLine; decide), fun pt np => ?_⟩
      have L3 := L2.new (u := .tup []) np
      have K3 := K2.new (o := .tup []) np
      have hT : (upd H2 pt (.tup [])) pt = some (.tup (([] : List Str).map V.str)) := upd_same
      generalize upd H2 pt _ = H3 at L3 K3 hT
      obtain ⟨dx4, ta4, h5, h6⟩ := L3.ops.get k a _ ea g2
      refine ⟨_, rfl, _, _, _, _, rfl, h5, T.c_Operation, T.a_Operation_steps, sz_Operation, ?_⟩
      rw [p_Operation_steps (st := [])]
      have L4 := L3.oput (o' := { o with seen := t.wipes, version := some v, steps := [] }) ea g2 ⟨_, h5⟩ hT (fun l z => by rw [show (t.put k { o with seen := t.wipes, version := some v }).ops.length = t.ops.length from List.length_set ..]; exact wt l z)
      rw [put_pP] at L4
      exact q _ L4 (K3.put (pf_op hgk ea))
    · have ev' : t.cache = none := ev
      rw [ev'] at q
      refine ⟨_, rfl, _, _, _, _, _, rfl, L1.at_, T.c_Play, T.a_Play_flight, l_Play_flight, rfl, _, rfl, ?_⟩
      refine iteS (fun e => ?_) (fun e => ?_)
      · have q : Mut T.C_Operation T.C_Play c H p A (if c.flight = "shared" then shareP c (t.put k { o with seen := t.wipes }) k { o with seen := t.wipes } else t.put k { o with seen := t.wipes }) Q := q
        rw [if_pos e] at q
        refine ⟨_, rfl, _, _, _, rfl, L1.at_, ln_Play_share, _, rfl, ?_⟩
        exact op_i L1 hgk ea g1 trivial fun H2 L2 K2 => q H2 L2 (K1.trans K2)
      · have q : Mut T.C_Operation T.C_Play c H p A (if c.flight = "shared" then shareP c (t.put k { o with seen := t.wipes }) k { o with seen := t.wipes } else t.put k { o with seen := t.wipes }) Q := q
        rw [if_neg e] at q
        exact q _ L1 K1
end
end Ca

set_option Elab.async false
set_option linter.all false
set_option maxRecDepth 100000
set_option maxHeartbeats 4000000
namespace Ca
open PySem L2
def newP (c : Conf) (w : Str) (n : Nat) : POp :=
  if w = "look" then ⟨"read", if c.guard = "never" then ["look", "fetch"] else ["look", "fetch", "fill"], n, none, false, none, none, 0⟩ else ⟨"write", c.steps, n, none, false, none, none, 0⟩
def opP (c : Conf) (t : PSt) (k : Nat) (o : POp) (w : Str) : PSt :=
  if w = "look" then lookP c t k o else if w = "fetch" then fetchP c t k o else if w = "fill" then fillP c t k o else if w = "take" then takeP c t k o
  else if w = "store" then storeP c t k o else if w = "drop" then dropP c t k o else putP c t k o
def preP (c : Conf) (t : PSt) (w : Str) (k : Nat) : PSt := if k = t.ops.length then { t with ops := t.ops ++ [newP c w t.past.length] } else t
def tailP (o : POp) : POp := { o with steps := o.steps.drop 1 }
/-- an operation that has ended notes when -/
def leaveP (t : PSt) (k : Nat) : PSt := match t.ops[k]? with
  | some o => if o.ended then t.put k { o with left := some t.past.length } else t
  | none => t
def stepP (c : Conf) (t : PSt) (w : Str) (k : Nat) : PSt := match (preP c t w k).ops[k]? with
  | some o => leaveP (opP c ((preP c t w k).put k (tailP o)) k (tailP o) w) k
  | none => preP c t w k
/-- what an operation's next step asks of it -/
structure StepPre (o : POp) (w : Str) : Prop where
  ne : o.steps ≠ []
  fill : w = "fill" → ∃ v, o.version = some v
  take : w = "take" → ∃ l, o.awaited = some l
  put : ¬ w = "look" → ¬ w = "fetch" → ¬ w = "fill" → ¬ w = "take" → ¬ w = "store" → ¬ w = "drop" → ∃ v, o.version = some v
/-- a play changed, operations added perhaps -/
structure Grew (A A' : PL) (H : Hp) : Prop where
  lo : A'.lo = A.lo
  pa : A'.pa = A.pa
  d : A'.d = A.d
  w : A'.w = A.w
  g : A'.g = A.g
  oas : ∀ b ∈ A'.oas.drop A'.g, b ∈ A.oas.drop A.g ∨ H b = none
  pre : A.oas <+: A'.oas
theorem Grew.refl {A : PL} {H : Hp} : Grew A A H := ⟨rfl, rfl, rfl, rfl, rfl, fun _ h => .inl h, List.prefix_refl _⟩
theorem Keep.putN {F : Addr → Prop} {H H1 : Hp} {p : Addr} {o : HO} (a : Keep F H H1) (h : H p = none) : Keep F H (upd H1 p o) := fun c u e n => by
  have q := a c u e n
  rw [upd_ne (ne_of_none e h)]
  exact q
def MutA (C D : Addr) (c : Conf) (H : Hp) (p : Addr) (A : PL) (t' : PSt) (Q : VK) : Prop := ∀ H' A', PlayAt C D c H' p A' t' → Grew A A' H → Keep (PF p A) H H' → Q .non H'
@[irreducible] def spOpInit (C : Addr) : Sp := fun vs H Q _ => ∃ (x dx ta : Addr) (kd : Str) (st : List Str) (n : Nat), vs = [.ref x, .str kd, .ref ta, .int (n : Int)] ∧ H x = some (.ins C dx []) ∧ Q .non (upd H x (.ins C dx (opF [] ⟨kd, st, n, none, false, none, none, 0⟩ ta)))
@[irreducible] def spBegun (C D : Addr) : Sp := fun vs H Q _ => ∃ (c : Conf) (p : Addr) (A : PL) (t : PSt) (w : Str), vs = [.ref p, .str w] ∧ PlayAt C D c H p A t ∧
  ∀ (H' : Hp) (x dx ta : Addr), Same H H' → H x = none → H' x = some (.ins C dx (opF [] (newP c w t.past.length) ta)) → H' ta = some (.tup ((newP c w t.past.length).steps.map V.str)) → Q (.ref x) H'
@[irreducible] def spStep (C D : Addr) : Sp := fun vs H Q _ => ∃ (c : Conf) (p : Addr) (A : PL) (t : PSt) (w : Str) (j k : Nat), vs = [.ref p, .str w, .int (j : Int)] ∧ A.g + j = k ∧ PlayAt C D c H p A t ∧ t.ops.length ≤ 100 ∧ k ≤ t.ops.length ∧
  (∀ o, (preP c t w k).ops[k]? = some o → StepPre o w) ∧ MutA C D c H p A (stepP c t w k) Q
section
variable {C D p : Addr} {c : Conf} {H H' : Hp} {A : PL} {t t' : PSt} {k : Nat} {a : Addr} {o o' : POp} {w : Str} {Q : VK} {E : XK}
theorem opinit_i {x dx ta : Addr} {kd : Str} {st : List Str} {n : Nat} (h : H x = some (.ins C dx [])) (q : Q .non (upd H x (.ins C dx (opF [] ⟨kd, st, n, none, false, none, none, 0⟩ ta)))) : spOpInit C [.ref x, .str kd, .ref ta, .int (n : Int)] H Q E := by
  unfold spOpInit
  exact ⟨x, dx, ta, kd, st, n, rfl, h, q⟩
theorem begun_i (L : PlayAt C D c H p A t) (q : ∀ (H' : Hp) (x dx ta : Addr), Same H H' → H x = none → H' x = some (.ins C dx (opF [] (newP c w t.past.length) ta)) → H' ta = some (.tup ((newP c w t.past.length).steps.map V.str)) → Q (.ref x) H') : spBegun C D [.ref p, .str w] H Q E := by
  unfold spBegun
  exact ⟨c, p, A, t, w, rfl, L, q⟩
theorem step_i {j : Nat} (ek : A.g + j = k) (L : PlayAt C D c H p A t) (hl : t.ops.length ≤ 100) (hk : k ≤ t.ops.length) (h : ∀ o, (preP c t w k).ops[k]? = some o → StepPre o w) (q : MutA C D c H p A (stepP c t w k) Q) : spStep C D [.ref p, .str w, .int (j : Int)] H Q E := by
  unfold spStep
  exact ⟨c, p, A, t, w, j, k, rfl, ek, L, hl, hk, h, q⟩
end
section
variable {P : Program} {w : World} {K : PySem.W.Frag} {mg : Str → Option Value} {base : Heap}
theorem ok_Operation_init (T : Txt K mg) : FnOk P w K mg base CX0 1 T.f_Operation_init T.fd_Operation_init ["self", "kind", "steps", "began"] (spOpInit T.C_Operation) := by
  refine T.F_Operation_init.ok sc_Operation_init (fun vs H Q E h => ?_) (fun cdv A outer s H vs Q E hr h => ?_)
  · unfold spOpInit at h
    obtain ⟨x, dx, ta, kd, st, n, rfl, _⟩ := h
    rfl
  · unfold spOpInit at h
    obtain ⟨x, dx, ta, kd, st, n, rfl, hx, q⟩ := h
    refine ⟨_, (pss_cons (ps_fld (pv 0) (pv 1) rfl)
      (pss_cons (ps_fld (pv 0) (pv 2) rfl)
      (pss_cons (ps_fld (pv 0) (pv 3) rfl)
      (pss_cons (ps_fld (pv 0) pe_non rfl)
      (pss_cons (ps_fld (pv 0) pe_bl rfl)
      (pss_cons (ps_fld (pv 0) pe_non rfl)
      (pss_cons (ps_fld (pv 0) pe_non rfl)
      (pss_one (ps_fld (pv 0) pe_int rfl))))))))), ?_⟩
    refine ⟨_, rfl, _, rfl, _, _, _, _, rfl, hx, T.c_Operation, T.a_Operation_kind, (by show 0 < 1000; decide), ?_⟩
    refine ⟨_, rfl, _, rfl, _, _, _, _, rfl, upd_same, T.c_Operation, T.a_Operation_steps, (by show 1 < 1000; decide), ?_⟩
    refine ⟨_, rfl, _, rfl, _, _, _, _, rfl, upd_same, T.c_Operation, T.a_Operation_began, (by first | (show 2 < 1000; decide) | decide +kernel), ?_⟩
    refine ⟨_, rfl, _, _, _, _, rfl, upd_same, T.c_Operation, T.a_Operation_left, (by first | (show 3 < 1000; decide) | decide +kernel), ?_⟩
    refine ⟨_, rfl, _, _, _, _, rfl, upd_same, T.c_Operation, T.a_Operation_stopped, (by first | (show 4 < 1000; decide) | decide +kernel), ?_⟩
    refine ⟨_, rfl, _, _, _, _, rfl, upd_same, T.c_Operation, T.a_Operation_version, (by first | (show 5 < 1000; decide) | decide +kernel), ?_⟩
    refine ⟨_, rfl, _, _, _, _, rfl, upd_same, T.c_Operation, T.a_Operation_awaited, (by first | (show 6 < 1000; decide) | decide +kernel), ?_⟩
    refine ⟨_, rfl, _, _, _, _, rfl, upd_same, T.c_Operation, T.a_Operation_wipes_seen, (by first | (show 7 < 1000; decide) | decide +kernel), ?_⟩
    rw [upd_upd, upd_upd, upd_upd, upd_upd, upd_upd, upd_upd, upd_upd]
    have e : putF "wipes_seen" (.int 0) (putF "awaited" .non (putF "version" .non (putF "stopped" (.bl false) (putF "left" .non (putF "began" (.int (n : Int)) (putF "steps" (.ref ta) (putF "kind" (.str kd) []))))))) = opF [] ⟨kd, st, n, none, false, none, none, 0⟩ ta := by kernel_rfl
    rw [e]
    exact q
theorem ok_Play_begun (T : Txt K mg) : FnOk P w K mg base CX0 3 T.f_Play_begun T.fd_Play_begun ["self", "word"] (spBegun T.C_Operation T.C_Play) := by
  refine T.F_Play_begun.ok sc_Play_begun (fun vs H Q E h => ?_) (fun cdv A outer s H vs Q E hr h => ?_)
  · unfold spBegun at h
    obtain ⟨c, p, A, t, w, rfl, _⟩ := h
    rfl
  · unfold spBegun at h
    obtain ⟨c, p, A, t, w, rfl, L, q⟩ := h
    refine ⟨_, (pss_cons (ps_set (i := 2) sc_Play_begun.nd rfl (Or.inl rfl) (pe_callB call_len_seq (by rfl) T.n_len (by decide +kernel) (pa_cons (pe_fld (pv 0) rfl) pa_nil)))
      (pss_cons (ps_if (pt_cmpR op_ne (pv 1) pe_str (nomark _)) (pss_one (ps_ret (pe_make T.k_Operation (ok_Operation_init T) (hr.mono (by decide)) rfl T.m_Operation (b_Operation_init T) .nil pass0 (pa_cons pe_str (pa_cons (pe_fld (pv 0) rfl) (pa_cons (pv 2) pa_nil)))))) pss_nil)
      (pss_cons (ps_if (pt_cmpR op_eq (pe_fld (pv 0) rfl) pe_str (nomark _)) (pss_one (ps_ret (pe_make T.k_Operation (ok_Operation_init T) (hr.mono (by decide)) rfl T.m_Operation (b_Operation_init T) .nil pass0 (pa_cons pe_str (pa_cons (pe_tup (pa_cons pe_str (pa_cons pe_str pa_nil))) (pa_cons (pv 2) pa_nil)))))) pss_nil)
      (pss_one (ps_ret (pe_make T.k_Operation (ok_Operation_init T) (hr.mono (by decide)) rfl T.m_Operation (b_Operation_init T) .nil pass0 (pa_cons pe_str (pa_cons (pe_tup (pa_cons pe_str (pa_cons pe_str (pa_cons pe_str pa_nil)))) (pa_cons (pv 2) pa_nil))))))))), ?_⟩
    have eN : ((A.eas.map V.ref).length : Int) = (t.past.length : Int) := by rw [L.evs.length]
    have mk : ∀ (H1 : Hp) (ta : Addr) (kd : Str) (st : List Str), Same H H1 → newP c w t.past.length = ⟨kd, st, t.past.length, none, false, none, none, 0⟩ → H1 ta = some (.tup (st.map V.str)) → ∀ x dx, H1 x = none → H1 dx = none → dx ≠ x →
        spOpInit T.C_Operation [.ref x, .str kd, .ref ta, .int ((A.eas.map V.ref).length : Int)] (upd (upd H1 dx (.own x)) x (.ins T.C_Operation dx [])) (fun v H2 => v = .non ∧ Q (.ref x) H2) E0 := fun H1 ta kd st S e ht x dx nx ndx ne => by
      rw [eN]
      refine opinit_i (st := st) upd_same ⟨rfl, ?_⟩
      have S2 : Same H1 (upd H1 dx (.own x)) := same_new ndx
      have nx2 : (upd H1 dx (.own x)) x = none := by rw [upd_ne (Ne.symm ne)]; exact nx
      rw [upd_upd]
      have S3 := S2.trans (same_new (o := .ins T.C_Operation dx (opF [] ⟨kd, st, t.past.length, none, false, none, none, 0⟩ ta)) nx2)
      refine q _ x dx ta (S.trans S3) ?_ (by rw [e]; exact upd_same) (by rw [e]; exact S3 _ _ ht)
      cases hh : H x with
      | none => rfl
      | some u => rw [S _ _ hh] at nx; cases nx
    refine ⟨_, rfl, _, _, _, _, _, rfl, L.at_, T.c_Play, T.a_Play_past, l_Play_past, _, _, rfl, .inl (SqL.of L.pa), ?_⟩
    refine ⟨_, rfl, rfl, _, rfl, ?_⟩
    refine iteSn (fun e => ?_) (fun e => ?_)
    · refine ⟨_, rfl, _, _, _, _, _, rfl, L.at_, T.c_Play, T.a_Play_path, l_Play_path, _, rfl, ?_⟩
      exact mk H A.tp "write" c.steps (fun _ _ z => z) (if_neg e) L.tp
    · have n1 : newP c w t.past.length = ⟨"read", if c.guard = "never" then ["look", "fetch"] else ["look", "fetch", "fill"], t.past.length, none, false, none, none, 0⟩ := if_pos e
      refine ⟨_, rfl, _, _, _, _, _, rfl, L.at_, T.c_Play, T.a_Play_guard, l_Play_guard, rfl, _, rfl, ?_⟩
      refine iteS (fun g => ?_) (fun g => ?_)
      · rw [if_pos g] at n1
        refine ⟨(by show 2 ≤ sizeLine; decide), fun ta na => ⟨_, rfl, ?_⟩⟩
        exact mk _ ta "read" ["look", "fetch"] (same_new na) n1 upd_same
      · rw [if_neg g] at n1
        refine ⟨(by show 3 ≤ sizeLine; decide), fun ta na => ⟨_, rfl, ?_⟩⟩
        exact mk _ ta "read" ["look", "fetch", "fill"] (same_new na) n1 upd_same
theorem keepA {H H1 H2 : Hp} {p : Addr} {A A' : PL} (K1 : Keep (PF p A) H H1) (K2 : Keep (PF p A') H1 H2) (g : Grew A A' H) : Keep (PF p A) H H2 := fun b u e n => K2 b u (K1 b u e n) fun z => by
  rcases z with z | z | z | z
  · exact n (.inl z)
  · exact n (.inr (.inl (by rw [z, g.lo])))
  · exact n (.inr (.inr (.inl (by rw [z, g.pa]))))
  · rcases g.oas b z with y | y
    · exact n (.inr (.inr (.inr y)))
    · rw [y] at e
      cases e
theorem cut1 {st : List Str} (ne : st ≠ []) : cutV (st.map V.str) (some 1) none = (st.drop 1).map V.str := by
  cases st with
  | nil => exact absurd rfl ne
  | cons x r =>
    have e : HT.sIx (List.map V.str (x :: r)).length 0 (some ((1 : Nat) : Int)) = 1 := by
      rw [HT.sIx_nat, List.length_map, List.length_cons]
      omega
    unfold cutV
    rw [show ((1 : Int)) = ((1 : Nat) : Int) from rfl, e]
    show (List.drop 1 (List.map V.str (x :: r))).take ((List.map V.str (x :: r)).length - 1) = List.map V.str (List.drop 1 (x :: r))
    simp
    exact List.take_of_length_le (by rw [List.length_map]; exact Nat.le_refl _)
theorem not_whole {st : List Str} (ne : st ≠ []) : ¬ (HT.sIx (st.map V.str).length 0 (some 1) = 0 ∧ HT.sIx (st.map V.str).length (st.map V.str).length none = (st.map V.str).length) := fun z => by
  cases st with
  | nil => exact absurd rfl ne
  | cons x r =>
    have e : HT.sIx (List.map V.str (x :: r)).length 0 (some ((1 : Nat) : Int)) = 1 := by
      rw [HT.sIx_nat, List.length_map, List.length_cons]
      omega
    have z1 : HT.sIx (List.map V.str (x :: r)).length 0 (some ((1 : Nat) : Int)) = 0 := z.1
    rw [e] at z1
    cases z1
theorem ok_Play_step (T : Txt K mg) : FnOk P w K mg base CX0 5 T.f_Play_step T.fd_Play_step ["self", "word", "number"] (spStep T.C_Operation T.C_Play) := by
  refine T.F_Play_step.ok sc_Play_step (fun vs H Q E h => ?_) (fun cdv A outer s H vs Q E hr h => ?_)
  · unfold spStep at h
    obtain ⟨c, p, A, t, w, j, k, rfl, _⟩ := h
    rfl
  · unfold spStep at h
    obtain ⟨c, p, A, t, w, j, k, rfl, ek, L, hl, hk, pre, q⟩ := h
    refine ⟨_, (Evl.pss_cut (ps_if (pt_cmpR op_eq (pv 2) (pe_callB call_len_seq (by rfl) T.n_len (by decide +kernel) (pa_cons (pe_fld (pv 0) rfl) pa_nil)) (nomark _)) (pss_one (ps_expr (pe_bm PySem.F.plainAttrs_list PySem.F.slot_list_append PySem.F.type_list_append mt_append (pe_fld (pv 0) rfl) (pa_cons (pe_meth (pv 0) T.c_Play T.M_Play_begun (ok_Play_begun T) (hr.mono (by decide)) (b_Play_begun T) .nil pass0 (pa_cons (pv 1) pa_nil)) pa_nil)))) pss_nil)
      (pss_cons (ps_set (i := 3) sc_Play_step.nd rfl (Or.inl rfl) (pe_ix ix_list (pe_fld (pv 0) rfl) (pv 2) (fun _ _ => rfl)))
      (pss_cons (ps_fld (pv 3) (pe_slice sl_tupA (pe_fld (pv 3) rfl) (po_some pe_int) po_none) rfl)
      (Evl.pss_cut (ps_if (pt_cmpR op_eq (pv 1) pe_str (nomark _)) (pss_one (ps_expr (pe_meth (pv 0) T.c_Play T.M_Play_look (ok_Play_look T) (hr.mono (by decide)) (b_Play_look T) .nil pass0 (pa_cons (pv 3) pa_nil)))) (pss_one (ps_if (pt_cmpR op_eq (pv 1) pe_str (nomark _)) (pss_one (ps_expr (pe_meth (pv 0) T.c_Play T.M_Play_fetch (ok_Play_fetch T) (hr.mono (by decide)) (b_Play_fetch T) .nil pass0 (pa_cons (pv 3) pa_nil)))) (pss_one (ps_if (pt_cmpR op_eq (pv 1) pe_str (nomark _)) (pss_one (ps_expr (pe_meth (pv 0) T.c_Play T.M_Play_fill (ok_Play_fill T) (hr.mono (by decide)) (b_Play_fill T) .nil pass0 (pa_cons (pv 3) pa_nil)))) (pss_one (ps_if (pt_cmpR op_eq (pv 1) pe_str (nomark _)) (pss_one (ps_expr (pe_meth (pv 0) T.c_Play T.M_Play_take (ok_Play_take T) (hr.mono (by decide)) (b_Play_take T) .nil pass0 (pa_cons (pv 3) pa_nil)))) (pss_one (ps_if (pt_cmpR op_eq (pv 1) pe_str (nomark _)) (pss_one (ps_expr (pe_meth (pv 0) T.c_Play T.M_Play_store (ok_Play_store T) (hr.mono (by decide)) (b_Play_store T) .nil pass0 (pa_cons (pv 3) pa_nil)))) (pss_one (ps_if (pt_cmpR op_eq (pv 1) pe_str (nomark _)) (pss_one (ps_expr (pe_meth (pv 0) T.c_Play T.M_Play_drop (ok_Play_drop T) (hr.mono (by decide)) (b_Play_drop T) .nil pass0 (pa_cons (pv 3) pa_nil)))) (pss_one (ps_expr (pe_meth (pv 0) T.c_Play T.M_Play_put (ok_Play_put T) (hr.mono (by decide)) (b_Play_put T) .nil pass0 (pa_cons (pv 3) pa_nil)))))))))))))))
      (pss_one (ps_if (pt_val (pe_meth0 (pv 3) T.c_Operation T.M_Operation_has_ended (ok_Operation_has_ended T) (hr.mono (by decide)) (b_Operation_has_ended T) .nil pass0)) (pss_one (ps_fld (pv 3) (pe_callB call_len_seq (by rfl) T.n_len (by decide +kernel) (pa_cons (pe_fld (pv 0) rfl) pa_nil)) rfl)) pss_nil)))))), ?_⟩
    refine ⟨fun σ' H' => ∃ x3 A', σ' = [some (.ref p), some (.str w), some (.int (j : Int)), x3] ∧ PlayAt T.C_Operation T.C_Play c H' p A' (preP c t w k) ∧ Grew A A' H ∧ Keep (PF p A) H H', ?_, ?_⟩
    · refine ⟨_, rfl, _, rfl, _, _, _, _, _, rfl, L.at_, T.c_Play, T.a_Play_operations, l_Play_operations, _, _, rfl, .inl (SqL.of L.lo), rfl, _, rfl, ?_⟩
      have gl := L.gl
      rw [L.ops.len] at gl
      have eL : (((A.oas.drop A.g).map V.ref).length : Int) = ((t.ops.length - A.g : Nat) : Int) := by rw [List.length_map, List.length_drop, L.ops.len]
      rw [eL]
      unfold preP
      refine iteI (fun e => ?_) (fun e => ?_)
      · rw [if_pos (by omega)]
        refine ⟨_, rfl, _, _, _, _, _, rfl, L.at_, T.c_Play, T.a_Play_operations, l_Play_operations, .inl ⟨rfl, _, SqL.of L.lo⟩, ?_⟩
        refine ⟨_, rfl, _, _, _, rfl, L.at_, ln_Play_begun, _, rfl, ?_⟩
        refine begun_i L fun H1 x dx ta S nx hx ht => ?_
        have L1 := L.same S
        have na : ¬ x ∈ A.oas := fun z => by
          obtain ⟨i, hi, ei⟩ := List.getElem_of_mem z
          obtain ⟨o, _, ⟨dx', ta', h1, _⟩⟩ := L.ops.ofAt (k := i) (a := x) (by rw [List.getElem?_eq_getElem hi, ei])
          rw [h1] at nx
          cases nx
        refine ⟨_, _, _, rfl, rfl, L1.lo, (by rw [List.length_map, List.length_drop, L.ops.len]; exact Nat.lt_of_le_of_lt (Nat.le_trans (Nat.sub_le _ _) hl) (by decide)), ?_⟩
        have w0 : (newP c w t.past.length).awaited = none := by
          unfold newP
          split <;> rfl
        refine ⟨none, { A with oas := A.oas ++ [x] }, rfl, L1.opush na hx ht w0, ⟨rfl, rfl, rfl, rfl, rfl, fun b hb => ?_, List.prefix_append _ _⟩, ?_⟩
        · have hb' : b ∈ (A.oas ++ [x]).drop A.g := hb
          rw [List.drop_append_of_le_length L.gl] at hb'
          rcases List.mem_append.mp hb' with z | z
          · exact .inl z
          · simp at z
            rw [z]
            exact .inr nx
        · exact Keep.put (H1 := H1) (fun b u e' n => S b u e') (.inr (.inl rfl))
      · rw [if_neg (by omega)]
        exact ⟨none, A, rfl, L, .refl, Keep.refl⟩
    · rintro σ' H1 ⟨x3, A', rfl, L1, gr, K1⟩
      have hk1 : k < (preP c t w k).ops.length := by
        unfold preP
        split
        · rename_i z
          show k < (t.ops ++ [newP c w t.past.length]).length
          rw [List.length_append, z]
          exact Nat.lt_succ_self _
        · omega
      obtain ⟨o, eo⟩ : ∃ o, (preP c t w k).ops[k]? = some o := ⟨_, List.getElem?_eq_getElem hk1⟩
      obtain ⟨ne, pf, ptk, pp⟩ := pre o eo
      have z : stepP c t w k = leaveP (opP c ((preP c t w k).put k (tailP o)) k (tailP o) w) k := by
        unfold stepP
        rw [eo]
      rw [z] at q
      generalize preP c t w k = t1 at L1 hk1 eo q
      obtain ⟨a, ea, OA⟩ := L1.ops.ofOp eo
      have hgk : A'.g ≤ k := by rw [gr.g]; omega
      obtain ⟨dx, ta, h1, h2⟩ := OA
      refine ⟨_, rfl, _, _, _, _, _, rfl, L1.at_, T.c_Play, T.a_Play_operations, l_Play_operations, _, rfl, _, _, _, _, rfl, rfl, SqL.of L1.lo, at_of (j := j) (by omega) (by rw [List.getElem?_map, List.getElem?_drop, gr.g, ek, ea]; rfl), ?_⟩
      refine ⟨_, rfl, _, _, _, _, _, rfl, h1, T.c_Operation, T.a_Operation_steps, l_Operation_steps, _, rfl, _, _, rfl, SqT.of h2, (fun z => absurd z (not_whole ne)), fun _ pt np => ?_⟩
      rw [cut1 ne]
      have L2 := L1.new (u := .tup ((o.steps.drop 1).map V.str)) np
      have K2 := (Keep.refl (F := PF p A') (H := H1)).new (o := .tup ((o.steps.drop 1).map V.str)) np
      have hT : (upd H1 pt (.tup ((o.steps.drop 1).map V.str))) pt = some (.tup ((o.steps.drop 1).map V.str)) := upd_same
      generalize upd H1 pt _ = H2 at L2 K2 hT
      obtain ⟨dx2, ta2, h3, h4⟩ := L2.ops.get k a o ea eo
      refine ⟨_, rfl, _, _, _, _, rfl, h3, T.c_Operation, T.a_Operation_steps, sz_Operation, ?_⟩
      rw [p_Operation_steps (st := o.steps.drop 1)]
      have L3 := L2.oput (o' := tailP o) ea eo ⟨_, h3⟩ hT (fun l z => L1.aw k o l eo z)
      have g3 := put_gP (o' := tailP o) eo
      have K3 := K2.put (o := .ins T.C_Operation dx2 (opF A'.oas (tailP o) pt)) (pf_op hgk ea)
      have eU : (upd H2 a (.ins T.C_Operation dx2 (opF A'.oas { o with steps := o.steps.drop 1 } pt))) = upd H2 a (.ins T.C_Operation dx2 (opF A'.oas (tailP o) pt)) := rfl
      rw [eU]
      generalize upd H2 a _ = H3 at L3 K3
      have K4 := keepA K1 K3 gr
      clear K1 K2 K3
      generalize hZ : opP c (t1.put k (tailP o)) k (tailP o) w = t4 at q
      refine ⟨fun σ' H' => σ' = [some (.ref p), some (.str w), some (.int (j : Int)), some (.ref a)] ∧ PlayAt T.C_Operation T.C_Play c H' p A' t4 ∧ Keep (PF p A) H H', ?_, ?_⟩
      rotate_left
      · rintro σ' H4 ⟨rfl, L4, K5⟩
        obtain ⟨o2, eo2, OA2⟩ := L4.ops.ofAt ea
        obtain ⟨dx3, ta3, h5, h6⟩ := id OA2
        have zl : leaveP t4 k = if o2.ended then t4.put k { o2 with left := some t4.past.length } else t4 := by
          unfold leaveP
          rw [eo2]
        rw [zl] at q
        refine ⟨_, rfl, _, _, _, rfl, h5, ln_Operation_has_ended, ?_⟩
        refine ended_i OA2 ⟨_, rfl, ?_⟩
        refine iteB (fun ee => ?_) (fun ee => ?_)
        · rw [if_pos ee] at q
          refine ⟨_, rfl, _, _, _, _, _, rfl, L4.at_, T.c_Play, T.a_Play_past, l_Play_past, _, _, rfl, .inl (SqL.of L4.pa), _, rfl, _, _, _, _, rfl, h5, T.c_Operation, T.a_Operation_left, sz_Operation, ?_⟩
          rw [L4.evs.length, show V.int (t4.past.length : Int) = on (some t4.past.length) from rfl, p_Operation_left]
          have kp : ∀ u, Keep (PF p A) H (upd H4 a u) := fun u => by
            rcases gr.oas a (mem_drop hgk ea) with y | y
            · exact K5.put (.inr (.inr (.inr y)))
            · exact K5.putN y
          exact q _ A' (L4.oput ea eo2 ⟨_, h5⟩ h6 (fun l z => L4.aw k o2 l eo2 z)) gr (kp _)
        · rw [ee, if_neg (by decide)] at q
          exact q _ A' L4 gr K5
      have fin : ∀ {f : Conf → PSt → Nat → POp → PSt}, f c (t1.put k (tailP o)) k (tailP o) = t4 → Mut T.C_Operation T.C_Play c H3 p A' (f c (t1.put k (tailP o)) k (tailP o)) (fun _ H' => ([some (.ref p), some (.str w), some (.int (j : Int)), some (.ref a)] : List (Option V)) = [some (.ref p), some (.str w), some (.int (j : Int)), some (.ref a)] ∧ PlayAt T.C_Operation T.C_Play c H' p A' t4 ∧ Keep (PF p A) H H') := fun z H4 L4 K4' => by
        rw [z] at L4
        exact ⟨rfl, L4, keepA K4 K4' gr⟩
      unfold opP at hZ
      refine ⟨_, rfl, rfl, _, rfl, iteS (fun e1 => ?_) (fun e1 => ?_)⟩
      · refine ⟨_, rfl, _, _, _, rfl, L3.at_, ln_Play_look, _, rfl, ?_⟩
        exact op_i L3 hgk ea g3 trivial (fin (f := lookP) (by rw [if_pos e1] at hZ; exact hZ))
      rw [if_neg e1] at hZ
      refine ⟨_, rfl, rfl, _, rfl, iteS (fun e2 => ?_) (fun e2 => ?_)⟩
      · refine ⟨_, rfl, _, _, _, rfl, L3.at_, ln_Play_fetch, _, rfl, ?_⟩
        exact op_i L3 hgk ea g3 trivial (fin (f := fetchP) (by rw [if_pos e2] at hZ; exact hZ))
      rw [if_neg e2] at hZ
      refine ⟨_, rfl, rfl, _, rfl, iteS (fun e3 => ?_) (fun e3 => ?_)⟩
      · refine ⟨_, rfl, _, _, _, rfl, L3.at_, ln_Play_fill, _, rfl, ?_⟩
        exact op_i L3 hgk ea g3 (pf e3) (fin (f := fillP) (by rw [if_pos e3] at hZ; exact hZ))
      rw [if_neg e3] at hZ
      refine ⟨_, rfl, rfl, _, rfl, iteS (fun e4 => ?_) (fun e4 => ?_)⟩
      · refine ⟨_, rfl, _, _, _, rfl, L3.at_, ln_Play_take, _, rfl, ?_⟩
        exact op_i L3 hgk ea g3 (ptk e4) (fin (f := takeP) (by rw [if_pos e4] at hZ; exact hZ))
      rw [if_neg e4] at hZ
      refine ⟨_, rfl, rfl, _, rfl, iteS (fun e5 => ?_) (fun e5 => ?_)⟩
      · refine ⟨_, rfl, _, _, _, rfl, L3.at_, ln_Play_store, _, rfl, ?_⟩
        exact op_i L3 hgk ea g3 trivial (fin (f := storeP) (by rw [if_pos e5] at hZ; exact hZ))
      rw [if_neg e5] at hZ
      refine ⟨_, rfl, rfl, _, rfl, iteS (fun e6 => ?_) (fun e6 => ?_)⟩
      · refine ⟨_, rfl, _, _, _, rfl, L3.at_, ln_Play_drop, _, rfl, ?_⟩
        exact op_i L3 hgk ea g3 trivial (fin (f := dropP) (by rw [if_pos e6] at hZ; exact hZ))
      rw [if_neg e6] at hZ
      refine ⟨_, rfl, _, _, _, rfl, L3.at_, ln_Play_put, _, rfl, ?_⟩
      exact op_i L3 hgk ea g3 (pp e1 e2 e3 e4 e5 e6) (fin (f := putP) hZ)
end
end Ca

set_option Elab.async false
set_option linter.all false
set_option maxRecDepth 100000
set_option maxHeartbeats 4000000
namespace Ca
open PySem L2
@[irreducible] def spSteps : Sp := fun vs H Q _ => ∃ (c : Conf) (d : Addr), vs = [.ref d] ∧ H d = some (dT c) ∧ c.Ok ∧ ∀ p H', Same H H' → H p = none → H' p = some (.tup (c.steps.map V.str)) → Q (.ref p) H'
section
variable {K : PySem.W.Frag} {c : Conf} {d w a f s t : Addr} {H : Hp} {Q : VK} {E : XK}
theorem steps_i (h : H d = some (dT c)) (O : c.Ok) (q : ∀ p H', Same H H' → H p = none → H' p = some (.tup (c.steps.map V.str)) → Q (.ref p) H') : spSteps [.ref d] H Q E := by
  unfold spSteps
  exact ⟨c, d, rfl, h, O, q⟩
end
section
variable {P : Program} {w : World} {K : PySem.W.Frag} {mg : Str → Option Value} {base : Heap}
theorem ok_write_steps (T : Txt K mg) (U : TxtC K mg) : FnOk P w K mg base CX0 4 T.f_write_steps T.fd_write_steps ["design"] spSteps := by
  refine T.F_write_steps.ok sc_write_steps (fun vs H Q E h => ?_) (fun cdv A outer s H vs Q E hr h => ?_)
  · unfold spSteps at h
    obtain ⟨c, d, rfl, _⟩ := h
    rfl
  · unfold spSteps at h
    obtain ⟨c, d, rfl, hd, O, q⟩ := h
    refine ⟨_, (pss_cons (ps_expr (pe_call (ok_check_design T U) (hr.mono (by decide)) rfl T.m_check_design T.F_check_design.kp (b_check_design T) .nil pass0 (pa_cons (pv 0) pa_nil)))
      (pss_one (ps_ret (pe_callTy call_tuple_of (by rfl) T.n_tuple (by decide +kernel) (pa_cons (pe_split (pe_ix ix_tup (pv 0) pe_int (fun _ _ => rfl)) pe_str) pa_nil))))), ?_⟩
    refine ⟨_, rfl, ?_⟩
    refine chd_i hd O ?_
    have hz : c.path.length + 2 ≤ sizeLine := by
      have hp := O.p
      simp only [pathsL, List.mem_cons, List.not_mem_nil, or_false] at hp
      rcases hp with e | e | e | e | e <;> rw [e] <;> decide +kernel
    refine ⟨_, rfl, _, _, _, _, rfl, rfl, SqT.of (hd), rfl, ⟨_, rfl⟩, _, _, rfl, rfl, by decide +kernel, hz, fun l nl => ?_⟩
    have hl : (upd H l (.lst ((Txt.split c.path " ").map V.str))) l = some (.lst (c.steps.map V.str)) := upd_same
    refine ⟨_, _, rfl, .inl ⟨SqL.of hl, fun p np => ?_⟩⟩
    have S1 := same_new (o := .lst ((Txt.split c.path " ").map V.str)) nl
    refine q p _ (S1.trans (same_new np)) ?_ upd_same
    cases hh : H p with
    | none => rfl
    | some u => rw [S1 _ _ hh] at np; cases np
end
end Ca

set_option Elab.async false
set_option linter.all false
set_option maxRecDepth 100000
set_option maxHeartbeats 4000000
namespace Ca
open PySem L2
theorem upd_swap {H : Hp} {a b : Addr} {o u : HO} (n : a ≠ b) : upd (upd H b o) a u = upd (upd H a u) b o := by
  funext x
  by_cases ha : x = a
  · subst ha
    rw [upd_same, upd_ne n, upd_same]
  · rw [upd_ne ha]
    by_cases hb : x = b
    · subst hb
      rw [upd_same, upd_same]
    · rw [upd_ne hb, upd_ne hb, upd_ne ha]
def PSt.begin : PSt := ⟨0, 0, none, 0, [], none, 0, []⟩
def noteP (t : PSt) (e : Ev) : PSt := { t with past := t.past ++ [e] }
def stopP (t : PSt) (k : Nat) : PSt := match t.ops[k]? with
  | some o => t.put k { o with stopped := true, left := some t.past.length }
  | none => t
def actP (g : Nat) (c : Conf) (t : PSt) (e : Ev) : PSt :=
  if e.1 = "copy" then { t with rep := t.rep + 1 } else if e.1 = "evict" then { t with cache := none, mark := 0 }
  else match e.2 with
    | none => t
    | some k => if e.1 = "stop" then stopP t (g + k.toNat) else stepP c t e.1 (g + k.toNat)
/-- an event of a play ahead of whose operations g others stand -/
def doG (g : Nat) (c : Conf) (t : PSt) (e : Ev) : PSt := actP g c (noteP t e) e
def doP (c : Conf) (t : PSt) (e : Ev) : PSt := doG 0 c t e
inductive DoPreG (g : Nat) (c : Conf) (t : PSt) : Ev → Prop where
  | copy : DoPreG g c t ("copy", none)
  | evict : DoPreG g c t ("evict", none)
  | stop (k : Nat) (h : g + k < t.ops.length) : DoPreG g c t ("stop", some (k : Int))
  | step (w : Str) (k : Nat) (n1 : ¬ w = "copy") (n2 : ¬ w = "evict") (n3 : ¬ w = "stop") (hk : g + k ≤ t.ops.length) (h : ∀ o, (preP c (noteP t (w, some (k : Int))) w (g + k)).ops[g + k]? = some o → StepPre o w) : DoPreG g c t (w, some (k : Int))
abbrev DoPre : Conf → PSt → Ev → Prop := DoPreG 0
@[irreducible] def spDoP (C D : Addr) : Sp := fun vs H Q _ => ∃ (c : Conf) (p ea : Addr) (A : PL) (t : PSt) (e : Ev), vs = [.ref p, .ref ea] ∧ H ea = some (.tup (evV e)) ∧ PlayAt C D c H p A t ∧ t.ops.length ≤ 100 ∧ t.past.length ≤ 1000 ∧ DoPreG A.g c t e ∧ MutA C D c H p A (doG A.g c t e) Q
@[irreducible] def spPlay (C D : Addr) : Sp := fun vs H Q _ => ∃ (c : Conf) (x dx d w : Addr), vs = [.ref x, .ref d, .ref w] ∧ H x = some (.ins D dx []) ∧ H d = some (dT c) ∧ H w = some (wT c) ∧ c.Ok ∧
  ∀ (A : PL) H', A.oas = [] → A.eas = [] → A.d = d → A.w = w → H A.lo = none → H A.pa = none → Play0 C D c H' x A PSt.begin → Keep (fun b => b = x) H H' → Q .non H'
section
variable {C D p x dx d w : Addr} {c : Conf} {H H' : Hp} {A : PL} {t t' : PSt} {e : Ev} {ea : Addr} {Q : VK} {E : XK}
theorem dop_i (h : H ea = some (.tup (evV e))) (L : PlayAt C D c H p A t) (l : t.ops.length ≤ 100) (l2 : t.past.length ≤ 1000) (pre : DoPreG A.g c t e) (q : MutA C D c H p A (doG A.g c t e) Q) : spDoP C D [.ref p, .ref ea] H Q E := by
  unfold spDoP
  exact ⟨c, p, ea, A, t, e, rfl, h, L, l, l2, pre, q⟩
theorem play_i (h : H x = some (.ins D dx [])) (h1 : H d = some (dT c)) (h2 : H w = some (wT c)) (O : c.Ok) (q : ∀ (A : PL) H', A.oas = [] → A.eas = [] → A.d = d → A.w = w → H A.lo = none → H A.pa = none → Play0 C D c H' x A PSt.begin → Keep (fun b => b = x) H H' → Q .non H') : spPlay C D [.ref x, .ref d, .ref w] H Q E := by
  unfold spPlay
  exact ⟨c, x, dx, d, w, rfl, h, h1, h2, O, q⟩
end
section
variable {P : Program} {w : World} {K : PySem.W.Frag} {mg : Str → Option Value} {base : Heap}
theorem ok_Play_do (T : Txt K mg) : FnOk P w K mg base CX0 6 T.f_Play_do T.fd_Play_do ["self", "event"] (spDoP T.C_Operation T.C_Play) := by
  refine T.F_Play_do.ok sc_Play_do (fun vs H Q E h => ?_) (fun cdv A outer s H vs Q E hr h => ?_)
  · unfold spDoP at h
    obtain ⟨c, p, ea, A, t, e, rfl, _⟩ := h
    rfl
  · unfold spDoP at h
    obtain ⟨c, p, ea, A0, t0, e, rfl, he0, L0, hl0, hl2, pre0, q0⟩ := h
    refine ⟨_, (pss_cons (ps_expr (pe_bm PySem.F.plainAttrs_list PySem.F.slot_list_append PySem.F.type_list_append mt_append (pe_fld (pv 0) rfl) (pa_cons (pv 1) pa_nil)))
      (pss_cons (ps_set (i := 2) sc_Play_do.nd rfl (Or.inl rfl) (pe_ix ix_tup (pv 1) pe_int (fun _ _ => rfl)))
      (pss_one (ps_if (pt_cmpR op_eq (pv 2) pe_str (nomark _)) (pss_one (ps_fldaug (pv 0) pe_int in_add)) (pss_one (ps_if (pt_cmpR op_eq (pv 2) pe_str (nomark _)) (pss_cons (ps_fld (pv 0) pe_non rfl)
      (pss_one (ps_fld (pv 0) pe_int rfl))) (pss_one (ps_if (pt_cmpR op_eq (pv 2) pe_str (nomark _)) (pss_cons (ps_set (i := 3) sc_Play_do.nd rfl (Or.inl rfl) (pe_ix ix_list (pe_fld (pv 0) rfl) (pe_ix ix_tup (pv 1) pe_int (fun _ _ => rfl)) (fun _ _ => rfl)))
      (pss_cons (ps_fld (pv 3) pe_bl rfl)
      (pss_one (ps_fld (pv 3) (pe_callB call_len_seq (by rfl) T.n_len (by decide +kernel) (pa_cons (pe_fld (pv 0) rfl) pa_nil)) rfl)))) (pss_one (ps_expr (pe_meth (pv 0) T.c_Play T.M_Play_step (ok_Play_step T) (hr.mono (by decide)) (b_Play_step T) .nil pass0 (pa_cons (pv 2) (pa_cons (pe_ix ix_tup (pv 1) pe_int (fun _ _ => rfl)) pa_nil))))))))))))), ?_⟩
    refine ⟨_, rfl, _, _, _, _, _, rfl, L0.at_, T.c_Play, T.a_Play_past, l_Play_past, .inl ⟨rfl, _, SqL.of L0.pa⟩, _, rfl, _, _, _, rfl, rfl, L0.pa, ?_, ?_⟩
    · rw [L0.evs.length]
      exact Nat.lt_of_le_of_lt hl2 (by decide)
    have Lp := L0.ppush he0
    have he : (upd H A0.pa (.lst (A0.eas.map V.ref ++ [.ref ea]))) ea = some (.tup (evV e)) := by
      rw [upd_ne (fun z => by rw [z, L0.pa] at he0; cases he0)]
      exact he0
    have K0 : Keep (PF p A0) H (upd H A0.pa (.lst (A0.eas.map V.ref ++ [.ref ea]))) := Keep.refl.put (.inr (.inr (.inl rfl)))
    have Z0 : ∀ b, (upd H A0.pa (.lst (A0.eas.map V.ref ++ [.ref ea]))) b = none → H b = none := fun b hb => by
      by_cases z : b = A0.pa
      · rw [z, upd_same] at hb
        cases hb
      · rw [upd_ne z] at hb
        exact hb
    generalize upd H A0.pa (.lst (A0.eas.map V.ref ++ [.ref ea])) = H1 at Lp he K0 Z0
    have q : MutA T.C_Operation T.C_Play c H1 p { A0 with eas := A0.eas ++ [ea] } (actP A0.g c (noteP t0 e) e) Q := fun H' A' L' g k => q0 H' A' L' ⟨g.lo, g.pa, g.d, g.w, g.g, fun b hb => (g.oas b hb).imp id (Z0 b), g.pre⟩ (K0.trans k)
    have hl : (noteP t0 e).ops.length ≤ 100 := hl0
    have L : PlayAt T.C_Operation T.C_Play c H1 p { A0 with eas := A0.eas ++ [ea] } (noteP t0 e) := Lp
    clear Lp
    have eg : ({ A0 with eas := A0.eas ++ [ea] } : PL).g = A0.g := rfl
    generalize ({ A0 with eas := A0.eas ++ [ea] } : PL) = A at L q eg
    have pre : (∃ k : Nat, e = ((("stop" : Str), some (k : Int)) : Ev) ∧ A.g + k < (noteP t0 e).ops.length) ∨ e = ((("copy" : Str), none) : Ev) ∨ e = ((("evict" : Str), none) : Ev) ∨ (∃ (w : Str) (k : Nat), e = (w, some (k : Int)) ∧ ¬ w = "copy" ∧ ¬ w = "evict" ∧ ¬ w = "stop" ∧ A.g + k ≤ (noteP t0 e).ops.length ∧ ∀ o, (preP c (noteP t0 e) w (A.g + k)).ops[A.g + k]? = some o → StepPre o w) := by
      rw [eg]
      cases pre0 with
      | copy => exact .inr (.inl rfl)
      | evict => exact .inr (.inr (.inl rfl))
      | stop k hk => exact .inl ⟨k, rfl, hk⟩
      | step w k n1 n2 n3 hk h => exact .inr (.inr (.inr ⟨w, k, rfl, n1, n2, n3, hk, h⟩))
    rw [← eg] at q
    generalize noteP t0 e = t at L q hl pre
    clear L0 he0 hl0 hl2 pre0 q0 K0 Z0
    have w0 : ∃ r, H1 ea = some (.tup (.str e.1 :: r)) := by
      obtain ⟨w, k⟩ := e
      cases k <;> exact ⟨_, he⟩
    obtain ⟨r, h0⟩ := w0
    refine ⟨_, rfl, _, _, _, _, rfl, rfl, SqT.of h0, at_of (j := 0) (by omega) rfl, ?_⟩
    unfold actP at q
    have mt1 : ∀ {t' : PSt} {H'}, PlayAt T.C_Operation T.C_Play c H' p A t' → Keep (PF p A) H1 H' → MutA T.C_Operation T.C_Play c H1 p A t' Q → Q .non H' := fun L' K' q => q _ A L' .refl K'
    refine ⟨_, rfl, rfl, _, rfl, iteS (fun e1 => ?_) (fun e1 => ?_)⟩
    · rw [if_pos e1] at q
      refine ⟨_, rfl, _, _, _, _, _, rfl, L.at_, T.c_Play, T.a_Play_replica, l_Play_replica, _, _, rfl, rfl, _, _, L.at_, sz_Play, ?_⟩
      rw [inc_nat, p_Play_replica]
      exact mt1 (L.hput (t' := { t with rep := t.rep + 1 }) rfl rfl L.lw) (Keep.refl.put (.inl rfl)) q
    rw [if_neg e1] at q
    refine ⟨_, rfl, rfl, _, rfl, iteS (fun e2 => ?_) (fun e2 => ?_)⟩
    · rw [if_pos e2] at q
      refine ⟨_, rfl, _, _, _, _, rfl, L.at_, T.c_Play, T.a_Play_cache, sz_Play, ?_⟩
      rw [show putF "cache" V.non (plF c A t) = plF c A { t with cache := none } from p_Play_cache (v := none)]
      have L1 := L.hput (t' := { t with cache := none }) rfl rfl L.lw
      have K1 := (Keep.refl (F := PF p A) (H := H1)).put (o := .ins T.C_Play A.dx (plF c A { t with cache := none })) (p := p) (.inl rfl)
      generalize upd H1 p _ = H2 at L1 K1
      refine ⟨_, rfl, _, _, _, _, rfl, L1.at_, T.c_Play, T.a_Play_mark, sz_Play, ?_⟩
      rw [show putF "mark" (V.int 0) (plF c A { t with cache := none }) = plF c A { t with cache := none, mark := 0 } from p_Play_mark (n := 0)]
      exact mt1 (L1.hput (t' := { t with cache := none, mark := 0 }) rfl rfl L.lw) (K1.put (.inl rfl)) q
    rw [if_neg e2] at q
    rcases pre with ⟨k, rfl, hk⟩ | rfl | rfl | ⟨wd, k, rfl, n1, n2, n3, hk, h⟩
    · have he' : H1 ea = some (.tup [.str "stop", .int (k : Int)]) := he
      have q : MutA T.C_Operation T.C_Play c H1 p A (if ("stop" : Str) = "stop" then stopP t (A.g + (k : Int).toNat) else stepP c t "stop" (A.g + (k : Int).toNat)) Q := q
      rw [if_pos rfl, Int.toNat_natCast] at q
      have gl := L.gl
      rw [L.ops.len] at gl
      generalize ek : A.g + k = k' at hk q
      obtain ⟨o, eo⟩ : ∃ o, t.ops[k']? = some o := ⟨_, List.getElem?_eq_getElem hk⟩
      have z : stopP t k' = t.put k' { o with stopped := true, left := some t.past.length } := by
        unfold stopP
        rw [eo]
      rw [z] at q
      obtain ⟨a, ea', OA⟩ := L.ops.ofOp eo
      obtain ⟨dx, ta, h1, h2⟩ := OA
      refine ⟨_, rfl, rfl, _, rfl, iteS (fun e3 => ?_) (fun e3 => absurd rfl e3)⟩
      refine ⟨_, rfl, _, _, _, _, _, rfl, L.at_, T.c_Play, T.a_Play_operations, l_Play_operations, _, rfl, _, _, _, _, rfl, rfl, SqT.of he', at_of (j := 1) (by omega) rfl, ?_⟩
      refine ⟨_, _, _, _, rfl, rfl, SqL.of L.lo, at_of (j := k) (by omega) (by rw [List.getElem?_map, List.getElem?_drop, ek, ea']; rfl), ?_⟩
      refine ⟨_, rfl, _, _, _, _, rfl, h1, T.c_Operation, T.a_Operation_stopped, sz_Operation, ?_⟩
      rw [p_Operation_stopped]
      have L1 := L.oput (o' := { o with stopped := true }) ea' eo ⟨_, h1⟩ h2 (fun l z => L.aw k' o l eo z)
      have K1 := (Keep.refl (F := PF p A) (H := H1)).put (o := .ins T.C_Operation dx (opF A.oas { o with stopped := true } ta)) (pf_op (by omega) ea')
      have g1 := put_gP (o' := { o with stopped := true }) eo
      have h3 : (upd H1 a (.ins T.C_Operation dx (opF A.oas { o with stopped := true } ta))) a = some (.ins T.C_Operation dx (opF A.oas { o with stopped := true } ta)) := upd_same
      have h4 : (upd H1 a (.ins T.C_Operation dx (opF A.oas { o with stopped := true } ta))) ta = some (.tup (o.steps.map V.str)) := by
        rw [upd_ne (ne_of h2 h1 (by intro z; cases z))]
        exact h2
      generalize upd H1 a _ = H2 at L1 K1 h3 h4
      refine ⟨_, rfl, _, _, _, _, _, rfl, L1.at_, T.c_Play, T.a_Play_past, l_Play_past, _, _, rfl, .inl (SqL.of L1.pa), _, rfl, _, _, _, _, rfl, h3, T.c_Operation, T.a_Operation_left, sz_Operation, ?_⟩
      rw [L1.evs.length, show V.int (((t.put k' { o with stopped := true }).past.length : Nat) : Int) = on (some t.past.length) from rfl, p_Operation_left]
      have L2 := L1.oput (o' := { o with stopped := true, left := some t.past.length }) ea' g1 ⟨_, h3⟩ h4 (fun l z => L1.aw k' _ l g1 z)
      rw [put_pP] at L2
      exact mt1 L2 (K1.put (pf_op (by omega) ea')) q
    · exact absurd rfl e1
    · exact absurd rfl e2
    · have he' : H1 ea = some (.tup [.str wd, .int (k : Int)]) := he
      have q : MutA T.C_Operation T.C_Play c H1 p A (if wd = "stop" then stopP t (A.g + (k : Int).toNat) else stepP c t wd (A.g + (k : Int).toNat)) Q := q
      rw [if_neg n3, Int.toNat_natCast] at q
      refine ⟨_, rfl, rfl, _, rfl, iteS (fun e3 => absurd e3 n3) (fun e3 => ?_)⟩
      refine ⟨_, rfl, _, _, _, rfl, L.at_, ln_Play_step, _, rfl, _, rfl, _, _, _, _, rfl, rfl, SqT.of he', at_of (j := 1) (by omega) rfl, ?_⟩
      exact step_i rfl L hl hk h q
theorem ok_Play_init (T : Txt K mg) (U : TxtC K mg) : FnOk P w K mg base CX0 5 T.f_Play_init T.fd_Play_init ["self", "design", "world"] (spPlay T.C_Operation T.C_Play) := by
  refine T.F_Play_init.ok sc_Play_init (fun vs H Q E h => ?_) (fun cdv A outer s H vs Q E hr h => ?_)
  · unfold spPlay at h
    obtain ⟨c, x, dx, d, w, rfl, _⟩ := h
    rfl
  · unfold spPlay at h
    obtain ⟨c, x, dx, d, w, rfl, hx, hd, hw, O, q⟩ := h
    refine ⟨_, (pss_cons (ps_fld (pv 0) (pv 1) rfl)
      (pss_cons (ps_fld (pv 0) (pv 2) rfl)
      (pss_cons (ps_fld (pv 0) (pe_call (ok_write_steps T U) (hr.mono (by decide)) rfl T.m_write_steps T.F_write_steps.kp (b_write_steps T) .nil pass0 (pa_cons (pv 1) pa_nil)) rfl)
      (pss_cons (ps_fld (pv 0) (pe_ix ix_tup (pv 1) pe_int (fun _ _ => rfl)) rfl)
      (pss_cons (ps_fld (pv 0) (pe_ix ix_tup (pv 1) pe_int (fun _ _ => rfl)) rfl)
      (pss_cons (ps_fld (pv 0) (pe_ix ix_tup (pv 2) pe_int (fun _ _ => rfl)) rfl)
      (pss_cons (ps_fld (pv 0) (pe_ix ix_tup (pv 2) pe_int (fun _ _ => rfl)) rfl)
      (pss_cons (ps_fld (pv 0) (pe_ix ix_tup (pv 2) pe_int (fun _ _ => rfl)) rfl)
      (pss_cons (ps_fld (pv 0) pe_int rfl)
      (pss_cons (ps_fld (pv 0) pe_int rfl)
      (pss_cons (ps_fld (pv 0) pe_non rfl)
      (pss_cons (ps_fld (pv 0) pe_int rfl)
      (pss_cons (ps_fld (pv 0) (pe_lst pa_nil) rfl)
      (pss_cons (ps_fld (pv 0) (pe_lst pa_nil) rfl)
      (pss_cons (ps_fld (pv 0) pe_non rfl)
      (pss_one (ps_fld (pv 0) pe_int rfl))))))))))))))))), ?_⟩
    refine ⟨_, rfl, _, rfl, _, _, _, _, rfl, hx, T.c_Play, T.a_Play_design, Nat.le_of_ble_eq_true (by kernel_rfl), ?_⟩
    refine ⟨_, rfl, _, rfl, _, _, _, _, rfl, upd_same, T.c_Play, T.a_Play_world, Nat.le_of_ble_eq_true (by kernel_rfl), ?_⟩
    rw [upd_upd]
    have dx0 : ∀ {b : Addr} {xs : List V}, H b = some (.tup xs) → b ≠ x := fun {b xs} e z => by
      rw [z, hx] at e
      cases e
    generalize eF : putF "world" (.ref w) (putF "design" (.ref d) []) = F0
    have x0 : (upd H x (.ins T.C_Play dx F0)) x = some (.ins T.C_Play dx F0) := upd_same
    have d0 : (upd H x (.ins T.C_Play dx F0)) d = some (dT c) := by rw [upd_ne (dx0 hd)]; exact hd
    have w0 : (upd H x (.ins T.C_Play dx F0)) w = some (wT c) := by rw [upd_ne (dx0 hw)]; exact hw
    have k0 : Keep (fun b => b = x) H (upd H x (.ins T.C_Play dx F0)) := Keep.refl.put rfl
    generalize upd H x (.ins T.C_Play dx F0) = H0 at x0 d0 w0 k0
    refine ⟨_, rfl, ?_⟩
    refine steps_i d0 O fun tp H1 S1 ntp htp => ?_
    have nx : ∀ {b : Addr} {xs : List V}, H1 b = some (.tup xs) → b ≠ x := fun {b xs} e z => by
      rw [z, S1 _ _ x0] at e
      cases e
    have g : ∀ {b : Addr} {xs : List V} {u : HO}, H1 b = some (.tup xs) → (upd H1 x u) b = some (.tup xs) := fun {b xs u} e => by rw [upd_ne (nx e)]; exact e
    have hd1 := S1 _ _ d0
    have hw1 := S1 _ _ w0
    have lF : F0.length = 2 := by rw [← eF]; kernel_rfl
    refine ⟨_, rfl, _, _, _, _, rfl, S1 _ _ x0, T.c_Play, T.a_Play_path, (by rw [lF]; decide), ?_⟩
    subst eF
    refine ⟨_, rfl, _, _, _, _, rfl, rfl, SqT.of (g hd1), rfl, _, rfl, _, _, _, _, rfl, upd_same, T.c_Play, T.a_Play_guard, Nat.le_of_ble_eq_true (by kernel_rfl), ?_⟩
    rw [upd_upd]
    refine ⟨_, rfl, _, _, _, _, rfl, rfl, SqT.of (g hd1), rfl, _, rfl, _, _, _, _, rfl, upd_same, T.c_Play, T.a_Play_flight, Nat.le_of_ble_eq_true (by kernel_rfl), ?_⟩
    rw [upd_upd]
    refine ⟨_, rfl, _, _, _, _, rfl, rfl, SqT.of (g hw1), rfl, _, rfl, _, _, _, _, rfl, upd_same, T.c_Play, T.a_Play_source, Nat.le_of_ble_eq_true (by kernel_rfl), ?_⟩
    rw [upd_upd]
    refine ⟨_, rfl, _, _, _, _, rfl, rfl, SqT.of (g hw1), rfl, _, rfl, _, _, _, _, rfl, upd_same, T.c_Play, T.a_Play_evictions, Nat.le_of_ble_eq_true (by kernel_rfl), ?_⟩
    rw [upd_upd]
    refine ⟨_, rfl, _, _, _, _, rfl, rfl, SqT.of (g hw1), rfl, _, rfl, _, _, _, _, rfl, upd_same, T.c_Play, T.a_Play_stops, Nat.le_of_ble_eq_true (by kernel_rfl), ?_⟩
    rw [upd_upd]
    refine ⟨_, rfl, _, _, _, _, rfl, upd_same, T.c_Play, T.a_Play_database, Nat.le_of_ble_eq_true (by kernel_rfl), ?_⟩
    rw [upd_upd]
    refine ⟨_, rfl, _, _, _, _, rfl, upd_same, T.c_Play, T.a_Play_replica, Nat.le_of_ble_eq_true (by kernel_rfl), ?_⟩
    rw [upd_upd]
    refine ⟨_, rfl, _, _, _, _, rfl, upd_same, T.c_Play, T.a_Play_cache, Nat.le_of_ble_eq_true (by kernel_rfl), ?_⟩
    rw [upd_upd]
    refine ⟨_, rfl, _, _, _, _, rfl, upd_same, T.c_Play, T.a_Play_mark, Nat.le_of_ble_eq_true (by kernel_rfl), ?_⟩
    rw [upd_upd]
    refine ⟨(by show 0 ≤ sizeLine; decide), fun lo nlo => ?_⟩
    have nlx : lo ≠ x := fun z => by
      rw [z, upd_same] at nlo
      cases nlo
    have nl1 : H1 lo = none := by
      rw [upd_ne nlx] at nlo
      exact nlo
    have gx : ∀ {u : HO}, (upd (upd H1 x u) lo (.lst [])) x = some u := fun {u} => by
      rw [upd_ne nlx.symm]
      exact upd_same
    refine ⟨_, rfl, _, _, _, _, rfl, gx, T.c_Play, T.a_Play_operations, Nat.le_of_ble_eq_true (by kernel_rfl), ?_⟩
    rw [upd_swap nlx.symm, upd_upd]
    refine ⟨(by show 0 ≤ sizeLine; decide), fun pa npa => ?_⟩
    have npl : pa ≠ lo := fun z => by
      rw [z, upd_same] at npa
      cases npa
    have npx : pa ≠ x := fun z => by
      rw [z, upd_ne nlx.symm, upd_same] at npa
      cases npa
    have np1 : H1 pa = none := by
      rw [upd_ne npl, upd_ne npx] at npa
      exact npa
    have gx2 : ∀ {u : HO}, (upd (upd (upd H1 x u) lo (.lst [])) pa (.lst [])) x = some u := fun {u} => by
      rw [upd_ne npx.symm, upd_ne nlx.symm]
      exact upd_same
    refine ⟨_, rfl, _, _, _, _, rfl, gx2, T.c_Play, T.a_Play_past, Nat.le_of_ble_eq_true (by kernel_rfl), ?_⟩
    refine ⟨_, rfl, _, _, _, _, rfl, upd_same, T.c_Play, T.a_Play_leader, Nat.le_of_ble_eq_true (by kernel_rfl), ?_⟩
    rw [upd_upd]
    refine ⟨_, rfl, _, _, _, _, rfl, upd_same, T.c_Play, T.a_Play_wipes, Nat.le_of_ble_eq_true (by kernel_rfl), ?_⟩
    rw [upd_upd]
    have e : putF "wipes" (V.int 0) (putF "leader" V.non (putF "past" (V.ref pa) (putF "operations" (V.ref lo) (putF "mark" (V.int 0) (putF "cache" V.non (putF "replica" (V.int 0) (putF "database" (V.int 0) (putF "stops" (V.str c.stop) (putF "evictions" (V.str c.evict) (putF "source" (V.str c.source) (putF "flight" (V.str c.flight) (putF "guard" (V.str c.guard) (putF "path" (V.ref tp) (putF "world" (.ref w) (putF "design" (.ref d) []))))))))))))))) = plF c ⟨0, d, w, dx, tp, lo, pa, [], []⟩ PSt.begin := by kernel_rfl
    rw [e]
    have hlo0 : H0 lo = none := by
      cases hh : H0 lo with
      | none => rfl
      | some u => rw [S1 _ _ hh] at nl1; cases nl1
    have hpa0 : H0 pa = none := by
      cases hh : H0 pa with
      | none => rfl
      | some u => rw [S1 _ _ hh] at np1; cases np1
    refine q ⟨0, d, w, dx, tp, lo, pa, [], []⟩ _ rfl rfl rfl rfl (k0.free hlo0 nlx) (k0.free hpa0 npx) ⟨⟨upd_same, ?_, ?_, Nat.le_refl _, ⟨rfl, fun k a o e => (by cases e), List.nodup_nil⟩, ?_, ?_, ?_, .nil, npl.symm, fun l z => (by cases z), fun k o l e => (by cases e)⟩, rfl⟩ ?_
    · show upd _ x _ tp = _
      rw [upd_ne (nx htp), upd_ne (ne_of_none htp np1), upd_ne (ne_of_none htp nl1), upd_ne (nx htp)]
      exact htp
    · show upd _ x _ lo = _
      rw [upd_ne nlx, upd_ne npl.symm, upd_same]
      rfl
    · show upd _ x _ d = _
      rw [upd_ne (nx hd1), upd_ne (ne_of_none hd1 np1), upd_ne (ne_of_none hd1 nl1), upd_ne (nx hd1)]
      exact hd1
    · show upd _ x _ w = _
      rw [upd_ne (nx hw1), upd_ne (ne_of_none hw1 np1), upd_ne (ne_of_none hw1 nl1), upd_ne (nx hw1)]
      exact hw1
    · show upd _ x _ pa = _
      rw [upd_ne npx, upd_same]
      rfl
    · refine Keep.put ?_ rfl
      intro b u e1 n
      have e2 := S1 _ _ (k0 b u e1 n)
      rw [upd_ne (ne_of_none e2 np1), upd_ne (ne_of_none e2 nl1), upd_ne n]
      exact e2
end
end Ca

set_option Elab.async false
set_option linter.all false
set_option maxRecDepth 100000
set_option maxHeartbeats 4000000
namespace Ca
open PySem L2
/-! ### a drawn run -/
@[irreducible] def spWalk (K : PySem.W.Frag) : Sp := fun vs H Q _ => ∃ (c : Conf) (H0 : Hp) (a r d w : Addr) (m : Nat), vs = [.ref r, .ref d, .ref w, .int (m : Int)] ∧ c.Ok ∧ RowAt K H0 a r H ∧ m ≤ 60 ∧
  H d = some (.tup [.str c.path, .str c.guard, .str c.flight]) ∧ H w = some (.tup [.str c.source, .str c.evict, .str c.stop]) ∧
  ∀ h A s H', Reach c s → s.past.length ≤ m → LawAt c H' h A s → A.d = d → A.w = w → RowAt K H0 a r H' → Keep (fun b => b = r) H H' → (∀ b, Fp h A b → H b = none) → Q (.ref h) H'
theorem walk_i {K : PySem.W.Frag} {c : Conf} {H0 H : Hp} {a r d w : Addr} {m : Nat} {Q : VK} {E : XK} (O : c.Ok) (R : RowAt K H0 a r H) (hm : m ≤ 60) (h1 : H d = some (.tup [.str c.path, .str c.guard, .str c.flight])) (h2 : H w = some (.tup [.str c.source, .str c.evict, .str c.stop]))
    (q : ∀ h A s H', Reach c s → s.past.length ≤ m → LawAt c H' h A s → A.d = d → A.w = w → RowAt K H0 a r H' → Keep (fun b => b = r) H H' → (∀ b, Fp h A b → H b = none) → Q (.ref h) H') : spWalk K [.ref r, .ref d, .ref w, .int (m : Int)] H Q E := by
  unfold spWalk
  exact ⟨c, H0, a, r, d, w, m, rfl, O, R, hm, h1, h2, q⟩
theorem evs_dp {K : PySem.W.Frag} {H : Hp} : ∀ {xs : List V} {es : List Ev}, EvsAt H xs es → DpAll K H xs (es.map evD')
  | _, _, .nil => .nil
  | _, _, .cons ⟨t, e, h⟩ r => by
    subst e
    exact .cons (evD_dp h) (evs_dp r)
theorem evs_shaped : ∀ {es : List Ev}, (∀ e ∈ es, PyData.strOk e.1 = true) → PyData.canLayAll0 (es.map evD') = true ∧ PyData.depthAll (es.map evD') ≤ 1
  | [], _ => ⟨rfl, by simp [PyData.depthAll]⟩
  | e :: es, h => by
    obtain ⟨a, b⟩ := evs_shaped (es := es) fun u hu => h u (List.mem_cons_of_mem _ hu)
    have z := h e (List.mem_cons_self ..)
    obtain ⟨w, k⟩ := e
    have z : PyData.strOk w = true := z
    refine ⟨?_, ?_⟩
    · show (PyData.canLay0 (evD' (w, k)) && PyData.canLayAll0 (es.map evD')) = true
      rw [a, Bool.and_true]
      cases k <;> simp [evD', PyData.canLay0, PyData.canLayAll0, z]
    · show max (PyData.depth (evD' (w, k))) (PyData.depthAll (es.map evD')) ≤ 1
      have : PyData.depth (evD' (w, k)) ≤ 1 := by cases k <;> simp [evD', PyData.depth, PyData.depthAll]
      omega
theorem evs_list_shaped {es : List Ev} (h : ∀ e ∈ es, PyData.strOk e.1 = true) : SeqAt.shaped (.list (es.map evD')) = true := by
  obtain ⟨a, b⟩ := evs_shaped h
  unfold SeqAt.shaped
  have z1 : PyData.canLay0 (.list (es.map evD')) = true := a
  have z2 : PyData.depth (.list (es.map evD')) = PyData.depthAll (es.map evD') + 1 := rfl
  rw [z1, z2, Bool.true_and]
  exact decide_eq_true (by omega)
theorem evs_sub : ∀ {H : Hp} {xs : List V} {es : List Ev}, EvsAt H xs es → ∀ {ys : List V}, (∀ y ∈ ys, y ∈ xs) → ∃ fs, EvsAt H ys fs ∧ ∀ f ∈ fs, f ∈ es
  | _, _, _, _, [], _ => ⟨[], .nil, fun f h => by simp at h⟩
  | H, xs, es, X, y :: ys, h => by
    obtain ⟨fs, a, b⟩ := evs_sub X (ys := ys) fun z hz => h z (List.mem_cons_of_mem _ hz)
    obtain ⟨t, e, e1, e2, e3⟩ := X.get (h y (List.mem_cons_self ..))
    refine ⟨e :: fs, .cons ⟨t, e1, e2⟩ a, fun f hf => ?_⟩
    rcases List.mem_cons.mp hf with z | z
    · rw [z]; exact e3
    · exact b f z
theorem evList_len {c : Conf} {s : HS} : (evList c s).length ≤ 2 * s.ops.length + 4 := by
  have h1 : (evB s).length ≤ s.ops.length := Nat.le_trans (List.length_filterMap_le _ _) (going_len s)
  have h2 : (evC c s).length ≤ s.ops.length := by
    unfold evC
    split
    · rw [List.length_map]
      exact going_len s
    · exact Nat.zero_le _
  have h3 : (evD c s).length ≤ 1 := by
    unfold evD
    split
    · exact Nat.le_refl _
    · exact Nat.zero_le _
  have h4 : (evE c s).length ≤ 1 := by
    unfold evE
    split
    · exact Nat.le_refl _
    · exact Nat.zero_le _
  unfold evList
  simp only [List.length_append]
  have h0 : (evA c s).length = 2 := rfl
  omega
theorem RowAt.ne_tup {K : PySem.W.Frag} {H0 H : Hp} {a r t : Addr} {xs : List V} (R : RowAt K H0 a r H) (h : H t = some (.tup xs)) : t ≠ r := fun z => by
  obtain ⟨o, e, i, x, y, eo, _⟩ := R.at_
  rw [z, e, eo] at h
  cases h
theorem EvsAt.keepR {K : PySem.W.Frag} {H0 H H' : Hp} {a r : Addr} {xs : List V} {es : List Ev} (X : EvsAt H xs es) (R : RowAt K H0 a r H) (k : Keep (fun b => b = r) H H') : EvsAt H' xs es := Paired.mapP X fun _ _ ⟨t, e, h⟩ => ⟨t, e, k _ _ h (R.ne_tup h)⟩
theorem LawAt.keepR {K : PySem.W.Frag} {c : Conf} {H0 H H' : Hp} {a r h : Addr} {A : LA} {s : HS} (L : LawAt c H h A s) (R : RowAt K H0 a r H) (nf : ¬ Fp h A r) (k : Keep (fun b => b = r) H H') : LawAt c H' h A s :=
  ⟨k _ _ L.hd fun z => nf (.inl z.symm), k _ _ L.dd (R.ne_tup L.dd), k _ _ L.ww (R.ne_tup L.ww), k _ _ L.lo fun z => nf (.inr (.inl z.symm)), k _ _ L.lp fun z => nf (.inr (.inr (.inl z.symm))), L.ol,
    fun j b o p q => k _ _ (L.og j b o p q) fun z => nf (.inr (.inr (.inr (by rw [← z]; exact List.mem_of_getElem? p)))), L.el, fun i b e p q => k _ _ (L.eg i b e p q) (R.ne_tup (L.eg i b e p q)), L.nd, L.nl⟩
section
variable {P : Program} {w : World} {K : PySem.W.Frag} {mg : Str → Option Value} {base : Heap}
theorem RowAt.same {H0 H H' : Hp} {a r : Addr} (R : RowAt K H0 a r H) (S : Same H H') : RowAt K H0 a r H' := R.keep (F := fun _ => False) (fun b o e _ => S b o e) (fun _ z => z.elim) id
theorem ok_Lwalk (T : Txt K mg) : FnOk P w K mg base CX0 5 T.f_Lwalk T.fd_Lwalk ["row", "design", "world", "most"] (spWalk K) := by
  refine T.F_Lwalk.ok sc_Lwalk (fun vs H Q E h => ?_) (fun cdv A outer s H vs Q E hr h => ?_)
  · unfold spWalk at h
    obtain ⟨c, H0, a, r, d, w, m, rfl, _⟩ := h
    rfl
  · unfold spWalk at h
    obtain ⟨c, H0, a, r, d, w, m, rfl, O, R, hm, h1, h2, q⟩ := h
    have hu := hu_of hr
    refine ⟨_, (pss_cons (ps_set (i := 4) sc_Lwalk.nd rfl (Or.inr rfl) (pe_call (ok_Lbegin T) (hr.mono (by decide)) rfl T.m_Lbegin T.F_Lbegin.kp (b_Lbegin T) .nil pass0 (pa_cons (pv 1) (pa_cons (pv 2) pa_nil))))
      (pss_cons (ps_for PassesOwn.never rfl (pi_range1 rfl T.n_range (pa_cons (pe_call (ok_Ltaken T) (hr.mono (by decide)) rfl T.m_Ltaken T.F_Ltaken.kp (b_Ltaken T) .nil pass0 (pa_cons (pv 0) (pa_cons (pe_op op_add (pv 3) pe_int) pa_nil))) pa_nil)) (pg_name (i := 5) sc_Lwalk.nd rfl (Or.inl rfl)) (pss_cons (ps_set (i := 6) sc_Lwalk.nd rfl (Or.inl rfl) (pe_call (ok_Levents T) (hr.mono (by decide)) rfl T.m_Levents T.F_Levents.kp (b_Levents T) .nil pass0 (pa_cons (pv 4) pa_nil)))
      (pss_cons (ps_setLc (i := 7) (own := [("event", 8)]) rfl sc_Lwalk.nd rfl rfl (sw_true rfl rfl rfl (by decide +kernel)) (pi_list (pv 6)) (blkOk_by (N := ["row", "design", "world", "most", "h", "turn", "some", "going", "event"]) (sc := defScope s_Lwalk) (by decide +kernel)) (fun _ _ _ _ _ => (pg_name (i := 8) sc_Lwalk.nd rfl (Or.inl rfl))) (fun _ _ _ _ _ => (pts_one (PW.pt (pw_and (pt_cmpR op_eq (pe_callB (len_seqK (K := K) rfl) (by rfl) T.n_len (by decide +kernel) (pa_cons (pv 8) pa_nil)) pe_int (nomark _)) (pw_and (pt_cmpR op_lt (pe_ix (ix_tupK (K := K) rfl) (pv 8) pe_int (fun _ _ => rfl)) (pe_callB (len_seqK (K := K) rfl) (by rfl) T.n_len (by decide +kernel) (pa_cons (pe_dget hu (pv 4) pe_str (fun _ _ => rfl)) pa_nil)) (nomark _)) (pw_and1 (pt_cmpR op_ne (pe_ix (ix_tupK (K := K) rfl) (pv 8) pe_int (fun _ _ => rfl)) pe_str (nomark _)))))))) (fun _ _ _ _ _ => (pv 8)))
      (Evl.pss_cut (ps_set (i := 6) sc_Lwalk.nd rfl (Or.inl rfl) (pe_ifExp (PW.pt (pw_and (pt_cmpR (op_neD hr.units) (pv 7) (pe_lst pa_nil) (nomark _)) (pw_and1 (pt_cmpR op_gt (pe_call (ok_Ltaken T) (hr.mono (by decide)) rfl T.m_Ltaken T.F_Ltaken.kp (b_Ltaken T) .nil pass0 (pa_cons (pv 0) (pa_cons pe_int pa_nil))) pe_int (nomark _))))) (pv 7) (pv 6)))
      (pss_one (ps_expr (pe_call (ok_Ldo T) (hr.mono (by decide)) rfl T.m_Ldo T.F_Ldo.kp (b_Ldo T) .nil pass0 (pa_cons (pv 4) (pa_cons (pe_call (ok_Lpick T) (hr.mono (by decide)) rfl T.m_Lpick T.F_Lpick.kp (b_Lpick T) .nil pass0 (pa_cons (pv 0) (pa_cons (pv 6) pa_nil))) pa_nil)))))))))
      (pss_one (ps_ret (pv 4))))), ?_⟩
    refine ⟨_, rfl, _, rfl, ?_⟩
    refine begin_i h1 h2 fun h lo lp H1 S1 nh nlo nlp L1 => ?_
    have R1 := R.same S1
    refine ⟨_, rfl, _, rfl, _, _, rfl, rfl, ?_⟩
    refine taken_i R1 (by omega) (by omega) fun k H2 k0 k1 R2 K2 E2 => ?_
    have nr : ∀ b, H b = none → b ≠ r := fun b e => R.ne e
    have fr0 : ∀ b, Fp h ⟨d, w, lo, lp, [], []⟩ b → H b = none := by
      rintro b (z | z | z | z)
      · rw [z]; exact nh
      · rw [z]; exact nlo
      · rw [z]; exact nlp
      · cases z
    have L2 : LawAt c H2 h ⟨d, w, lo, lp, [], []⟩ HS.begin := L1.keepR R1 (fun z => R.ne (fr0 r z) rfl) K2
    refine ⟨k, rfl, by omega, by omega, for_range (lo := 0) (n := k.toNat) (fun i σ H' => ∃ A s x5 x6 x7, σ = [some (.ref r), some (.ref d), some (.ref w), some (.int (m : Int)), some (.ref h), x5, x6, x7, none] ∧ Reach c s ∧ s.past.length = i ∧ LawAt c H' h A s ∧ A.d = d ∧ A.w = w ∧ RowAt K H0 a r H' ∧ Keep (fun b => b = r) H H' ∧ ∀ b, Fp h A b → H b = none)
      ⟨_, _, none, none, none, rfl, .begin, rfl, L2, rfl, rfl, R2, ?_, fr0⟩ ?_ ?_⟩
    · exact (show Keep (fun b => b = r) H H1 from fun b o e _ => S1 b o e).trans K2
    · rintro i σ H3 hi ⟨A, s, x5, x6, x7, rfl, re, hp, L, ed, ew, R3, K3, fr⟩
      obtain ⟨W, hol⟩ := re.wf O
      have ol : s.ops.length ≤ 100 := by omega
      refine ⟨_, rfl, ?_⟩
      refine events_i O L ol (wait_all W O) fun f xs es H4 S4 nf hf X so pm => ?_
      have L4 := L.same S4
      have R4 := R3.same S4
      have stk : ∀ e ∈ es, PyData.strOk e.1 = true := fun e he => (do_ok W O (pm.mem_iff.mp he)).str
      have nfr : f ≠ r := R3.ne nf
      have xl : xs.length ≤ 1000 := by
        rw [X.length, pm.length_eq]
        have := evList_len (c := c) (s := s)
        omega
      -- going = [..]
      refine ⟨_, rfl, f, rfl, ⟨_, SqL.of hf⟩, fun D nD => ?_⟩
      refine lc_list (xs := xs) (fun j H' => ∃ acc, Same H4 H' ∧ H' D = some (.lst acc) ∧ acc.length ≤ j ∧ ∀ y ∈ acc, y ∈ xs) ⟨[], same_new nD, upd_same, Nat.le_refl _, fun y hy => by simp at hy⟩ (fun j H' _ ⟨_, S, _⟩ => SqL.of (S _ _ hf)) ?_ ?_
      · rintro j y H' hj ⟨acc, S, hD, al, sub⟩
        have hy : y ∈ xs := List.mem_of_getElem? hj
        obtain ⟨t, e, rfl, ht, he⟩ := X.get hy
        have ht' := S _ _ ht
        have L5 := L4.same S
        have jl : j < xs.length := (List.getElem?_eq_some_iff.mp hj).1
        have add : acc.length < sizeLine ∧ ∃ acc', Same H4 (upd H' D (.lst (acc ++ [.ref t]))) ∧ (upd H' D (.lst (acc ++ [.ref t]))) D = some (.lst acc') ∧ acc'.length ≤ j + 1 ∧ ∀ y ∈ acc', y ∈ xs := by
          refine ⟨Nat.lt_of_le_of_lt (show acc.length ≤ 1000 by omega) (by decide), acc ++ [.ref t], sN' S nD, upd_same, by rw [List.length_append, List.length_singleton]; omega, fun z hz => ?_⟩
          rcases List.mem_append.mp hz with z1 | z1
          · exact sub z z1
          · rw [List.mem_singleton.mp z1]; exact hy
        have skip : ∃ acc, Same H4 H' ∧ H' D = some (.lst acc) ∧ acc.length ≤ j + 1 ∧ ∀ y ∈ acc, y ∈ xs := ⟨acc, S, hD, by omega, sub⟩
        refine ⟨rfl, _, rfl, t, _, rfl, .inr (SqT.of ht'), rfl, _, rfl, ?_⟩
        obtain ⟨w', kk⟩ := e
        cases kk with
        | none =>
          refine (show _ → _ from fun x => x) ?_
          rw [if_neg (by show ¬ decide (V.int ((1 : Nat) : Int) = V.int 2) = true; decide)]
          exact skip
        | some kk =>
          rw [if_pos (by show decide (V.int ((2 : Nat) : Int) = V.int 2) = true; decide)]
          refine ⟨_, rfl, _, _, _, _, rfl, rfl, SqT.of (ht'), rfl, _, rfl, _, _, rfl, dget (L5.hd) rfl, _, _, rfl, .inl (SqL.of L5.lo), _, _, rfl, rfl, _, rfl, ?_⟩
          refine iteB (fun n1 => ?_) (fun n1 => ?_)
          · refine ⟨_, rfl, _, _, _, _, rfl, rfl, SqT.of (ht'), rfl, rfl, _, rfl, ?_⟩
            refine iteB (fun n2 => ?_) (fun n2 => ?_)
            · refine ⟨_, rfl, acc, hD, add⟩
            · exact skip
          · exact skip
      rintro H5 ⟨acc, S5, hD, al, sub⟩
      have L5 := L4.same S5
      have R5 := R4.same S5
      have nDr : D ≠ r := R4.ne nD
      have X5 := X.same S5
      have hf5 := S5 _ _ hf
      obtain ⟨fs, X5', sub'⟩ := evs_sub X5 sub
      have nfp : ¬ Fp h A r := fun z => R.ne (fr r z) rfl
      have xne : xs ≠ [] := fun z => by
        have e1 := pm.length_eq
        have e2 : xs.length = es.length := X.length
        rw [z] at e2
        have e3 : 2 ≤ (evList c s).length := by
          unfold evList evA
          simp only [List.length_append, List.length_cons]
          omega
        simp at e2
        omega
      refine ⟨fun σ' H' => ∃ l ys, σ' = [some (.ref r), some (.ref d), some (.ref w), some (.int (m : Int)), some (.ref h), some (.int (0 + (i : Int))), some (.ref l), some (.ref D), none] ∧ LawAt c H' h A s ∧ RowAt K H0 a r H' ∧ Keep (fun b => b = r) H3 H' ∧ H' l = some (.lst ys) ∧ l ≠ r ∧ ys ≠ [] ∧ ys.length ≤ 1000 ∧ ∃ fs, EvsAt H' ys fs ∧ ∀ f ∈ fs, f ∈ es, ?_, ?_⟩
      · have K5 : Keep (fun b => b = r) H3 H5 := fun b o e _ => S5 b o (S4 b o e)
        refine ⟨_, rfl, Nat.zero_le _, fun p np => ?_⟩
        have s6 := same_new (o := .lst []) np
        have L6 := L5.same s6
        have R6 := R5.same s6
        have K6 : Keep (fun b => b = r) H3 (upd H5 p (.lst [])) := K5.new np
        have hp : (upd H5 p (.lst [])) p = some (.lst []) := upd_same
        have hD6 := s6 _ _ hD
        have hf6 := s6 _ _ hf5
        have X6 := X5.same s6
        have X6' := X5'.same s6
        generalize upd H5 p (.lst []) = H6 at s6 L6 R6 K6 hp hD6 hf6 X6 X6'
        refine ⟨_, _, .lst (SqL.of hD6) (evs_dp X6'), .lst (SqL.of hp) .nil, evs_list_shaped fun e he => stk e (sub' e he), rfl, _, rfl, ?_⟩
        refine iteB (fun n => ?_) (fun n => ?_)
        · have ane : acc ≠ [] := fun z => by
            rw [z] at X6'
            cases X6'
            revert n
            show ¬ (!PyData.eqv (.list []) (.list [])) = true
            decide
          refine ⟨_, rfl, ?_⟩
          refine taken_i R6 (by decide) (by decide) fun k2 H7 _ _ R7 K7 _ => ?_
          have L7 := L6.keepR R6 nfp K7
          refine ⟨_, _, rfl, rfl, _, rfl, ?_⟩
          refine iteB (fun n2 => ?_) (fun n2 => ?_)
          · exact ⟨_, rfl, D, acc, rfl, L7, R7, K6.trans K7, K7 _ _ hD6 nDr, nDr, ane, by omega, fs, X6'.keepR R6 K7, sub'⟩
          · exact ⟨_, rfl, f, xs, rfl, L7, R7, K6.trans K7, K7 _ _ hf6 nfr, nfr, xne, xl, es, X6.keepR R6 K7, fun _ z => z⟩
        · exact ⟨_, rfl, f, xs, rfl, L6, R6, K6, hf6, nfr, xne, xl, es, X6, fun _ z => z⟩
      · rintro σ' H7 ⟨l, ys, rfl, L7, R7, K7, hl, nlr, yne, yl, gs, X7, sub7⟩
        refine ⟨_, rfl, _, rfl, _, rfl, ?_⟩
        refine pick_i ys R7 hl nlr yne yl fun x H8 hx R8 K8 => ?_
        have L8 := L7.keepR R7 nfp K8
        obtain ⟨t, e, rfl, ht, he⟩ := X7.get hx
        have ht8 : H8 t = some (.tup (evV e)) := K8 _ _ ht (R7.ne_tup ht)
        have hev := pm.mem_iff.mp (sub7 e he)
        have dk := do_ok W O hev
        refine do_i O L8 ht8 dk.str dk.ok ol (by omega) fun H9 A' L9 ed' ew' elo elp oa K9 => ?_
        have nF : ∀ b o, H b = some o → ¬ Fp h A b := fun b o e f => by rw [fr b f] at e; cases e
        have KK : Keep (fun b => b = r) H H8 := (K3.trans K7).trans K8
        refine ⟨A', _, _, _, _, rfl, .step re hev, by rw [do_past, List.length_append, hp]; rfl, L9, ed'.trans ed, ew'.trans ew, R8.keep K9 (fun b f => R.sm.free (fr b f)) nfp, fun b o e n => K9 b o (KK b o e n) (nF b o e), ?_⟩
        rintro b (z | z | z | z)
        · exact fr b (.inl z)
        · exact fr b (.inr (.inl (by rw [← elo]; exact z)))
        · exact fr b (.inr (.inr (.inl (by rw [← elp]; exact z))))
        · rcases oa.1 b z with y | y
          · exact fr b (.inr (.inr (.inr y)))
          · exact KK.free y (R8.ne y)
    · rintro σ H' ⟨A, s, x5, x6, x7, rfl, re, hp, L, ed, ew, R3, K3, fr⟩
      refine ⟨_, rfl, ?_⟩
      exact q h A s H' re (by omega) L ed ew R3 K3 fr
end
end Ca

set_option Elab.async false
set_option linter.all false
set_option maxRecDepth 100000
set_option maxHeartbeats 4000000
/-! enumerate over a tuple: made, walked; as a rule -/
namespace PySem
open Sem (wp)
theorem meets_enumT (v : Value) (o : Obj) (H : Heap → Prop) (B : Begins v o H) :
    Meets (Builtin.«enumerate.__new__» ⟨[.type "enumerate", v], []⟩) (fun _ R s => H s.heap ∧
      R (.ok (.ret (.ref (s.heap.push o).objs.size))) { s with heap := (s.heap.push o).push { cls := .type "enumerate", data := .fields #[.none, .bool false, .ref s.heap.objs.size, rawInt 0, .none, .none] } }) :=
  .of_wp fun prog w A R s h => by
    obtain ⟨hp, g, d, tk, os⟩ := s; obtain ⟨h1, h⟩ := h
    have hsub := sub_enumerate
    have q1 : ∀ {A' : Around} {E : Value → Shared → Prop} {Q : Value → Shared → Prop}, Q (.ref hp.objs.size) ⟨hp.push o, g, d, tk, os⟩ → wpAny (model prog w) A' (pyIter v) Q E ⟨hp, g, d, tk, os⟩ :=
      fun q => B.iter prog w _ _ ⟨hp, g, d, tk, os⟩ _ h1 q
    wp_walk using q1
    refine wpAny_stack_any fun st => wpAny_pure ?_
    split
    · rename_i c _ _ _ _ _
      cases (c == Value.type "enumerate")
      · wp_walk using q1
        exact ⟨_, rfl, h⟩
      · wp_walk using q1
        exact ⟨_, rfl, h⟩
    · wp_walk using q1
      exact ⟨_, rfl, h⟩
section
variable {prog : Program} {w : World} {A : Around} {E : Value → Shared → Prop} {s : Shared}
theorem call_enumT {t : Addr} {items : Array Value} {Q : Value → Shared → Prop} (hT : s.heap.IsTuple t items)
    (h : ∀ h', IsEnum h' (s.heap.objs.size + 1) s.heap.objs.size 0 .none → h'.IsTupleIter s.heap.objs.size t 0 → h'.objs.size = s.heap.objs.size + 2 →
      (∀ b o, s.heap.get? b = some o → h'.get? b = some o) → Q (.ref (s.heap.objs.size + 1)) { s with heap := h' }) :
    wpAny (model prog w) A (call (.type "enumerate") [.ref t]) Q E s := by
  refine callType_new F.called_enumerate (by decide) (F.typeCall_enumerate_1 _) (F.newCall_enumerate_1 _) (fun obj => F.args_object_init_2 obj _) F.entry_enumerate_new
    (meets_enumT (.ref t) _ _ (begins_tuple t items)) ⟨hT, ?_⟩
  have hz : (s.heap.push { cls := .type "tuple_iterator", data := .fields #[.ref t, .int 0 0] }).objs.size = s.heap.objs.size + 1 := Heap.size_push ..
  show _ ∧ _
  rw [hz]
  have he : IsEnum ((s.heap.push { cls := .type "tuple_iterator", data := .fields #[.ref t, .int 0 0] }).push
      { cls := .type "enumerate", data := .fields #[.none, .bool false, .ref s.heap.objs.size, rawInt 0, .none, .none] }) (s.heap.objs.size + 1) s.heap.objs.size 0 .none := by
    have := Heap.get?_push_size (s.heap.push { cls := .type "tuple_iterator", data := .fields #[.ref t, .int 0 0] })
      (o := { cls := .type "enumerate", data := .fields #[.none, .bool false, .ref s.heap.objs.size, rawInt 0, .none, .none] }) rfl
    rw [hz] at this; exact this
  refine ⟨⟨_, he, rfl⟩, h _ he ⟨_, Heap.get?_push_of_some _ (Heap.get?_push_size _ rfl), rfl, rfl⟩ (by rw [Heap.size_push, hz]) fun b o x => Heap.get?_push_of_some _ (Heap.get?_push_of_some _ x)⟩
end
end PySem
namespace L2
open PySem PySem.Spec PyProof.Rows
/-- the tuple at a, each item in a new pair -/
def IteT (K : PySem.W.Frag) (a : Addr) : It :=
  ⟨fun i H => ∃ (xs : List V) (x : V), SqT K H a xs ∧ xs[i]? = some x, fun i H v H' => ∃ T x, v = .ref T ∧ H T = none ∧ H' = upd H T (.tup [.int (i : Nat), x]) ∧ ∀ xs, SqT K H a xs → xs[i]? = some x, fun i H => ∃ xs : List V, SqT K H a xs ∧ xs.length ≤ i⟩
theorem turn_enumT {P : Program} {w : World} {K : PySem.W.Frag} {elts : List Expr} {kk : Nat} {tpos : Pos} (a e it : Addr) (ha : a ≠ it) (hae : a ≠ e) :
    Turn P w K (.Tuple elts kk tpos) (IteT K a) [e, it] e (fun i h => (∃ old, IsEnum h e it ((i : Nat) : Int) old) ∧ h.IsTupleIter it a i ∧ e ≠ it) where
  mem := by simp
  obj := fun i h st b hb => by
    obtain ⟨⟨old, he⟩, ⟨o, ho, hc, hd⟩, _⟩ := st
    have e' : b = e ∨ b = it := by simpa using hb
    rcases e' with z | z
    · rw [z]; exact ⟨_, he, fun v q => nomatch q⟩
    · rw [z]; exact ⟨o, ho, fun v q => by rw [hd] at q; cases q⟩
  keep := fun i h h' st k => let ⟨⟨old, he⟩, hi, hne⟩ := st; ⟨⟨old, k e (by simp) _ he⟩, hi.at fun o q => k it (by simp) o q, hne⟩
  item := by
    intro X hP hw hK hc i pins s σ H E I hf st hg
    subst hP hw hK
    obtain ⟨⟨old, he⟩, hit, hne⟩ := st
    obtain ⟨xs, x, hq, hx⟩ := hg
    obtain ⟨its, rv, p, hz⟩ := I.tuple hq
    obtain ⟨u, hu, ru⟩ := rv.get hx
    have hel : e < s.heap.objs.size := Heap.lt_size he
    have hil : it < s.heap.objs.size := by obtain ⟨_, q, _⟩ := hit; exact Heap.lt_size q
    have hT0 : s.heap.IsTuple a its.toArray := p
    have hlt : i < its.toArray.size := by
      have := (List.getElem?_eq_some_iff.mp hu).1
      simpa using this
    refine wpAny_pyNext_enum_itemC (Draws.tuple (A := X.A.in1) (show X.A.in1.handled = none from I.ok.hd hc) it a ha its.toArray) he ⟨hit, hT0⟩ hlt hne (by simp [hne, Ne.symm hae]) fun y h' tk hy ho hst' hT hsz hk => ?_
    have ey : y = u := by
      have : its[i]? = some y := by simpa using hy
      rw [hu] at this
      exact (Option.some.inj this).symm
    subst ey
    obtain ⟨hit', _⟩ := hst'
    refine ⟨_, rfl, wpAny_letOwnedTupleGo_enum (s := { s with heap := h', toks := tk + 1 }) ho fun h'' he' sb => ?_⟩
    have hT2 : h''.get? s.heap.objs.size = some { cls := .type "tuple", data := .seq #[.int i tk, y] } := (sb.2 _ (Nat.ne_of_gt hel)).trans hT
    have new : ObjOk X.prog X.w (upd H s.heap.objs.size (.tup [.int (i : Nat), x])) h'' s.heap.objs.size (.tup [.int (i : Nat), x]) :=
      ⟨by show 2 ≤ sizeLine; decide, [.int i tk, y], .cons ⟨_, rfl⟩ (.cons ru .nil), ⟨_, hT2, rfl, _, rfl⟩⟩
    have I1 : Inv X pins σ (upd H s.heap.objs.size (.tup [.int (i : Nat), x])) { s with heap := h'', toks := tk + 1 } :=
      I.turnedNew (ch := [e, it]) (fun b ob hb q => (sb.2 b (fun z => hb (by simp [z]))).trans (hk b ob (fun z => hb (by simp [z])) (fun z => hb (by simp [z])) q)) hf (Nat.le_refl _) new
    refine ⟨.ref s.heap.objs.size, _, I1, rfl, ⟨_, x, rfl, I.hok.fresh (Nat.le_refl _), rfl, fun ys hy => by rw [I.tuple_inj hy hq]; exact hx⟩, ⟨⟨y, ?_⟩, hit'.at fun o q => (sb.2 it (Ne.symm hne)).trans q, hne⟩, fun b hb => ?_⟩
    · have e1 : ((i + 1 : Nat) : Int) = (i : Int) + 1 := by omega
      rw [e1]; exact he'
    · have hb' : b < s.heap.objs.size := by
        have e' : b = e ∨ b = it := by simpa using hb
        rcases e' with z | z
        · rw [z]; exact hel
        · rw [z]; exact hil
      rw [upd_ne (Nat.ne_of_lt hb')]
      exact (hf b hb).1
  done := by
    intro X hP hw hK hc i pins s σ H E I hf st hg
    subst hP hw hK
    obtain ⟨⟨old, he⟩, hit, hne⟩ := st
    obtain ⟨xs, hq, hx⟩ := hg
    obtain ⟨its, rv, p, hz⟩ := I.tuple hq
    obtain ⟨f0, f1, f2, f3, f4, f5⟩ := hf it (by simp)
    have hl := rv.length
    have hT0 : s.heap.IsTuple a its.toArray := p
    have hz2 : its.toArray.size ≤ i := by simp; omega
    have D : Draws X.prog X.w X.A.in1 it [it, a] i (fun _ _ => True) (fun j h => j = i ∧ h.IsTupleIter it a i ∧ h.IsTuple a its.toArray) := {
      live := fun _ _ st => let ⟨o, ho, _⟩ := st.2.1; ⟨o, ho⟩
      frame := fun _ _ _ st hk => ⟨st.1, st.2.1.at fun o e => hk it (by simp) o e, st.2.2.at fun o e => hk a (by simp) o e⟩
      item := fun j s Q E hi st hQ => absurd st.1 (Nat.ne_of_lt hi)
      done := fun s Q E st hE => wpAny_nextOf_tuple_end (show X.A.in1.handled = none from I.ok.hd hc) st.2.1 st.2.2 (by simpa using hz2) hE }
    exact wpAny_pyNext_enum_endD D he ⟨rfl, hit, hT0⟩ fun h' eb => ⟨rfl, I.turned (t' := s.toks) (fun b o hb q => eb b o hb q) f0 f1 f3 f4 f5⟩
  self := fun A i s Q E st h => let ⟨⟨_, he⟩, _⟩ := st; wpAny_pyIter_enum he h
def iEnumT (K : PySem.W.Frag) (ta : TA) : TI := fun σ H R => ta σ H fun vs H1 => ∃ a xs, vs = [.ref a] ∧ SqT K H1 a xs ∧ R (IteT K a) H1
theorem pi_enumT {X : Cx} {e : Expr} {ta : TA} {p pos tpos : Pos} {elts : List Expr} {kk : Nat} (hg : Gl X "enumerate") (hm : X.mg "enumerate" = none) (ha : PA X [e] ta) (hs : starEach [e] X.env = [(false, eval e X.env)] := by rfl) :
    PI X (.Tuple elts kk tpos) (.Call (.Name "enumerate" p) [e] [] pos) (iEnumT X.K ta) := by
  refine ⟨fun pins s σ H R I h => ?_⟩
  refine Call_ (ld_blt I hg hm boot_enumerate (PyProof.Rows.callWith_type1 (thn (ha.run pos pins s σ H _ I h) fun us s1 ⟨vs, H1, I1, r1, q1⟩ => ?_) hs rfl))
  obtain ⟨a, xs, ex, hq, q⟩ := q1
  subst ex
  cases r1 with
  | cons r rr =>
    cases rr
    cases r
    obtain ⟨its, rv, p', hz⟩ := I1.tuple hq
    have hT0 : s1.heap.IsTuple a its.toArray := p'
    have hal : a < s1.heap.objs.size := p'.lt
    refine call_enumT hT0 fun h' he hit hsz hk => wpAny_pyIter_enum he ?_
    have I2 : Inv X pins σ H1 { s1 with heap := h' } := I1.kept (t' := s1.toks) hk
    refine ⟨s1.heap.objs.size + 1, [s1.heap.objs.size + 1, s1.heap.objs.size], _, _, H1, rfl, I2, turn_enumT a (s1.heap.objs.size + 1) s1.heap.objs.size (Nat.ne_of_lt hal) (Nat.ne_of_lt (Nat.lt_succ_of_lt hal)), ⟨⟨.none, he⟩, hit, Nat.succ_ne_self _⟩, fun b hb => ?_, q⟩
    have e' : b = s1.heap.objs.size + 1 ∨ b = s1.heap.objs.size := by simpa using hb
    have hle : s1.heap.objs.size ≤ b := by
      rcases e' with z | z
      · rw [z]; exact Nat.le_add_right _ _
      · rw [z]; exact Nat.le_refl _
    exact I1.fpOk hle (I1.hok.fresh hle)
end L2

set_option Elab.async false
set_option linter.all false
set_option maxRecDepth 100000
set_option maxHeartbeats 4000000
namespace Ca
open PySem L2
theorem for_enumL {K : PySem.W.Frag} {a : Addr} {xs : List V} {g : TG} {tb : TS} {D : Ends} {σ : St} {H : Hp} (Pv : Nat → St → Hp → Prop) (h0 : Pv 0 σ H) (hl : ∀ i σ H, i ≤ xs.length → Pv i σ H → SqL K H a xs)
    (hs : ∀ i x σ H T, xs[i]? = some x → Pv i σ H → H T = none → g (.ref T) σ (upd H T (.tup [.int (i : Nat), x])) fun σ2 H2 => tb { D with nx := Pv (i + 1), ct := Pv (i + 1), bk := D.nx } σ2 H2) (hd : ∀ σ H, Pv xs.length σ H → D.nx σ H) :
    ∃ W : Nat → Nat → St → Hp → Prop, (∃ m, W 0 m σ H) ∧ ∀ i m σ H, W i m σ H →
      ((Ite K a).stop i H ∧ D.nx σ H) ∨ ((Ite K a).go i H ∧ ∃ N : St → Hp → Prop, (∀ σ' H', N σ' H' → ∃ m', m' < m ∧ W (i + 1) m' σ' H') ∧ ∀ x H', (Ite K a).yld i H x H' → g x σ H' fun σ2 H2 => tb { D with nx := N, ct := N, bk := D.nx } σ2 H2) := by
  refine ⟨fun i m σ H => m = xs.length - i ∧ i ≤ xs.length ∧ Pv i σ H, ⟨xs.length, by simp, Nat.zero_le _, h0⟩, ?_⟩
  rintro i m σ H ⟨rfl, hi, p⟩
  have q := hl i σ H hi p
  by_cases hlt : i < xs.length
  · refine .inr ⟨⟨xs, xs[i], q, by simp [hlt]⟩, Pv (i + 1), fun σ' H' p' => ⟨xs.length - (i + 1), by omega, rfl, hlt, p'⟩, fun v H' y => ?_⟩
    obtain ⟨T, x, rfl, nT, rfl, y⟩ := y
    exact hs i x σ _ T (y xs q) p nT
  · have e : i = xs.length := by omega
    subst e
    exact .inl ⟨⟨xs, q, Nat.le_refl _⟩, hd σ H p⟩
theorem for_enumT {K : PySem.W.Frag} {a : Addr} {xs : List V} {g : TG} {tb : TS} {D : Ends} {σ : St} {H : Hp} (Pv : Nat → St → Hp → Prop) (h0 : Pv 0 σ H) (hl : ∀ i σ H, i ≤ xs.length → Pv i σ H → SqT K H a xs)
    (hs : ∀ i x σ H T, xs[i]? = some x → Pv i σ H → H T = none → g (.ref T) σ (upd H T (.tup [.int (i : Nat), x])) fun σ2 H2 => tb { D with nx := Pv (i + 1), ct := Pv (i + 1), bk := D.nx } σ2 H2) (hd : ∀ σ H, Pv xs.length σ H → D.nx σ H) :
    ∃ W : Nat → Nat → St → Hp → Prop, (∃ m, W 0 m σ H) ∧ ∀ i m σ H, W i m σ H →
      ((IteT K a).stop i H ∧ D.nx σ H) ∨ ((IteT K a).go i H ∧ ∃ N : St → Hp → Prop, (∀ σ' H', N σ' H' → ∃ m', m' < m ∧ W (i + 1) m' σ' H') ∧ ∀ x H', (IteT K a).yld i H x H' → g x σ H' fun σ2 H2 => tb { D with nx := N, ct := N, bk := D.nx } σ2 H2) := by
  refine ⟨fun i m σ H => m = xs.length - i ∧ i ≤ xs.length ∧ Pv i σ H, ⟨xs.length, by simp, Nat.zero_le _, h0⟩, ?_⟩
  rintro i m σ H ⟨rfl, hi, p⟩
  have q := hl i σ H hi p
  by_cases hlt : i < xs.length
  · refine .inr ⟨⟨xs, xs[i], q, by simp [hlt]⟩, Pv (i + 1), fun σ' H' p' => ⟨xs.length - (i + 1), by omega, rfl, hlt, p'⟩, fun v H' y => ?_⟩
    obtain ⟨T, x, rfl, nT, rfl, y⟩ := y
    exact hs i x σ _ T (y xs q) p nT
  · have e : i = xs.length := by omega
    subst e
    exact .inl ⟨⟨xs, q, Nat.le_refl _⟩, hd σ H p⟩
/-! ### the events that can come -/
def evOp (c : Conf) (t : PSt) (k : Nat) (o : POp) : List Ev :=
  (if canStep t.ops o then ([(o.steps.getD 0 "", some (k : Int))] : List Ev) else []) ++ (if c.stop = "stops" ∧ o.under = true then ([(("stop" : Str), some (k : Int))] : List Ev) else [])
def opsEv (c : Conf) (t : PSt) : Nat → List Ev
  | 0 => []
  | n + 1 => opsEv c t n ++ (match t.ops[n]? with | some o => evOp c t n o | none => [])
def copyP (c : Conf) (t : PSt) : Bool := decide (c.source = "replica") && decide (t.rep < t.db)
def evictP (c : Conf) (t : PSt) : Bool := decide (c.evict = "evicts") && (t.cache.isSome || decide (0 < t.mark))
def evPA (c : Conf) (t : PSt) : List Ev := [(("look" : Str), some (t.ops.length : Int)), (firstW c, some (t.ops.length : Int))]
def evP (c : Conf) (t : PSt) : List Ev :=
  evPA c t ++ (if copyP c t then [copyE] else []) ++ (if evictP c t then [evictE] else []) ++ opsEv c t t.ops.length
@[irreducible] def spEvP (C D : Addr) : Sp := fun vs H Q _ => ∃ (c : Conf) (p : Addr) (A : PL) (t : PSt), vs = [.ref p] ∧ c.Ok ∧ Play0 C D c H p A t ∧ t.ops.length ≤ 100 ∧
  ∀ q xs es H', Same H H' → H q = none → H' q = some (.lst xs) → EvsAt H' xs es → Srt es → es.Perm (evP c t) → Q (.ref q) H'
theorem evs_push {H' : Hp} {ys : List V} {es : List Ev} {t f : Addr} {e : Ev} (X : EvsAt H' ys es) (hf : H' f = some (.lst ys)) (nt : H' t = none) : EvsAt (upd (upd H' t (.tup (evV e))) f (.lst (ys ++ [.ref t]))) (ys ++ [.ref t]) (es ++ [e]) :=
  EvsAt.upd (zs := ys) (Paired.app (X.same (same_new nt)) (.cons ⟨t, rfl, upd_same⟩ .nil)) (same_new nt _ _ hf)
theorem iteIn {a : Nat} {A B : Prop} (h1 : 0 < a → A) (h2 : a = 0 → B) : if (!decide (V.int (a : Int) = V.int 0)) = true then A else B := by
  by_cases h : a = 0
  · rw [decide_eq_true (show V.int (a : Int) = V.int 0 by rw [h]; rfl)]
    exact h2 h
  · rw [decide_eq_false (fun z => h (by have := V.int.inj z; omega))]
    exact h1 (by omega)
section
variable {C D p : Addr} {c : Conf} {H : Hp} {A : PL} {t : PSt} {Q : VK} {E : XK}
theorem evp_i (O : c.Ok) (L : Play0 C D c H p A t) (l : t.ops.length ≤ 100) (q : ∀ q xs es H', Same H H' → H q = none → H' q = some (.lst xs) → EvsAt H' xs es → Srt es → es.Perm (evP c t) → Q (.ref q) H') : spEvP C D [.ref p] H Q E := by
  unfold spEvP
  exact ⟨c, p, A, t, rfl, O, L, l, q⟩
end
section
variable {P : Program} {w : World} {K : PySem.W.Frag} {mg : Str → Option Value} {base : Heap}
theorem ok_Play_events (T : Txt K mg) : FnOk P w K mg base CX0 4 T.f_Play_events T.fd_Play_events ["self"] (spEvP T.C_Operation T.C_Play) := by
  refine T.F_Play_events.ok sc_Play_events (fun vs H Q E h => ?_) (fun cdv A outer s H vs Q E hr h => ?_)
  · unfold spEvP at h
    obtain ⟨c, p, A, t, rfl, _⟩ := h
    rfl
  · unfold spEvP at h
    obtain ⟨c, p, A, t, rfl, O, L, ln, q⟩ := h
    refine ⟨_, (pss_cons (ps_set (i := 1) sc_Play_events.nd rfl (Or.inl rfl) (pe_callB call_len_seq (by rfl) T.n_len (by decide +kernel) (pa_cons (pe_fld (pv 0) rfl) pa_nil)))
      (pss_cons (ps_set (i := 2) sc_Play_events.nd rfl (Or.inl rfl) (pe_lst (pa_cons (pe_tup (pa_cons pe_str (pa_cons (pv 1) pa_nil))) (pa_cons (pe_tup (pa_cons (pe_ix ix_tup (pe_fld (pv 0) rfl) pe_int (fun _ _ => rfl)) (pa_cons (pv 1) pa_nil))) pa_nil))))
      (Evl.pss_cut (ps_if (PW.pt (pw_and (pt_cmpR op_eq (pe_fld (pv 0) rfl) pe_str (nomark _)) (pw_and1 (pt_cmpR op_lt (pe_fld (pv 0) rfl) (pe_fld (pv 0) rfl) (nomark _))))) (pss_one (ps_expr (pe_bm PySem.F.plainAttrs_list PySem.F.slot_list_append PySem.F.type_list_append mt_append (pv 2) (pa_cons (pe_tup (pa_cons pe_str pa_nil)) pa_nil)))) pss_nil)
      (Evl.pss_cut (ps_if (PW.pt (pw_and (pt_cmpR op_eq (pe_fld (pv 0) rfl) pe_str (nomark _)) (pw_and1 (PW.pt (pw_or (pt_cmpR op_notN (pe_fld (pv 0) rfl) pe_non (nomark _)) (pw_or1 (pt_cmpR op_ne (pe_fld (pv 0) rfl) pe_int (nomark _)))))))) (pss_one (ps_expr (pe_bm PySem.F.plainAttrs_list PySem.F.slot_list_append PySem.F.type_list_append mt_append (pv 2) (pa_cons (pe_tup (pa_cons pe_str pa_nil)) pa_nil)))) pss_nil)
      (pss_cons (ps_for PassesOwn.never rfl (pi_enum (by rfl) T.n_enumerate (pa_cons (pe_fld (pv 0) rfl) pa_nil)) (pg_tup rfl (pgs_cons (pg_name (i := 3) sc_Play_events.nd rfl (Or.inl rfl)) (pgs_cons (pg_name (i := 4) sc_Play_events.nd rfl (Or.inl rfl)) pgs_nil))) (Evl.pss_cut (ps_if (pt_val (pe_meth0 (pv 4) T.c_Operation T.M_Operation_can_step (ok_Operation_can_step T) (hr.mono (by decide)) (b_Operation_can_step T) .nil pass0)) (pss_one (ps_expr (pe_bm PySem.F.plainAttrs_list PySem.F.slot_list_append PySem.F.type_list_append mt_append (pv 2) (pa_cons (pe_tup (pa_cons (pe_ix ix_tup (pe_fld (pv 4) rfl) pe_int (fun _ _ => rfl)) (pa_cons (pv 3) pa_nil))) pa_nil)))) pss_nil)
      (pss_one (ps_if (PW.pt (pw_and (pt_cmpR op_eq (pe_fld (pv 0) rfl) pe_str (nomark _)) (pw_and1 (pt_val (pe_meth0 (pv 4) T.c_Operation T.M_Operation_is_under_way (ok_Operation_is_under_way T) (hr.mono (by decide)) (b_Operation_is_under_way T) .nil pass0))))) (pss_one (ps_expr (pe_bm PySem.F.plainAttrs_list PySem.F.slot_list_append PySem.F.type_list_append mt_append (pv 2) (pa_cons (pe_tup (pa_cons pe_str (pa_cons (pv 3) pa_nil))) pa_nil)))) pss_nil))))
      (pss_one (ps_ret (pe_callB cr_sortedE (by rfl) T.n_sorted (by decide +kernel) (pa_cons (pv 2) pa_nil))))))))), ?_⟩
    have eL : ((A.oas.map V.ref).length : Int) = (t.ops.length : Int) := by rw [List.length_map, L.ops.len]
    refine ⟨_, rfl, _, _, _, _, _, rfl, L.at_, T.c_Play, T.a_Play_operations, l_Play_operations, _, _, rfl, .inl (SqL.of L.lo0), ?_⟩
    rw [eL]
    refine ⟨_, rfl, (by show 2 ≤ sizeLine; decide), fun t1 n1 => ?_⟩
    have L2 := L.new (u := .tup [.str "look", .int (t.ops.length : Int)]) n1
    have S2 := same_new (o := .tup [.str "look", .int (t.ops.length : Int)]) n1
    have h21 : (upd H t1 (.tup [.str "look", .int (t.ops.length : Int)])) t1 = some (.tup (evV ("look", some (t.ops.length : Int)))) := upd_same
    generalize upd H t1 (.tup [.str "look", .int (t.ops.length : Int)]) = H2 at L2 S2 h21
    have hfw : (c.steps.map V.str)[0]? = some (.str (firstW c)) := by
      rw [List.getElem?_map]
      unfold firstW
      rw [List.getD_eq_getElem?_getD, List.getElem?_eq_getElem O.slen.1]
      rfl
    refine ⟨_, rfl, _, _, _, _, _, rfl, L2.at_, T.c_Play, T.a_Play_path, l_Play_path, _, _, _, _, rfl, rfl, SqT.of L2.tp, at_of (j := 0) rfl hfw, _, rfl, (by show 2 ≤ sizeLine; decide), fun t2 n2 => ⟨(by show 2 ≤ sizeLine; decide), fun f nf => ?_⟩⟩
    have S4 : Same H2 (upd (upd H2 t2 (.tup [.str (firstW c), .int (t.ops.length : Int)])) f (.lst [.ref t1, .ref t2])) := sN (same_new n2) nf
    have hf : (upd (upd H2 t2 (.tup [.str (firstW c), .int (t.ops.length : Int)])) f (.lst [.ref t1, .ref t2])) f = some (.lst [.ref t1, .ref t2]) := upd_same
    have hx : EvsAt (upd (upd H2 t2 (.tup [.str (firstW c), .int (t.ops.length : Int)])) f (.lst [.ref t1, .ref t2])) [.ref t1, .ref t2] (evPA c t) :=
      .cons ⟨t1, rfl, S4 _ _ h21⟩ (.cons ⟨t2, rfl, same_new nf _ _ upd_same⟩ .nil)
    generalize upd (upd H2 t2 (.tup [.str (firstW c), .int (t.ops.length : Int)])) f (.lst [.ref t1, .ref t2]) = H4 at S4 hf hx
    have S5 := S2.trans S4
    have nf5 : H f = none := by
      have nf' := nf
      cases hh : H f with
      | none => rfl
      | some u =>
        have := same_new (o := .tup [.str (firstW c), .int (t.ops.length : Int)]) n2 _ _ (S2 _ _ hh)
        rw [this] at nf'
        cases nf'
    clear nf n2 L2 S2 h21 S4
    -- copy
    refine ⟨fun σ' H' => ∃ xs, σ' = [some (.ref p), some (.int (t.ops.length : Int)), some (.ref f), none, none] ∧ Same H H' ∧ H' f = some (.lst xs) ∧ EvsAt H' xs (evPA c t ++ (if copyP c t then [copyE] else [])) ∧ xs.length ≤ 3, ?_, ?_⟩
    · have L5 := L.same S5
      have skip : copyP c t = false → ∃ xs, [some (.ref p), some (.int (t.ops.length : Int)), some (.ref f), none, none] = [some (V.ref p), some (V.int (t.ops.length : Int)), some (V.ref f), none, none] ∧ Same H H4 ∧ H4 f = some (.lst xs) ∧ EvsAt H4 xs (evPA c t ++ (if copyP c t then [copyE] else [])) ∧ xs.length ≤ 3 := fun e =>
        ⟨_, rfl, S5, hf, by rw [e, if_neg (by decide), List.append_nil]; exact hx, by show 2 ≤ 3; decide⟩
      unfold copyP at skip ⊢
      refine ⟨_, rfl, _, _, _, _, _, rfl, L5.at_, T.c_Play, T.a_Play_source, l_Play_source, rfl, _, rfl, iteS (fun n => ?_) (fun n => ?_)⟩
      · rw [decide_eq_true n, Bool.true_and] at skip ⊢
        refine ⟨_, rfl, _, _, _, _, _, rfl, L5.at_, T.c_Play, T.a_Play_replica, l_Play_replica, _, rfl, _, _, _, _, _, rfl, L5.at_, T.c_Play, T.a_Play_database, l_Play_database, _, _, rfl, rfl, _, rfl, iteB (fun n3 => ?_) (fun n3 => ?_)⟩
        · have n3 : t.rep < t.db := by have := of_decide_eq_true n3; omega
          refine ⟨_, rfl, .inl ⟨rfl, _, SqL.of hf⟩, (by show 1 ≤ sizeLine; decide), fun u nu => ⟨f, _, _, rfl, rfl, same_new nu _ _ hf, by show 2 < sizeLine; decide, ?_⟩⟩
          refine ⟨_, rfl, sN' (sN S5 nu) nf5, upd_same, ?_, by show 3 ≤ 3; decide⟩
          rw [decide_eq_true n3, if_pos rfl]
          exact evs_push (e := copyE) hx hf nu
        · have n3 : ¬ t.rep < t.db := by have := of_decide_eq_false n3; omega
          exact skip (by simpa using n3)
      · rw [decide_eq_false n, Bool.false_and] at skip ⊢
        exact skip rfl
    rintro σ' H6 ⟨xs6, rfl, S6, hf6, X6, l6⟩
    clear hx hf S5
    -- evict
    refine ⟨fun σ' H' => ∃ xs, σ' = [some (.ref p), some (.int (t.ops.length : Int)), some (.ref f), none, none] ∧ Same H H' ∧ H' f = some (.lst xs) ∧ EvsAt H' xs (evPA c t ++ (if copyP c t then [copyE] else []) ++ (if evictP c t then [evictE] else [])) ∧ xs.length ≤ 4, ?_, ?_⟩
    · have L6 := L.same S6
      have skip : evictP c t = false → ∃ xs, [some (.ref p), some (.int (t.ops.length : Int)), some (.ref f), none, none] = [some (V.ref p), some (V.int (t.ops.length : Int)), some (V.ref f), none, none] ∧ Same H H6 ∧ H6 f = some (.lst xs) ∧ EvsAt H6 xs (evPA c t ++ (if copyP c t then [copyE] else []) ++ (if evictP c t then [evictE] else [])) ∧ xs.length ≤ 4 := fun e =>
        ⟨_, rfl, S6, hf6, by rw [if_neg (c := evictP c t = true) (by rw [e]; decide), List.append_nil]; exact X6, by omega⟩
      have push : evictP c t = true → ∀ u, H6 u = none → ∃ xs, [some (.ref p), some (.int (t.ops.length : Int)), some (.ref f), none, none] = [some (V.ref p), some (V.int (t.ops.length : Int)), some (V.ref f), none, none] ∧ Same H (upd (upd H6 u (.tup [.str "evict"])) f (.lst (xs6 ++ [.ref u]))) ∧ (upd (upd H6 u (.tup [.str "evict"])) f (.lst (xs6 ++ [.ref u]))) f = some (.lst xs) ∧ EvsAt (upd (upd H6 u (.tup [.str "evict"])) f (.lst (xs6 ++ [.ref u]))) xs (evPA c t ++ (if copyP c t then [copyE] else []) ++ (if evictP c t then [evictE] else [])) ∧ xs.length ≤ 4 := fun e u nu => by
        refine ⟨_, rfl, sN' (sN S6 nu) nf5, upd_same, ?_, by rw [List.length_append, List.length_singleton]; omega⟩
        rw [if_pos (c := evictP c t = true) e]
        exact evs_push (e := evictE) X6 hf6 nu
      unfold evictP at skip push ⊢
      refine ⟨_, rfl, _, _, _, _, _, rfl, L6.at_, T.c_Play, T.a_Play_evictions, l_Play_evictions, rfl, _, rfl, iteS (fun n => ?_) (fun n => ?_)⟩
      · rw [decide_eq_true n, Bool.true_and] at skip push ⊢
        refine ⟨_, rfl, _, _, _, _, _, rfl, L6.at_, T.c_Play, T.a_Play_cache, l_Play_cache, rfl, _, rfl, iteNn (fun v n2 => ?_) (fun n2 => ?_)⟩
        · rw [n2] at push ⊢
          refine ⟨_, rfl, .inl ⟨rfl, _, SqL.of hf6⟩, (by show 1 ≤ sizeLine; decide), fun u nu => ⟨f, _, _, rfl, rfl, same_new nu _ _ hf6, Nat.lt_of_le_of_lt l6 (by decide), ?_⟩⟩
          exact push rfl u nu
        · rw [n2] at push skip ⊢
          refine ⟨_, rfl, _, _, _, _, _, rfl, L6.at_, T.c_Play, T.a_Play_mark, l_Play_mark, rfl, _, rfl, ?_⟩
          refine iteIn (fun n3 => ?_) (fun n3 => ?_)
          · refine ⟨_, rfl, .inl ⟨rfl, _, SqL.of hf6⟩, (by show 1 ≤ sizeLine; decide), fun u nu => ⟨f, _, _, rfl, rfl, same_new nu _ _ hf6, Nat.lt_of_le_of_lt l6 (by decide), ?_⟩⟩
            exact push (by simpa using n3) u nu
          · exact skip (by simp [n3])
      · rw [decide_eq_false n, Bool.false_and] at skip ⊢
        exact skip rfl
    rintro σ' H7 ⟨xs7, rfl, S7, hf7, X7, l7⟩
    clear X6 hf6 S6
    have L7 := L.same S7
    have hn : ∀ {n : Nat}, (opsEv c t n).length ≤ 2 * n := fun {n} => by
      induction n with
      | zero => exact Nat.le_refl _
      | succ n ih =>
        show (opsEv c t n ++ _).length ≤ _
        rw [List.length_append]
        have : ∀ o, (evOp c t n o).length ≤ 2 := fun o => by
          unfold evOp
          rw [List.length_append]
          split <;> split <;> simp
        split
        · rename_i o _
          have := this o
          omega
        · simp
          omega
    refine ⟨_, rfl, _, _, _, _, _, rfl, L7.at_, T.c_Play, T.a_Play_operations, l_Play_operations, A.lo, A.oas.map V.ref, rfl, SqL.of L7.lo0, ?_⟩
    refine for_enumL (xs := A.oas.map V.ref) (fun i σ' H' => ∃ xs x3 x4, σ' = [some (.ref p), some (.int (t.ops.length : Int)), some (.ref f), x3, x4] ∧ Same H H' ∧ H' f = some (.lst xs) ∧ EvsAt H' xs (evPA c t ++ (if copyP c t then [copyE] else []) ++ (if evictP c t then [evictE] else []) ++ opsEv c t i))
      ⟨xs7, _, _, rfl, S7, hf7, by show EvsAt H7 xs7 (_ ++ []); rw [List.append_nil]; exact X7⟩ (fun i σ' H' _ ⟨_, _, _, _, S, _⟩ => SqL.of (S _ _ L.lo0)) ?_ ?_
    · rintro i y σ' H8 tt hi ⟨xs, x3, x4, rfl, S8, hf8, X8⟩ ntt
      have hi' : ∃ a, A.oas[i]? = some a ∧ y = .ref a := by
        rw [List.getElem?_map] at hi
        cases e : A.oas[i]? with
        | none => rw [e] at hi; cases hi
        | some a =>
          rw [e] at hi
          exact ⟨a, rfl, (Option.some.inj hi).symm⟩
      obtain ⟨a, ea, rfl⟩ := hi'
      obtain ⟨o, eo, _⟩ := L.ops.ofAt ea
      have S9 := sN S8 (o := .tup [.int (i : Nat), .ref a]) ntt
      have X9 := X8.same (same_new (o := .tup [.int (i : Nat), .ref a]) ntt)
      have hf9 := same_new (o := .tup [.int (i : Nat), .ref a]) ntt _ _ hf8
      have htt : (upd H8 tt (.tup [.int (i : Nat), .ref a])) tt = some (.tup [.int (i : Nat), .ref a]) := upd_same
      generalize upd H8 tt (.tup [.int (i : Nat), .ref a]) = H9 at S9 X9 hf9 htt
      have eN : opsEv c t (i + 1) = opsEv c t i ++ evOp c t i o := by
        show opsEv c t i ++ (match t.ops[i]? with | some o => evOp c t i o | none => []) = _
        rw [eo]
      rw [eN]
      have hl' : i < t.ops.length := (List.getElem?_eq_some_iff.mp eo).1
      have xl : xs.length ≤ 300 := by
        rw [X8.length, List.length_append]
        have := hn (n := i)
        have : (evPA c t ++ (if copyP c t then [copyE] else []) ++ (if evictP c t then [evictE] else [])).length ≤ 4 := by
          rw [List.length_append, List.length_append]
          have z1 : (evPA c t).length = 2 := rfl
          have z2 : (if copyP c t then [copyE] else [] : List Ev).length ≤ 1 := by split <;> simp
          have z3 : (if evictP c t then [evictE] else [] : List Ev).length ≤ 1 := by split <;> simp
          omega
        omega
      clear X8 hf8 S8
      have wt : ∀ l, o.awaited = some l → l < t.ops.length := fun l z => L.aw i o l eo z
      refine ⟨tt, _, rfl, SqT.of htt, rfl, ?_⟩
      refine ⟨_, _, rfl, _, _, rfl, rfl, ?_⟩
      refine ⟨fun σ' H' => ∃ xs, σ' = [some (.ref p), some (.int (t.ops.length : Int)), some (.ref f), some (.int (i : Int)), some (.ref a)] ∧ Same H H' ∧ H' f = some (.lst xs) ∧ EvsAt H' xs (evPA c t ++ (if copyP c t then [copyE] else []) ++ (if evictP c t then [evictE] else []) ++ opsEv c t i ++ (if canStep t.ops o then ([(o.steps.getD 0 "", some (i : Int))] : List Ev) else [])) ∧ xs.length ≤ 301, ?_, ?_⟩
      · have L9 := L.same S9
        obtain ⟨dx, ta, h1, h2⟩ := L9.ops.get i a o ea eo
        refine ⟨_, rfl, _, _, _, rfl, h1, ln_Operation_can_step, ?_⟩
        refine can_i L9.ops ea eo wt ⟨_, rfl, ?_⟩
        refine iteB (fun cs => ?_) (fun cs => ?_)
        · rw [if_pos cs]
          have hs : ∃ w r, o.steps = w :: r := by
            cases z : o.steps with
            | nil =>
              unfold canStep POp.under POp.ended at cs
              rw [z] at cs
              simp at cs
            | cons w r => exact ⟨w, r, rfl⟩
          obtain ⟨w, r, hs⟩ := hs
          rw [hs] at h2 ⊢
          refine ⟨_, rfl, .inl ⟨rfl, _, SqL.of hf9⟩, _, rfl, _, _, _, _, _, rfl, h1, T.c_Operation, T.a_Operation_steps, l_Operation_steps, _, _, _, _, rfl, rfl, SqT.of h2, at_of (j := 0) (by omega) rfl, _, rfl, (by show 2 ≤ sizeLine; decide), fun u nu => ⟨f, _, _, rfl, rfl, same_new nu _ _ hf9, Nat.lt_of_le_of_lt xl (by decide), ?_⟩⟩
          exact ⟨_, rfl, sN' (sN S9 nu) nf5, upd_same, evs_push (e := (w, some (i : Int))) X9 hf9 nu, by rw [List.length_append, List.length_singleton]; omega⟩
        · rw [if_neg (c := canStep t.ops o = true) (by rw [cs]; decide), List.append_nil]
          exact ⟨xs, rfl, S9, hf9, X9, by omega⟩
      · rintro σ' H10 ⟨ys, rfl, S10, hf10, X10, l10⟩
        have L10 := L.same S10
        obtain ⟨dx, ta, h1, h2⟩ := L10.ops.get i a o ea eo
        have skip : ¬ (c.stop = "stops" ∧ o.under = true) → EvsAt H10 ys (evPA c t ++ (if copyP c t then [copyE] else []) ++ (if evictP c t then [evictE] else []) ++ (opsEv c t i ++ evOp c t i o)) := fun n => by
          unfold evOp
          rw [if_neg n, List.append_nil, ← List.append_assoc]
          exact X10
        refine ⟨_, rfl, _, _, _, _, _, rfl, L10.at_, T.c_Play, T.a_Play_stops, l_Play_stops, rfl, _, rfl, iteS (fun n => ?_) (fun n => ?_)⟩
        · refine ⟨_, rfl, _, _, _, rfl, h1, ln_Operation_is_under_way, ?_⟩
          refine under_i (L10.ops.get i a o ea eo) ⟨_, rfl, ?_⟩
          refine iteB (fun n3 => ?_) (fun n3 => ?_)
          · refine ⟨_, rfl, .inl ⟨rfl, _, SqL.of hf10⟩, _, rfl, (by show 2 ≤ sizeLine; decide), fun u nu => ⟨f, _, _, rfl, rfl, same_new nu _ _ hf10, Nat.lt_of_le_of_lt l10 (by decide), ?_⟩⟩
            refine ⟨_, _, _, rfl, sN' (sN S10 nu) nf5, upd_same, ?_⟩
            unfold evOp
            rw [if_pos (c := c.stop = "stops" ∧ o.under = true) ⟨n, n3⟩, ← List.append_assoc, ← List.append_assoc]
            exact evs_push (e := ("stop", some (i : Int))) X10 hf10 nu
          · exact ⟨ys, _, _, rfl, S10, hf10, skip fun z => by rw [z.2] at n3; cases n3⟩
        · exact ⟨ys, _, _, rfl, S10, hf10, skip fun z => n z.1⟩
    · rintro σ' H8 ⟨xs, x3, x4, rfl, S8, hf8, X8⟩
      rw [List.length_map, L.ops.len] at X8
      refine ⟨_, rfl, f, xs, evOf H8, rfl, SqL.of hf8, X8.all, fun vs q' sr pm np => ?_⟩
      obtain ⟨x1, x2, x3⟩ := X8.sorted sr pm
      exact q q' vs _ _ (sN S8 np) (S8.free np) upd_same (x1.same (same_new np)) x2 x3
end
end Ca

set_option Elab.async false
set_option linter.all false
set_option maxRecDepth 100000
set_option maxHeartbeats 4000000
namespace Ca
open PySem L2
theorem un65 {k : Nat} {A : Around} (r : Room k A) : A.units + 65 < cLine := by have := r.un; omega
/-- what may be asked of: whether it is a pair whose second is True or False -/
inductive VCase (K : PySem.W.Frag) (H : Hp) : V → Bool → Prop where
  | non : VCase K H .non false
  | str (x : Str) : VCase K H (.str x) false
  | lst (a : Addr) (xs : List V) (h : H a = some (.lst xs)) : VCase K H (.ref a) false
  | tupn (a : Addr) (xs : List V) (h : H a = some (.tup xs)) (n : ¬ xs.length = 2) : VCase K H (.ref a) false
  | tup2 (a : Addr) (x y : V) (h : H a = some (.tup [x, y])) (T : String) (ty : TyX K H y (.type T)) (b : Bool) (hk : PySem.W.kitOne K (.type T) (.type "bool") = some b) : VCase K H (.ref a) b
@[irreducible] def spCome (K : PySem.W.Frag) (C D : Addr) : Sp := fun vs H Q _ => ∃ (c : Conf) (p : Addr) (A : PL) (t : PSt) (v : V) (d : PyData) (fl : Bool), vs = [.ref p, v] ∧ c.Ok ∧ Play0 C D c H p A t ∧ t.ops.length ≤ 100 ∧ VCase K H v fl ∧
  Dp K H v d ∧ SeqAt.shaped d = true ∧ (∀ H', Same H H' → Dp K H' v d) ∧ (∀ e ∈ evP c t, PyData.strOk e.1 = true) ∧ ∀ H', Same H H' → Q (.bl (if fl then false else (evP c t).any fun e => PyData.eqv (evD' e) d)) H'
section
variable {K : PySem.W.Frag} {C D p : Addr} {c : Conf} {H : Hp} {A : PL} {t : PSt} {v : V} {d : PyData} {fl : Bool} {Q : VK} {E : XK}
theorem come_i (O : c.Ok) (L : Play0 C D c H p A t) (l : t.ops.length ≤ 100) (h : VCase K H v fl) (hd : Dp K H v d) (hs : SeqAt.shaped d = true) (hk : ∀ H', Same H H' → Dp K H' v d) (so : ∀ e ∈ evP c t, PyData.strOk e.1 = true)
    (q : ∀ H', Same H H' → Q (.bl (if fl then false else (evP c t).any fun e => PyData.eqv (evD' e) d)) H') : spCome K C D [.ref p, v] H Q E := by
  unfold spCome
  exact ⟨c, p, A, t, v, d, fl, rfl, O, L, l, h, hd, hs, hk, so, q⟩
end
section
variable {P : Program} {w : World} {K : PySem.W.Frag} {mg : Str → Option Value} {base : Heap}
theorem ok_Play_can_come (T : Txt K mg) : FnOk P w K mg base CX0 5 T.f_Play_can_come T.fd_Play_can_come ["self", "value"] (spCome K T.C_Operation T.C_Play) := by
  refine T.F_Play_can_come.ok sc_Play_can_come (fun vs H Q E h => ?_) (fun cdv A outer s H vs Q E hr h => ?_)
  · unfold spCome at h
    obtain ⟨c, p, A, t, v, d, fl, rfl, _⟩ := h
    rfl
  · unfold spCome at h
    obtain ⟨c, p, A, t, v, d, fl, rfl, O, L, ln, hv, hd, hs, hk, so, q⟩ := h
    refine ⟨_, (pss_cons (ps_if (PW.pt (pw_and (pt_val (pe_callB call_isi (by rfl) T.n_isinstance (by decide +kernel) (pa_cons (pv 1) (pa_cons (pe_bltn (v := .ty "tuple") (by rfl) T.n_tuple (by decide +kernel) rfl) pa_nil)))) (pw_and (pt_cmpR op_eq (pe_callB call_len_seq (by rfl) T.n_len (by decide +kernel) (pa_cons (pv 1) pa_nil)) pe_int (nomark _)) (pw_and1 (pt_val (pe_callB call_isi (by rfl) T.n_isinstance (by decide +kernel) (pa_cons (pe_ix ix_tup (pv 1) pe_int (fun _ _ => rfl)) (pa_cons (pe_bltn (v := .ty "bool") (by rfl) T.n_bool (by decide +kernel) rfl) pa_nil)))))))) (pss_one (ps_ret pe_bl)) pss_nil)
      (pss_one (ps_ret (pe_cmpR (op_inD (un65 hr)) (pv 1) (pe_meth0 (pv 0) T.c_Play T.M_Play_events (ok_Play_events T) (hr.mono (by decide)) (b_Play_events T) .nil pass0) (by rfl))))), ?_⟩
    cases hv with
    | non =>
      refine ⟨_, rfl, _, _, _, _, false, rfl, .ty _, .base .non, kit_ty (by decide +kernel), _, rfl, iteF (iteF ?_)⟩
      refine ⟨_, rfl, _, rfl, _, _, _, rfl, L.at_, ln_Play_events, ?_⟩
      refine evp_i O L ln fun l xs es H1 S1 nl hl X sr pm => ?_
      refine ⟨d, es.map evD', hk H1 S1, .lst (.inl (.inl hl)) (evs_dp X), hs, evs_list_shaped (fun e he => so e (pm.mem_iff.mp he)), ?_⟩
      have z : ((es.map evD').any fun z => PyData.eqv z d) = ((evP c t).any fun e => PyData.eqv (evD' e) d) := by
        rw [List.any_map]
        exact pm.any_eq
      rw [z]
      exact q H1 S1
    | str x =>
      refine ⟨_, rfl, _, _, _, _, false, rfl, .ty _, .base (.str x), kit_ty (by decide +kernel), _, rfl, iteF (iteF ?_)⟩
      refine ⟨_, rfl, _, rfl, _, _, _, rfl, L.at_, ln_Play_events, ?_⟩
      refine evp_i O L ln fun l xs es H1 S1 nl hl X sr pm => ?_
      refine ⟨d, es.map evD', hk H1 S1, .lst (.inl (.inl hl)) (evs_dp X), hs, evs_list_shaped (fun e he => so e (pm.mem_iff.mp he)), ?_⟩
      have z : ((es.map evD').any fun z => PyData.eqv z d) = ((evP c t).any fun e => PyData.eqv (evD' e) d) := by
        rw [List.any_map]
        exact pm.any_eq
      rw [z]
      exact q H1 S1
    | lst a xs h =>
      refine ⟨_, rfl, _, _, _, _, false, rfl, .ty _, .base (.lst h), kit_ty (by decide +kernel), _, rfl, iteF (iteF ?_)⟩
      refine ⟨_, rfl, _, rfl, _, _, _, rfl, L.at_, ln_Play_events, ?_⟩
      refine evp_i O L ln fun l xs es H1 S1 nl hl X sr pm => ?_
      refine ⟨d, es.map evD', hk H1 S1, .lst (.inl (.inl hl)) (evs_dp X), hs, evs_list_shaped (fun e he => so e (pm.mem_iff.mp he)), ?_⟩
      have z : ((es.map evD').any fun z => PyData.eqv z d) = ((evP c t).any fun e => PyData.eqv (evD' e) d) := by
        rw [List.any_map]
        exact pm.any_eq
      rw [z]
      exact q H1 S1
    | tupn a xs h n =>
      refine ⟨_, rfl, _, _, _, _, true, rfl, .ty _, .base (.tup h), kit_ty (by decide +kernel), _, rfl, iteT ?_⟩
      refine ⟨_, rfl, _, _, rfl, .inr (SqT.of h), rfl, _, rfl, ?_⟩
      rw [show decide (V.int (xs.length : Int) = V.int 2) = false from decide_eq_false (fun z => n (by have := V.int.inj z; omega))]
      refine iteF (iteF ?_)
      refine ⟨_, rfl, _, rfl, _, _, _, rfl, L.at_, ln_Play_events, ?_⟩
      refine evp_i O L ln fun l xs es H1 S1 nl hl X sr pm => ?_
      refine ⟨d, es.map evD', hk H1 S1, .lst (.inl (.inl hl)) (evs_dp X), hs, evs_list_shaped (fun e he => so e (pm.mem_iff.mp he)), ?_⟩
      have z : ((es.map evD').any fun z => PyData.eqv z d) = ((evP c t).any fun e => PyData.eqv (evD' e) d) := by
        rw [List.any_map]
        exact pm.any_eq
      rw [z]
      exact q H1 S1
    | tup2 a x y h T' ty b hkit =>
      refine ⟨_, rfl, _, _, _, _, true, rfl, .ty _, .base (.tup h), kit_ty (by decide +kernel), _, rfl, iteT ?_⟩
      refine ⟨_, rfl, _, _, rfl, .inr (SqT.of h), rfl, _, rfl, iteT ?_⟩
      refine ⟨_, rfl, _, _, _, _, rfl, rfl, SqT.of h, at_of (j := 1) (by omega) rfl, _, _, _, _, _, rfl, .ty _, ty, hkit, _, rfl, ?_⟩
      cases fl with
      | true => exact iteT (q H (fun _ _ z => z))
      | false =>
        refine iteF ?_
        refine ⟨_, rfl, _, rfl, _, _, _, rfl, L.at_, ln_Play_events, ?_⟩
        refine evp_i O L ln fun l xs es H1 S1 nl hl X sr pm => ?_
        refine ⟨d, es.map evD', hk H1 S1, .lst (.inl (.inl hl)) (evs_dp X), hs, evs_list_shaped (fun e he => so e (pm.mem_iff.mp he)), ?_⟩
        have z : ((es.map evD').any fun z => PyData.eqv z d) = ((evP c t).any fun e => PyData.eqv (evD' e) d) := by
          rw [List.any_map]
          exact pm.any_eq
        rw [z]
        exact q H1 S1
end
end Ca

set_option Elab.async false
set_option linter.all false
set_option maxRecDepth 100000
set_option maxHeartbeats 4000000
/-! an own error over ValueError whose __init__ says super().__init__(f"..{index}") and self.index = index -/
namespace PySem
namespace BadX
open PySem.W PySem.Calls PyProof.Rows PySem.HandSPX
abbrev qI : Str := "BadRun.__init__"
def iA (p1 p2 : Pos) : Arguments := { posonlyargs := [], args := [{ arg := "self", annotation := none, pos := p1 }, { arg := "index", annotation := none, pos := p2 }], vararg := none, kwonlyargs := [], kw_defaults := [], kwarg := none, defaults := [] }
def iB (k : Nat) (q0 q1 q2 q3 q4 q5 q6 q7 q8 r1 r2 r3 r4 : Pos) : List Stmt :=
  [.Expr (.Call (.Attribute (.Call (.Name "super" q0) [] [] q1) "__init__" q2) [.JoinedStr [.Constant (.str "no run: index ") k q3, .FormattedValue (.Name "index" q4) (-1) none q5] q6] [] q7) q8,
   .Assign [.Attribute (.Name "self" r1) "index" r2] (.Name "index" r3) r4]
def iS : Scope := { kind := .function, names := [(PySem.Str.ofString "self", .local), (PySem.Str.ofString "index", .local), (PySem.Str.ofString "__class__", .free), (PySem.Str.ofString "super", .globalImplicit)], isGenerator := false, isCoroutine := false, more := [] }
/-- what may stand in the text: an int of few digits, None -/
inductive Fmt : Value → Prop where
  | non : Fmt .none
  | int {i : Int} {t : Tok} (h : i.natAbs.log2 < 1920) : Fmt (.int i t)
/-- what the written part says of BadRun, at C, and of its __init__, at fI -/
structure BadTxt (P : Program) (K : Frag) (mg : Str → Option Value) (C fI : Addr) : Prop where
  gC : mg "BadRun" = some (.ref C)
  gS : mg "super" = none
  cls : ∃ nm q N bs bm sn sub ab col dd k0 k1 k2 k3 k5, K.lookup C = some (excClassObj nm q C N bs bm true sn sub ab col dd k0 k1 k2 k3 k5 "ValueError.__new__") ∧ refsVE bm = true ∧ alongIn K "__init__" bm = some (some (.builtin "ValueError.__init__"))
  sa : findIn K (.ref C) "__setattr__" = some (some (.builtin "object.__setattr__"))
  ga : findIn K (.ref C) "__getattribute__" = some (some (.builtin "BaseException.__getattribute__"))
  gg : findIn K (.ref C) "__getattr__" = some none
  noN : findIn K (.ref C) "index" = some none
  iC : findIn K (.ref C) "__init__" = some (some (.ref fI))
  tC : typeIn K (.ref C) = some (.type "type")
  kC : keepIn K (.ref C) = true
  tF : typeIn K (.ref fI) = some (.type "function")
  exC : subIn K (.ref C) (.type "BaseException") = some true
  exV : subIn K (.ref C) (.type "ValueError") = some true
  exS : mroIn K C (.ref C) = some true
  hdC : hasDictIn K C = true
  te : exmOne K (.ref C) (.ref C) = some true
  opq : nsIn K cStatics "thirdparty.any" = some none
  top : (P.main.scope.names.lookup ("super" : Str)).isSome = false
  fn : ∃ (oc : Value) (od : Option Addr) (doc pm : Value) (an : Option Addr) (cda : Addr) (ct : Value) (osl : Array (Option Value)) (cc : Addr) (k : Nat) (p1 p2 q0 q1 q2 q3 q4 q5 q6 q7 q8 r1 r2 r3 r4 : Pos),
    K.lookup fI = some ⟨oc, od, .func (ksFn "__init__" qI (iA p1 p2) (iB k q0 q1 q2 q3 q4 q5 q6 q7 q8 r1 r2 r3 r4) iS .none .none doc pm an (.ref cda) ct cc), osl⟩ ∧ codeIn K (.ref cda) qI = true ∧ (q2.endLine == q7.line) = true ∧
    (∃ (ccl : Value) (cdd : Option Addr) (vs : Array Value) (ccs : Array (Option Value)) (file : Str) (tf : Tok), K.lookup cda = some ⟨ccl, cdd, .fields vs, ccs⟩ ∧ vs[2]? = some (.str file tf) ∧ ((P.main.file : Str) == file) = true) ∧
    (∃ (cl : Value) (cld : Option Addr) (csl : Array (Option Value)), K.lookup cc = some ⟨cl, cld, .cell (some (.ref C)), csl⟩)
theorem one_size (v : Value) : [v].length ≤ sizeLine := by
  rw [sizeLine_eq]
  exact (by decide : 1 ≤ 16777216)
section
variable {prog : Program} {w : World} {A : Around} {E : Value → Shared → Prop} {h : Heap} {g : Array GenState} {d : Drawn} {t : Nat} {os : OsState}
variable {nm q : Str} {C N : Addr} {bs bm : List Value} {hdct : Bool} {sn : List Str} {sub : List Value} {ab : Bool} {col : Option Bool} {dd : Option Addr} {k0 k1 k2 k3 k5 : Option Value}
/-- the bound __init__ called -/
theorem call_bwV {u e t0 : Addr} {rest : List Value} {Q : Value → Shared → Prop}
    (hC : h.get? C = some (excClassObj nm q C N bs bm hdct sn sub ab col dd k0 k1 k2 k3 k5 "ValueError.__new__")) (he : h.get? e = some (excO C t0)) (hu : h.get? u = some (kxs_mw "ValueError.__init__" e)) (hrest : rest.length ≤ sizeLine)
    (hq : ∀ h' t1, (∀ b o, b ≠ e → h.get? b = some o → h'.get? b = some o) → h'.get? e = some (excO C t1) → Q .none ⟨h', g, d, t, os⟩) :
    wpAny (model prog w) A (call (.ref u) rest) Q E ⟨h, g, d, t, os⟩ := by
  refine wpAny_call (codeAny_of_tree ?_)
  show wpAny _ A.in1 (callAny (.ref u) ⟨rest, []⟩) _ _ _
  simp only [callAny]
  refine wpAny_bind (wpAny_load hu ?_)
  simp only [kxs_mw, show (Value.type "method-wrapper" == Value.type "method" || Value.type "method-wrapper" == Value.type "builtin_function_or_method" || Value.type "method-wrapper" == Value.type "method-wrapper") = true by decide, if_true]
  refine KFB.if_so (by decide) ?_
  refine wpAny_bind (check_bound_init F.excBase_ValueError.toExcCallFacts hC he rfl ?_)
  refine wpAny_bind (wpAny_pure (wpAny_pure ?_))
  refine ⟨plainId_quiet F.excBase_ValueError.init.plain _, codeAny_builtin F.excBase_ValueError.initEntry ?_⟩
  exact exc_init_tree (cls := .ref C) (t0 := t0) (dv := none) (c2 := .none) (c3 := .none) (b4 := .bool false) he hrest fun h' k' e' t' => hq h' _ k' e'
end
/-- what __init__ leaves of a fresh exception at x -/
structure InitEnd (h h' : Heap) (x C dx : Addr) (v : Value) : Prop where
  keep : ∀ b o, b ≠ x → h.get? b = some o → h'.get? b = some o
  obj : ∃ t1 : Addr, h'.get? x = some { cls := .ref C, dict := some dx, data := .fields #[.ref t1, .none, .none, .none, .bool false, .none] }
  dbig : h.objs.size ≤ dx
  dne : dx ≠ x
  ns : h'.Ns1 dx (fun y => if y = "index" then some v else none)
/-- a made BadRun -/
structure OwnMade (h h' : Heap) (e C d : Addr) (v : Value) : Prop where
  keep : ∀ b o, h.get? b = some o → h'.get? b = some o
  new : h.objs.size ≤ e
  obj : ∃ oe vs, h'.get? e = some oe ∧ oe.cls = .ref C ∧ oe.dict = some d ∧ oe.data = .fields vs ∧ vs[1]? = some .none
  dbig : h.objs.size ≤ d
  dne : d ≠ e
  ns : h'.Ns1 d (fun y => if y = "index" then some v else none)
section
variable {prog : Program} {w : World} {A : Around} {E : Value → Shared → Prop} {R : Result → Shared → Prop} {s : Shared} {K : Frag} {mg : Str → Option Value} {C fI : Addr}
theorem ldX {M : Model} {s : Shared} {env : Env} {m : Str → Option Value} {x : Str} {pos : Pos} {v : Value} {Q : Value → Shared → Prop} {A : Around} {E : Value → Shared → Prop} (hn : s.heap.Ns env.locals m) (hv : m x = some v) (h : Q v s)
    (hk : env.scope.kind = .function := by rfl) (hl : env.kindOf x = some .local := by rfl) (hd : (x == ("__debug__" : Str)) = false := by decide) :
    wpAny M A (eval (.Name x pos) env) Q E s := wpAny_Name (wpAny_loadName_local hk hl hn hv h) hd
theorem fmt_run {v : Value} {s : Shared} (hv : Fmt v) {Q : Value → Shared → Prop} (h : ∀ (y : Str) t s', y.length ≤ 4000 → s'.heap = s.heap → s'.gens = s.gens → s'.drawn = s.drawn → s'.os = s.os → Q (.str y t) s') : wpAny (model prog w) A (formatField v Str.empty) Q E s := by
  cases hv with
  | non => exact wpAny_formatField_none (h _ _ _ (by decide) rfl rfl rfl rfl)
  | int hz => exact wpAny_formatField_int hz (h _ _ _ (by have e := int_text_length_le (k := 1920) (by decide) hz; rw [ofString_length]; omega) rfl rfl rfl rfl)

theorem fmt_join {v : Value} {pre : Str} {env : Env} {n : Str} {k : Nat} {p3 p4 p5 p6 : Pos} {m : Str → Option Value} {Q : Value → Shared → Prop} (hv : Fmt v) (hpre : pre.length ≤ 1000) (hn : s.heap.Ns env.locals m) (hm : m n = some v)
    (hk : env.scope.kind = .function) (hl : env.kindOf n = some .local) (hd : (n == ("__debug__" : Str)) = false)
    (h : ∀ (y : Str) t s', s'.heap = s.heap → s'.gens = s.gens → s'.drawn = s.drawn → s'.os = s.os → Q (.str y t) s') :
    wpAny (model prog w) A (eval (.JoinedStr [.Constant (.str pre) k p3, .FormattedValue (.Name n p4) (-1) none p5] p6) env) Q E s := by
  refine wpAny_JoinedStr ?_
  have e1 : evalEach [.Constant (.str pre) k p3, .FormattedValue (.Name n p4) (-1) none p5] env = [eval (.Constant (.str pre) k p3) env, eval (.FormattedValue (.Name n p4) (-1) none p5) env] := by first | rfl | simp [evalEach]
  rw [e1]
  have e0 : (Str.empty ++ pre).length = pre.length := by rw [PySem.Str.length_append]; show 0 + _ = _; omega
  refine Constant_str ⟨pre, _, rfl, by rw [e0, sizeLine_eq]; omega, ?_⟩
  refine wpAny_FormattedValue_plain (ldX hn hm ?_ hk hl hd)
  refine fmt_run hv fun y t s' hy a b c d => ⟨y, t, rfl, ?_, ?_⟩
  · rw [PySem.Str.length_append, e0, sizeLine_eq]; omega
  · exact ⟨by rw [PySem.Str.length_append, e0, sizeLine_eq]; omega, h _ _ _ a b c d⟩

theorem bad_init (T : BadTxt prog K mg C fI) {base : Heap} {x t0 : Addr} {v : Value} (hv : Fmt v) (hM : L2.Mod K mg base) (hb : ∀ b o, base.get? b = some o → s.heap.get? b = some o) (hx : s.heap.get? x = some (excO C t0)) (hnx : K.lookup x = none) (hroom : A.depth < recursionLimit)
    (hq : ∀ h' tk dx, InitEnd s.heap h' x C dx v → R (.ok (.ret .none)) { s with heap := h', toks := tk }) :
    codeAny (model prog w) A (.call (.ref fI) ⟨[.ref x, v], []⟩) R s := by
  have X : K.In s.heap := hM.kin.keeps hb
  have hlim : s.heap.NoLimit := hM.nolimit.keeps hb
  obtain ⟨oc, od, doc, pm, an, cda, ct, osl, cc, k, p1, p2, q0, q1, q2, q3, q4, q5, q6, q7, q8, r1, r2, r3, r4, ho, hcd, hline, ⟨ccl, cdd, vs, ccs, file, tf, hcode, hvs, hfile⟩, ⟨cl, cld, csl, hcell⟩⟩ := T.fn
  obtain ⟨nm, q, N, bs, bm, sn, sub, ab, col, dd, k0, k1, k2, k3, k5, hC, hbm, hal⟩ := T.cls
  have hcl : clsIn K C = some { name := nm, bases := bs, mro := .ref C :: bm, ns := N, qualname := q, hasDict := true, slotNames := sn, subclasses := sub, abstract := ab, collection := col, hasDel := false } := by unfold clsIn; rw [hC] <;> rfl
  refine ks_codeAny_call_defAt (body := iB k q0 q1 q2 q3 q4 q5 q6 q7 q8 r1 r2 r3 r4) (binds := [("self", .ref x), ("index", v)]) hroom (X _ _ ho) rfl hlim (codeRec_of X hcd) rfl (BindsTo.of_eq (by first | rfl | with_unfolding_all rfl)) (fun y hy => (by decide : ∀ y ∈ iS.names, y.2 ≠ .cell) y hy) (by first | decide | (intro y hy; simp at hy; rcases hy with rfl | rfl <;> rfl)) (fun h₁ hn kk => ?_) rfl rfl rfl
  obtain ⟨hp, g, dr, tk, os⟩ := s
  have hxL : hp.objs.size ≠ x := Nat.ne_of_gt (Heap.lt_size hx)
  have X₁ : K.In h₁ := X.keeps kk
  have hx₁ := kk _ _ hx
  have hxC : x ≠ C := fun z => by rw [z, hC] at hnx; cases hnx
  have I₁ : InstAt h₁ x (excO C t0) C none := ⟨hx₁, rfl, rfl, trivial⟩
  obtain ⟨mb, hmb, hbb⟩ := hM.blt
  have hC₁ := X₁ _ _ hC
  have he : ∀ env : Env, eval (.Call (.Attribute (.Call (.Name "super" q0) [] [] q1) "__init__" q2) [.JoinedStr [.Constant (.str "no run: index ") k q3, .FormattedValue (.Name "index" q4) (-1) none q5] q6] [] q7) env = (do
      let ov ← attributeBase (.Call (.Name "super" q0) [] [] q1) "__init__" env (eval (.Call (.Name "super" q0) [] [] q1) env)
      standAt q2.atName
      let (f, first) ← holding [ov] (getMethod ov "__init__" (L2.plainOf (.Call (.Name "super" q0) [] [] q1) env))
      callWith q7 f first (backTo q7 (starEach [.JoinedStr [.Constant (.str "no run: index ") k q3, .FormattedValue (.Name "index" q4) (-1) none q5] q6] env)) []) := fun env => by
    rw [arm_eval_Call]
    have e3 := fun ov => L2.mcall_line (o := .Call (.Name "super" q0) [] [] q1) (m := "__init__") (apos := q2) (pos := q7) (env := env) (ov := ov) (n := 1) (args := backTo q7 (starEach [.JoinedStr [.Constant (.str "no run: index ") k q3, .FormattedValue (.Name "index" q4) (-1) none q5] q6] env)) (kws := []) rfl hline
    show (do
      let ov ← attributeBase (.Call (.Name "super" q0) [] [] q1) "__init__" env (eval (.Call (.Name "super" q0) [] [] q1) env)
      standAt q2.atName
      methodCall (.Call (.Name "super" q0) [] [] q1) "__init__" q2 q7 env ov 1 (backTo q7 (starEach [.JoinedStr [.Constant (.str "no run: index ") k q3, .FormattedValue (.Name "index" q4) (-1) none q5] q6] env)) []) = _
    simp only [e3]
  refine ks_wpAt_execs_cons (ks_wpAt_Expr_any (ks_wpAt_MethodCall (pl := L2.plainOf (.Call (.Name "super" q0) [] [] q1) _) ?_ (he _)) rfl rfl)
  refine ks_wpAt_super_base rfl rfl (by decide) rfl (X₁ _ _ ho) rfl rfl rfl (X₁ _ _ hcode) rfl hvs hfile T.top ?_
  have hsup : mb "super" = some (.type "super") := (hbb "super" (by decide)).trans (by first | boot_by_name | rfl | kernel_rfl)
  refine ks_loadName_global rfl rfl (loadGlobal_builtin (mg := mg) (mb := mb) ((hM.glob.keeps hb).keeps kk) T.gS ((hmb.keeps hb).keeps kk) hsup ⟨rfl, ?_⟩)
  refine wpAny_loadName_free (c := cc) (v := .ref C) rfl rfl rfl ⟨_, X₁ _ _ hcell, rfl⟩ ?_
  refine wpAny_loadName_local rfl rfl hn (v := .ref x) (by first | rfl | with_unfolding_all rfl | kernel_rfl) ?_
  refine ks_wpAny_isType_cls (X₁ _ _ hC) rfl ⟨rfl, ?_⟩
  refine ks_wpAny_call_super (X₁ _ _ hC) rfl hx₁ rfl (fun c e => by cases e) (looks_mroIn X₁ T.exS) (fun h2 e2 k2 => ?_)
  have X₂ : K.In h2 := X₁.keeps k2
  have hx₂ := k2 _ _ hx₁
  have I₂ : InstAt h2 x (excO C t0) C none := ⟨hx₂, rfl, rfl, trivial⟩
  refine kxs_getMethod kxs_ValueError e2 (looks_opaque X₂ T.opq) (l₀ := .ref C :: bm) (l := bm) ?_ ?_ X₂ hal (I₂.type.andThen (looks_subIn X₂ T.exV)) hxC (by decide) ?_
  · exact fun A Q E s k q => wpAny_bind ((looks_clsIn X₂ hcl) A _ E s k (wpAny_pure q))
  · exact PySem.ESX.drop_own C bm
  have k3 : ∀ b o, h2.get? b = some o → (h2.push (kxs_mw "ValueError.__init__" x)).get? b = some o := fun b o e => Heap.get?_push_of_some _ e
  have hu : (h2.push (kxs_mw "ValueError.__init__" x)).get? h2.objs.size = some (kxs_mw "ValueError.__init__" x) := Heap.get?_push_at rfl rfl
  have hn3 := (hn.keeps k2).keeps k3
  have X₃ : K.In (h2.push (kxs_mw "ValueError.__init__" x)) := X₂.keeps k3
  have hx₃ := k3 _ _ hx₂
  refine kxs_callWith (i := "ValueError.__init__") (x := x) (by first | rfl | decide) (evalArgs_plain (PyProof.Rows.spliced_more (fmt_join (m := fun y => (([("self", .ref x), ("index", v)] : List (Str × Value)).reverse).lookup y) hv (by decide) hn3 (by first | rfl | with_unfolding_all rfl | kernel_rfl) rfl rfl (by decide) fun y ty s4 h4 g4 d4 o4 => ?_) rfl))
  obtain ⟨hh4, gg4, dd4, tk4, os4⟩ := s4
  dsimp only at h4 g4 d4 o4
  subst h4 g4 d4 o4
  refine PyProof.Rows.spliced_none ⟨hu, ?_⟩
  refine call_bwV (X₃ _ _ hC) hx₃ hu (one_size _) fun h5 t5 k5' hx₅ => ?_
  refine wpAt_of_wpAny ?_
  have old5 : ∀ b o, b ≠ x → hp.get? b = some o → h5.get? b = some o := fun b o hb' e => k5' b o hb' (k3 b o (k2 b o (kk b o e)))
  have hnx' : ∀ b o, K.lookup b = some o → b ≠ x := fun b o e z => by rw [z, hnx] at e; cases e
  have X₅ : K.In h5 := fun b o e => k5' b o (hnx' b o e) (X₃ b o e)
  have hn5 : h5.Ns hp.objs.size (fun y => (([("self", .ref x), ("index", v)] : List (Str × Value)).reverse).lookup y) := by
    obtain ⟨oL, es, ep, hL, r⟩ := hn3
    exact ⟨oL, es, ep, k5' _ _ hxL hL, r⟩
  refine wpAny_execs_cons (plainObj_wpAny_Assign_Attribute ?_)
  refine ldX (v := v) hn5 (by first | rfl | with_unfolding_all rfl | kernel_rfl) (ldX (v := .ref x) hn5 (by first | rfl | with_unfolding_all rfl | kernel_rfl) ?_)
  refine set_plain X₅ (ox := excO C t5) (od := none) ⟨hx₅, rfl, rfl, trivial⟩ T.sa ?_
  refine exc_osa X₅ hx₅ hcl (show refsVE (.ref C :: bm) = true from hbm) rfl T.noN (fun h₆ tk₆ dx k₆ dn dne hx₆ hn₆ => ?_)
  show wpAny _ _ (execs _ _) _ _ _
  have z1 : hp.objs.size < h₁.objs.size := hn.lt
  have z2 : hp.objs.size ≤ h5.objs.size := Nat.le_of_lt hn5.lt
  exact wpAny_execs_nil (hq h₆ tk₆ dx ⟨fun b o hb' e => k₆ b o hb' (old5 b o hb' e), ⟨_, hx₆⟩, Nat.le_trans z2 dn, dne, hn₆⟩)
theorem bad_made (T : BadTxt prog K mg C fI) {base : Heap} {v : Value} (hv : Fmt v) (hM : L2.Mod K mg base) (hb : ∀ b o, base.get? b = some o → s.heap.get? b = some o) (hroom : A.depth + 1 < recursionLimit)
    (hq : ∀ h' tk e d, OwnMade s.heap h' e C d v → R (.ok (.ret (.ref e))) { s with heap := h', toks := tk }) :
    codeAny (model prog w) A (.call (.ref C) ⟨[v], []⟩) R s := by
  obtain ⟨nm, q, N, bs, bm, sn, sub, ab, col, dd, k0, k1, k2, k3, k5, hC, hbm, hal⟩ := T.cls
  obtain ⟨hp, g, dr, tk, os⟩ := s
  have X : K.In hp := hM.kin.keeps hb
  have k : ∀ b o, hp.get? b = some o → ((hp.push (kdv_tup [v])).push (excO C hp.objs.size)).get? b = some o := fun b o e => Heap.get?_push_of_some _ (Heap.get?_push_of_some _ e)
  have hget : ((hp.push (kdv_tup [v])).push (excO C hp.objs.size)).get? (hp.objs.size + 1) = some (excO C hp.objs.size) := by heap_get
  have hnx : K.lookup (hp.objs.size + 1) = none := by
    cases e : K.lookup (hp.objs.size + 1) with
    | none => rfl
    | some o =>
      have z : hp.get? (hp.objs.size + 1) = some o := X _ _ e
      exact absurd (Nat.lt_of_succ_lt (Heap.lt_size z)) (Nat.lt_irrefl _)
  refine call_own F.excBase_ValueError (fun X => refsVE_contains X bm hbm) (X _ _ hC) (looks_findIn X T.iC) (fun self => bind_fn X self T.tF) (one_size v) ?_
  refine bad_init (s := ⟨(hp.push (kdv_tup [v])).push (excO C hp.objs.size), g, dr, tk, os⟩) T hv hM (fun b o e => k b o (hb b o e)) hget hnx ?_ fun h' tk' dx ⟨k', ⟨t1, hx⟩, dn, dne, hns⟩ => ?_
  · show A.depth + 1 < recursionLimit
    exact hroom
  · have old : ∀ b o, hp.get? b = some o → h'.get? b = some o := fun b o e => k' b o (Nat.ne_of_lt (Nat.lt_succ_of_lt (Heap.lt_size e))) (k b o e)
    have z : hp.objs.size + 1 + 1 ≤ dx := by
      first
        | (simpa only [Heap.size_push] using dn)
        | exact dn
        | (have q := dn; rw [Heap.size_push, Heap.size_push] at q; exact q)
    exact ⟨rfl, hq h' tk' (hp.objs.size + 1) dx ⟨old, Nat.le_succ _, ⟨_, _, hx, rfl, rfl, rfl, rfl⟩, Nat.le_trans (Nat.le_trans (Nat.le_succ _) (Nat.le_succ _)) z, dne, hns⟩⟩
end
end BadX
end PySem

namespace L2
open PySem PySem.Spec PyProof.Rows
theorem relO_bad {v : V} {v' : Value} (r : RelV v v') (f : Str) : RelO (List.lookup f [(("index" : Str), v)]) (if f = "index" then some v' else none) := by
  by_cases hw : f = "index"
  · subst hw
    rw [if_pos rfl]
    have q : List.lookup ("index" : Str) [(("index" : Str), v)] = some v := by simp [List.lookup]
    rw [q]
    exact r
  · rw [if_neg hw]
    have qw : (f == ("index" : Str)) = false := by simpa using hw
    have q2 : List.lookup f [(("index" : Str), v)] = none := by simp [List.lookup, qw]
    rw [q2]
    trivial
/-- what BadRun is made with -/
inductive FmtV : V → Prop where
  | non : FmtV .non
  | int {i : Int} (h : i.natAbs.log2 < 1920) : FmtV (.int i)
theorem FmtV.val {v : V} {u : Value} (h : FmtV v) (r : RelV v u) : PySem.BadX.Fmt u := by
  cases h with
  | non =>
    obtain rfl : u = Value.none := r
    exact .non
  | int h =>
    obtain ⟨t, rfl⟩ := r
    exact .int h
section
variable {X : Cx} {C fI : Addr}
/-- BadRun(e) -/
def tMkBad (C : Addr) (ta : TA) : St → Hp → XK → Prop := fun σ H Q => ta σ H fun vs H1 => ∃ v, vs = [v] ∧ FmtV v ∧ ∀ d, H1 d = none → Q (.ref C) (some d) (upd H1 d (.xd [(("index" : Str), v)]))
theorem pmk_bad {a : Expr} {ta : TA} {p pos : Pos} {k : Nat} (T : PySem.BadX.BadTxt X.prog X.K X.mg C fI) (hr : Room k X.A) (ha : PA X [a] ta) (hg : Gl X "BadRun" := by rfl)
    (he : starEach (a :: []) X.env = (false, eval a X.env) :: starEach [] X.env := by rfl) (hpl : (backTo pos (starEach [] X.env)).any (·.1) = false := by rfl) :
    PMk X (.Call (.Name "BadRun" p) [a] [] pos) (tMkBad C ta) := by
  intro pins s σ H Q I h
  refine wpAny_Call_Name_kw (ld_glob I hg T.gC ?_)
  refine PySem.W.callWith_K (h₀ := X.base) I.ok.mod.kin T.kC (thn (ha.run pos pins s σ H _ I h) fun us s1 hh => ?_) he hpl
  obtain ⟨vs, H1, I1, r1, v, ev, hf, q1⟩ := hh
  subst ev
  refine ⟨I1.kIn, ?_⟩
  cases r1 with
  | cons rv rn =>
    rename_i v' us'
    cases rn
    show wpAny _ _ (call (.ref C) [v']) _ _ _
    obtain ⟨hp, g, dr, tk, os⟩ := s1
    refine wpAny_call (PySem.BadX.bad_made T (hf.val rv) I1.mod I1.bk (by have := hr.dp; omega) fun h' tk' e d M => ?_)
    show MkP X pins σ Q (.ref e) ⟨h', g, dr, tk', os⟩
    obtain ⟨oe, fv, hoe, hc, hd, hdat, h1⟩ := M.obj
    have hns := M.ns
    obtain ⟨G', g1, g2⟩ := restrict h' fun b => decide (b ≠ e)
    have gk : ∀ b, b ≠ e → G'.get? b = h'.get? b := fun b hb => g1 b (decide_eq_true hb)
    have ge : G'.get? e = none := g2 e (by simp)
    have old : ∀ b o, hp.get? b = some o → G'.get? b = some o := fun b o q => (gk b (Nat.ne_of_lt (Nat.lt_of_lt_of_le (Heap.lt_size q) M.new))).trans (M.keep b o q)
    have ob : ObjOk X.prog X.w (upd H1 d (.xd [(("index" : Str), v)])) G' d (.xd [(("index" : Str), v)]) :=
      ⟨_, hns.at (fun o q => (gk d M.dne).trans q), fun f => relO_bad rv f⟩
    have J : Inv X pins σ (upd H1 d (.xd [(("index" : Str), v)])) ⟨G', g, dr, tk', os⟩ := I1.laid (t' := tk') old M.dbig ob
    refine ⟨e, oe, fv, ⟨G', g, dr, tk', os⟩, _, .ref C, some d, rfl, J, fun b o q => ?_, ge, hoe, ⟨hc, hd⟩, hdat, h1, ?_, rfl, I1.bare, raises_own T.exC T.tC, q1 d (I1.hok.fresh M.dbig)⟩
    · by_cases hb : b = e
      · have q' : G'.get? b = some o := q
        rw [hb, ge] at q'; cases q'
      · exact (gk b hb).symm.trans q
    · rw [upd_ne (Ne.symm M.dne)]
      exact I1.hok.fresh M.new
/-- raise BadRun(e) -/
def tRaiseBad (C : Addr) (W : WX) (ta : TA) : TS := fun _ σ H => tMkBad C ta σ H fun cls d H' => W cls d σ H'
theorem ps_raiseBad {a : Expr} {ta : TA} {W : WX} {p pos pos2 : Pos} {k : Nat} (hc : X.calm = true) (T : PySem.BadX.BadTxt X.prog X.K X.mg C fI) (hr : Room k X.A) (tk : Takes X W) (ha : PA X [a] ta) (hg : Gl X "BadRun" := by rfl)
    (he : starEach (a :: []) X.env = (false, eval a X.env) :: starEach [] X.env := by rfl) (hpl : (backTo pos (starEach [] X.env)).any (·.1) = false := by rfl) :
    PS X (.Raise (some (.Call (.Name "BadRun" p) [a] [] pos)) none pos2) (tRaiseBad C W ta) := ps_raise hc tk (pmk_bad T hr ha hg he hpl)
end
end L2

set_option Elab.async false
set_option linter.all false
set_option maxRecDepth 100000
set_option maxHeartbeats 4000000
namespace Ca
open PySem L2
/-! ### a run played -/
def runS (c : Conf) (es : List Ev) : PSt := es.foldl (doP c) PSt.begin
def GoodP (c : Conf) (t : PSt) : Prop := ∀ e ∈ evP c t, PyData.strOk e.1 = true
structure RunP (c : Conf) (es : List Ev) : Prop where
  step : ∀ i e, es[i]? = some e → GoodP c (runS c (es.take i)) ∧ e ∈ evP c (runS c (es.take i)) ∧ DoPre c (runS c (es.take i)) e
theorem put_lenP {t : PSt} {k : Nat} {o : POp} : (t.put k o).ops.length = t.ops.length := List.length_set ..
theorem mark_len {c : Conf} {t : PSt} {v : Nat} : (markP c t v).ops.length = t.ops.length := by unfold markP; split <;> rfl
theorem hold_len {c : Conf} {t : PSt} {v : Nat} : (holdP c t v).ops.length = t.ops.length := by unfold holdP; rw [mark_len]
theorem opP_len {c : Conf} {t : PSt} {k : Nat} {o : POp} {w : Str} : (opP c t k o w).ops.length = t.ops.length := by
  have sh : ∀ t' o', (shareP c t' k o').ops.length = t'.ops.length := fun t' o' => by
    unfold shareP
    split
    · rfl
    · exact put_lenP
  unfold opP
  split
  · unfold lookP
    split
    · exact put_lenP
    · split
      · rw [sh, put_lenP]
      · exact put_lenP
  split
  · exact put_lenP
  split
  · unfold fillP
    split
    · split
      · exact hold_len
      · rfl
    · rfl
  split
  · exact put_lenP
  split
  · exact put_lenP
  split
  · unfold dropP
    split
    · rw [mark_len]
    · rfl
  · unfold putP
    split
    · split
      · rw [hold_len]
      · rfl
    · rfl
theorem leave_len {t : PSt} {k : Nat} : (leaveP t k).ops.length = t.ops.length := by
  unfold leaveP
  split
  · split
    · exact put_lenP
    · rfl
  · rfl
theorem markP_past {c : Conf} {t : PSt} {v : Nat} : (markP c t v).past = t.past := by unfold markP; split <;> rfl
theorem holdP_past {c : Conf} {t : PSt} {v : Nat} : (holdP c t v).past = t.past := by unfold holdP; rw [markP_past]
theorem opP_past {c : Conf} {t : PSt} {k : Nat} {o : POp} {w : Str} : (opP c t k o w).past = t.past := by
  have sh : ∀ t' o', (shareP c t' k o').past = t'.past := fun t' o' => by
    unfold shareP
    split <;> rfl
  unfold opP
  split
  · unfold lookP
    split
    · rfl
    · split
      · rw [sh]; rfl
      · rfl
  split
  · rfl
  split
  · unfold fillP
    split
    · split
      · exact holdP_past
      · rfl
    · rfl
  split
  · rfl
  split
  · rfl
  split
  · unfold dropP
    split
    · rw [markP_past]
    · rfl
  · unfold putP
    split
    · split
      · rw [holdP_past]
      · rfl
    · rfl
theorem leave_past {t : PSt} {k : Nat} : (leaveP t k).past = t.past := by
  unfold leaveP
  split
  · split <;> rfl
  · rfl
theorem doP_past {c : Conf} {t : PSt} {e : Ev} : (doP c t e).past = t.past ++ [e] := by
  unfold doP doG actP
  split
  · rfl
  split
  · rfl
  split
  · rfl
  split
  · unfold stopP
    split <;> rfl
  · unfold stepP
    split
    · rw [leave_past, opP_past]
      show (preP c (noteP t e) _ _).past = _
      unfold preP
      split <;> rfl
    · unfold preP
      split <;> rfl
theorem do_len {c : Conf} {t : PSt} {e : Ev} : (doP c t e).ops.length ≤ t.ops.length + 1 := by
  unfold doP doG actP
  split
  · exact Nat.le_succ _
  split
  · exact Nat.le_succ _
  split
  · exact Nat.le_succ _
  split
  · unfold stopP
    split
    · rw [put_lenP]; exact Nat.le_succ _
    · exact Nat.le_succ _
  · have h1 : ∀ w k, (preP c (noteP t e) w k).ops.length ≤ t.ops.length + 1 := fun w k => by
      unfold preP
      split
      · show (t.ops ++ [newP c w _]).length ≤ _
        rw [List.length_append]
        exact Nat.le_refl _
      · exact Nat.le_succ _
    unfold stepP
    split
    · rw [leave_len, opP_len, put_lenP]; exact h1 _ _
    · exact h1 _ _
theorem runS_snoc {c : Conf} {es : List Ev} {i : Nat} {e : Ev} (h : es[i]? = some e) : runS c (es.take (i + 1)) = doP c (runS c (es.take i)) e := by
  unfold runS
  rw [take_snoc h, List.foldl_append]
  rfl
theorem runS_len {c : Conf} {es : List Ev} : ∀ i, (runS c (es.take i)).ops.length ≤ i
  | 0 => by rw [List.take_zero]; exact Nat.le_refl _
  | i + 1 => by
    have ih := runS_len (c := c) (es := es) i
    cases h : es[i]? with
    | some e =>
      rw [runS_snoc h]
      have := do_len (c := c) (t := runS c (es.take i)) (e := e)
      omega
    | none =>
      have hl := List.getElem?_eq_none_iff.mp h
      rw [List.take_of_length_le (by omega : es.length ≤ i + 1)]
      rw [List.take_of_length_le hl] at ih
      omega
theorem fold_past {c : Conf} : ∀ (es : List Ev) (t : PSt), (es.foldl (doP c) t).past = t.past ++ es
  | [], t => by simp
  | e :: es, t => by
    rw [List.foldl_cons, fold_past es, doP_past, List.append_assoc]
    rfl
theorem runS_past {c : Conf} {es : List Ev} : (runS c es).past = es := by
  unfold runS
  rw [fold_past]
  rfl
structure Item (K : PySem.W.Frag) (H : Hp) (v : V) (d : PyData) (fl : Bool) : Prop where
  c : VCase K H v fl
  d : Dp K H v d
def okItem (c : Conf) (t : PSt) (d : PyData) (fl : Bool) : Bool := if fl then false else (evP c t).any fun e => PyData.eqv (evD' e) d
theorem ev_item {K : PySem.W.Frag} {H : Hp} {a : Addr} {e : Ev} (h : H a = some (.tup (evV e))) : Item K H (.ref a) (evD' e) false := by
  refine ⟨?_, evD_dp h⟩
  obtain ⟨w, k⟩ := e
  cases k with
  | none => exact .tupn a _ h (by show ¬ (1 : Nat) = 2; decide)
  | some k => exact .tup2 a _ _ h "int" (.base (.int k)) false (kit_ty (by decide +kernel))
theorem ev_ok {c : Conf} {t : PSt} {e : Ev} (h : e ∈ evP c t) : okItem c t (evD' e) false = true := by
  show ((evP c t).any fun f => PyData.eqv (evD' f) (evD' e)) = true
  rw [List.any_eq_true]
  exact ⟨e, h, by rw [evD_eqv]; exact decide_eq_true rfl⟩
/-- what a run may be that is asked of -/
inductive RunC (K : PySem.W.Frag) (C D CB : Addr) (c : Conf) (H : Hp) (r : Addr) (Q : VK) (E : XK) : Prop where
  | lst (ys : List V) (h : H r = some (.lst ys)) (e : ∀ dd H', Same H H' → H dd = none → E (.ref CB) (some dd) H')
  | run (xs : List V) (es : List Ev) (h : H r = some (.tup xs)) (X : EvsAt H xs es) (R : RunP c es) (l : xs.length ≤ 60) (q : ∀ p A H', Same H H' → (∀ b, PF p A b → H b = none) → Play0 C D c H' p A (runS c es) → Q (.ref p) H')
  | odd (xs : List V) (es : List Ev) (v : V) (d : PyData) (fl : Bool) (h : H r = some (.tup (xs ++ [v]))) (X : EvsAt H xs es) (R : RunP c es) (l : xs.length < 60) (i : ∀ H', Same H H' → Item K H' v d fl) (s : SeqAt.shaped d = true)
      (g : GoodP c (runS c es)) (n : okItem c (runS c es) d fl = false) (e : ∀ dd H', Same H H' → H dd = none → E (.ref CB) (some dd) H')
@[irreducible] def spPlayed (K : PySem.W.Frag) (C D CB : Addr) : Sp := fun vs H Q E => ∃ (c : Conf) (d w r : Addr), vs = [.ref d, .ref w, .ref r] ∧ H d = some (dT c) ∧ H w = some (wT c) ∧ c.Ok ∧ RunC K C D CB c H r Q E
theorem played_i {K : PySem.W.Frag} {C D CB : Addr} {c : Conf} {d w r : Addr} {H : Hp} {Q : VK} {E : XK} (h1 : H d = some (dT c)) (h2 : H w = some (wT c)) (O : c.Ok) (h : RunC K C D CB c H r Q E) : spPlayed K C D CB [.ref d, .ref w, .ref r] H Q E := by
  unfold spPlayed
  exact ⟨c, d, w, r, rfl, h1, h2, O, h⟩
section
variable {P : Program} {w : World} {K : PySem.W.Frag} {mg : Str → Option Value} {base : Heap} {CB fB : Addr}
theorem ok_played (T : Txt K mg) (U : TxtC K mg) (B : PySem.BadX.BadTxt P K mg CB fB) : FnOk P w K mg base (L2.CX P w) 8 T.f_played T.fd_played ["design", "world", "run"] (spPlayed K T.C_Operation T.C_Play CB) := by
  refine T.F_played.okX sc_played (fun vs H Q E h => ?_) (fun cdv A outer s H vs Q E hr h => ?_)
  · unfold spPlayed at h
    obtain ⟨c, d, w, r, rfl, _⟩ := h
    rfl
  · unfold spPlayed at h
    obtain ⟨c, d, w', r, rfl, hd, hw, O, hc⟩ := h
    refine ⟨_, (pss_cons (ps_expr (pe_call (ok_check_design T U) (hr.mono (by decide)) rfl T.m_check_design T.F_check_design.kp (b_check_design T) .nil pass0 (pa_cons (pv 0) pa_nil)))
      (pss_cons (ps_expr (pe_call (ok_check_world T U) (hr.mono (by decide)) rfl T.m_check_world T.F_check_world.kp (b_check_world T) .nil pass0 (pa_cons (pv 1) pa_nil)))
      (pss_cons (ps_if (PW.pt (pw_or (pt_not (pt_val (pe_callB call_isi (by rfl) T.n_isinstance (by decide +kernel) (pa_cons (pv 2) (pa_cons (pe_bltn (v := .ty "tuple") (by rfl) T.n_tuple (by decide +kernel) rfl) pa_nil))))) (pw_or1 (pt_cmpR op_gt (pe_callB call_len_seq (by rfl) T.n_len (by decide +kernel) (pa_cons (pv 2) pa_nil)) (pe_glob (v := .int 60) rfl U.m_MOST_EVENTS ⟨_, rfl⟩) (nomark _))))) (pss_one (ps_raiseBad rfl B (hr.mono (by decide : 1 ≤ _)) (takes_of rfl rfl rfl rfl) (by exact (pa_cons pe_non pa_nil)))) pss_nil)
      (pss_cons (ps_set (i := 3) sc_played.nd rfl (Or.inl rfl) (pe_make T.k_Play (ok_Play_init T U) (hr.mono (by decide)) rfl T.m_Play (b_Play_init T) .nil pass0 (pa_cons (pv 0) (pa_cons (pv 1) pa_nil))))
      (pss_cons (ps_for (passes_of rfl) rfl (pi_enumT (by rfl) T.n_enumerate (pa_cons (pv 2) pa_nil)) (pg_tup rfl (pgs_cons (pg_name (i := 4) sc_played.nd rfl (Or.inl rfl)) (pgs_cons (pg_name (i := 5) sc_played.nd rfl (Or.inl rfl)) pgs_nil))) (pss_cons (ps_if (pt_not (pt_val (pe_meth (pv 3) T.c_Play T.M_Play_can_come (ok_Play_can_come T) (hr.mono (by decide)) (b_Play_can_come T) .nil pass0 (pa_cons (pv 5) pa_nil)))) (pss_one (ps_raiseBad rfl B (hr.mono (by decide : 1 ≤ _)) (takes_of rfl rfl rfl rfl) (by exact (pa_cons (pv 4) pa_nil)))) pss_nil)
      (pss_one (ps_expr (pe_meth (pv 3) T.c_Play T.M_Play_do (ok_Play_do T) (hr.mono (by decide)) (b_Play_do T) .nil pass0 (pa_cons (pv 5) pa_nil))))))
      (pss_one (ps_ret (pv 3)))))))), ?_⟩
    refine ⟨_, rfl, ?_⟩
    refine chd_i hd O ?_
    refine ⟨_, rfl, ?_⟩
    refine chw_i hw O ?_
    have hc' : (∃ ys, H r = some (.lst ys) ∧ ∀ dd H', Same H H' → H dd = none → E (.ref CB) (some dd) H') ∨ ∃ (xs2 : List V) (xs : List V) (es : List Ev), H r = some (.tup (xs ++ xs2)) ∧ EvsAt H xs es ∧ RunP c es ∧ (xs ++ xs2).length ≤ 60 ∧
        ((xs2 = [] ∧ (∀ p A H', Same H H' → (∀ b, PF p A b → H b = none) → Play0 T.C_Operation T.C_Play c H' p A (runS c es) → Q (.ref p) H')) ∨
          ∃ v d fl, xs2 = [v] ∧ (∀ H', Same H H' → Item K H' v d fl) ∧ SeqAt.shaped d = true ∧ GoodP c (runS c es) ∧ okItem c (runS c es) d fl = false ∧ ∀ dd H', Same H H' → H dd = none → E (.ref CB) (some dd) H') := by
      cases hc with
      | lst ys h e => exact .inl ⟨ys, h, e⟩
      | run xs es h X R l q => exact .inr ⟨[], xs, es, by rw [List.append_nil]; exact h, X, R, by rw [List.append_nil]; exact l, .inl ⟨rfl, q⟩⟩
      | odd xs es v d fl h X R l i s g n e => exact .inr ⟨[v], xs, es, h, X, R, by rw [List.length_append]; exact l, .inr ⟨v, d, fl, rfl, i, s, g, n, e⟩⟩
    clear hc
    rcases hc' with ⟨ys, hl, e⟩ | ⟨xs2, xs, es, hx, X, R, l, alt⟩
    · refine ⟨_, rfl, _, _, _, _, false, rfl, .ty _, .base (.lst hl), kit_ty (by decide +kernel), _, rfl, ?_⟩
      refine iteT (iteT ?_)
      exact ⟨.non, rfl, .non, fun dd nd => e dd _ (same_new nd) nd⟩
    · refine ⟨_, rfl, _, _, _, _, true, rfl, .ty _, .base (.tup hx), kit_ty (by decide +kernel), _, rfl, ?_⟩
      refine iteF ⟨_, rfl, _, _, rfl, .inr (SqT.of hx), _, _, rfl, rfl, _, rfl, ?_⟩
      rw [show decide ((60 : Int) < ((xs ++ xs2).length : Int)) = false from decide_eq_false (by omega)]
      refine iteF ?_
      refine ⟨_, rfl, _, rfl, fun p dx np ndx ne => ?_⟩
      have S1 : Same H (upd (upd H dx (.own p)) p (.ins T.C_Play dx [])) := fun b o e => by
        rw [upd_ne (ne_of_none e np), upd_ne (ne_of_none e ndx)]
        exact e
      refine play_i upd_same (S1 _ _ hd) (S1 _ _ hw) O fun A0 H2 oas0 eas0 ed0 ew0 nlo0 npa0 L0 K2 => ⟨rfl, ?_⟩
      have S2 : Same H H2 := fun b o e => K2 b o (S1 b o e) (ne_of_none e np)
      have nlo0 : H A0.lo = none := S1.free nlo0
      have npa0 : H A0.pa = none := S1.free npa0
      have xe : xs.length = es.length := X.length
      refine ⟨_, rfl, r, xs ++ xs2, rfl, SqT.of (S2 _ _ hx), ?_⟩
      refine for_enumT (xs := xs ++ xs2) (fun i σ' H' => i ≤ es.length ∧ ∃ A x4 x5, σ' = [some (.ref d), some (.ref w'), some (.ref r), some (.ref p), x4, x5] ∧ Same H H' ∧ H A.lo = none ∧ H A.pa = none ∧ (∀ b ∈ A.oas, H b = none) ∧ Play0 T.C_Operation T.C_Play c H' p A (runS c (es.take i)))
        ⟨Nat.zero_le _, A0, none, none, rfl, S2, nlo0, npa0, (by rw [oas0]; intro b hb; cases hb), L0⟩ (fun i σ' H' _ ⟨_, _, _, _, _, S, _⟩ => SqT.of (S _ _ hx)) ?_ ?_
      · rintro i y σ' H' tt hi ⟨hle, A, x4, x5, rfl, S, nlo, npa, noa, L⟩ ntt
        refine ⟨tt, _, rfl, SqT.of upd_same, rfl, _, _, rfl, _, _, rfl, rfl, ?_⟩
        have S' := sN S (o := .tup [.int (i : Nat), y]) ntt
        have L' := L.new (u := .tup [.int (i : Nat), y]) ntt
        generalize upd H' tt (.tup [.int (i : Nat), y]) = H3 at S' L'
        have len : (runS c (es.take i)).ops.length ≤ 100 := by
          have := runS_len (c := c) (es := es) i
          rw [List.length_append] at l
          omega
        have len2 : (runS c (es.take i)).past.length ≤ 1000 := by
          rw [runS_past, List.length_take]
          rw [List.length_append] at l
          omega
        by_cases hi2 : i < es.length
        · rw [List.getElem?_append_left (by omega)] at hi
          obtain ⟨e, ee, ea, rfl, he⟩ := pget X hi
          obtain ⟨g, m, dp⟩ := R.step i e ee
          refine ⟨_, rfl, _, _, _, rfl, L'.at_, ln_Play_can_come, _, rfl, ?_⟩
          have he3 := S' _ _ he
          have str : PyData.strOk e.1 = true := g e m
          refine come_i (fl := false) O L' len (ev_item he3).c (evD_dp he3) (evD_shaped str) (fun H4 S4 => evD_dp (S4 _ _ he3)) g fun H4 S4 => ⟨_, rfl, ?_⟩
          have ok : (if (false : Bool) = true then false else (evP c (runS c (es.take i))).any fun f => PyData.eqv (evD' f) (evD' e)) = true := ev_ok m
          rw [ok]
          refine iteF ?_
          have L4 := L'.same S4
          have S5 := S'.trans S4
          refine ⟨_, rfl, _, _, _, rfl, L4.at_, ln_Play_do, _, rfl, ?_⟩
          refine dop_i (S5 _ _ he) L4.toPlayAt len len2 (by rw [L4.g0]; exact dp) fun H6 A6 L6 gr K6 => ?_
          refine ⟨hi2, A6, _, _, rfl, K6.same S5 (fun b hb => ?_), by rw [gr.lo]; exact nlo, by rw [gr.pa]; exact npa, fun b hb => ?_, ?_⟩
          · rcases hb with z | z | z | z
            · rw [z]; exact np
            · rw [z]; exact nlo
            · rw [z]; exact npa
            · exact noa b (List.mem_of_mem_drop z)
          · rcases gr.oas b (by rw [gr.g, L4.g0]; exact hb) with z | z
            · exact noa b (List.mem_of_mem_drop z)
            · exact S5.free z
          · rw [runS_snoc ee]
            rw [L4.g0] at L6
            exact ⟨L6, gr.g.trans L4.g0⟩
        · have ei : i = xs.length := by omega
          rcases alt with ⟨rfl, _⟩ | ⟨v, dv, fl, rfl, it, sh, g, n, ex⟩
          · rw [List.append_nil] at hi
            have := (List.getElem?_eq_some_iff.mp hi).1
            omega
          · have ey : y = v := by
              rw [ei, List.getElem?_append_right (Nat.le_refl _), Nat.sub_self] at hi
              exact (Option.some.inj hi).symm
            subst ey
            rw [List.take_of_length_le (by omega)] at len L L'
            refine ⟨_, rfl, _, _, _, rfl, L'.at_, ln_Play_can_come, _, rfl, ?_⟩
            refine come_i (fl := fl) O L' len (it _ S').c (it _ S').d sh (fun H4 S4 => (it _ (S'.trans S4)).d) g fun H4 S4 => ⟨_, rfl, ?_⟩
            have ok : (if fl = true then false else (evP c (runS c es)).any fun f => PyData.eqv (evD' f) dv) = false := n
            rw [ok]
            refine iteT ?_
            have S5 := S'.trans S4
            refine ⟨_, rfl, .int (i : Int), rfl, FmtV.int ?_, fun dd nd => ex dd _ (sN S5 nd) (S5.free nd)⟩
            have l2 := l
            rw [List.length_append] at l2
            have l3 := Nat.log2_le_self (i : Int).natAbs
            have l4 : (i : Int).natAbs = i := Int.natAbs_natCast i
            rw [l4] at l3 ⊢
            omega
      · rintro σ' H' ⟨hle, A, x4, x5, rfl, S, nlo, npa, noa, L⟩
        rcases alt with ⟨rfl, q⟩ | ⟨v, dv, fl, rfl, _⟩
        · rw [List.append_nil, xe, List.take_length] at L
          refine ⟨_, rfl, q p A H' S (fun b hb => ?_) L⟩
          rcases hb with z | z | z | z
          · rw [z]; exact np
          · rw [z]; exact nlo
          · rw [z]; exact npa
          · exact noa b (List.mem_of_mem_drop z)
        · rw [List.length_append, List.length_singleton] at hle
          omega
end
end Ca

set_option Elab.async false
set_option linter.all false
set_option maxRecDepth 100000
set_option maxHeartbeats 4000000
namespace Ca
open PySem L2
theorem RunC.imp {K : PySem.W.Frag} {C D CB : Addr} {c : Conf} {H : Hp} {r : Addr} {Q Q1 : VK} {E E1 : XK} (h : RunC K C D CB c H r Q E) (hq : ∀ v H', Q v H' → Q1 v H') (he : ∀ dd H', E (.ref CB) (some dd) H' → E1 (.ref CB) (some dd) H') : RunC K C D CB c H r Q1 E1 := by
  cases h with
  | lst ys h e => exact .lst ys h fun dd H' a b => he _ _ (e dd H' a b)
  | run xs es h X R l q => exact .run xs es h X R l fun p A H' a b d => hq _ _ (q p A H' a b d)
  | odd xs es v d fl h X R l i s g n e => exact .odd xs es v d fl h X R l i s g n fun dd H' a b => he _ _ (e dd H' a b)
/-- a run that stands as a tuple of events -/
structure Ran (H : Hp) (c : Conf) (d w r : Addr) (es : List Ev) : Prop where
  dd : H d = some (dT c)
  ww : H w = some (wT c)
  ok : c.Ok
  at_ : ∃ xs, H r = some (.tup xs) ∧ EvsAt H xs es ∧ xs.length ≤ 60
  run : RunP c es
theorem Ran.c {K : PySem.W.Frag} {C D CB : Addr} {H : Hp} {c : Conf} {d w r : Addr} {es : List Ev} {Q : VK} {E : XK} (R : Ran H c d w r es) (q : ∀ p A H', Same H H' → (∀ b, PF p A b → H b = none) → Play0 C D c H' p A (runS c es) → Q (.ref p) H') : RunC K C D CB c H r Q E := by
  obtain ⟨xs, h, X, l⟩ := R.at_
  exact .run xs es h X R.run l q
end Ca

set_option Elab.async false
set_option linter.all false
set_option maxRecDepth 100000
set_option maxHeartbeats 4000000
namespace Ca
open PySem L2
/-! ### the law's cache and the program's go hand in hand -/
def lookS (c : Conf) : List Str := if c.guard = "never" then ["look", "fetch"] else ["look", "fetch", "fill"]
def fetchS (c : Conf) : List Str := if c.guard = "never" then ["fetch"] else ["fetch", "fill"]
def fillS : List Str := ["fill"]
def takeS : List Str := ["take"]
def live (o : OpS) : Prop := ¬ o.stage = "ended" ∧ ¬ o.stage = "stopped"
structure RelOp (c : Conf) (w : Nat) (o : OpS) (q : POp) : Prop where
  kind : q.kind = o.kind
  ver : q.version = o.version
  stop : q.stopped = decide (o.stage = "stopped")
  ne : q.steps = [] ↔ o.stage = "ended"
  seen : live o → q.seen ≤ w
  wr : o.kind = "write" → live o → q.steps = c.steps.drop o.step
  rk : o.kind = "read" → o.stage = "look" → q.steps = lookS c ∧ o.clean = true
  rf : o.kind = "read" → o.stage = "fetch" → q.steps = fetchS c ∧ o.clean = decide (q.seen = w)
  rl : o.kind = "read" → o.stage = "fill" → q.steps = fillS ∧ o.clean = decide (q.seen = w) ∧ ¬ c.guard = "never"
  rw : o.kind = "read" → o.stage = "waits" → q.steps = takeS ∧ q.awaited = o.leader
  aw : live o → ¬ o.stage = "waits" → q.awaited = none
structure RelL (c : Conf) (w : Nat) (l : List OpS) (m : List POp) : Prop where
  len : l.length = m.length
  op : ∀ (k : Nat) o q, l[k]? = some o → m[k]? = some q → RelOp c w o q
structure Lead (c : Conf) (opn leader : Option Nat) (m : List POp) : Prop where
  ld : ∀ l, opn = some l → leader = some l ∧ endedAt m (some l) = false
  ln : opn = none → endedAt m leader = true
  fl : ¬ c.flight = "shared" → opn = none
  rg : ∀ l, leader = some l → l < m.length
structure Rel (c : Conf) (s : HS) (t : PSt) : Prop where
  db : t.db = s.db
  rep : t.rep = s.rep
  cache : t.cache = s.cache
  mark : t.mark = s.mark
  ops : RelL c t.wipes s.ops t.ops
  lead : Lead c s.opn t.leader t.ops
section
variable {c : Conf} {w k : Nat} {l : List OpS} {m : List POp} {o o' : OpS} {q q' : POp} {opn leader : Option Nat}
theorem RelL.set (R : RelL c w l m) (h : RelOp c w o' q') : RelL c w (l.set k o') (m.set k q') := by
  refine ⟨by rw [List.length_set, List.length_set, R.len], fun j u v e1 e2 => ?_⟩
  by_cases hj : k = j
  · subst hj
    by_cases hl : k < l.length
    · rw [List.getElem?_set_self hl] at e1
      rw [List.getElem?_set_self (by rw [← R.len]; exact hl)] at e2
      cases e1
      cases e2
      exact h
    · have := (List.getElem?_eq_some_iff.mp e1).1
      rw [List.length_set] at this
      exact absurd this hl
  · rw [List.getElem?_set_ne hj] at e1
    rw [List.getElem?_set_ne hj] at e2
    exact R.op j u v e1 e2
theorem RelL.snoc (R : RelL c w l m) (h : RelOp c w o' q') : RelL c w (l ++ [o']) (m ++ [q']) := by
  refine ⟨by rw [List.length_append, List.length_append, R.len]; rfl, fun j u v e1 e2 => ?_⟩
  by_cases hj : j < l.length
  · rw [List.getElem?_append_left hj] at e1
    rw [List.getElem?_append_left (by rw [← R.len]; exact hj)] at e2
    exact R.op j u v e1 e2
  · rw [List.getElem?_append_right (by omega)] at e1
    rw [List.getElem?_append_right (by rw [← R.len]; omega), ← R.len] at e2
    have e0 : j - l.length = 0 := by
      have := (List.getElem?_eq_some_iff.mp e1).1
      simp at this
      omega
    rw [e0] at e1 e2
    cases e1
    cases e2
    exact h
theorem RelOp.cf (h : RelOp c w o q) (n : ¬ o.stage = "look" ∨ ¬ o.kind = "read") : RelOp c (w + 1) (cf o) q := by
  have f : live o → (false : Bool) = decide (q.seen = w + 1) := fun lv => (decide_eq_false (by have := h.seen lv; omega)).symm
  have lf : ∀ {x : Str}, o.stage = x → ¬ x = "ended" → ¬ x = "stopped" → live o := fun e a b => ⟨by rw [e]; exact a, by rw [e]; exact b⟩
  refine ⟨h.kind, h.ver, h.stop, h.ne, fun lv => (by have := h.seen lv; omega), h.wr, fun a b => ?_, fun a b => ⟨(h.rf a b).1, f (lf b (by decide +kernel) (by decide +kernel))⟩, fun a b => ⟨(h.rl a b).1, f (lf b (by decide +kernel) (by decide +kernel)), (h.rl a b).2.2⟩, h.rw, h.aw⟩
  rcases n with n | n
  · exact absurd b n
  · exact absurd a n
theorem RelL.cf (R : RelL c w l m) (n : ∀ o ∈ l, ¬ o.stage = "look" ∨ ¬ o.kind = "read") : RelL c (w + 1) (l.map cf) m := by
  refine ⟨by rw [List.length_map, R.len], fun j u v e1 e2 => ?_⟩
  rw [List.getElem?_map] at e1
  cases e : l[j]? with
  | none => rw [e] at e1; cases e1
  | some o =>
    rw [e] at e1
    cases e1
    exact (R.op j o v e e2).cf (n o (List.mem_of_getElem? e))
theorem ended_set (hq : m[k]? = some q) {j : Nat} : endedAt (m.set k q') (some j) = if j = k then q'.ended else endedAt m (some j) := by
  show (match (m.set k q')[j]? with | some q => q.ended | none => true) = _
  by_cases hj : j = k
  · subst hj
    rw [if_pos rfl, List.getElem?_set_self (List.getElem?_eq_some_iff.mp hq).1]
  · rw [if_neg hj, List.getElem?_set_ne (Ne.symm hj)]
    rfl
theorem ended_at (hq : m[k]? = some q) : endedAt m (some k) = q.ended := by
  show (match m[k]? with | some q => q.ended | none => true) = _
  rw [hq]
/-- an operation goes on -/
theorem Lead.on (L : Lead c opn leader m) (hq : m[k]? = some q) (n0 : q.ended = false) (n1 : q'.ended = false) : Lead c opn leader (m.set k q') := by
  have e : ∀ l, endedAt (m.set k q') l = endedAt m l := fun l => by
    cases l with
    | none => rfl
    | some j =>
      rw [ended_set hq]
      split
      · rename_i z
        rw [z, ended_at hq, n0, n1]
      · rfl
  exact ⟨fun l h => by rw [e]; exact L.ld l h, fun h => by rw [e]; exact L.ln h, L.fl, fun l h => by rw [List.length_set]; exact L.rg l h⟩
/-- an operation ends -/
theorem Lead.fin (L : Lead c opn leader m) (hq : m[k]? = some q) (n0 : q.ended = false) (n1 : q'.ended = true) : Lead c (if opn = some k then none else opn) leader (m.set k q') := by
  refine ⟨fun l h => ?_, fun h => ?_, fun h => (by rw [L.fl h]; simp), fun l h => by rw [List.length_set]; exact L.rg l h⟩
  · split at h
    · cases h
    · rename_i z
      obtain ⟨a, b⟩ := L.ld l h
      refine ⟨a, ?_⟩
      rw [ended_set hq, if_neg (fun y => z (by rw [h, y]))]
      exact b
  · by_cases z : opn = some k
    · rw [(L.ld k z).1, ended_set hq, if_pos rfl]
      exact n1
    · rw [if_neg z] at h
      have y := L.ln h
      cases leader with
      | none => rfl
      | some j =>
        rw [ended_set hq]
        split
        · exact n1
        · exact y
theorem end_f {s : HS} {st : Str} : (endH s k o st).db = s.db ∧ (endH s k o st).rep = s.rep ∧ (endH s k o st).cache = s.cache ∧ (endH s k o st).mark = s.mark ∧ (endH s k o st).opn = (if st = "ended" then (if s.opn = some o.number then none else s.opn) else s.opn) := by
  simp only [endH]
  by_cases h : st = "ended" ∧ s.opn = some o.number
  · rw [if_pos h, if_pos h.1, if_pos h.2]
    exact ⟨rfl, rfl, rfl, rfl, rfl⟩
  · rw [if_neg h]
    refine ⟨rfl, rfl, rfl, rfl, ?_⟩
    by_cases h1 : st = "ended"
    · rw [if_pos h1, if_neg (fun z => h ⟨h1, z⟩)]
      rfl
    · rw [if_neg h1]
      rfl
def o5 (c : Conf) (s3 : HS) (o : OpS) : OpS := if o.step + 1 = c.steps.length then { o with step := o.step + 1, stage := "ended", over := some s3.past.length } else { o with step := o.step + 1, stage := c.steps.getD (o.step + 1) "" }
theorem wr4_f {s : HS} : (wr4 c s k o).db = s.db ∧ (wr4 c s k o).rep = s.rep ∧ (wr4 c s k o).cache = s.cache ∧ (wr4 c s k o).mark = s.mark ∧ (wr4 c s k o).ops = s.ops.set k (o5 c s o) ∧ (wr4 c s k o).opn = (if o.step + 1 = c.steps.length then (if s.opn = some o.number then none else s.opn) else s.opn) := by
  unfold wr4 o5
  by_cases h : o.step + 1 = c.steps.length
  · rw [if_pos h, if_pos h, if_pos h]
    obtain ⟨a, b, d, e, f⟩ := end_f (k := k) (o := { o with step := o.step + 1 }) (s := s.put k { o with step := o.step + 1 }) (st := "ended")
    refine ⟨a, b, d, e, ?_, ?_⟩
    · rw [end_ops]
      show (s.ops.set k _).set k _ = _
      rw [List.set_set]
      rfl
    · rw [f, if_pos rfl]
      rfl
  · rw [if_neg h, if_neg h, if_neg h]
    exact ⟨rfl, rfl, rfl, rfl, rfl, rfl⟩
theorem not_wait (O : c.Ok) {j : Nat} (h : j < c.steps.length) : ¬ c.steps.getD j "" = "waits" ∧ ¬ c.steps.getD j "" = "ended" ∧ ¬ c.steps.getD j "" = "stopped" ∧ ¬ c.steps.getD j "" = "look" := by
  rcases step_word O h with e | e | e <;> rw [e] <;> decide +kernel
theorem rel_o5 {s3 : HS} {w0 w5 : Nat} {v : Option Nat} {cl : Bool} (O : c.Ok) (h : RelOp c w0 o q) (kd : o.kind = "write") (lv : live o) (nw : ¬ o.stage = "waits") (hs : o.step < c.steps.length) (hw : w0 ≤ w5) :
    RelOp c w5 (o5 c s3 { o with version := v, clean := cl }) { tailP q with version := v } := by
  have st := h.wr kd lv
  have sd : (tailP q).steps = c.steps.drop (o.step + 1) := by
    show q.steps.drop 1 = _
    rw [st, List.drop_drop]
  have kr : ∀ {P : Prop}, o.kind = "read" → P := fun z => by rw [kd] at z; exact absurd z (by decide +kernel)
  have qs : q.stopped = false := by rw [h.stop]; exact decide_eq_false lv.2
  have qa := h.aw lv nw
  have hse := h.seen lv
  unfold o5
  by_cases e : o.step + 1 = c.steps.length
  · rw [if_pos (show ({ o with version := v, clean := cl } : OpS).step + 1 = c.steps.length from e)]
    have z : (tailP q).steps = [] := by rw [sd]; exact List.drop_eq_nil_of_le (by omega)
    exact ⟨h.kind, rfl, by show q.stopped = decide (("ended" : Str) = "stopped"); rw [qs]; decide +kernel, ⟨fun _ => rfl, fun _ => z⟩, fun _ => (by show q.seen ≤ w5; omega), fun _ y => absurd rfl y.1, fun a _ => kr a, fun a _ => kr a, fun a _ => kr a, fun a _ => kr a, fun y _ => absurd rfl y.1⟩
  · rw [if_neg (show ¬ ({ o with version := v, clean := cl } : OpS).step + 1 = c.steps.length from e)]
    have hl : o.step + 1 < c.steps.length := by omega
    obtain ⟨n1, n2, n3, n4⟩ := not_wait O hl
    have z : ¬ (tailP q).steps = [] := by
      rw [sd]
      intro y
      have := List.drop_eq_nil_iff.mp y
      omega
    exact ⟨h.kind, rfl, by show q.stopped = decide (c.steps.getD (o.step + 1) "" = "stopped"); rw [qs, decide_eq_false n3], ⟨fun y => absurd y z, fun y => absurd y n2⟩, fun _ => (by show q.seen ≤ w5; omega), fun _ _ => sd, fun a _ => kr a, fun a _ => kr a, fun a _ => kr a, fun a _ => kr a, fun _ _ => qa⟩
structure RelX (c : Conf) (w k : Nat) (l : List OpS) (m : List POp) : Prop where
  len : l.length = m.length
  op : ∀ (j : Nat) o q, ¬ j = k → l[j]? = some o → m[j]? = some q → RelOp c w o q
theorem RelL.x (R : RelL c w l m) : RelX c w k l m := ⟨R.len, fun j o q _ => R.op j o q⟩
theorem RelX.seta (R : RelX c w k l m) : RelX c w k (l.set k o') m := ⟨by rw [List.length_set]; exact R.len, fun j u v n e1 e2 => by
  rw [List.getElem?_set_ne (Ne.symm n)] at e1
  exact R.op j u v n e1 e2⟩
theorem RelX.set (R : RelX c w k l m) (h : RelOp c w o' q') : RelL c w (l.set k o') (m.set k q') := by
  refine ⟨by rw [List.length_set, List.length_set, R.len], fun j u v e1 e2 => ?_⟩
  by_cases hj : k = j
  · subst hj
    by_cases hl : k < l.length
    · rw [List.getElem?_set_self hl] at e1
      rw [List.getElem?_set_self (by rw [← R.len]; exact hl)] at e2
      cases e1
      cases e2
      exact h
    · have := (List.getElem?_eq_some_iff.mp e1).1
      rw [List.length_set] at this
      exact absurd this hl
  · rw [List.getElem?_set_ne hj] at e1
    rw [List.getElem?_set_ne hj] at e2
    exact R.op j u v (Ne.symm hj) e1 e2
theorem hold_f {s : HS} {v : Nat} : (holdH c s v).db = s.db ∧ (holdH c s v).rep = s.rep ∧ (holdH c s v).cache = some v ∧ (holdH c s v).mark = (if c.guard = "mark" then max s.mark v else s.mark) ∧ (holdH c s v).opn = s.opn := by
  unfold holdH
  split <;> exact ⟨rfl, rfl, rfl, rfl, rfl⟩
theorem holdP_f {t : PSt} {v : Nat} : (holdP c t v).db = t.db ∧ (holdP c t v).rep = t.rep ∧ (holdP c t v).cache = some v ∧ (holdP c t v).mark = (if c.guard = "mark" then max t.mark v else t.mark) ∧ (holdP c t v).ops = t.ops ∧ (holdP c t v).leader = t.leader ∧ (holdP c t v).wipes = t.wipes := by
  unfold holdP markP
  split <;> exact ⟨rfl, rfl, rfl, rfl, rfl, rfl, rfl⟩
/-- the end of a write's step -/
theorem fin_write {s s3 : HS} {t t' : PSt} {v : Option Nat} {cl : Bool} (O : c.Ok) (R : Rel c s t) (num : o.number = k) (eq : t.ops[k]? = some q) (h : RelOp c t.wipes o q) (kd : o.kind = "write") (lv : live o) (nw : ¬ o.stage = "waits") (hs : o.step < c.steps.length)
    (hdb : t'.db = s3.db) (hrep : t'.rep = s3.rep) (hca : t'.cache = s3.cache) (hma : t'.mark = s3.mark) (hop : s3.opn = s.opn) (hle : t'.leader = t.leader) (hm : t'.ops = t.ops.set k { tailP q with version := v }) (hw : t.wipes ≤ t'.wipes) (X : RelX c t'.wipes k s3.ops t.ops) :
    Rel c (wr4 c s3 k { o with version := v, clean := cl }) t' := by
  obtain ⟨f1, f2, f3, f4, f5, f6⟩ := wr4_f (c := c) (k := k) (s := s3) (o := { o with version := v, clean := cl })
  have r5 := rel_o5 (s3 := s3) (w5 := t'.wipes) (v := v) (cl := cl) O h kd lv nw hs hw
  have n0 : q.ended = false := by
    unfold POp.ended
    cases z : q.steps with
    | nil => exact absurd (h.ne.mp z) lv.1
    | cons _ _ => rfl
  refine ⟨by rw [f1]; exact hdb, by rw [f2]; exact hrep, by rw [f3]; exact hca, by rw [f4]; exact hma, by rw [f5, hm]; exact X.set r5, ?_⟩
  rw [f6, hop, hle, hm]
  by_cases e : o.step + 1 = c.steps.length
  · rw [if_pos (show ({ o with version := v, clean := cl } : OpS).step + 1 = c.steps.length from e), show ({ o with version := v, clean := cl } : OpS).number = k from num]
    refine R.lead.fin eq n0 ?_
    have z : ({ tailP q with version := v } : POp).steps = [] := r5.ne.mpr (by
      unfold o5
      rw [if_pos (show ({ o with version := v, clean := cl } : OpS).step + 1 = c.steps.length from e)])
    unfold POp.ended
    rw [z]
    rfl
  · rw [if_neg (show ¬ ({ o with version := v, clean := cl } : OpS).step + 1 = c.steps.length from e)]
    refine R.lead.on eq n0 ?_
    have hl : o.step + 1 < c.steps.length := by omega
    have z : ¬ ({ tailP q with version := v } : POp).steps = [] := fun y => by
      have y2 := r5.ne.mp y
      unfold o5 at y2
      rw [if_neg (show ¬ ({ o with version := v, clean := cl } : OpS).step + 1 = c.steps.length from e)] at y2
      exact (not_wait O hl).2.1 y2
    unfold POp.ended
    cases y : ({ tailP q with version := v } : POp).steps with
    | nil => exact absurd y z
    | cons _ _ => rfl
theorem Rel.write {s : HS} {t : PSt} {wd : Str} (O : c.Ok) (W : Wf c s) (R : Rel c s t) (NL : ∀ o ∈ s.ops, ¬ o.stage = "look" ∨ ¬ o.kind = "read") (eo : s.ops[k]? = some o) (eq : t.ops[k]? = some q) (kd : o.kind = "write") (lv : live o) (hn : nextOf s o = some wd) :
    Rel c (writeH c s k o wd) (opP c (t.put k (tailP q)) k (tailP q) wd) := by
  have p := W.ops k o eo
  obtain ⟨hs, hw, hst, hset⟩ := p.write O kd lv.1 lv.2 hn
  have h := R.ops.op k o q eo eq
  have nw : ¬ o.stage = "waits" := by rw [hst, hw]; exact (not_wait O hs).1
  have hw' := step_word O hs
  rw [← hw] at hw'
  unfold writeH
  rcases hw' with e | e | e
  · -- drop
    subst e
    have d1 : wr1 s k o "drop" = { s with ops := s.ops.map cf } := if_neg (by decide +kernel)
    have d2 : wo1 s o "drop" = cf o := if_neg (by decide +kernel)
    have d3 : ∀ s2 o2, wr3 c s2 o2 "drop" = s2 := fun s2 o2 => if_neg (by decide +kernel)
    have d4 : opP c (t.put k (tailP q)) k (tailP q) "drop" = dropP c (t.put k (tailP q)) k (tailP q) := by
      unfold opP
      rw [if_neg (by decide +kernel), if_neg (by decide +kernel), if_neg (by decide +kernel), if_neg (by decide +kernel), if_neg (by decide +kernel), if_pos rfl]
    rw [d1, d2, d3, d4]
    have d5 : ∀ s2, wr2 c s2 (cf o) "drop" = (if c.guard = "mark" ∧ o.version.isSome then { s2 with cache := none, mark := max s2.mark (o.version.getD 0) } else { s2 with cache := none }) := fun s2 => if_pos rfl
    rw [d5]
    have X : RelX c (t.wipes + 1) k (s.ops.map cf) t.ops := (R.ops.cf NL).x
    have vq : (tailP q).version = o.version := h.ver
    cases ev : o.version with
    | none =>
      have zP : dropP c (t.put k (tailP q)) k (tailP q) = { t.put k (tailP q) with cache := none, wipes := t.wipes + 1 } := by
        unfold dropP
        rw [vq, ev]
        rfl
      rw [zP]
      rw [if_neg (by rintro ⟨_, z⟩; cases z)]
      have ec : cf o = { o with version := none, clean := false } := by unfold cf; rw [← ev]
      rw [ec]
      exact fin_write O R p.num eq h kd lv nw hs R.db R.rep rfl R.mark rfl rfl (by show t.ops.set k (tailP q) = _; rw [show ({ tailP q with version := none } : POp) = tailP q from by rw [← ev, ← vq]]) (Nat.le_succ _) X
    | some v =>
      have ec : cf o = { o with version := some v, clean := false } := by unfold cf; rw [← ev]
      rw [ec]
      have eq5 : ({ tailP q with version := some v } : POp) = tailP q := by rw [← ev, ← vq]
      have zP : dropP c (t.put k (tailP q)) k (tailP q) = (if c.guard = "mark" then { t.put k (tailP q) with cache := none, wipes := t.wipes + 1, mark := max t.mark v } else { t.put k (tailP q) with cache := none, wipes := t.wipes + 1 }) := by
        unfold dropP
        rw [vq, ev]
        rfl
      rw [zP]
      by_cases g : c.guard = "mark"
      · rw [if_pos g, if_pos ⟨g, rfl⟩]
        exact fin_write O R p.num eq h kd lv nw hs R.db R.rep rfl (by show max t.mark v = max s.mark v; rw [R.mark]) rfl rfl (by show t.ops.set k (tailP q) = _; rw [eq5]) (Nat.le_succ _) X
      · rw [if_neg g, if_neg (fun z => g z.1)]
        exact fin_write O R p.num eq h kd lv nw hs R.db R.rep rfl R.mark rfl rfl (by show t.ops.set k (tailP q) = _; rw [eq5]) (Nat.le_succ _) X
  · -- store
    subst e
    have d1 : wr1 s k o "store" = { s with db := s.db + 1, ops := s.ops.set k { o with version := some (s.db + 1) } } := if_pos rfl
    have d2 : wo1 s o "store" = { o with version := some (s.db + 1), clean := o.clean } := if_pos rfl
    have d3 : ∀ s2 o2, wr3 c s2 o2 "store" = s2 := fun s2 o2 => if_neg (by decide +kernel)
    have d4 : opP c (t.put k (tailP q)) k (tailP q) "store" = storeP c (t.put k (tailP q)) k (tailP q) := by
      unfold opP
      rw [if_neg (by decide +kernel), if_neg (by decide +kernel), if_neg (by decide +kernel), if_neg (by decide +kernel), if_pos rfl]
    have d5 : ∀ s2 o2, wr2 c s2 o2 "store" = s2 := fun s2 o2 => if_neg (by decide +kernel)
    rw [d1, d2, d3, d4, d5]
    unfold storeP
    refine fin_write O R p.num eq h kd lv nw hs (by show t.db + 1 = s.db + 1; rw [R.db]) R.rep R.cache R.mark rfl rfl ?_ (Nat.le_refl _) R.ops.x.seta
    show ((t.ops.set k (tailP q)).set k _) = _
    rw [List.set_set]
    show t.ops.set k { tailP q with version := some (t.db + 1) } = _
    rw [R.db]
  · -- set
    subst e
    have d1 : wr1 s k o "set" = { s with ops := s.ops.map cf } := if_neg (by decide +kernel)
    have d2 : wo1 s o "set" = cf o := if_neg (by decide +kernel)
    have d4 : opP c (t.put k (tailP q)) k (tailP q) "set" = putP c (t.put k (tailP q)) k (tailP q) := by
      unfold opP
      rw [if_neg (by decide +kernel), if_neg (by decide +kernel), if_neg (by decide +kernel), if_neg (by decide +kernel), if_neg (by decide +kernel), if_neg (by decide +kernel)]
    have d5 : ∀ s2 o2, wr2 c s2 o2 "set" = s2 := fun s2 o2 => if_neg (by decide +kernel)
    have d3 : ∀ s2 o2, wr3 c s2 o2 "set" = (if setsB c s2 (o2.version.getD 0) then holdH c s2 (o2.version.getD 0) else s2) := fun s2 o2 => if_pos rfl
    rw [d1, d2, d4, d5, d3]
    have X : RelX c (t.wipes + 1) k (s.ops.map cf) t.ops := (R.ops.cf NL).x
    obtain ⟨v, ev⟩ := Option.isSome_iff_exists.mp (hset rfl)
    have ec : cf o = { o with version := some v, clean := false } := by unfold cf; rw [← ev]
    have vq : (tailP q).version = some v := h.ver.trans ev
    have eq5 : ({ tailP q with version := some v } : POp) = tailP q := by rw [← vq]
    rw [ec]
    unfold putP
    rw [vq]
    have eb : inP c { t.put k (tailP q) with wipes := t.wipes + 1 } v = setsB c { s with ops := s.ops.map cf } v := by
      unfold inP setsB newerB
      show (if c.guard = "newer" then (match t.cache with | none => true | some x => decide (x < v)) else if c.guard = "mark" then decide (t.mark ≤ v) else true) = (if c.guard = "mark" then decide (s.mark ≤ v) else !decide (c.guard = "newer") || (match s.cache with | none => true | some x => decide (x < v)))
      rw [R.cache, R.mark]
      by_cases g1 : c.guard = "newer"
      · rw [if_pos g1, if_neg (by rw [g1]; decide +kernel), decide_eq_true g1]
        rfl
      · rw [if_neg g1, decide_eq_false g1]
        rfl
    show Rel c (wr4 c (if setsB c { s with ops := s.ops.map cf } v then holdH c { s with ops := s.ops.map cf } v else { s with ops := s.ops.map cf }) k _) (if inP c { t.put k (tailP q) with wipes := t.wipes + 1 } v then holdP c { t.put k (tailP q) with wipes := t.wipes + 1 } v else { t.put k (tailP q) with wipes := t.wipes + 1 })
    rw [eb]
    by_cases b : setsB c { s with ops := s.ops.map cf } v = true
    · rw [if_pos b, if_pos b]
      obtain ⟨a1, a2, a3, a4, a5⟩ := hold_f (c := c) (s := { s with ops := s.ops.map cf }) (v := v)
      obtain ⟨b1, b2, b3, b4, b5, b6, b7⟩ := holdP_f (c := c) (t := { t.put k (tailP q) with wipes := t.wipes + 1 }) (v := v)
      refine fin_write O R p.num eq h kd lv nw hs (by rw [a1, b1]; exact R.db) (by rw [a2, b2]; exact R.rep) (by rw [a3, b3]) (by rw [a4, b4]; show (if _ then max t.mark v else t.mark) = (if _ then max s.mark v else s.mark); rw [R.mark]) (by rw [a5]) (by rw [b6]; rfl) (by rw [b5]; show t.ops.set k (tailP q) = _; rw [eq5]) (by rw [b7]; exact Nat.le_succ _) (by rw [hold_ops, b7]; exact X)
    · rw [if_neg b, if_neg b]
      exact fin_write O R p.num eq h kd lv nw hs R.db R.rep R.cache R.mark rfl rfl (by show t.ops.set k (tailP q) = _; rw [eq5]) (Nat.le_succ _) X
end
end Ca

set_option Elab.async false
set_option linter.all false
set_option maxRecDepth 100000
set_option maxHeartbeats 4000000
namespace Ca
open PySem L2
section
variable {c : Conf} {w k : Nat} {l : List OpS} {m : List POp} {o o' : OpS} {q q' : POp} {opn leader : Option Nat}
theorem rel_end {x : Option Nat} (h1 : q'.kind = o.kind) (h2 : q'.version = o.version) (h3 : q'.stopped = false) (h4 : q'.steps = []) (h5 : q'.seen ≤ w) : RelOp c w { o with stage := "ended", over := x } q' := by
  have n : ∀ {P : Prop} {st : Str}, ¬ ("ended" : Str) = st → ("ended" : Str) = st → P := fun a b => absurd b a
  exact ⟨h1, h2, by rw [h3]; show false = decide (("ended" : Str) = "stopped"); decide +kernel, ⟨fun _ => rfl, fun _ => h4⟩, fun _ => h5, fun _ y => absurd rfl y.1, fun _ b => n (by decide +kernel) b, fun _ b => n (by decide +kernel) b, fun _ b => n (by decide +kernel) b, fun _ b => n (by decide +kernel) b, fun y _ => absurd rfl y.1⟩
theorem end_none {st : List Str} (h : q.steps = st) : q.ended = st.isEmpty := by
  unfold POp.ended
  rw [h]
theorem not_ended (h : RelOp c w o q) (lv : live o) : q.ended = false := by
  unfold POp.ended
  cases z : q.steps with
  | nil => exact absurd (h.ne.mp z) lv.1
  | cons _ _ => rfl
/-- an operation's last step -/
theorem fin_end {s s1 : HS} {t t' : PSt} (R : Rel c s t) (num : o.number = k) (eq : t.ops[k]? = some q) (n0 : q.ended = false)
    (hdb : t'.db = s1.db) (hrep : t'.rep = s1.rep) (hca : t'.cache = s1.cache) (hma : t'.mark = s1.mark) (hop : s1.opn = s.opn) (hle : t'.leader = t.leader) (hm : t'.ops = t.ops.set k q') (X : RelX c t'.wipes k s1.ops t.ops)
    (h1 : q'.kind = o.kind) (h2 : q'.version = o.version) (h3 : q'.stopped = false) (h4 : q'.steps = []) (h5 : q'.seen ≤ t'.wipes) : Rel c (endH s1 k o "ended") t' := by
  obtain ⟨f1, f2, f3, f4, f5⟩ := end_f (k := k) (o := o) (s := s1) (st := "ended")
  refine ⟨by rw [f1]; exact hdb, by rw [f2]; exact hrep, by rw [f3]; exact hca, by rw [f4]; exact hma, by rw [end_ops, hm]; exact X.set (rel_end h1 h2 h3 h4 h5), ?_⟩
  rw [f5, if_pos rfl, hop, num, hle, hm]
  exact R.lead.fin eq n0 (by rw [end_none h4]; rfl)
theorem Rel.read {s : HS} {t : PSt} {wd : Str} (O : c.Ok) (W : Wf c s) (R : Rel c s t) (eo : s.ops[k]? = some o) (eq : t.ops[k]? = some q) (kd : ¬ o.kind = "write") (lv : live o) (hn : nextOf s o = some wd) :
    Rel c (readH c s k o wd) (opP c (t.put k (tailP q)) k (tailP q) wd) := by
  have p := W.ops k o eo
  have kr : o.kind = "read" := p.kd.resolve_right kd
  have h := R.ops.op k o q eo eq
  have n0 := not_ended h lv
  have st0 : q.stopped = false := by rw [h.stop]; exact decide_eq_false lv.2
  have kW : ∀ {P : Prop}, o.kind = "write" → P := fun z => absurd z kd
  have pp : ∀ {q1 : POp}, (t.put k (tailP q)).put k q1 = t.put k q1 := fun {q1} => put_pP
  rcases p.read O kd lv.1 lv.2 hn with ⟨e, es⟩ | ⟨e, es⟩ | ⟨e, es, hv⟩ | ⟨e, es, l, u, el, eu⟩
  · -- look
    subst e
    obtain ⟨hst, hcl⟩ := h.rk kr es
    have d4 : opP c (t.put k (tailP q)) k (tailP q) "look" = lookP c (t.put k (tailP q)) k (tailP q) := if_pos rfl
    rw [d4]
    have tl : (tailP q).steps = fetchS c := by
      show q.steps.drop 1 = _
      rw [hst]
      unfold lookS fetchS
      split <;> rfl
    have tne : (tailP q).ended = false := by
      rw [end_none tl]
      unfold fetchS
      split <;> rfl
    have aw0 : q.awaited = none := h.aw lv (by rw [es]; decide +kernel)
    cases ec : s.cache with
    | some v =>
      have zL : readH c s k o "look" = endH (s.put k { o with version := some v }) k { o with version := some v } "ended" := by
        unfold readH
        rw [if_pos ⟨rfl, by rw [ec]; rfl⟩, ec]
      have zP : lookP c (t.put k (tailP q)) k (tailP q) = t.put k { tailP q with seen := t.wipes, version := some v, steps := [] } := by
        have tc : (t.put k (tailP q)).cache = some v := R.cache.trans ec
        unfold lookP
        rw [tc]
        exact pp
      rw [zL, zP]
      exact fin_end (q' := { tailP q with seen := t.wipes, version := some v, steps := [] }) R p.num eq n0 R.db R.rep R.cache R.mark rfl rfl rfl R.ops.x.seta h.kind rfl st0 rfl (Nat.le_refl _)
    | none =>
      have zP : lookP c (t.put k (tailP q)) k (tailP q) = (if c.flight = "shared" then shareP c (t.put k { tailP q with seen := t.wipes }) k { tailP q with seen := t.wipes } else t.put k { tailP q with seen := t.wipes }) := by
        have tc : (t.put k (tailP q)).cache = none := R.cache.trans ec
        unfold lookP
        rw [tc]
        show (if c.flight = "shared" then shareP c ((t.put k (tailP q)).put k { tailP q with seen := t.wipes }) k { tailP q with seen := t.wipes } else (t.put k (tailP q)).put k { tailP q with seen := t.wipes }) = _
        rw [pp]
      have eE : ∀ x, endedAt (t.put k { tailP q with seen := t.wipes }).ops x = endedAt t.ops x := fun x => by
        cases x with
        | none => rfl
        | some j =>
          show endedAt (t.ops.set k _) (some j) = _
          rw [ended_set eq]
          split
          · rename_i z
            rw [z, ended_at eq, n0]
            exact tne
          · rfl
      have rf : RelOp c t.wipes { o with stage := "fetch" } { tailP q with seen := t.wipes } := by
        have n : ∀ {P : Prop} {st : Str}, ¬ ("fetch" : Str) = st → ("fetch" : Str) = st → P := fun a b => absurd b a
        refine ⟨h.kind, h.ver, by show q.stopped = decide (("fetch" : Str) = "stopped"); rw [st0]; decide +kernel, ⟨fun z => ?_, fun z => n (by decide +kernel) z⟩, fun _ => Nat.le_refl _, fun a _ => kW a, fun _ b => n (by decide +kernel) b, fun _ _ => ⟨tl, ?_⟩, fun _ b => n (by decide +kernel) b, fun _ b => n (by decide +kernel) b, fun _ _ => aw0⟩
        · have z2 : (tailP q).steps = [] := z
          rw [end_none z2] at tne
          cases tne
        · show o.clean = decide (t.wipes = t.wipes)
          rw [hcl, decide_eq_true rfl]
      cases eopn : s.opn with
      | some l =>
        obtain ⟨hl1, hl2⟩ := R.lead.ld l eopn
        have fs : c.flight = "shared" := by
          apply Classical.byContradiction
          intro z
          rw [R.lead.fl z] at eopn
          cases eopn
        have zL : readH c s k o "look" = s.put k { o with stage := "waits", leader := some l } := by
          unfold readH
          rw [if_neg (by rw [ec]; rintro ⟨_, z⟩; cases z), if_pos ⟨rfl, by rw [eopn]; rfl⟩, eopn]
        have zP2 : shareP c (t.put k { tailP q with seen := t.wipes }) k { tailP q with seen := t.wipes } = t.put k { tailP q with seen := t.wipes, awaited := some l, steps := takeS } := by
          have tl1 : (t.put k { tailP q with seen := t.wipes }).leader = some l := hl1
          unfold shareP
          rw [tl1, eE, hl2, if_neg (by decide), put_pP]
          rfl
        rw [zL, zP, if_pos fs, zP2]
        have rq : RelOp c t.wipes { o with stage := "waits", leader := some l } { tailP q with seen := t.wipes, awaited := some l, steps := takeS } := by
          have n : ∀ {P : Prop} {st : Str}, ¬ ("waits" : Str) = st → ("waits" : Str) = st → P := fun a b => absurd b a
          exact ⟨h.kind, h.ver, by show q.stopped = decide (("waits" : Str) = "stopped"); rw [st0]; decide +kernel, ⟨fun z => (by cases z), fun z => n (by decide +kernel) z⟩, fun _ => Nat.le_refl _, fun a _ => kW a, fun _ b => n (by decide +kernel) b, fun _ b => n (by decide +kernel) b, fun _ b => n (by decide +kernel) b, fun _ _ => ⟨rfl, rfl⟩, fun _ b => absurd rfl b⟩
        exact ⟨R.db, R.rep, R.cache, R.mark, R.ops.set rq, R.lead.on eq n0 rfl⟩
      | none =>
        have zL : readH c s k o "look" = { s.put k { o with stage := "fetch" } with opn := if c.flight = "shared" then some o.number else none } := by
          unfold readH
          rw [if_neg (by rw [ec]; rintro ⟨_, z⟩; cases z), if_neg (by rw [eopn]; rintro ⟨_, z⟩; cases z), if_pos rfl]
        rw [zL, zP]
        by_cases fs : c.flight = "shared"
        · have zP2 : shareP c (t.put k { tailP q with seen := t.wipes }) k { tailP q with seen := t.wipes } = { t.put k { tailP q with seen := t.wipes } with leader := some k } := by
            unfold shareP
            rw [if_pos (by rw [eE]; exact R.lead.ln eopn)]
          rw [if_pos fs, if_pos fs, zP2]
          refine ⟨R.db, R.rep, R.cache, R.mark, R.ops.set rf, ⟨fun l z => ?_, fun z => (by cases z), fun z => absurd fs z, fun l z => (by cases z; show k < (t.ops.set k _).length; rw [List.length_set]; exact (List.getElem?_eq_some_iff.mp eq).1)⟩⟩
          have z : some o.number = some l := z
          rw [p.num] at z
          cases z
          refine ⟨rfl, ?_⟩
          show endedAt (t.ops.set k _) (some k) = false
          rw [ended_set eq, if_pos rfl]
          exact tne
        · rw [if_neg fs, if_neg fs]
          refine ⟨R.db, R.rep, R.cache, R.mark, R.ops.set rf, ?_⟩
          have := R.lead.on (q' := { tailP q with seen := t.wipes }) eq n0 tne
          rw [eopn] at this
          exact this
  · -- fetch
    subst e
    obtain ⟨hst, hcl⟩ := h.rf kr es
    have d4 : opP c (t.put k (tailP q)) k (tailP q) "fetch" = fetchP c (t.put k (tailP q)) k (tailP q) := by
      unfold opP
      rw [if_neg (by decide +kernel), if_pos rfl]
    have zP : fetchP c (t.put k (tailP q)) k (tailP q) = t.put k { tailP q with version := some (if c.source = "replica" then s.rep else s.db) } := by
      unfold fetchP
      rw [pp]
      show t.put k { tailP q with version := some (if c.source = "replica" then t.rep else t.db) } = _
      rw [R.rep, R.db]
    rw [d4, zP]
    have aw0 : q.awaited = none := h.aw lv (by rw [es]; decide +kernel)
    by_cases g : c.guard = "never"
    · have zL : readH c s k o "fetch" = endH (s.put k { o with version := some (if c.source = "replica" then s.rep else s.db), stage := "fill" }) k { o with version := some (if c.source = "replica" then s.rep else s.db), stage := "fill" } "ended" := by
        unfold readH
        rw [if_neg (by rintro ⟨z, _⟩; exact absurd z (by decide +kernel)), if_neg (by rintro ⟨z, _⟩; exact absurd z (by decide +kernel)), if_neg (by decide +kernel), if_pos rfl, if_pos g]
      rw [zL]
      have ts : (tailP q).steps = [] := by
        show q.steps.drop 1 = []
        rw [hst]
        unfold fetchS
        rw [if_pos g]
        rfl
      exact fin_end (q' := { tailP q with version := some (if c.source = "replica" then s.rep else s.db) }) R p.num eq n0 R.db R.rep R.cache R.mark rfl rfl rfl R.ops.x.seta h.kind rfl st0 ts (h.seen lv)
    · have zL : readH c s k o "fetch" = s.put k { o with version := some (if c.source = "replica" then s.rep else s.db), stage := "fill" } := by
        unfold readH
        rw [if_neg (by rintro ⟨z, _⟩; exact absurd z (by decide +kernel)), if_neg (by rintro ⟨z, _⟩; exact absurd z (by decide +kernel)), if_neg (by decide +kernel), if_pos rfl, if_neg g]
      rw [zL]
      have ts : (tailP q).steps = fillS := by
        show q.steps.drop 1 = _
        rw [hst]
        unfold fetchS
        rw [if_neg g]
        rfl
      have n : ∀ {P : Prop} {st : Str}, ¬ ("fill" : Str) = st → ("fill" : Str) = st → P := fun a b => absurd b a
      have rq : RelOp c t.wipes { o with version := some (if c.source = "replica" then s.rep else s.db), stage := "fill" } { tailP q with version := some (if c.source = "replica" then s.rep else s.db) } := by
        refine ⟨h.kind, rfl, by show q.stopped = decide (("fill" : Str) = "stopped"); rw [st0]; decide +kernel, ⟨fun z => ?_, fun z => n (by decide +kernel) z⟩, fun _ => h.seen lv, fun a _ => kW a, fun _ b => n (by decide +kernel) b, fun _ b => n (by decide +kernel) b, fun _ _ => ⟨ts, hcl, g⟩, fun _ b => n (by decide +kernel) b, fun _ _ => aw0⟩
        have z2 : (tailP q).steps = [] := z
        rw [ts] at z2
        cases z2
      exact ⟨R.db, R.rep, R.cache, R.mark, R.ops.set rq, R.lead.on eq n0 (by rw [end_none (q := { tailP q with version := some (if c.source = "replica" then s.rep else s.db) }) ts]; rfl)⟩
  · -- fill
    subst e
    obtain ⟨hst, hcl, hg⟩ := h.rl kr es
    obtain ⟨v, ev⟩ := Option.isSome_iff_exists.mp hv
    have d4 : opP c (t.put k (tailP q)) k (tailP q) "fill" = fillP c (t.put k (tailP q)) k (tailP q) := by
      unfold opP
      rw [if_neg (by decide +kernel), if_neg (by decide +kernel), if_pos rfl]
    have vq : (tailP q).version = some v := h.ver.trans ev
    have eb : fillB c (t.put k (tailP q)) (tailP q) v = letsB c s o v := by
      unfold fillB letsB inP newerB
      show (if c.guard = "empty" then t.cache.isNone else if c.guard = "token" then decide (q.seen = t.wipes) else if c.guard = "newer" then (match t.cache with | none => true | some x => decide (x < v)) else if c.guard = "mark" then decide (t.mark ≤ v) else true) = (if c.guard = "token" then o.clean else if c.guard = "mark" then decide (s.mark ≤ v) else decide (c.guard = "always") || (if c.guard = "newer" then (match s.cache with | none => true | some x => decide (x < v)) else s.cache.isNone))
      rw [R.cache, R.mark, hcl]
      have hgs := O.g
      simp only [guardsL, List.mem_cons, List.not_mem_nil, or_false] at hgs
      rcases hgs with z | z | z | z | z | z
      · rw [z, if_neg (by decide +kernel), if_neg (by decide +kernel), if_neg (by decide +kernel), if_neg (by decide +kernel), if_neg (by decide +kernel), if_neg (by decide +kernel), decide_eq_true rfl, Bool.true_or]
      · rw [z, if_pos rfl, if_neg (by decide +kernel), if_neg (by decide +kernel), if_neg (by decide +kernel), show decide (("empty" : Str) = "always") = false by decide +kernel, Bool.false_or]
      · rw [z, if_neg (by decide +kernel), if_neg (by decide +kernel), if_neg (by decide +kernel), if_pos rfl, if_neg (by decide +kernel), if_pos rfl]
      · exact absurd z hg
      · rw [z, if_neg (by decide +kernel), if_neg (by decide +kernel), if_pos rfl, if_neg (by decide +kernel), if_neg (by decide +kernel), if_pos rfl, show decide (("newer" : Str) = "always") = false by decide +kernel, Bool.false_or]
      · rw [z, if_neg (by decide +kernel), if_pos rfl, if_pos rfl]
    have zP : fillP c (t.put k (tailP q)) k (tailP q) = (if letsB c s o v then holdP c (t.put k (tailP q)) v else t.put k (tailP q)) := by
      unfold fillP
      rw [vq]
      show (if fillB c (t.put k (tailP q)) (tailP q) v then holdP c (t.put k (tailP q)) v else t.put k (tailP q)) = _
      rw [eb]
    have zL : readH c s k o "fill" = endH (if letsB c s o v then holdH c s v else s) k o "ended" := by
      unfold readH
      rw [if_neg (by rintro ⟨z, _⟩; exact absurd z (by decide +kernel)), if_neg (by rintro ⟨z, _⟩; exact absurd z (by decide +kernel)), if_neg (by decide +kernel), if_neg (by decide +kernel), if_neg (by decide +kernel), ev]
      rfl
    have ts : (tailP q).steps = [] := by
      show q.steps.drop 1 = []
      rw [hst]
      rfl
    rw [d4, zP, zL]
    by_cases b : letsB c s o v = true
    · rw [if_pos b, if_pos b]
      obtain ⟨a1, a2, a3, a4, a5⟩ := hold_f (c := c) (s := s) (v := v)
      obtain ⟨b1, b2, b3, b4, b5, b6, b7⟩ := holdP_f (c := c) (t := t.put k (tailP q)) (v := v)
      refine fin_end (q' := tailP q) R p.num eq n0 (by rw [a1, b1]; exact R.db) (by rw [a2, b2]; exact R.rep) (by rw [a3, b3]) (by rw [a4, b4]; show (if _ then max t.mark v else t.mark) = _; rw [R.mark]) a5 b6 b5 (by rw [hold_ops, b7]; exact R.ops.x) h.kind h.ver st0 ts (by rw [b7]; exact (h.seen lv))
    · rw [if_neg b, if_neg b]
      exact fin_end (q' := tailP q) R p.num eq n0 R.db R.rep R.cache R.mark rfl rfl rfl R.ops.x h.kind h.ver st0 ts (h.seen lv)
  · -- take
    subst e
    obtain ⟨hst, haw⟩ := h.rw kr es
    have d4 : opP c (t.put k (tailP q)) k (tailP q) "take" = takeP c (t.put k (tailP q)) k (tailP q) := by
      unfold opP
      rw [if_neg (by decide +kernel), if_neg (by decide +kernel), if_neg (by decide +kernel), if_pos rfl]
    have vl : leadV s o = u.version := by
      unfold leadV
      rw [el]
      show (match s.ops[l]? with | some q => q.version | none => none) = _
      rw [eu]
    have hlt : l < t.ops.length := by
      rw [← R.ops.len]
      exact (List.getElem?_eq_some_iff.mp eu).1
    obtain ⟨ql, eql⟩ : ∃ ql, t.ops[l]? = some ql := ⟨_, List.getElem?_eq_getElem hlt⟩
    have vt : versionAt (t.put k (tailP q)).ops (tailP q).awaited = u.version := by
      show versionAt (t.ops.set k (tailP q)) q.awaited = _
      rw [haw, el]
      show ((t.ops.set k (tailP q))[l]?).bind (·.version) = _
      by_cases hlk : l = k
      · subst hlk
        rw [List.getElem?_set_self hlt]
        rw [eu] at eo
        cases eo
        exact h.ver
      · rw [List.getElem?_set_ne (Ne.symm hlk), eql]
        exact (R.ops.op l u ql eu eql).ver
    have zP : takeP c (t.put k (tailP q)) k (tailP q) = t.put k { tailP q with version := u.version } := by
      unfold takeP
      rw [pp, vt]
    have zL : readH c s k o "take" = endH (s.put k { o with version := u.version }) k { o with version := u.version } "ended" := by
      unfold readH
      rw [if_neg (by rintro ⟨z, _⟩; exact absurd z (by decide +kernel)), if_neg (by rintro ⟨z, _⟩; exact absurd z (by decide +kernel)), if_neg (by decide +kernel), if_neg (by decide +kernel), if_pos rfl, vl]
    have ts : (tailP q).steps = [] := by
      show q.steps.drop 1 = []
      rw [hst]
      rfl
    rw [d4, zP, zL]
    exact fin_end (q' := { tailP q with version := u.version }) R p.num eq n0 R.db R.rep R.cache R.mark rfl rfl rfl R.ops.x.seta h.kind rfl st0 ts (h.seen lv)
end
end Ca

set_option Elab.async false
set_option linter.all false
set_option maxRecDepth 100000
set_option maxHeartbeats 4000000
namespace Ca
open PySem L2
section
variable {c : Conf} {w k : Nat} {l : List OpS} {m : List POp} {o o' : OpS} {q q' : POp} {opn leader : Option Nat} {s : HS} {t : PSt} {wd : Str}
def NL1 (o : OpS) : Prop := ¬ o.stage = "look" ∨ ¬ o.kind = "read"
def NLx (k : Nat) (l : List OpS) : Prop := ∀ (j : Nat) o, ¬ j = k → l[j]? = some o → NL1 o
theorem NLx.seta (h : NLx k l) : NLx k (l.set k o') := fun j u n e => by
  rw [List.getElem?_set_ne (Ne.symm n)] at e
  exact h j u n e
theorem NLx.cf (h : NLx k l) : NLx k (l.map cf) := fun j u n e => by
  rw [List.getElem?_map] at e
  cases z : l[j]? with
  | none => rw [z] at e; cases e
  | some o =>
    rw [z] at e
    cases e
    exact h j o n z
theorem NLx.set (h : NLx k l) (n1 : NL1 o') : ∀ o ∈ l.set k o', NL1 o := fun o ho => by
  obtain ⟨j, hj, e⟩ := List.getElem_of_mem ho
  have e' : (l.set k o')[j]? = some o := by rw [List.getElem?_eq_getElem hj, e]
  by_cases hk : k = j
  · subst hk
    rw [List.length_set] at hj
    rw [List.getElem?_set_self hj] at e'
    cases e'
    exact n1
  · rw [List.getElem?_set_ne hk] at e'
    exact h j o (Ne.symm hk) e'
theorem NLx.all (h : NLx k l) (eo : l[k]? = some o) (n1 : NL1 o) : ∀ u ∈ l, NL1 u := fun u hu => by
  obtain ⟨j, hj, e⟩ := List.getElem_of_mem hu
  have e' : l[j]? = some u := by rw [List.getElem?_eq_getElem hj, e]
  by_cases hk : j = k
  · subst hk
    rw [eo] at e'
    cases e'
    exact n1
  · exact h j u hk e'
theorem nl_end {s1 : HS} {st : Str} (h : NLx k s1.ops) (n : ¬ st = "look") : ∀ u ∈ (endH s1 k o st).ops, NL1 u := by
  rw [end_ops]
  exact h.set (.inl n)
theorem nl_op (O : c.Ok) (h : NLx k s.ops) : ∀ u ∈ (doOp c s k o wd).ops, NL1 u := by
  unfold doOp
  split
  · exact nl_end h (by decide +kernel)
  split
  · rename_i kd
    unfold writeH
    rw [(wr4_f (c := c) (k := k)).2.2.2.2.1]
    have hk : (wo1 s o wd).kind = o.kind := by unfold wo1; split <;> rfl
    have h3 : NLx k (wr3 c (wr2 c (wr1 s k o wd) (wo1 s o wd) wd) (wo1 s o wd) wd).ops := by
      rw [wr3_ops.1, wr2_ops.1, wr1_ops.1]
      split
      · exact h.seta
      · exact h.cf
    refine h3.set (.inr fun z => ?_)
    have z2 : (wo1 s o wd).kind = "read" := by
      unfold o5 at z
      split at z <;> exact z
    rw [hk, kd] at z2
    exact absurd z2 (by decide +kernel)
  · unfold readH
    split
    · exact nl_end h.seta (by decide +kernel)
    split
    · exact h.set (.inl (by show ¬ ("waits" : Str) = "look"; decide +kernel))
    split
    · exact h.set (.inl (by show ¬ ("fetch" : Str) = "look"; decide +kernel))
    split
    · split
      · exact nl_end h.seta (by decide +kernel)
      · exact h.set (.inl (by show ¬ ("fill" : Str) = "look"; decide +kernel))
    split
    · exact nl_end h.seta (by decide +kernel)
    · split
      · exact nl_end (by rw [hold_ops]; exact h) (by decide +kernel)
      · exact nl_end h (by decide +kernel)
theorem Rel.stop (R : Rel c s t) (eo : s.ops[k]? = some o) (eq : t.ops[k]? = some q) (lv : live o) : Rel c (endH s k o "stopped") (stopP t k) := by
  have h := R.ops.op k o q eo eq
  have n0 := not_ended h lv
  have z : stopP t k = t.put k { q with stopped := true, left := some t.past.length } := by
    unfold stopP
    rw [eq]
  rw [z]
  obtain ⟨f1, f2, f3, f4, f5⟩ := end_f (k := k) (o := o) (s := s) (st := "stopped")
  have n : ∀ {P : Prop} {st : Str}, ¬ ("stopped" : Str) = st → ("stopped" : Str) = st → P := fun a b => absurd b a
  have rq : RelOp c t.wipes { o with stage := "stopped", over := some s.past.length } { q with stopped := true, left := some t.past.length } := by
    refine ⟨h.kind, h.ver, by show true = decide (("stopped" : Str) = "stopped"); decide +kernel, ⟨fun z => ?_, fun z => n (by decide +kernel) z⟩, fun _ => h.seen lv, fun _ y => absurd rfl y.2, fun _ b => n (by decide +kernel) b, fun _ b => n (by decide +kernel) b, fun _ b => n (by decide +kernel) b, fun _ b => n (by decide +kernel) b, fun y _ => absurd rfl y.2⟩
    have z2 : q.steps = [] := z
    rw [end_none z2] at n0
    cases n0
  refine ⟨by rw [f1]; exact R.db, by rw [f2]; exact R.rep, by rw [f3]; exact R.cache, by rw [f4]; exact R.mark, by rw [end_ops]; exact R.ops.set rq, ?_⟩
  rw [f5, if_neg (by decide +kernel)]
  exact R.lead.on eq n0 n0
theorem Lead.snoc (L : Lead c opn leader m) : Lead c opn leader (m ++ [q']) := by
  have e : ∀ l, l < m.length → endedAt (m ++ [q']) (some l) = endedAt m (some l) := fun l h => by
    show (match (m ++ [q'])[l]? with | some q => q.ended | none => true) = (match m[l]? with | some q => q.ended | none => true)
    rw [List.getElem?_append_left h]
  refine ⟨fun l h => ?_, fun h => ?_, L.fl, fun l h => by rw [List.length_append]; exact Nat.lt_of_lt_of_le (L.rg l h) (Nat.le_add_right _ _)⟩
  · obtain ⟨a, b⟩ := L.ld l h
    exact ⟨a, by rw [e l (L.rg l a)]; exact b⟩
  · cases leader with
    | none => rfl
    | some j =>
      rw [e j (L.rg j rfl)]
      exact L.ln h
theorem rel_new {n : Nat} (O : c.Ok) (h : wd = "look" ∨ wd = firstW c) : RelOp c w (newOp s wd) (newP c wd n) := by
  rcases h with e | e
  · subst e
    have z1 : newP c "look" n = ⟨"read", lookS c, n, none, false, none, none, 0⟩ := if_pos rfl
    have z2 : newOp s "look" = ⟨s.ops.length, "read", "look", none, s.past.length, none, 0, true, none⟩ := rfl
    have n : ∀ {P : Prop} {st : Str}, ¬ ("look" : Str) = st → ("look" : Str) = st → P := fun a b => absurd b a
    rw [z1, z2]
    refine ⟨rfl, rfl, by show false = decide (("look" : Str) = "stopped"); decide +kernel, ⟨fun z => ?_, fun z => n (by decide +kernel) z⟩, fun _ => Nat.zero_le _, fun a _ => absurd a (by show ¬ ("read" : Str) = "write"; decide +kernel), fun _ _ => ⟨rfl, rfl⟩, fun _ b => n (by decide +kernel) b, fun _ b => n (by decide +kernel) b, fun _ b => n (by decide +kernel) b, fun _ _ => rfl⟩
    have z : lookS c = [] := z
    unfold lookS at z
    split at z <;> cases z
  · obtain ⟨n1, n2, n3, n4, n5, n6, n7⟩ := fst_ne O
    have z1 : newP c wd n = ⟨"write", c.steps, n, none, false, none, none, 0⟩ := if_neg (by rw [e]; exact n1)
    have z2 : newOp s wd = ⟨s.ops.length, "write", wd, none, s.past.length, none, 0, true, none⟩ := by
      unfold newOp
      rw [if_neg (by rw [e]; exact n1)]
    rw [z1, z2]
    have kr : ∀ {P : Prop}, ("write" : Str) = "read" → P := fun z => absurd z (by decide +kernel)
    refine ⟨rfl, rfl, by show false = decide (wd = "stopped"); rw [e, decide_eq_false n6], ⟨fun z => ?_, fun z => absurd (e ▸ z) n5⟩, fun _ => Nat.zero_le _, fun _ _ => rfl, fun a _ => kr a, fun a _ => kr a, fun a _ => kr a, fun a _ => kr a, fun _ _ => rfl⟩
    have z : c.steps = [] := z
    have := O.slen.1
    rw [z] at this
    cases this
theorem Rel.new {n : Nat} (O : c.Ok) (R : Rel c s t) (h : wd = "look" ∨ wd = firstW c) : Rel c { s with ops := s.ops ++ [newOp s wd] } { t with ops := t.ops ++ [newP c wd n] } :=
  ⟨R.db, R.rep, R.cache, R.mark, R.ops.snoc (rel_new O h), R.lead.snoc⟩
theorem Rel.op (O : c.Ok) (W : Wf c s) (R : Rel c s t) (NL : NLx k s.ops) (eo : s.ops[k]? = some o) (eq : t.ops[k]? = some q) (lv : live o) (hn : nextOf s o = some wd) (ns : ¬ wd = "stop") :
    Rel c (doOp c s k o wd) (opP c (t.put k (tailP q)) k (tailP q) wd) := by
  unfold doOp
  rw [if_neg ns]
  by_cases kd : o.kind = "write"
  · rw [if_pos kd]
    exact R.write O W (NL.all eo (.inr (by rw [kd]; decide +kernel))) eo eq kd lv hn
  · rw [if_neg kd]
    exact R.read O W eo eq kd lv hn
end
end Ca

set_option Elab.async false
set_option linter.all false
set_option maxRecDepth 100000
set_option maxHeartbeats 4000000
namespace Ca
open PySem L2
section
variable {c : Conf} {w k : Nat} {o o' : OpS} {q q' : POp} {s : HS} {t : PSt} {wd : Str}
/-- the events of one operation -/
def bOf (s : HS) (o : OpS) : List Ev := if endedB o then [] else (match evBf s o with | some e => [e] | none => [])
def cOf (c : Conf) (o : OpS) : List Ev := if endedB o then [] else if c.stop = "stops" then [("stop", some (o.number : Int))] else []
def bL (s : HS) (l : List OpS) : List Ev := (l.filter fun o => !endedB o).filterMap (evBf s)
def cL (c : Conf) (l : List OpS) : List Ev := if c.stop = "stops" then ((l.filter fun o => !endedB o).map fun o => (("stop" : Str), some (o.number : Int))) else []
theorem bL_snoc {l : List OpS} : bL s (l ++ [o]) = bL s l ++ bOf s o := by
  unfold bL bOf
  rw [List.filter_append, List.filterMap_append]
  congr 1
  cases e : endedB o with
  | true => simp [e]
  | false =>
    cases h : evBf s o <;> simp [e, h]
theorem cL_snoc {l : List OpS} : cL c (l ++ [o]) = cL c l ++ cOf c o := by
  unfold cL cOf
  by_cases h : c.stop = "stops"
  · rw [if_pos h, if_pos h, List.filter_append, List.map_append]
    congr 1
    cases e : endedB o <;> simp [e, h]
  · rw [if_neg h, if_neg h]
    cases e : endedB o <;> simp [h]
theorem ended_lv : endedB o = false ↔ live o := by
  unfold endedB live
  by_cases h1 : o.stage = "ended" <;> by_cases h2 : o.stage = "stopped" <;> simp [h1, h2]
theorem under_lv (h : RelOp c w o q) : q.under = !endedB o := by
  unfold POp.under
  rw [h.stop]
  cases e : endedB o with
  | false =>
    have lv := ended_lv.mp e
    rw [decide_eq_false lv.2, not_ended h lv]
    rfl
  | true =>
    unfold endedB at e
    by_cases h2 : o.stage = "stopped"
    · rw [decide_eq_true h2]
      rfl
    · have h1 : o.stage = "ended" := by simpa [h2] using e
      rw [end_none (h.ne.mpr h1)]
      simp
/-- the next word -/
theorem next_word (O : c.Ok) (W : Wf c s) (R : Rel c s t) (NL : ∀ o ∈ s.ops, NL1 o) (eo : s.ops[k]? = some o) (eq : t.ops[k]? = some q) (lv : live o) : nextOf s o = if endedAt t.ops q.awaited then some (q.steps.getD 0 "") else none := by
  have p := W.ops k o eo
  have h := R.ops.op k o q eo eq
  have nl := NL o (List.mem_of_getElem? eo)
  by_cases hw : o.stage = "waits"
  · have wk := p.wait O hw
    obtain ⟨l, u, el, eu⟩ := wk
    have kr : o.kind = "read" := by
      rcases p.kd with z | z
      · exact z
      · obtain ⟨a, b, _⟩ := p.wr z lv.1 lv.2
        rw [hw] at b
        exact absurd b.symm (not_wait O a).1
    obtain ⟨hst, haw⟩ := h.rw kr hw
    have hlt : l < t.ops.length := by
      rw [← R.ops.len]
      exact (List.getElem?_eq_some_iff.mp eu).1
    obtain ⟨ql, eql⟩ : ∃ ql, t.ops[l]? = some ql := ⟨_, List.getElem?_eq_getElem hlt⟩
    have hl := R.ops.op l u ql eu eql
    have z1 : nextOf s o = if u.stage = "ended" then some ("take" : Str) else none := by
      unfold nextOf
      rw [if_pos hw, el]
      show (match s.ops[l]? with | some q => if q.stage = "ended" then some ("take" : Str) else none | none => none) = _
      rw [eu]
    rw [z1, haw, el, ended_at eql, hst]
    by_cases e : u.stage = "ended"
    · rw [if_pos e, end_none (hl.ne.mpr e)]
      rfl
    · have : ql.ended = false := by
        unfold POp.ended
        cases z : ql.steps with
        | nil => exact absurd (hl.ne.mp z) e
        | cons _ _ => rfl
      rw [if_neg e, this, if_neg (by decide)]
  · rw [h.aw lv hw]
    have z1 : nextOf s o = some o.stage := if_neg hw
    have z2 : endedAt t.ops none = true := rfl
    rw [z1, z2, if_pos rfl]
    congr 1
    rcases p.kd with kr | kw
    · rcases p.rd kr with y | y | ⟨y, _⟩ | ⟨y, _⟩ | y | y
      · rcases nl with z | z
        · exact absurd y z
        · exact absurd kr z
      · rw [(h.rf kr y).1, y]
        unfold fetchS
        split <;> rfl
      · rw [(h.rl kr y).1, y]
        rfl
      · exact absurd y hw
      · exact absurd y lv.1
      · exact absurd y lv.2
    · obtain ⟨a, b, _⟩ := p.wr kw lv.1 lv.2
      rw [h.wr kw lv, b, List.getD_eq_getElem?_getD, List.getD_eq_getElem?_getD, List.getElem?_drop]
      rfl
theorem evOp_perm (O : c.Ok) (W : Wf c s) (R : Rel c s t) (NL : ∀ o ∈ s.ops, NL1 o) (eo : s.ops[k]? = some o) (eq : t.ops[k]? = some q) : evOp c t k q = bOf s o ++ cOf c o := by
  have h := R.ops.op k o q eo eq
  have hu := under_lv h
  have num := (W.ops k o eo).num
  unfold evOp bOf cOf canStep evBf
  rw [hu, num]
  cases e : endedB o with
  | true => simp
  | false =>
    have lv := ended_lv.mp e
    rw [next_word O W R NL eo eq lv]
    cases z : endedAt t.ops q.awaited <;> by_cases st : c.stop = "stops" <;> simp [st]
theorem ops_perm (O : c.Ok) (W : Wf c s) (R : Rel c s t) (NL : ∀ o ∈ s.ops, NL1 o) : ∀ n, n ≤ s.ops.length → (opsEv c t n).Perm (bL s (s.ops.take n) ++ cL c (s.ops.take n))
  | 0, _ => by
    rw [List.take_zero]
    unfold cL
    split <;> exact List.Perm.refl _
  | n + 1, hn => by
    have ih := ops_perm O W R NL n (by omega)
    obtain ⟨o, eo⟩ : ∃ o, s.ops[n]? = some o := ⟨_, List.getElem?_eq_getElem (by omega)⟩
    obtain ⟨q, eq⟩ : ∃ q, t.ops[n]? = some q := ⟨_, List.getElem?_eq_getElem (by rw [← R.ops.len]; omega)⟩
    have z : opsEv c t (n + 1) = opsEv c t n ++ evOp c t n q := by
      show opsEv c t n ++ (match t.ops[n]? with | some o => evOp c t n o | none => []) = _
      rw [eq]
    rw [z, evOp_perm O W R NL eo eq, take_snoc eo, bL_snoc, cL_snoc]
    refine (ih.append_right _).trans ?_
    rw [List.append_assoc, List.append_assoc]
    refine List.Perm.append_left _ ?_
    rw [← List.append_assoc, ← List.append_assoc]
    exact List.Perm.append_right _ List.perm_append_comm
theorem ev_perm (O : c.Ok) (W : Wf c s) (R : Rel c s t) (NL : ∀ o ∈ s.ops, NL1 o) : (evP c t).Perm (evList c s) := by
  have h := ops_perm O W R NL s.ops.length (Nat.le_refl _)
  rw [List.take_length] at h
  have e1 : evPA c t = evA c s := by
    unfold evPA evA
    rw [R.ops.len]
  have e2 : (if copyP c t then [copyE] else []) = evE c s := by
    unfold copyP evE canCopy
    rw [R.rep, R.db]
    rfl
  have e3 : (if evictP c t then [evictE] else []) = evD c s := by
    unfold evictP evD canEvict
    rw [R.cache, R.mark]
    rfl
  have e4 : bL s s.ops = evB s := rfl
  have e5 : cL c s.ops = evC c s := rfl
  unfold evP evList
  rw [e1, e2, e3, ← R.ops.len]
  rw [e4, e5] at h
  refine (h.append_left _).trans ?_
  rw [List.append_assoc, List.append_assoc, List.append_assoc, List.append_assoc, List.append_assoc]
  refine List.Perm.append_left _ ?_
  -- E ++ (D ++ (B ++ C)) ~ B ++ (C ++ (D ++ E))
  have p1 : (evE c s ++ (evD c s ++ (evB s ++ evC c s))).Perm ((evB s ++ evC c s) ++ (evD c s ++ evE c s)) := by
    rw [← List.append_assoc]
    refine List.perm_append_comm.trans ?_
    exact List.Perm.append_left _ List.perm_append_comm
  refine p1.trans ?_
  rw [List.append_assoc]
end
end Ca

set_option Elab.async false
set_option linter.all false
set_option maxRecDepth 100000
set_option maxHeartbeats 4000000
namespace Ca
open PySem L2
section
variable {c : Conf} {w k : Nat} {o o' : OpS} {q q' : POp} {s : HS} {t : PSt} {wd : Str}
structure Sim (c : Conf) (s : HS) (t : PSt) : Prop where
  rel : Rel c s t
  nl : ∀ o ∈ s.ops, NL1 o
theorem NLx.of (h : ∀ o ∈ s.ops, NL1 o) : NLx k s.ops := fun j u _ e => h u (List.mem_of_getElem? e)
theorem step_pre (O : c.Ok) (W : Wf c s) (R : Rel c s t) (eo : s.ops[k]? = some o) (eq : t.ops[k]? = some q) (lv : live o) (hn : nextOf s o = some wd) : StepPre q wd := by
  have p := W.ops k o eo
  have h := R.ops.op k o q eo eq
  have n0 := not_ended h lv
  have ne : q.steps ≠ [] := fun z => by
    rw [end_none z] at n0
    cases n0
  have vis : o.version.isSome = true → ∃ v, q.version = some v := fun z => by
    obtain ⟨v, ev⟩ := Option.isSome_iff_exists.mp z
    exact ⟨v, h.ver.trans ev⟩
  rcases p.kd with kr | kw
  · rcases p.read O (by rw [kr]; decide +kernel) lv.1 lv.2 hn with ⟨e, _⟩ | ⟨e, _⟩ | ⟨e, _, hv⟩ | ⟨e, es, l, u, el, _⟩
    · subst e
      exact ⟨ne, fun z => absurd z (by decide +kernel), fun z => absurd z (by decide +kernel), fun n => absurd rfl n⟩
    · subst e
      exact ⟨ne, fun z => absurd z (by decide +kernel), fun z => absurd z (by decide +kernel), fun _ n => absurd rfl n⟩
    · subst e
      exact ⟨ne, fun _ => vis hv, fun z => absurd z (by decide +kernel), fun _ _ n => absurd rfl n⟩
    · subst e
      exact ⟨ne, fun z => absurd z (by decide +kernel), fun _ => ⟨l, (h.rw kr es).2.trans el⟩, fun _ _ _ n => absurd rfl n⟩
  · obtain ⟨a, b, _, hs⟩ := p.write O kw lv.1 lv.2 hn
    rcases step_word O a with e | e | e <;> rw [← b] at e <;> subst e
    · exact ⟨ne, fun z => absurd z (by decide +kernel), fun z => absurd z (by decide +kernel), fun _ _ _ _ _ n => absurd rfl n⟩
    · exact ⟨ne, fun z => absurd z (by decide +kernel), fun z => absurd z (by decide +kernel), fun _ _ _ _ n => absurd rfl n⟩
    · exact ⟨ne, fun z => absurd z (by decide +kernel), fun z => absurd z (by decide +kernel), fun _ _ _ _ _ _ => vis (hs rfl)⟩
theorem word_ne (O : c.Ok) (W : Wf c s) (eo : s.ops[k]? = some o) (lv : live o) (hn : nextOf s o = some wd) : ¬ wd = "copy" ∧ ¬ wd = "evict" ∧ ¬ wd = "stop" := by
  have p := W.ops k o eo
  rcases p.kd with kr | kw
  · rcases p.read O (by rw [kr]; decide +kernel) lv.1 lv.2 hn with ⟨e, _⟩ | ⟨e, _⟩ | ⟨e, _⟩ | ⟨e, _⟩ <;> rw [e] <;> decide +kernel
  · obtain ⟨a, b, _⟩ := p.write O kw lv.1 lv.2 hn
    rcases step_word O a with e | e | e <;> rw [b, e] <;> decide +kernel
theorem stepP_at (eq : (preP c t wd k).ops[k]? = some q) : stepP c t wd k = leaveP (opP c ((preP c t wd k).put k (tailP q)) k (tailP q) wd) k := by
  unfold stepP
  rw [eq]
theorem RelOp.left {x : Option Nat} (h : RelOp c w o q) : RelOp c w o { q with left := x } := ⟨h.kind, h.ver, h.stop, h.ne, h.seen, h.wr, h.rk, h.rf, h.rl, h.rw, h.aw⟩
theorem Rel.note {e : Ev} (R : Rel c s t) : Rel c s (noteP t e) := ⟨R.db, R.rep, R.cache, R.mark, R.ops, R.lead⟩
theorem Rel.leave (R : Rel c s t) : Rel c s (leaveP t k) := by
  unfold leaveP
  split
  · rename_i q eq
    split
    · rename_i en
      have hk : k < s.ops.length := by
        rw [R.ops.len]
        exact (List.getElem?_eq_some_iff.mp eq).1
      refine ⟨R.db, R.rep, R.cache, R.mark, ?_, ?_⟩
      · have z := R.ops.set (k := k) ((R.ops.op k _ q (List.getElem?_eq_getElem hk) eq).left (x := some t.past.length))
        rw [List.set_getElem_self] at z
        exact z
      · have e : ∀ l, endedAt (t.ops.set k { q with left := some t.past.length }) l = endedAt t.ops l := fun l => by
          cases l with
          | none => rfl
          | some j =>
            rw [ended_set eq]
            split
            · rename_i z
              rw [z, ended_at eq]
              rfl
            · rfl
        exact ⟨fun l h => by show _ ∧ endedAt (t.ops.set k _) _ = _; rw [e]; exact R.lead.ld l h, fun h => by show endedAt (t.ops.set k _) _ = _; rw [e]; exact R.lead.ln h, R.lead.fl, fun l h => by show l < (t.ops.set k _).length; rw [List.length_set]; exact R.lead.rg l h⟩
    · exact R
  · exact R
/-- one event on either side -/
structure Both (c : Conf) (s : HS) (t : PSt) (e : Ev) : Prop where
  sim : Sim c (doH c s e) (doP c t e)
  pre : DoPre c t e
theorem Rel.past {l : List Ev} (R : Rel c s t) : Rel c { s with past := l } t := ⟨R.db, R.rep, R.cache, R.mark, R.ops, R.lead⟩
theorem both_step (O : c.Ok) {s1 : HS} {t1 : PSt} (es1 : preH s wd k = s1) (et1 : preP c (noteP t (wd, some (k : Int))) wd k = t1) (W : Wf c s1) (R : Rel c s1 t1) (NL : NLx k s1.ops) (eo : s1.ops[k]? = some o) (lv : live o) (hn : nextOf s1 o = some wd) (hk : k ≤ t.ops.length) :
    Both c s t (wd, some (k : Int)) := by
  obtain ⟨n1, n2, n3⟩ := word_ne O W eo lv hn
  obtain ⟨q, eq⟩ : ∃ q, t1.ops[k]? = some q := ⟨_, List.getElem?_eq_getElem (by rw [← R.ops.len]; exact (List.getElem?_eq_some_iff.mp eo).1)⟩
  have zL : doE c s (wd, some (k : Int)) = doOp c s1 k o wd := by
    rw [doE_at (by rw [es1]; exact eo), es1]
  have zP : doP c t (wd, some (k : Int)) = leaveP (opP c (t1.put k (tailP q)) k (tailP q) wd) k := by
    unfold doP doG actP
    rw [if_neg n1, if_neg n2]
    show (if wd = "stop" then stopP (noteP t (wd, some (k : Int))) (0 + (k : Int).toNat) else stepP c (noteP t (wd, some (k : Int))) wd (0 + (k : Int).toNat)) = _
    rw [if_neg n3, Int.toNat_natCast, Nat.zero_add, stepP_at (by rw [et1]; exact eq), et1]
  refine ⟨⟨?_, ?_⟩, .step wd k n1 n2 n3 (by rw [Nat.zero_add]; exact hk) fun q' eq' => ?_⟩
  · unfold doH
    rw [zP]
    rw [zL]
    exact (R.op O W NL eo eq lv hn n3).leave.past
  · unfold doH
    show ∀ o ∈ (doE c s (wd, some (k : Int))).ops, NL1 o
    rw [zL]
    exact nl_op O NL
  · rw [Nat.zero_add, et1, eq] at eq'
    cases eq'
    exact step_pre O W R eo eq lv hn
theorem both (O : c.Ok) (W : Wf c s) (S : Sim c s t) {e : Ev} (he : e ∈ evList c s) : Both c s t e := by
  have R := S.rel
  cases ev_case W he with
  | evict z =>
    have zL : doE c s evictE = { s with cache := none, mark := 0 } := if_pos rfl
    have zP : doP c t evictE = { noteP t evictE with cache := none, mark := 0 } := by
      unfold doP doG actP
      rw [if_neg (by decide +kernel), if_pos (by decide +kernel)]
    refine ⟨⟨?_, ?_⟩, .evict⟩
    · unfold doH
      rw [zL, zP]
      exact ⟨R.db, R.rep, rfl, rfl, R.ops, R.lead⟩
    · unfold doH
      rw [zL]
      exact S.nl
  | copy z =>
    have zL : doE c s copyE = { s with rep := s.rep + 1 } := by
      unfold doE
      rw [if_neg (by decide +kernel), if_pos rfl]
    have zP : doP c t copyE = { noteP t copyE with rep := t.rep + 1 } := by
      unfold doP doG actP
      rw [if_pos (by decide +kernel)]
      rfl
    refine ⟨⟨?_, ?_⟩, .copy⟩
    · unfold doH
      rw [zL, zP]
      exact ⟨R.db, by show t.rep + 1 = s.rep + 1; rw [R.rep], R.cache, R.mark, R.ops, R.lead⟩
    · unfold doH
      rw [zL]
      exact S.nl
  | new w h =>
    have e1 : s.ops.length = t.ops.length := R.ops.len
    have zp : preP c (noteP t (w, some (s.ops.length : Int))) w s.ops.length = { noteP t (w, some (s.ops.length : Int)) with ops := t.ops ++ [newP c w (t.past ++ [(w, some (s.ops.length : Int))]).length] } := if_pos e1
    obtain ⟨a, b, d⟩ := new_next (s := s) (s' := { s with ops := s.ops ++ [newOp s w] }) O h
    have WN := W.pre O h
    rw [pre_new] at WN
    refine both_step O pre_new zp WN (R.note.new O h) (fun j u n e' => ?_) ?_ ⟨a, b⟩ d (Nat.le_of_eq e1)
    · have e2 : (s.ops ++ [newOp s w])[j]? = some u := e'
      have hj : j < s.ops.length := by
        have := (List.getElem?_eq_some_iff.mp e2).1
        rw [List.length_append] at this
        have : j < s.ops.length + 1 := this
        omega
      rw [List.getElem?_append_left hj] at e2
      exact S.nl u (List.mem_of_getElem? e2)
    · show (s.ops ++ [newOp s w])[s.ops.length]? = some (newOp s w)
      rw [List.getElem?_append_right (Nat.le_refl _), Nat.sub_self]
      rfl
  | step k o w eo h1 h2 h3 =>
    have hlt := (List.getElem?_eq_some_iff.mp eo).1
    have zp : preP c (noteP t (w, some (k : Int))) w k = noteP t (w, some (k : Int)) := if_neg (by show ¬ k = t.ops.length; rw [← R.ops.len]; omega)
    exact both_step O (pre_old eo) zp W R.note (NLx.of S.nl) eo ⟨h1, h2⟩ h3 (by rw [← R.ops.len]; omega)
  | stop k o eo h1 h2 h3 =>
    have hlt := (List.getElem?_eq_some_iff.mp eo).1
    obtain ⟨q, eq⟩ : ∃ q, t.ops[k]? = some q := ⟨_, List.getElem?_eq_getElem (by rw [← R.ops.len]; exact hlt)⟩
    have zL : doE c s ("stop", some (k : Int)) = endH s k o "stopped" := by
      rw [doE_at (by rw [pre_old eo]; exact eo), pre_old eo]
      exact if_pos rfl
    have zP : doP c t ("stop", some (k : Int)) = stopP (noteP t ("stop", some (k : Int))) k := by
      unfold doP doG actP
      rw [if_neg (by show ¬ ("stop" : Str) = "copy"; decide +kernel), if_neg (by show ¬ ("stop" : Str) = "evict"; decide +kernel)]
      show (if ("stop" : Str) = "stop" then stopP (noteP t ("stop", some (k : Int))) (0 + (k : Int).toNat) else stepP c (noteP t ("stop", some (k : Int))) "stop" (0 + (k : Int).toNat)) = _
      rw [if_pos rfl, Int.toNat_natCast, Nat.zero_add]
    refine ⟨⟨?_, ?_⟩, .stop k (by rw [Nat.zero_add, ← R.ops.len]; exact hlt)⟩
    · unfold doH
      rw [zL, zP]
      exact (R.note.stop eo eq ⟨h1, h2⟩).past
    · unfold doH
      show ∀ o ∈ (doE c s ("stop", some (k : Int))).ops, NL1 o
      rw [zL]
      exact nl_end (NLx.of S.nl) (by decide +kernel)
theorem sim_begin : Sim c HS.begin PSt.begin := by
  refine ⟨⟨rfl, rfl, rfl, rfl, ⟨rfl, fun k o q e => by simp [HS.begin] at e⟩, ⟨fun l e => by simp [HS.begin] at e, fun _ => rfl, fun _ => rfl, fun l e => by simp [PSt.begin] at e⟩⟩, fun o h => by simp [HS.begin] at h⟩
theorem good_of (O : c.Ok) (W : Wf c s) (S : Sim c s t) : GoodP c t := fun e he => (do_ok W O ((ev_perm O W S.rel S.nl).mem_iff.mp he)).str
/-- all of it -/
theorem reach_sim (O : c.Ok) (r : Reach c s) : Sim c s (runS c s.past) ∧ RunP c s.past := by
  induction r with
  | begin => exact ⟨sim_begin, ⟨fun i e h => by simp [HS.begin] at h⟩⟩
  | step r h ih =>
    rename_i s e
    obtain ⟨S, P⟩ := ih
    have W := (r.wf O).1
    obtain ⟨B1, B2⟩ := both O W S h
    have ep : (doH c s e).past = s.past ++ [e] := rfl
    have er : runS c (s.past ++ [e]) = doP c (runS c s.past) e := by
      unfold runS
      rw [List.foldl_append]
      rfl
    rw [ep, er]
    refine ⟨B1, ⟨fun i f hf => ?_⟩⟩
    by_cases hi : i < s.past.length
    · rw [List.getElem?_append_left hi] at hf
      rw [List.take_append_of_le_length (by omega)]
      exact P.step i f hf
    · have hl := (List.getElem?_eq_some_iff.mp hf).1
      rw [List.length_append] at hl
      have hl : i < s.past.length + 1 := hl
      have e0 : i = s.past.length := by omega
      subst e0
      rw [List.getElem?_append_right (Nat.le_refl _), Nat.sub_self] at hf
      cases hf
      rw [List.take_append_of_le_length (Nat.le_refl _), List.take_length]
      exact ⟨good_of O W S, (ev_perm O W S.rel S.nl).mem_iff.mpr h, B2⟩
theorem stage_eq (O : c.Ok) (W : Wf c s) (S : Sim c s t) (eo : s.ops[k]? = some o) (eq : t.ops[k]? = some q) : q.stage = o.stage := by
  have p := W.ops k o eo
  have h := S.rel.ops.op k o q eo eq
  have nl := S.nl o (List.mem_of_getElem? eo)
  unfold POp.stage
  rw [h.stop]
  by_cases h2 : o.stage = "stopped"
  · rw [decide_eq_true h2, if_pos rfl, h2]
  rw [decide_eq_false h2, if_neg (by decide)]
  by_cases h1 : o.stage = "ended"
  · rw [end_none (h.ne.mpr h1), h1]
    rfl
  have lv : live o := ⟨h1, h2⟩
  rw [not_ended h lv, if_neg (by decide)]
  by_cases hw : o.stage = "waits"
  · obtain ⟨l, u, el, eu⟩ := p.wait O hw
    have kr : o.kind = "read" := by
      rcases p.kd with z | z
      · exact z
      · obtain ⟨a, b, _⟩ := p.wr z lv.1 lv.2
        rw [hw] at b
        exact absurd b.symm (not_wait O a).1
    rw [(h.rw kr hw).2, el, hw]
    rfl
  · rw [h.aw lv hw]
    show q.steps.getD 0 "" = o.stage
    rcases p.kd with kr | kw
    · rcases p.rd kr with y | y | ⟨y, _⟩ | ⟨y, _⟩ | y | y
      · rcases nl with z | z
        · exact absurd y z
        · exact absurd kr z
      · rw [(h.rf kr y).1, y]
        unfold fetchS
        split <;> rfl
      · rw [(h.rl kr y).1, y]
        rfl
      · exact absurd y hw
      · exact absurd y lv.1
      · exact absurd y lv.2
    · obtain ⟨a, b, _⟩ := p.wr kw lv.1 lv.2
      rw [h.wr kw lv, b, List.getD_eq_getElem?_getD, List.getD_eq_getElem?_getD, List.getElem?_drop]
      rfl
end
end Ca

set_option Elab.async false
set_option linter.all false
set_option maxRecDepth 100000
set_option maxHeartbeats 4000000
namespace Ca
open PySem L2
/-! ### runs of the law's own cache, from the beginning -/
def runH (c : Conf) (es : List Ev) : HS := es.foldl (doH c) HS.begin
theorem runH_snoc {c : Conf} {es : List Ev} {i : Nat} {e : Ev} (h : es[i]? = some e) : runH c (es.take (i + 1)) = doH c (runH c (es.take i)) e := by
  unfold runH
  rw [List.take_succ, h, List.foldl_append]
  rfl
theorem runH_end {c : Conf} {es : List Ev} {e : Ev} : runH c (es ++ [e]) = doH c (runH c es) e := by
  unfold runH
  rw [List.foldl_append]
  rfl
/-- each event can come behind those ahead of it -/
structure ChainH (c : Conf) (es : List Ev) : Prop where
  step : ∀ i e, es[i]? = some e → e ∈ evList c (runH c (es.take i))
theorem Reach.run {c : Conf} {s : HS} (r : Reach c s) : runH c s.past = s ∧ ChainH c s.past := by
  induction r with
  | begin => exact ⟨rfl, ⟨fun i e h => by simp [HS.begin] at h⟩⟩
  | @step s e r h ih =>
    have ep : (doH c s e).past = s.past ++ [e] := rfl
    rw [ep]
    refine ⟨by rw [runH_end, ih.1], ⟨fun i f hf => ?_⟩⟩
    by_cases hi : i < s.past.length
    · rw [List.getElem?_append_left hi] at hf
      rw [List.take_append_of_le_length (by omega)]
      exact ih.2.step i f hf
    · have hl := (List.getElem?_eq_some_iff.mp hf).1
      rw [List.length_append] at hl
      have hl : i < s.past.length + 1 := hl
      have e0 : i = s.past.length := by omega
      subst e0
      rw [List.getElem?_append_right (Nat.le_refl _), Nat.sub_self] at hf
      cases hf
      rw [List.take_append_of_le_length (Nat.le_refl _), List.take_length, ih.1]
      exact h
theorem ChainH.reach {c : Conf} {es : List Ev} (C : ChainH c es) : ∀ i, i ≤ es.length → Reach c (runH c (es.take i)) ∧ (runH c (es.take i)).past = es.take i
  | 0, _ => by
    rw [List.take_zero]
    exact ⟨.begin, rfl⟩
  | i + 1, hi => by
    obtain ⟨r, p⟩ := C.reach i (by omega)
    have e := List.getElem?_eq_getElem (l := es) (i := i) (by omega)
    rw [runH_snoc e]
    refine ⟨.step r (C.step i _ e), ?_⟩
    show (runH c (es.take i)).past ++ [_] = _
    rw [p, List.take_succ, e]
    rfl
theorem ChainH.all {c : Conf} {es : List Ev} (C : ChainH c es) : Reach c (runH c es) ∧ (runH c es).past = es := by
  have h := C.reach es.length (Nat.le_refl _)
  rw [List.take_length] at h
  exact h
theorem ChainH.take {c : Conf} {es : List Ev} (C : ChainH c es) (n : Nat) : ChainH c (es.take n) := ⟨fun i e h => by
  by_cases hi : i < n
  · rw [List.getElem?_take_of_lt hi] at h
    rw [List.take_take, Nat.min_eq_left (by omega)]
    exact C.step i e h
  · rw [List.getElem?_take_eq_none (by omega)] at h
    cases h⟩
/-- events that can come -/
theorem new_mem {c : Conf} {s : HS} {w : Str} (h : w = "look" ∨ w = firstW c) : (w, some (s.ops.length : Int)) ∈ evList c s := by
  unfold evList
  refine List.mem_append_left _ (List.mem_append_left _ (List.mem_append_left _ (List.mem_append_left _ ?_)))
  unfold evA
  rcases h with e | e
  · rw [e]; exact List.mem_cons_self ..
  · rw [e]; exact List.mem_cons_of_mem _ (List.mem_cons_self ..)
theorem step_mem {c : Conf} {s : HS} {k : Nat} {o : OpS} {w : Str} (W : Wf c s) (eo : s.ops[k]? = some o) (h : endedB o = false) (hn : nextOf s o = some w) : (w, some (k : Int)) ∈ evList c s := by
  have hg : o ∈ going s := by
    unfold going
    rw [List.mem_filter]
    exact ⟨List.mem_of_getElem? eo, by rw [h]; rfl⟩
  unfold evList
  refine List.mem_append_left _ (List.mem_append_left _ (List.mem_append_left _ (List.mem_append_right _ ?_)))
  unfold evB
  rw [List.mem_filterMap]
  refine ⟨o, hg, ?_⟩
  rw [hn, (W.ops k o eo).num]
  rfl
/-! ### what has ended has a version, and when it did is noted -/
structure IO (c : Conf) (o : OpS) : Prop where
  wv : o.kind = "write" → (∃ j, j < o.step ∧ c.steps.getD j "" = "store") → o.version.isSome = true
  we : o.kind = "write" → o.stage = "ended" → o.step = c.steps.length
  re : o.kind = "read" → o.stage = "ended" → o.version.isSome = true
  ov : o.stage = "ended" → o.over.isSome = true
theorem has_store {c : Conf} (O : c.Ok) : ∃ j, j < c.steps.length ∧ c.steps.getD j "" = "store" := by
  have hp := O.p
  unfold Conf.steps
  simp only [pathsL, List.mem_cons, List.not_mem_nil, or_false] at hp
  rcases hp with e | e | e | e | e <;> rw [e]
  · exact ⟨1, by decide +kernel⟩
  · exact ⟨1, by decide +kernel⟩
  · exact ⟨0, by decide +kernel⟩
  · exact ⟨0, by decide +kernel⟩
  · exact ⟨0, by decide +kernel⟩
theorem IO.ended {c : Conf} {o : OpS} (h : IO c o) (O : c.Ok) (kd : o.kind = "read" ∨ o.kind = "write") (e : o.stage = "ended") : o.version.isSome = true := by
  rcases kd with k | k
  · exact h.re k e
  · refine h.wv k ?_
    rw [h.we k e]
    exact has_store O
theorem IO.cf {c : Conf} {o : OpS} (h : IO c o) : IO c (cf o) := ⟨h.wv, h.we, h.re, h.ov⟩
def IOL (c : Conf) (l : List OpS) : Prop := ∀ o ∈ l, IO c o
theorem IOL.cf {c : Conf} {l : List OpS} (h : IOL c l) : IOL c (l.map Ca.cf) := fun o ho => by
  obtain ⟨u, hu, rfl⟩ := List.mem_map.mp ho
  exact (h u hu).cf
theorem IOL.set {c : Conf} {l : List OpS} {k : Nat} {o : OpS} (h : IOL c l) (p : IO c o) : IOL c (l.set k o) := fun u hu => by
  rcases List.mem_or_eq_of_mem_set hu with z | z
  · exact h u z
  · rw [z]; exact p
theorem IO.stop {c : Conf} {o : OpS} {x : Option Nat} (h : IO c o) : IO c { o with stage := "stopped", over := x } :=
  ⟨h.wv, fun _ e => absurd e (by show ¬ ("stopped" : Str) = "ended"; decide +kernel), fun _ e => absurd e (by show ¬ ("stopped" : Str) = "ended"; decide +kernel), fun e => absurd e (by show ¬ ("stopped" : Str) = "ended"; decide +kernel)⟩
/-- a read: only its end matters -/
theorem IO.read {c : Conf} {o : OpS} (kd : o.kind = "read") (h : o.stage = "ended" → o.version.isSome = true ∧ o.over.isSome = true) : IO c o :=
  ⟨fun k => absurd (kd.symm.trans k) (by decide +kernel), fun k => absurd (kd.symm.trans k) (by decide +kernel), fun _ e => (h e).1, fun e => (h e).2⟩
theorem stage_ne {c : Conf} (O : c.Ok) {j : Nat} (h : j < c.steps.length) : ¬ c.steps.getD j "" = "ended" := by
  rcases step_word O h with e | e | e <;> rw [e] <;> decide +kernel
theorem wr4_ops {c : Conf} {s : HS} {k : Nat} {o : OpS} : (wr4 c s k o).ops = s.ops.set k (if o.step + 1 = c.steps.length then { o with step := o.step + 1, stage := "ended", over := some s.past.length } else { o with step := o.step + 1, stage := c.steps.getD (o.step + 1) "" }) := by
  unfold wr4
  split
  · rw [end_ops]
    show (s.ops.set k _).set k _ = _
    rw [List.set_set]
    rfl
  · rfl
theorem io_op {c : Conf} {s : HS} {k : Nat} {o : OpS} {wd : Str} (O : c.Ok) (W : Wf c s) (h : IOL c s.ops) (eo : s.ops[k]? = some o) (a : Ahead s o wd) : IOL c (doOp c s k o wd).ops := by
  have ho := h o (List.mem_of_getElem? eo)
  have p := W.ops k o eo
  unfold doOp
  split
  · rw [end_ops]
    exact h.set ho.stop
  rename_i ns
  rcases a with a | ⟨n1, n2, hn⟩
  · exact absurd a ns
  split
  · rename_i kd
    obtain ⟨hs, ew, _, _⟩ := p.write O kd n1 n2 hn
    have hk : (wo1 s o wd).kind = "write" := by unfold wo1; split <;> exact kd
    have hst : (wo1 s o wd).step = o.step := by unfold wo1; split <;> rfl
    unfold writeH
    rw [wr4_ops]
    have h3 : IOL c (wr3 c (wr2 c (wr1 s k o wd) (wo1 s o wd) wd) (wo1 s o wd) wd).ops ∨ wd = "store" := by
      rw [wr3_ops.1, wr2_ops.1, wr1_ops.1]
      split
      · rename_i z; exact .inr z
      · exact .inl h.cf
    have hv : (∃ j, j < o.step + 1 ∧ c.steps.getD j "" = "store") → (wo1 s o wd).version.isSome = true := by
      rintro ⟨j, hj, ej⟩
      unfold wo1
      split
      · rfl
      · rename_i nst
        have : j < o.step := by
          rcases Nat.lt_or_ge j o.step with z | z
          · exact z
          · have e : j = o.step := by omega
            rw [e, ← ew] at ej
            exact absurd ej nst
        exact ho.wv kd ⟨j, this, ej⟩
    have nw : IO c (if (wo1 s o wd).step + 1 = c.steps.length then { wo1 s o wd with step := (wo1 s o wd).step + 1, stage := "ended", over := some (wr3 c (wr2 c (wr1 s k o wd) (wo1 s o wd) wd) (wo1 s o wd) wd).past.length } else { wo1 s o wd with step := (wo1 s o wd).step + 1, stage := c.steps.getD ((wo1 s o wd).step + 1) "" }) := by
      rw [hst]
      split
      · rename_i el
        exact ⟨fun _ => hv, fun _ _ => el, fun k => absurd (hk.symm.trans k) (by decide +kernel), fun _ => rfl⟩
      · rename_i nl
        have lt : o.step + 1 < c.steps.length := by omega
        exact ⟨fun _ => hv, fun _ e => absurd e (stage_ne O lt), fun k => absurd (hk.symm.trans k) (by decide +kernel), fun e => absurd e (stage_ne O lt)⟩
    intro u hu
    rcases List.mem_or_eq_of_mem_set hu with z | z
    · rw [wr3_ops.1, wr2_ops.1, wr1_ops.1] at z
      split at z
      · rename_i est
        have hu2 : (s.ops.set k { o with version := some (s.db + 1) }).set k (if (wo1 s o wd).step + 1 = c.steps.length then { wo1 s o wd with step := (wo1 s o wd).step + 1, stage := "ended", over := some (wr3 c (wr2 c (wr1 s k o wd) (wo1 s o wd) wd) (wo1 s o wd) wd).past.length } else { wo1 s o wd with step := (wo1 s o wd).step + 1, stage := c.steps.getD ((wo1 s o wd).step + 1) "" }) = s.ops.set k _ := List.set_set ..
        rw [wr3_ops.1, wr2_ops.1, wr1_ops.1, if_pos est, hu2] at hu
        exact h.set nw u hu
      · exact h.cf u z
    · rw [z]; exact nw
  · rename_i kd
    have kr : o.kind = "read" := p.kd.resolve_right kd
    have rd := p.read O kd n1 n2 hn
    have ne : ∀ {st : Str} {P : Prop}, ¬ st = "ended" → st = "ended" → P := fun a b => absurd b a
    unfold readH
    split
    · rename_i z
      rw [end_ops]
      show IOL c ((s.ops.set k _).set k _)
      rw [List.set_set]
      exact h.set (.read kr fun _ => ⟨z.2, rfl⟩)
    split
    · exact h.set (.read kr fun e => ne (by decide +kernel) (show ("waits" : Str) = "ended" from e))
    split
    · exact h.set (.read kr fun e => ne (by decide +kernel) (show ("fetch" : Str) = "ended" from e))
    split
    · split
      · rw [end_ops]
        show IOL c ((s.ops.set k _).set k _)
        rw [List.set_set]
        exact h.set (.read kr fun _ => ⟨rfl, rfl⟩)
      · exact h.set (.read kr fun e => ne (by decide +kernel) (show ("fill" : Str) = "ended" from e))
    split
    · rename_i q1 q2 q3 q4 q5
      rw [end_ops]
      show IOL c ((s.ops.set k _).set k _)
      rw [List.set_set]
      refine h.set (.read kr fun _ => ⟨?_, rfl⟩)
      rcases rd with ⟨e, _⟩ | ⟨e, _⟩ | ⟨e, _⟩ | ⟨_, ew, l, q, el, eq⟩
      · exact absurd e q3
      · exact absurd e q4
      · rw [e] at q5; exact absurd q5 (by decide +kernel)
      · have es : q.stage = "ended" := by
          unfold nextOf at hn
          rw [if_pos ew, el] at hn
          simp only [eq] at hn
          split at hn
          · assumption
          · cases hn
        show (leadV s o).isSome = true
        have : leadV s o = q.version := by
          unfold leadV
          rw [el]
          simp only [eq]
        rw [this]
        exact (h q (List.mem_of_getElem? eq)).ended O (W.ops l q eq).kd es
    · rename_i q1 q2 q3 q4 q5
      have hv : o.version.isSome = true := by
        rcases rd with ⟨e, _⟩ | ⟨e, _⟩ | ⟨_, _, v⟩ | ⟨e, _⟩
        · exact absurd e q3
        · exact absurd e q4
        · exact v
        · exact absurd e q5
      rw [end_ops]
      split
      · rw [hold_ops]
        exact h.set (.read kr fun _ => ⟨hv, rfl⟩)
      · exact h.set (.read kr fun _ => ⟨hv, rfl⟩)
theorem io_new {c : Conf} {s : HS} {w : Str} (O : c.Ok) (h : w = "look" ∨ w = firstW c) : IO c (newOp s w) := by
  have n := (new_next (s := s) (s' := s) O h).1
  refine ⟨fun _ ⟨j, hj, _⟩ => absurd hj (Nat.not_lt_zero _), fun _ e => absurd e n, fun _ e => absurd e n, fun e => absurd e n⟩
theorem Reach.io {c : Conf} {s : HS} (O : c.Ok) (r : Reach c s) : IOL c s.ops := by
  induction r with
  | begin => intro o h; cases h
  | @step s e r h ih =>
    have W := (r.wf O).1
    show IOL c (doE c s e).ops
    cases ev_case W h with
    | evict z =>
      have zL : doE c s evictE = { s with cache := none, mark := 0 } := if_pos rfl
      rw [zL]
      exact ih
    | copy z =>
      have zL : doE c s copyE = { s with rep := s.rep + 1 } := by
        unfold doE
        rw [if_neg (by decide +kernel), if_pos rfl]
      rw [zL]
      exact ih
    | new w hw =>
      have eo : (preH s w s.ops.length).ops[s.ops.length]? = some (newOp s w) := by
        rw [pre_new]
        show (s.ops ++ [newOp s w])[s.ops.length]? = _
        rw [List.getElem?_append_right (Nat.le_refl _), Nat.sub_self]
        rfl
      rw [doE_at eo]
      obtain ⟨a, b, d⟩ := new_next (s := s) (s' := preH s w s.ops.length) O hw
      refine io_op O (W.pre O hw) ?_ eo (.inr ⟨a, b, d⟩)
      rw [pre_new]
      intro u hu
      rcases List.mem_append.mp hu with z | z
      · exact ih u z
      · simp at z
        rw [z]
        exact io_new O hw
    | step k o w eo h1 h2 h3 =>
      rw [doE_at (by rw [pre_old eo]; exact eo), pre_old eo]
      exact io_op O W ih eo (.inr ⟨h1, h2, h3⟩)
    | stop k o eo h1 h2 h3 =>
      rw [doE_at (by rw [pre_old eo]; exact eo), pre_old eo]
      exact io_op O W ih eo (.inl rfl)
end Ca

set_option Elab.async false
set_option linter.all false
set_option maxRecDepth 100000
set_option maxHeartbeats 4000000
namespace Ca
open PySem L2
/-! ### when operations began and ended, on either side -/
structure OpForm (s : HS) (k : Nat) (o : OpS) (wd : Str) (ops : List OpS) : Prop where
  ex : ∃ (f : OpS → OpS) (o' : OpS), (f = id ∨ f = cf) ∧ ops = (s.ops.map f).set k o' ∧ o'.begun = o.begun ∧ ((o'.over = some s.past.length ∧ ((wd = "stop" ∧ o'.stage = ("stopped" : Str)) ∨ (¬ wd = "stop" ∧ o'.stage = ("ended" : Str)))) ∨ (o'.over = o.over ∧ endedB o' = false))
theorem endedB_of {o : OpS} (h : o.stage = ("ended" : Str) ∨ o.stage = ("stopped" : Str)) : endedB o = true := by
  unfold endedB
  rcases h with e | e <;> rw [e] <;> decide +kernel
theorem endedB_not {o : OpS} (h1 : ¬ o.stage = ("ended" : Str)) (h2 : ¬ o.stage = ("stopped" : Str)) : endedB o = false := by
  unfold endedB
  rw [decide_eq_false h1, decide_eq_false h2]
  rfl
theorem form_end {s s1 : HS} {k : Nat} {o o1 : OpS} {st wd : Str} (h : (wd = "stop" ∧ st = "stopped") ∨ (¬ wd = "stop" ∧ st = "ended")) (e : s1.ops = s.ops ∨ ∃ u, s1.ops = s.ops.set k u) (ep : s1.past = s.past) (eb : o1.begun = o.begun) : OpForm s k o wd (endH s1 k o1 st).ops := by
  rw [end_ops]
  refine ⟨id, { o1 with stage := st, over := some s1.past.length }, .inl rfl, ?_, eb, .inl ⟨by rw [← ep], h⟩⟩
  rw [List.map_id]
  rcases e with e | ⟨u, e⟩
  · rw [e]
  · rw [e, List.set_set]
theorem past_wr {c : Conf} {s : HS} {k : Nat} {o : OpS} {wd : Str} : (wr3 c (wr2 c (wr1 s k o wd) (wo1 s o wd) wd) (wo1 s o wd) wd).past = s.past := by
  have h1 : (wr1 s k o wd).past = s.past := by unfold wr1; split <;> rfl
  have h2 : ∀ s1 o1, (wr2 c s1 o1 wd).past = s1.past := fun s1 o1 => by
    unfold wr2
    split
    · split <;> rfl
    · rfl
  have h3 : ∀ s1 o1, (wr3 c s1 o1 wd).past = s1.past := fun s1 o1 => by
    unfold wr3
    split
    · split
      · exact hold_past
      · rfl
    · rfl
  rw [h3, h2, h1]
theorem op_form {c : Conf} {s : HS} {k : Nat} {o : OpS} {wd : Str} (O : c.Ok) (W : Wf c s) (eo : s.ops[k]? = some o) (a : Ahead s o wd) : OpForm s k o wd (doOp c s k o wd).ops := by
  have p := W.ops k o eo
  unfold doOp
  split
  · rename_i z; exact form_end (.inl ⟨z, rfl⟩) (.inl rfl) rfl rfl
  rename_i ns
  rcases a with a | ⟨n1, n2, hn⟩
  · exact absurd a ns
  split
  · rename_i kd
    obtain ⟨hs, ew, _, _⟩ := p.write O kd n1 n2 hn
    have hb : (wo1 s o wd).begun = o.begun := by unfold wo1; split <;> rfl
    have hv : (wo1 s o wd).over = o.over := by unfold wo1; split <;> rfl
    have hst : (wo1 s o wd).step = o.step := by unfold wo1; split <;> rfl
    unfold writeH
    rw [wr4_ops, past_wr, wr3_ops.1, wr2_ops.1, wr1_ops.1, hst]
    have ho : ∀ {l : List OpS} {x : OpS}, ∃ (f : OpS → OpS), (f = id ∨ f = cf) ∧ (if wd = "store" then s.ops.set k { o with version := some (s.db + 1) } else s.ops.map cf).set k x = (s.ops.map f).set k x := fun {l x} => by
      split
      · exact ⟨id, .inl rfl, by rw [List.set_set, List.map_id]⟩
      · exact ⟨cf, .inr rfl, rfl⟩
    by_cases el : o.step + 1 = c.steps.length
    · rw [if_pos el]
      obtain ⟨f, hf, ef⟩ := ho (l := []) (x := { wo1 s o wd with step := o.step + 1, stage := "ended", over := some s.past.length })
      exact ⟨f, _, hf, ef, hb, .inl ⟨rfl, .inr ⟨ns, rfl⟩⟩⟩
    · rw [if_neg el]
      have lt : o.step + 1 < c.steps.length := by omega
      obtain ⟨_, m1, m2, _⟩ := not_wait O lt
      obtain ⟨f, hf, ef⟩ := ho (l := []) (x := { wo1 s o wd with step := o.step + 1, stage := c.steps.getD (o.step + 1) "" })
      exact ⟨f, _, hf, ef, hb, .inr ⟨hv, endedB_not m1 m2⟩⟩
  · have put : ∀ o' : OpS, o'.begun = o.begun → o'.over = o.over → endedB o' = false → OpForm s k o wd (s.ops.set k o') := fun o' h1 h2 h3 => ⟨id, o', .inl rfl, by rw [List.map_id], h1, .inr ⟨h2, h3⟩⟩
    unfold readH
    split
    · exact form_end (.inr ⟨ns, rfl⟩) (.inr ⟨_, rfl⟩) rfl rfl
    split
    · exact put _ rfl rfl (endedB_not (by show ¬ ("waits" : Str) = "ended"; decide +kernel) (by show ¬ ("waits" : Str) = "stopped"; decide +kernel))
    split
    · exact put _ rfl rfl (endedB_not (by show ¬ ("fetch" : Str) = "ended"; decide +kernel) (by show ¬ ("fetch" : Str) = "stopped"; decide +kernel))
    split
    · split
      · exact form_end (.inr ⟨ns, rfl⟩) (.inr ⟨_, rfl⟩) rfl rfl
      · exact put _ rfl rfl (endedB_not (by show ¬ ("fill" : Str) = "ended"; decide +kernel) (by show ¬ ("fill" : Str) = "stopped"; decide +kernel))
    split
    · exact form_end (.inr ⟨ns, rfl⟩) (.inr ⟨_, rfl⟩) rfl rfl
    · refine form_end (.inr ⟨ns, rfl⟩) (.inl ?_) ?_ rfl
      · split
        · exact hold_ops
        · rfl
      · split
        · exact hold_past
        · rfl
/-! ### the program's side -/
structure QForm (t : PSt) (k : Nat) (q : POp) (ops : List POp) : Prop where
  ex : ∃ q' : POp, ops = t.ops.set k q' ∧ q'.began = q.began ∧ q'.left = q.left
theorem opP_form {c : Conf} {t : PSt} {k : Nat} {q : POp} {w : Str} (eq : t.ops[k]? = some q) : QForm t k q (opP c t k q w).ops := by
  have same : QForm t k q t.ops := ⟨q, by
    obtain ⟨hl, e⟩ := List.getElem?_eq_some_iff.mp eq
    rw [← e, List.set_getElem_self], rfl, rfl⟩
  have set : ∀ q' : POp, q'.began = q.began → q'.left = q.left → QForm t k q (t.ops.set k q') := fun q' h1 h2 => ⟨q', rfl, h1, h2⟩
  have ll : ∀ {t1 : PSt} {v : Nat}, (holdP c t1 v).ops = t1.ops := fun {t1 v} => holdP_f.2.2.2.2.1
  have mk : ∀ {t1 : PSt} {v : Nat}, (markP c t1 v).ops = t1.ops := fun {t1 v} => by unfold markP; split <;> rfl
  unfold opP
  split
  · unfold lookP
    split
    · exact set _ rfl rfl
    · split
      · unfold shareP
        split
        · exact set _ rfl rfl
        · show QForm t k q ((t.ops.set k _).set k _)
          rw [List.set_set]
          exact set _ rfl rfl
      · exact set _ rfl rfl
  split
  · exact set _ rfl rfl
  split
  · unfold fillP
    split
    · split
      · rw [ll]; exact same
      · exact same
    · exact same
  split
  · exact set _ rfl rfl
  split
  · exact set _ rfl rfl
  split
  · unfold dropP
    split
    · rw [mk]; exact same
    · exact same
  · unfold putP
    split
    · split
      · rw [ll]; exact same
      · exact same
    · exact same
/-- an operation's last step notes when -/
theorem stepP_form {c : Conf} {t : PSt} {k : Nat} {q : POp} {w : Str} (eq : (preP c t w k).ops[k]? = some q) : ∃ q' : POp, (stepP c t w k).ops = (preP c t w k).ops.set k q' ∧ q'.began = q.began ∧ q'.left = (if q'.ended then some t.past.length else q.left) := by
  have hk := (List.getElem?_eq_some_iff.mp eq).1
  rw [stepP_at eq]
  obtain ⟨q1, e1, b1, l1⟩ := (opP_form (c := c) (w := w) (put_gP (o' := tailP q) eq)).ex
  have e2 : (opP c ((preP c t w k).put k (tailP q)) k (tailP q) w).ops = (preP c t w k).ops.set k q1 := by
    rw [e1]
    show ((preP c t w k).ops.set k _).set k _ = _
    rw [List.set_set]
  have pp : (opP c ((preP c t w k).put k (tailP q)) k (tailP q) w).past.length = t.past.length := by
    rw [opP_past]
    show (preP c t w k).past.length = _
    unfold preP
    split <;> rfl
  generalize opP c ((preP c t w k).put k (tailP q)) k (tailP q) w = t2 at e2 pp
  have g : t2.ops[k]? = some q1 := by rw [e2, List.getElem?_set_self hk]
  unfold leaveP
  rw [g]
  show ∃ q', (if q1.ended then t2.put k { q1 with left := some t2.past.length } else t2).ops = _ ∧ _
  by_cases he : q1.ended = true
  · rw [if_pos he]
    refine ⟨{ q1 with left := some t2.past.length }, ?_, b1, ?_⟩
    · show t2.ops.set k _ = _
      rw [e2, List.set_set]
    · have : ({ q1 with left := some t2.past.length } : POp).ended = true := he
      rw [if_pos this, pp]
  · rw [if_neg he]
    exact ⟨q1, e2, b1, by rw [if_neg he]; exact l1⟩
end Ca

set_option Elab.async false
set_option linter.all false
set_option maxRecDepth 100000
set_option maxHeartbeats 4000000
namespace Ca
open PySem L2
structure TM (s : HS) (t : PSt) : Prop where
  past : t.past = s.past
  op : ∀ (k : Nat) o q, s.ops[k]? = some o → t.ops[k]? = some q → q.began = o.begun + 1 ∧ q.left = o.over.map (· + 1)
structure TI (s : HS) : Prop where
  bg : ∀ (k : Nat) o, s.ops[k]? = some o → ∃ w, s.past[o.begun]? = some (w, some (k : Int))
  ov : ∀ (k : Nat) o x, s.ops[k]? = some o → o.over = some x → ∃ w, s.past[x]? = some (w, some (k : Int))
  lv : ∀ (k : Nat) o, s.ops[k]? = some o → (o.over = none ↔ endedB o = false)
theorem at_more {α : Type} {l : List α} {i : Nat} {x y : α} (h : l[i]? = some x) : (l ++ [y])[i]? = some x := by
  rw [List.getElem?_append_left (List.getElem?_eq_some_iff.mp h).1]
  exact h
theorem at_last {α : Type} {l : List α} {y : α} : (l ++ [y])[l.length]? = some y := by
  rw [List.getElem?_append_right (Nat.le_refl _), Nat.sub_self]
  rfl
theorem cf_same {f : OpS → OpS} (h : f = id ∨ f = cf) (o : OpS) : (f o).begun = o.begun ∧ (f o).over = o.over ∧ endedB (f o) = endedB o := by
  rcases h with e | e <;> rw [e] <;> exact ⟨rfl, rfl, rfl⟩
/-- an operation's step, on either side -/
theorem times_step {s0 s1 s2 : HS} {t1 t2 : PSt} {k : Nat} {o : OpS} {q q' : POp} {wd : Str} {e : Ev} (ee : e = (wd, some (k : Int))) (ep1 : s1.past = s0.past)
    (eo : s1.ops[k]? = some o) (eq : t1.ops[k]? = some q) (F : OpForm s1 k o wd s2.ops) (ep : s2.past = s0.past ++ [e]) (et : t2.ops = t1.ops.set k q') (etp : t2.past = s0.past ++ [e]) (eb : q'.began = q.began)
    (el : (∀ o', s2.ops[k]? = some o' → (endedB o' = true → q'.left = some (s0.past.length + 1)) ∧ (endedB o' = false → q'.left = q.left)))
    (M : ∀ (j : Nat) u v, s1.ops[j]? = some u → t1.ops[j]? = some v → v.began = u.begun + 1 ∧ v.left = u.over.map (· + 1))
    (bg : ∀ (j : Nat) u, s1.ops[j]? = some u → ∃ w, (s0.past ++ [e])[u.begun]? = some (w, some (j : Int)))
    (ov : ∀ (j : Nat) u x, s1.ops[j]? = some u → u.over = some x → ∃ w, s0.past[x]? = some (w, some (j : Int)))
    (lv : ∀ (j : Nat) u, s1.ops[j]? = some u → (u.over = none ↔ endedB u = false)) (lo : o.over = none) : TM s2 t2 ∧ TI s2 := by
  obtain ⟨f, o', hf, eops, ob, alt⟩ := F.ex
  have hk : k < s1.ops.length := (List.getElem?_eq_some_iff.mp eo).1
  have at_k : s2.ops[k]? = some o' := by
    rw [eops, List.getElem?_set_self (by rw [List.length_map]; exact hk)]
  have at_j : ∀ (j : Nat) u', ¬ j = k → s2.ops[j]? = some u' → ∃ u, s1.ops[j]? = some u ∧ u' = f u := fun j u' n h => by
    rw [eops, List.getElem?_set_ne (Ne.symm n), List.getElem?_map] at h
    cases z : s1.ops[j]? with
    | none => rw [z] at h; cases h
    | some u => rw [z] at h; exact ⟨u, rfl, (Option.some.inj h).symm⟩
  have alt2 : (o'.over = some s0.past.length ∧ endedB o' = true) ∨ (o'.over = none ∧ endedB o' = false) := by
    rcases alt with ⟨a, b⟩ | ⟨a, b⟩
    · rw [ep1] at a
      exact .inl ⟨a, b.elim (fun z => endedB_of (.inr z.2)) (fun z => endedB_of (.inl z.2))⟩
    · exact .inr ⟨a.trans lo, b⟩
  obtain ⟨m1, m2⟩ := M k o q eo eq
  refine ⟨⟨by rw [etp, ep], fun j u v hu hv => ?_⟩, ⟨fun j u hu => ?_, fun j u x hu hx => ?_, fun j u hu => ?_⟩⟩
  · by_cases hj : j = k
    · subst hj
      rw [at_k] at hu
      cases hu
      rw [et, List.getElem?_set_self (List.getElem?_eq_some_iff.mp eq).1] at hv
      cases hv
      refine ⟨by rw [eb, m1, ob], ?_⟩
      obtain ⟨l1, l2⟩ := el o' at_k
      rcases alt2 with ⟨a, b⟩ | ⟨a, b⟩
      · rw [l1 b, a]; rfl
      · rw [l2 b, m2, a, lo]
    · obtain ⟨u0, hu0, rfl⟩ := at_j j u hj hu
      rw [et, List.getElem?_set_ne (Ne.symm hj)] at hv
      obtain ⟨a, b⟩ := M j u0 v hu0 hv
      obtain ⟨c1, c2, _⟩ := cf_same hf u0
      rw [c1, c2]
      exact ⟨a, b⟩
  · rw [ep]
    by_cases hj : j = k
    · subst hj
      rw [at_k] at hu
      cases hu
      rw [ob]
      exact bg j o eo
    · obtain ⟨u0, hu0, rfl⟩ := at_j j u hj hu
      rw [(cf_same hf u0).1]
      exact bg j u0 hu0
  · rw [ep]
    by_cases hj : j = k
    · subst hj
      rw [at_k] at hu
      cases hu
      rcases alt2 with ⟨a, b⟩ | ⟨a, b⟩
      · rw [a] at hx
        cases hx
        exact ⟨wd, by rw [at_last, ee]⟩
      · rw [a] at hx; cases hx
    · obtain ⟨u0, hu0, rfl⟩ := at_j j u hj hu
      rw [(cf_same hf u0).2.1] at hx
      obtain ⟨w, hw⟩ := ov j u0 x hu0 hx
      exact ⟨w, at_more hw⟩
  · by_cases hj : j = k
    · subst hj
      rw [at_k] at hu
      cases hu
      rcases alt2 with ⟨a, b⟩ | ⟨a, b⟩ <;> rw [a, b] <;> simp
    · obtain ⟨u0, hu0, rfl⟩ := at_j j u hj hu
      obtain ⟨_, c2, c3⟩ := cf_same hf u0
      rw [c2, c3]
      exact lv j u0 hu0
theorem reach_times {c : Conf} {s : HS} (O : c.Ok) (r : Reach c s) : TM s (runS c s.past) ∧ TI s := by
  induction r with
  | begin => exact ⟨⟨rfl, fun k o q h => by simp [HS.begin] at h⟩, ⟨fun k o h => by simp [HS.begin] at h, fun k o x h => by simp [HS.begin] at h, fun k o h => by simp [HS.begin] at h⟩⟩
  | @step s e r h ih =>
    obtain ⟨M, I⟩ := ih
    have W := (r.wf O).1
    obtain ⟨S, _⟩ := reach_sim O r
    have R := S.rel
    have ep : (doH c s e).past = s.past ++ [e] := rfl
    have er : runS c (doH c s e).past = doP c (runS c s.past) e := by
      rw [ep]
      unfold runS
      rw [List.foldl_append]
      rfl
    rw [er]
    have etp : (doP c (runS c s.past) e).past = s.past ++ [e] := by rw [doP_past, M.past]
    have bth := both O W S h
    have S2 := bth.sim
    generalize runS c s.past = t at M S R etp S2 bth
    have keep : ∀ {s2 : HS} {t2 : PSt}, s2.ops = s.ops → t2.ops = t.ops → s2.past = s.past ++ [e] → t2.past = s.past ++ [e] → TM s2 t2 ∧ TI s2 := fun {s2 t2} h1 h2 h3 h4 => by
      refine ⟨⟨by rw [h3, h4], fun k o q ho hq => by rw [h1] at ho; rw [h2] at hq; exact M.op k o q ho hq⟩, ⟨fun k o ho => ?_, fun k o x ho hx => ?_, fun k o ho => by rw [h1] at ho; exact I.lv k o ho⟩⟩
      · rw [h1] at ho
        obtain ⟨w, hw⟩ := I.bg k o ho
        exact ⟨w, by rw [h3]; exact at_more hw⟩
      · rw [h1] at ho
        obtain ⟨w, hw⟩ := I.ov k o x ho hx
        exact ⟨w, by rw [h3]; exact at_more hw⟩
    have lvo : ∀ {l : List OpS} {k : Nat} {o : OpS}, (∀ (j : Nat) u, l[j]? = some u → (u.over = none ↔ endedB u = false)) → l[k]? = some o → ¬ o.stage = ("ended" : Str) → ¬ o.stage = ("stopped" : Str) → o.over = none := fun h e n1 n2 => (h _ _ e).mpr (endedB_not n1 n2)
    have go : ∀ {k : Nat} {wd : Str} {o : OpS} {q : POp} {s1 : HS} {t1 : PSt}, e = (wd, some (k : Int)) → preH s wd k = s1 → s1.past = s.past → Wf c s1 → s1.ops[k]? = some o → ¬ o.stage = ("ended" : Str) → ¬ o.stage = ("stopped" : Str) → nextOf s1 o = some wd →
        preP c (noteP t e) wd k = t1 → t1.ops[k]? = some q → (∀ (j : Nat) u v, s1.ops[j]? = some u → t1.ops[j]? = some v → v.began = u.begun + 1 ∧ v.left = u.over.map (· + 1)) → (∀ (j : Nat) u, s1.ops[j]? = some u → ∃ w, (s.past ++ [e])[u.begun]? = some (w, some (j : Int))) →
        (∀ (j : Nat) u x, s1.ops[j]? = some u → u.over = some x → ∃ w, s.past[x]? = some (w, some (j : Int))) → (∀ (j : Nat) u, s1.ops[j]? = some u → (u.over = none ↔ endedB u = false)) → TM (doH c s e) (doP c t e) ∧ TI (doH c s e) := fun {k wd o q s1 t1} ee es1 ep1 W1 eo m1 m2 hn et1 eq M1 bg ov lv => by
      obtain ⟨n1, n2, n3⟩ := word_ne O W1 eo ⟨m1, m2⟩ hn
      have F := op_form O W1 eo (.inr ⟨m1, m2, hn⟩)
      have zs : (doH c s e).ops = (doOp c s1 k o wd).ops := by
        show (doE c s e).ops = _
        rw [ee, doE_at (by rw [es1]; exact eo), es1]
      have zt : doP c t e = stepP c (noteP t e) wd k := by
        unfold doP doG actP
        rw [ee]
        rw [if_neg n1, if_neg n2]
        show (if wd = "stop" then stopP _ (0 + (k : Int).toNat) else stepP c _ wd (0 + (k : Int).toNat)) = _
        rw [if_neg n3, Int.toNat_natCast, Nat.zero_add]
      obtain ⟨q', eops, eb, el⟩ := stepP_form (c := c) (t := noteP t e) (k := k) (q := q) (w := wd) (by rw [et1]; exact eq)
      have pl : (noteP t e).past.length = s.past.length + 1 := by
        show (t.past ++ [e]).length = _
        rw [M.past, List.length_append]
        rfl
      rw [pl] at el
      have lo := lvo lv eo m1 m2
      rw [← zs] at F
      refine times_step ee ep1 eo eq F ep (by rw [zt, eops, et1]) etp eb (fun o' ho' => ?_) M1 bg ov lv lo
      have hk := (List.getElem?_eq_some_iff.mp eq).1
      have hq' : (doP c t e).ops[k]? = some q' := by rw [zt, eops, et1, List.getElem?_set_self hk]
      have RR := S2.rel.ops.op k o' q' ho' hq'
      obtain ⟨f, o2, hf, e2, _, alt⟩ := F.ex
      have e3 : o2 = o' := by
        have hk1 : k < s1.ops.length := (List.getElem?_eq_some_iff.mp eo).1
        rw [e2, List.getElem?_set_self (by rw [List.length_map]; exact hk1)] at ho'
        exact Option.some.inj ho'
      rw [e3] at alt
      have qe : q'.ended = true ↔ o'.stage = ("ended" : Str) := by
        rw [← RR.ne]
        unfold POp.ended
        exact List.isEmpty_iff
      refine ⟨fun hb => ?_, fun hb => ?_⟩
      · rcases alt with ⟨_, z | z⟩ | ⟨_, z⟩
        · exact absurd z.1 n3
        · rw [el, if_pos (qe.mpr z.2)]
        · rw [hb] at z; cases z
      · have : ¬ q'.ended = true := fun z => by
          rw [endedB_of (.inl (qe.mp z))] at hb
          cases hb
        rw [el, if_neg this]
    cases ev_case W h with
    | evict z =>
      refine keep ?_ ?_ ep etp
      · show (doE c s evictE).ops = s.ops
        rw [show doE c s evictE = { s with cache := none, mark := 0 } from if_pos rfl]
      · unfold doP doG actP
        rw [if_neg (by decide +kernel), if_pos (by decide +kernel)]
        rfl
    | copy z =>
      refine keep ?_ ?_ ep etp
      · show (doE c s copyE).ops = s.ops
        unfold doE
        rw [if_neg (by decide +kernel), if_pos rfl]
      · unfold doP doG actP
        rw [if_pos (by decide +kernel)]
        rfl
    | new w hw =>
      have e1 : s.ops.length = t.ops.length := R.ops.len
      have zp : preP c (noteP t (w, some (s.ops.length : Int))) w s.ops.length = { noteP t (w, some (s.ops.length : Int)) with ops := t.ops ++ [newP c w (t.past ++ [(w, some (s.ops.length : Int))]).length] } := if_pos e1
      obtain ⟨a, b, d⟩ := new_next (s := s) (s' := { s with ops := s.ops ++ [newOp s w] }) O hw
      have WN := W.pre O hw
      rw [pre_new] at WN
      have old : ∀ {j : Nat} {u : OpS}, (s.ops ++ [newOp s w])[j]? = some u → (s.ops[j]? = some u) ∨ (j = s.ops.length ∧ u = newOp s w) := fun {j u} h => by
        by_cases hj : j < s.ops.length
        · rw [List.getElem?_append_left hj] at h
          exact .inl h
        · rw [List.getElem?_append_right (by omega)] at h
          have e0 : j - s.ops.length = 0 := by
            have := (List.getElem?_eq_some_iff.mp h).1
            simp at this
            omega
          rw [e0] at h
          exact .inr ⟨by omega, (Option.some.inj h).symm⟩
      refine go rfl pre_new rfl WN (o := newOp s w) at_last a b d zp (q := newP c w (t.past ++ [(w, some (s.ops.length : Int))]).length) (by show (t.ops ++ [_])[s.ops.length]? = _; rw [e1]; exact at_last) ?_ ?_ ?_ ?_
      · intro j u v hu hv
        have hv : (t.ops ++ [newP c w (t.past ++ [(w, some (s.ops.length : Int))]).length])[j]? = some v := hv
        rcases old hu with hu | ⟨ej, eu⟩
        · have hj := (List.getElem?_eq_some_iff.mp hu).1
          rw [List.getElem?_append_left (by omega)] at hv
          exact M.op j u v hu hv
        · rw [ej, e1, at_last] at hv
          have hv := (Option.some.inj hv).symm
          rw [hv, eu]
          have z : ∀ x : Ev, (t.past ++ [x]).length = s.past.length + 1 := fun x => by
            rw [M.past, List.length_append]
            rfl
          rw [z]
          unfold newP
          split <;> exact ⟨rfl, rfl⟩
      · intro j u hu
        rcases old hu with hu | ⟨ej, eu⟩
        · obtain ⟨w', hw'⟩ := I.bg j u hu
          exact ⟨w', at_more hw'⟩
        · rw [ej, eu]
          exact ⟨w, at_last⟩
      · intro j u x hu hx
        rcases old hu with hu | ⟨ej, eu⟩
        · exact I.ov j u x hu hx
        · rw [eu] at hx; cases hx
      · intro j u hu
        rcases old hu with hu | ⟨ej, eu⟩
        · exact I.lv j u hu
        · rw [eu]
          exact ⟨fun _ => endedB_not a b, fun _ => rfl⟩
    | step k o w eo h1 h2 h3 =>
      have hlt := (List.getElem?_eq_some_iff.mp eo).1
      have zp : preP c (noteP t (w, some (k : Int))) w k = noteP t (w, some (k : Int)) := if_neg (by show ¬ k = t.ops.length; rw [← R.ops.len]; omega)
      obtain ⟨q, eq⟩ : ∃ q, t.ops[k]? = some q := ⟨_, List.getElem?_eq_getElem (by rw [← R.ops.len]; exact hlt)⟩
      refine go rfl (pre_old eo) rfl W eo h1 h2 h3 zp (q := q) eq M.op (fun j u hu => ?_) I.ov I.lv
      obtain ⟨w', hw'⟩ := I.bg j u hu
      exact ⟨w', at_more hw'⟩
    | stop k o eo h1 h2 h3 =>
      have hlt := (List.getElem?_eq_some_iff.mp eo).1
      obtain ⟨q, eq⟩ : ∃ q, t.ops[k]? = some q := ⟨_, List.getElem?_eq_getElem (by rw [← R.ops.len]; exact hlt)⟩
      have F := op_form (wd := "stop") O W eo (.inl rfl)
      have zs : (doH c s ("stop", some (k : Int))).ops = (doOp c s k o "stop").ops := by
        show (doE c s _).ops = _
        rw [doE_at (by rw [pre_old eo]; exact eo), pre_old eo]
      rw [← zs] at F
      have zt : doP c t ("stop", some (k : Int)) = stopP (noteP t ("stop", some (k : Int))) k := by
        unfold doP doG actP
        rw [if_neg (by show ¬ ("stop" : Str) = "copy"; decide +kernel), if_neg (by show ¬ ("stop" : Str) = "evict"; decide +kernel)]
        show (if ("stop" : Str) = "stop" then stopP _ (0 + (k : Int).toNat) else stepP c _ "stop" (0 + (k : Int).toNat)) = _
        rw [if_pos rfl, Int.toNat_natCast, Nat.zero_add]
      have pl : (noteP t ("stop", some (k : Int))).past.length = s.past.length + 1 := by
        show (t.past ++ [_]).length = _
        rw [M.past, List.length_append]
        rfl
      have eops : (doP c t ("stop", some (k : Int))).ops = t.ops.set k { q with stopped := true, left := some (s.past.length + 1) } := by
        rw [zt]
        unfold stopP
        have eq2 : (noteP t ("stop", some (k : Int))).ops[k]? = some q := eq
        rw [eq2, pl]
        rfl
      refine times_step rfl rfl eo eq F ep eops etp rfl (fun o' ho' => ⟨fun _ => rfl, fun hb => ?_⟩) M.op (fun j u hu => ?_) I.ov I.lv (lvo I.lv eo h1 h2)
      · have hq' : (doP c t ("stop", some (k : Int))).ops[k]? = some { q with stopped := true, left := some (s.past.length + 1) } := by
          rw [eops, List.getElem?_set_self (List.getElem?_eq_some_iff.mp eq).1]
        have RR := (S2.rel.ops.op k o' _ ho' hq').stop
        have z : o'.stage = ("stopped" : Str) := of_decide_eq_true RR.symm
        rw [endedB_of (.inr z)] at hb
        cases hb
      · obtain ⟨w', hw'⟩ := I.bg j u hu
        exact ⟨w', at_more hw'⟩
end Ca

set_option Elab.async false
set_option linter.all false
set_option maxRecDepth 100000
set_option maxHeartbeats 4000000
namespace Ca
open PySem L2
/-! ### a list, of anything, against the empty list -/
def rNil (K : PySem.W.Frag) (neg : Bool) : R2 := fun x y H Q => ∃ (a b : Addr) (xs : List V), x = .ref a ∧ y = .ref b ∧ SqL K H a xs ∧ SqL K H b [] ∧ Q (.bl (xs.isEmpty != neg)) H
theorem vals_nil {its : List Value} (r : Vals [] its) : its = [] := by
  cases r
  rfl
theorem vals_len : ∀ {xs : List V} {its : List Value}, Vals xs its → its.length = xs.length
  | _, _, .nil => rfl
  | _, _, .cons _ r => by rw [List.length_cons, List.length_cons, vals_len r]
section
variable {X : Cx}
theorem op_eqNil (hu : X.A.units < cLine) : OpR X (compareOp .Eq) (rNil X.K false) := by
  intro pins s σ H x y v u Q I rx ry h
  obtain ⟨a, b, xs, rfl, rfl, hx, hy, q⟩ := h
  obtain rfl : v = Value.ref a := rx
  obtain rfl : u = Value.ref b := ry
  obtain ⟨its, r1, ⟨o1, n1, e1, c1, _, d1⟩, _⟩ := I.list hx
  obtain ⟨its2, r2, ⟨o2, n2, e2, c2, _, d2⟩, _⟩ := I.list hy
  have z2 := vals_nil r2
  subst z2
  have l1 : s.heap.IsList a its.toArray := ⟨o1, e1, c1, n1, d1⟩
  have l2 : s.heap.IsList b ([] : List Value).toArray := ⟨o2, e2, c2, n2, d2⟩
  cases xs with
  | nil =>
    have z1 := vals_nil r1
    subst z1
    exact SeqAt.eq_listAt (e := fun _ => true) l1 l2 rfl hu (fun j h1 _ => absurd h1 (Nat.not_lt_zero _)) ⟨.bl true, H, I, rfl, q⟩
  | cons x xs =>
    have z1 := vals_len r1
    refine SeqAt.eq_list_lengthsAt l1 l2 ?_ hu ⟨.bl false, H, I, rfl, q⟩
    show (its.toArray.size != 0) = true
    rw [List.size_toArray, z1]
    rfl
theorem op_neNil (hu : X.A.units < cLine) : OpR X (compareOp .NotEq) (rNil X.K true) := by
  intro pins s σ H x y v u Q I rx ry h
  obtain ⟨a, b, xs, rfl, rfl, hx, hy, q⟩ := h
  obtain rfl : v = Value.ref a := rx
  obtain rfl : u = Value.ref b := ry
  obtain ⟨its, r1, ⟨o1, n1, e1, c1, _, d1⟩, _⟩ := I.list hx
  obtain ⟨its2, r2, ⟨o2, n2, e2, c2, _, d2⟩, _⟩ := I.list hy
  have z2 := vals_nil r2
  subst z2
  have l1 : s.heap.IsList a its.toArray := ⟨o1, e1, c1, n1, d1⟩
  have l2 : s.heap.IsList b ([] : List Value).toArray := ⟨o2, e2, c2, n2, d2⟩
  cases xs with
  | nil =>
    have z1 := vals_nil r1
    subst z1
    exact SeqAt.RcNeAt.lists (e := fun _ => true) l1 l2 rfl hu (fun j h1 _ => absurd h1 (Nat.not_lt_zero _)) _ _ _ _ ⟨.bl false, H, I, rfl, q⟩
  | cons x xs =>
    have z1 := vals_len r1
    refine SeqAt.RcNeAt.lists_lengths l1 l2 ?_ hu _ _ _ _ ⟨.bl true, H, I, rfl, q⟩
    show (its.toArray.size != 0) = true
    rw [List.size_toArray, z1]
    rfl
end
end Ca

set_option Elab.async false
set_option linter.all false
set_option maxRecDepth 100000
set_option maxHeartbeats 4000000
namespace Ca
open PySem L2
/-! ### comprehensions over the law's operations -/
theorem ev_dg {i : Nat} {σ : L2.St} {H : Hp} {a : Addr} {kvs : List (Key × V)} {x : Str} {v : V} (hs : σ[i]? = some (some (.ref a))) (h : H a = some (.dK kvs)) (e : valV kvs (Sum.inr x) = some v) : Evl.Ev (tDGet (tVar i) (tC (.str x))) σ H v := fun H1 x1 Q q =>
  ⟨_, hs, a, v, rfl, dget (x1 _ _ h) e, q H1 (Evl.Ex.refl H1)⟩
theorem all_refs {c : Conf} {H : Hp} {h : Addr} {A : LA} {s : HS} (L : LawAt c H h A s) : OpRefs A s (A.oas.map V.ref) s.ops := by
  have key : ∀ (as : List Addr) (os : List OpS), as.length = os.length → (∀ (j : Nat) a o, as[j]? = some a → os[j]? = some o → ∃ k : Nat, A.oas[k]? = some a ∧ s.ops[k]? = some o) → OpRefs A s (as.map V.ref) os := by
    intro as
    induction as with
    | nil =>
      intro os hl _
      cases os with
      | nil => exact .nil
      | cons _ _ => cases hl
    | cons a as ih =>
      intro os hl hg
      cases os with
      | nil => cases hl
      | cons o os =>
        obtain ⟨k, e1, e2⟩ := hg 0 a o rfl rfl
        exact .cons ⟨k, a, rfl, e1, e2⟩ (ih os (by simpa using hl) fun j x y p q => hg (j + 1) x y p q)
  exact key _ _ L.ol fun j a o e1 e2 => ⟨j, e1, e2⟩
section
variable {K : PySem.W.Frag} {a : Addr} {g : TG} {tt : TT} {te : TE} {vs : List Nat} {σ : St} {H : Hp} {D : Addr} {Qd : Hp → Prop} {j : Nat} {A : LA} {s : HS} {xs : List V} {os : List OpS}
/-- those of which a test says yes -/
theorem lcOps (p : OpS → Bool) (nD : H D = none) (hs : SqL K H a xs) (X : OpRefs A s xs os) (hl : xs.length ≤ 200) (hg : g = gName j) (hw : ∀ x, wipe ((wipe σ vs).set j (some x)) vs = wipe σ vs)
    (ht : ∀ (k : Nat) b o, A.oas[k]? = some b → s.ops[k]? = some o → o ∈ os → Evl.EvT tt ((wipe σ vs).set j (some (.ref b))) H (p o)) (he : ∀ b, Evl.Ev te ((wipe σ vs).set j (some (.ref b))) H (.ref b))
    (hq : ∀ H' acc, Evl.Ex H H' → H' D = some (.lst acc) → OpRefs A s acc (os.filter p) → Qd H') :
    ∃ W : Nat → Nat → Hp → Prop, (∃ m, W 0 m (upd H D (.lst []))) ∧ ∀ i m H', W i m H' →
      ((Itl K a).stop i H' ∧ Qd H') ∨ ((Itl K a).go i H' ∧ ∃ Nx : Hp → Prop, (∀ H', Nx H' → ∃ m', m' < m ∧ W (i + 1) m' H') ∧ ∀ x H'', (Itl K a).yld i H' x H'' → g x (wipe σ vs) H'' fun σ2 H2 => wipe σ2 vs = wipe σ vs ∧ tt σ2 H2 fun b H3 =>
        if b = true then te σ2 H3 fun y H4 => ∃ acc, H4 D = some (.lst acc) ∧ acc.length < sizeLine ∧ Nx (upd H4 D (.lst (acc ++ [y]))) else Nx H3) := by
  subst hg
  refine lc_list (xs := xs) (fun i H' => ∃ acc, Evl.Ex H H' ∧ H' D = some (.lst acc) ∧ OpRefs A s acc ((os.take i).filter p)) ⟨[], Evl.Ex.new nD, upd_same, .nil⟩ (fun i H' _ ⟨_, e, _⟩ => Evl.ex_l e hs) (fun i x H' hi ⟨acc, e, hD, R⟩ => ⟨?_, ?_⟩) fun H' ⟨acc, e, hD, R⟩ => ?_
  · exact hw x
  · obtain ⟨o, eo, k, b, rfl, ek, es⟩ := pget X hi
    have h3 : os.take (i + 1) = os.take i ++ [o] := by
      rw [List.take_succ, eo]
      rfl
    have al : acc.length ≤ 200 := by
      rw [R.length]
      refine Nat.le_trans (List.length_filter_le _ _) ?_
      rw [List.length_take, ← X.length]
      omega
    refine ht k b o ek es (List.mem_of_getElem? eo) H' e _ fun H2 e2 => ?_
    cases hp : p o with
    | true =>
      show te _ H2 _
      refine he b H2 (e.trans e2) _ fun H3 e3 => ⟨acc, e3 _ _ (e2 _ _ hD), Nat.lt_of_le_of_lt al (by decide), acc ++ [.ref b], Evl.Ex.mut ((e.trans e2).trans e3) nD, upd_same, ?_⟩
      rw [h3, List.filter_append, List.filter_cons, if_pos hp]
      exact Paired.app R (.cons ⟨k, b, rfl, ek, es⟩ .nil)
    | false =>
      show ∃ acc, _
      refine ⟨acc, e.trans e2, e2 _ _ hD, ?_⟩
      rw [h3, List.filter_append, List.filter_cons, if_neg (by rw [hp]; decide)]
      simpa using R
  · rw [X.length, List.take_length] at R
    exact hq H' acc e hD R
/-- what is told of those of which a test says yes -/
theorem lcOpsM (p : OpS → Bool) (f : OpS → V) (nD : H D = none) (hs : SqL K H a xs) (X : OpRefs A s xs os) (hl : xs.length ≤ 200) (hg : g = gName j) (hw : ∀ x, wipe ((wipe σ vs).set j (some x)) vs = wipe σ vs)
    (ht : ∀ (k : Nat) b o, A.oas[k]? = some b → s.ops[k]? = some o → o ∈ os → Evl.EvT tt ((wipe σ vs).set j (some (.ref b))) H (p o)) (he : ∀ (k : Nat) b o, A.oas[k]? = some b → s.ops[k]? = some o → o ∈ os → p o = true → Evl.Ev te ((wipe σ vs).set j (some (.ref b))) H (f o))
    (hq : ∀ H', Evl.Ex H H' → H' D = some (.lst ((os.filter p).map f)) → Qd H') :
    ∃ W : Nat → Nat → Hp → Prop, (∃ m, W 0 m (upd H D (.lst []))) ∧ ∀ i m H', W i m H' →
      ((Itl K a).stop i H' ∧ Qd H') ∨ ((Itl K a).go i H' ∧ ∃ Nx : Hp → Prop, (∀ H', Nx H' → ∃ m', m' < m ∧ W (i + 1) m' H') ∧ ∀ x H'', (Itl K a).yld i H' x H'' → g x (wipe σ vs) H'' fun σ2 H2 => wipe σ2 vs = wipe σ vs ∧ tt σ2 H2 fun b H3 =>
        if b = true then te σ2 H3 fun y H4 => ∃ acc, H4 D = some (.lst acc) ∧ acc.length < sizeLine ∧ Nx (upd H4 D (.lst (acc ++ [y]))) else Nx H3) := by
  subst hg
  refine lc_list (xs := xs) (fun i H' => Evl.Ex H H' ∧ H' D = some (.lst (((os.take i).filter p).map f))) ⟨Evl.Ex.new nD, upd_same⟩ (fun i H' _ ⟨e, _⟩ => Evl.ex_l e hs) (fun i x H' hi ⟨e, hD⟩ => ⟨?_, ?_⟩) fun H' ⟨e, hD⟩ => ?_
  · exact hw x
  · obtain ⟨o, eo, k, b, rfl, ek, es⟩ := pget X hi
    have h3 : os.take (i + 1) = os.take i ++ [o] := by
      rw [List.take_succ, eo]
      rfl
    have al : (((os.take i).filter p).map f).length ≤ 200 := by
      rw [List.length_map]
      refine Nat.le_trans (List.length_filter_le _ _) ?_
      rw [List.length_take, ← X.length]
      omega
    have mo := List.mem_of_getElem? eo
    refine ht k b o ek es mo H' e _ fun H2 e2 => ?_
    cases hp : p o with
    | true =>
      show te _ H2 _
      refine he k b o ek es mo hp H2 (e.trans e2) _ fun H3 e3 => ⟨_, e3 _ _ (e2 _ _ hD), Nat.lt_of_le_of_lt al (by decide), Evl.Ex.mut ((e.trans e2).trans e3) nD, ?_⟩
      rw [upd_same, h3, List.filter_append, List.filter_cons, if_pos hp, List.map_append]
      rfl
    | false =>
      refine ⟨e.trans e2, ?_⟩
      rw [h3, List.filter_append, List.filter_cons, if_neg (by rw [hp]; decide)]
      simpa using e2 _ _ hD
  · rw [X.length, List.take_length] at hD
    exact hq H' e hD
end
theorem fold_max : ∀ (l : List Nat) (m : Nat), (l.foldl max m = m ∨ l.foldl max m ∈ l) ∧ m ≤ l.foldl max m ∧ ∀ y ∈ l, y ≤ l.foldl max m
  | [], m => ⟨.inl rfl, Nat.le_refl _, fun _ h => by cases h⟩
  | x :: l, m => by
    obtain ⟨a, b, c⟩ := fold_max l (max m x)
    refine ⟨?_, Nat.le_trans (Nat.le_max_left _ _) b, fun y hy => ?_⟩
    · rcases a with a | a
      · rw [List.foldl_cons, a]
        rcases Nat.le_total m x with z | z
        · rw [Nat.max_eq_right z]; exact .inr (List.mem_cons_self ..)
        · rw [Nat.max_eq_left z]; exact .inl rfl
      · exact .inr (List.mem_cons_of_mem _ a)
    · rcases List.mem_cons.mp hy with z | z
      · rw [z]; exact Nat.le_trans (Nat.le_max_right _ _) b
      · exact c y z
theorem un1 {k : Nat} {A : Around} (hr : Room k A) : A.units < cLine := by
  have z := hr.units
  omega
theorem same_ex {H H' : Hp} (e : Evl.Ex H H') : Same H H' := fun b o h => e b o h
end Ca

set_option Elab.async false
set_option linter.all false
set_option maxRecDepth 100000
set_option maxHeartbeats 4000000
namespace Ca
open PySem L2
@[irreducible] def spRun : Sp := fun vs H Q _ => ∃ (c : Conf) (d w r : Addr) (xs : List V) (es : List Ev), vs = [.ref d, .ref w, .ref r] ∧ H d = some (dT c) ∧ H w = some (wT c) ∧ c.Ok ∧ (H r = some (.lst xs) ∨ H r = some (.tup xs)) ∧ EvsAt H xs es ∧ ChainH c es ∧ es.length ≤ 70 ∧
  ∀ h A H', Evl.Ex H H' → LawAt c H' h A (runH c es) → A.d = d → A.w = w → (∀ b, Fp h A b → H b = none) → Q (.ref h) H'
theorem run_i {c : Conf} {d w r : Addr} {xs : List V} {es : List Ev} {H : Hp} {Q : VK} {E : XK} (hd : H d = some (dT c)) (hw : H w = some (wT c)) (O : c.Ok) (hr : H r = some (.lst xs) ∨ H r = some (.tup xs)) (X : EvsAt H xs es) (C : ChainH c es) (l : es.length ≤ 70)
    (q : ∀ h A H', Evl.Ex H H' → LawAt c H' h A (runH c es) → A.d = d → A.w = w → (∀ b, Fp h A b → H b = none) → Q (.ref h) H') : spRun [.ref d, .ref w, .ref r] H Q E := by
  unfold spRun
  exact ⟨c, d, w, r, xs, es, rfl, hd, hw, O, hr, X, C, l, q⟩
/-- what a law's cache of its own does leaves what stood -/
theorem ex_keep {h : Addr} {A : LA} {H0 H H' : Hp} (e : Evl.Ex H0 H) (fr : ∀ b, Fp h A b → H0 b = none) (k : Keep (Fp h A) H H') : Evl.Ex H0 H' := fun b o hb => k b o (e b o hb) fun f => by
  rw [fr b f] at hb
  cases hb
theorem fp_do {h : Addr} {A A' : LA} {H0 H : Hp} (e : Evl.Ex H0 H) (fr : ∀ b, Fp h A b → H0 b = none) (elo : A'.lo = A.lo) (elp : A'.lp = A.lp) (oa : ∀ b, b ∈ A'.oas → b ∈ A.oas ∨ H b = none) : ∀ b, Fp h A' b → H0 b = none := by
  rintro b (z | z | z | z)
  · exact fr b (.inl z)
  · exact fr b (.inr (.inl (by rw [← elo]; exact z)))
  · exact fr b (.inr (.inr (.inl (by rw [← elp]; exact z))))
  · rcases oa b z with y | y
    · exact fr b (.inr (.inr (.inr y)))
    · exact Evl.fresh_back e y
section
variable {P : Program} {w : World} {K : PySem.W.Frag} {mg : Str → Option Value} {base : Heap}
theorem ok_Lrun (T : Txt K mg) : FnOk P w K mg base CX0 5 T.f_Lrun T.fd_Lrun ["design", "world", "events"] spRun := by
  refine T.F_Lrun.ok sc_Lrun (fun vs H Q E h => ?_) (fun cdv A outer s H vs Q E hr h => ?_)
  · unfold spRun at h
    obtain ⟨c, d, w, r, xs, es, rfl, _⟩ := h
    rfl
  · unfold spRun at h
    obtain ⟨c, d, u, r, xs, es, rfl, hd, hw, O, hs, X, C, l, q⟩ := h
    have turn : ∀ (G : Hp) (i : Nat) (x : V) (h : Addr) (A : LA) (H' : Hp) (N : Hp → Addr → LA → Prop), Evl.Ex H H' → LawAt c H' h A (runH c (es.take i)) → A.d = d → A.w = u → (∀ b, Fp h A b → H b = none) → xs[i]? = some x →
        (∀ A' H2, Evl.Ex H H2 → LawAt c H2 h A' (runH c (es.take (i + 1))) → A'.d = d → A'.w = u → (∀ b, Fp h A' b → H b = none) → N H2 h A') → spDo [.ref h, x] H' (fun _ H2 => ∃ A', N H2 h A') E0 := fun G i x h A H' N e L ed ew fr hx k => by
      obtain ⟨ev, ee, t, rfl, ht⟩ := pget X hx
      have il : i < es.length := (List.getElem?_eq_some_iff.mp ee).1
      obtain ⟨re, rp⟩ := C.reach i (Nat.le_of_lt il)
      obtain ⟨W, hol⟩ := re.wf O
      have pl : (runH c (es.take i)).past.length ≤ 70 := by
        rw [rp, List.length_take]
        omega
      have dk := do_ok W O (C.step i ev ee)
      refine do_i O L (e _ _ ht) dk.str dk.ok (by omega) (by omega) fun H2 A' L2 ed' ew' elo elp oa K2 => ⟨A', ?_⟩
      rw [← runH_snoc ee] at L2
      exact k A' H2 (ex_keep e fr K2) L2 (ed'.trans ed) (ew'.trans ew) (fp_do e fr elo elp oa.1)
    have last : ∀ (h : Addr) (A : LA) (H' : Hp), Evl.Ex H H' → LawAt c H' h A (runH c (es.take xs.length)) → A.d = d → A.w = u → (∀ b, Fp h A b → H b = none) → Q (.ref h) H' := fun h A H' e L ed ew fr => by
      rw [X.length, List.take_length] at L
      exact q h A H' e L ed ew fr
    rcases hs with hs | hs
    · refine ⟨_, (pss_cons (ps_set (i := 3) sc_Lrun.nd rfl (Or.inl rfl) (pe_call (ok_Lbegin T) (hr.mono (by decide)) rfl T.m_Lbegin T.F_Lbegin.kp (b_Lbegin T) .nil pass0 (pa_cons (pv 0) (pa_cons (pv 1) pa_nil))))
      (pss_cons (ps_for PassesOwn.never rfl (pi_list (pv 2)) (pg_name (i := 4) sc_Lrun.nd rfl (Or.inl rfl)) (pss_one (ps_expr (pe_call (ok_Ldo T) (hr.mono (by decide)) rfl T.m_Ldo T.F_Ldo.kp (b_Ldo T) .nil pass0 (pa_cons (pv 3) (pa_cons (pv 4) pa_nil))))))
      (pss_one (ps_ret (pv 3))))), ?_⟩
      refine ⟨_, rfl, _, rfl, ?_⟩
      refine begin_i hd hw fun h lo lp H1 S1 nh nlo nlp L1 => ?_
      have fr0 : ∀ b, Fp h ⟨d, u, lo, lp, [], []⟩ b → H b = none := by
        rintro b (z | z | z | z)
        · rw [z]; exact nh
        · rw [z]; exact nlo
        · rw [z]; exact nlp
        · cases z
      refine ⟨_, rfl, r, rfl, ⟨_, SqL.of (S1 _ _ hs)⟩, for_list (xs := xs) (fun i σ' H' => ∃ A x4, σ' = [some (.ref d), some (.ref u), some (.ref r), some (.ref h), x4] ∧ Evl.Ex H H' ∧ LawAt c H' h A (runH c (es.take i)) ∧ A.d = d ∧ A.w = u ∧ ∀ b, Fp h A b → H b = none) ⟨⟨d, u, lo, lp, [], []⟩, none, rfl, fun b o e => S1 b o e, L1, rfl, rfl, fr0⟩ (fun i σ' H' _ ⟨_, _, _, e, _⟩ => SqL.of (e _ _ hs)) ?_ ?_⟩
      · rintro i x σ' H' hi ⟨A, x4, rfl, e, L, ed, ew, fr⟩
        refine ⟨_, rfl, _, rfl, ?_⟩
        have z := turn H i x h A H' (fun H2 h' A' => ∃ x4, ([some (.ref d), some (.ref u), some (.ref r), some (.ref h), some x] : List (Option V)) = [some (.ref d), some (.ref u), some (.ref r), some (.ref h), x4] ∧ Evl.Ex H H2 ∧ LawAt c H2 h A' (runH c (es.take (i + 1))) ∧ A'.d = d ∧ A'.w = u ∧ ∀ b, Fp h A' b → H b = none) e L ed ew fr hi fun A' H2 a b c d f => ⟨some x, rfl, a, b, c, d, f⟩
        exact z
      · rintro σ' H' ⟨A, x4, rfl, e, L, ed, ew, fr⟩
        exact ⟨_, rfl, last h A H' e L ed ew fr⟩
    · refine ⟨_, (pss_cons (ps_set (i := 3) sc_Lrun.nd rfl (Or.inl rfl) (pe_call (ok_Lbegin T) (hr.mono (by decide)) rfl T.m_Lbegin T.F_Lbegin.kp (b_Lbegin T) .nil pass0 (pa_cons (pv 0) (pa_cons (pv 1) pa_nil))))
      (pss_cons (ps_for PassesOwn.never rfl (pi_tup (pv 2)) (pg_name (i := 4) sc_Lrun.nd rfl (Or.inl rfl)) (pss_one (ps_expr (pe_call (ok_Ldo T) (hr.mono (by decide)) rfl T.m_Ldo T.F_Ldo.kp (b_Ldo T) .nil pass0 (pa_cons (pv 3) (pa_cons (pv 4) pa_nil))))))
      (pss_one (ps_ret (pv 3))))), ?_⟩
      refine ⟨_, rfl, _, rfl, ?_⟩
      refine begin_i hd hw fun h lo lp H1 S1 nh nlo nlp L1 => ?_
      have fr0 : ∀ b, Fp h ⟨d, u, lo, lp, [], []⟩ b → H b = none := by
        rintro b (z | z | z | z)
        · rw [z]; exact nh
        · rw [z]; exact nlo
        · rw [z]; exact nlp
        · cases z
      refine ⟨_, rfl, r, rfl, ⟨_, SqT.of (S1 _ _ hs)⟩, for_tup (xs := xs) (fun i σ' H' => ∃ A x4, σ' = [some (.ref d), some (.ref u), some (.ref r), some (.ref h), x4] ∧ Evl.Ex H H' ∧ LawAt c H' h A (runH c (es.take i)) ∧ A.d = d ∧ A.w = u ∧ ∀ b, Fp h A b → H b = none) ⟨⟨d, u, lo, lp, [], []⟩, none, rfl, fun b o e => S1 b o e, L1, rfl, rfl, fr0⟩ (fun i σ' H' _ ⟨_, _, _, e, _⟩ => SqT.of (e _ _ hs)) ?_ ?_⟩
      · rintro i x σ' H' hi ⟨A, x4, rfl, e, L, ed, ew, fr⟩
        refine ⟨_, rfl, _, rfl, ?_⟩
        have z := turn H i x h A H' (fun H2 h' A' => ∃ x4, ([some (.ref d), some (.ref u), some (.ref r), some (.ref h), some x] : List (Option V)) = [some (.ref d), some (.ref u), some (.ref r), some (.ref h), x4] ∧ Evl.Ex H H2 ∧ LawAt c H2 h A' (runH c (es.take (i + 1))) ∧ A'.d = d ∧ A'.w = u ∧ ∀ b, Fp h A' b → H b = none) e L ed ew fr hi fun A' H2 a b c d f => ⟨some x, rfl, a, b, c, d, f⟩
        exact z
      · rintro σ' H' ⟨A, x4, rfl, e, L, ed, ew, fr⟩
        exact ⟨_, rfl, last h A H' e L ed ew fr⟩
end
end Ca

set_option Elab.async false
set_option linter.all false
set_option maxRecDepth 100000
set_option maxHeartbeats 4000000
namespace Ca
open PySem L2
/-! ### the ten promises -/
inductive Pm where
  | ending | filled | forward | fresh | linear | mended | moving | quiet | rest | single
  deriving DecidableEq
def Pm.str : Pm → Str
  | .ending => "ending"
  | .filled => "filled"
  | .forward => "forward"
  | .fresh => "fresh"
  | .linear => "linear"
  | .mended => "mended"
  | .moving => "moving"
  | .quiet => "quiet"
  | .rest => "rest"
  | .single => "single"
def allPm : List Pm := [.ending, .filled, .forward, .fresh, .linear, .mended, .moving, .quiet, .rest, .single]
abbrev pmV (m : Pm) : V := .str m.str
theorem pm_mem (m : Pm) : m ∈ allPm := by cases m <;> simp [allPm]
@[irreducible] def spChPm : Sp := fun vs H Q _ => ∃ (m : Pm), vs = [pmV m] ∧ Q .non H
theorem chpm_i {m : Pm} {H : Hp} {Q : VK} {E : XK} (q : Q .non H) : spChPm [pmV m] H Q E := by
  unfold spChPm
  exact ⟨m, rfl, q⟩
@[irreducible] def spChQ : Sp := fun vs H Q _ => ∃ (c : Conf) (d w : Addr) (m : Pm), vs = [.ref d, .ref w, pmV m] ∧ H d = some (dT c) ∧ H w = some (wT c) ∧ c.Ok ∧ Q .non H
section
variable {K : PySem.W.Frag} {c : Conf} {d w : Addr} {H : Hp} {Q : VK} {E : XK} {σ : L2.St} {m : Pm}
theorem chq_i (hd : H d = some (dT c)) (hw : H w = some (wT c)) (O : c.Ok) (q : Q .non H) : spChQ [.ref d, .ref w, pmV m] H Q E := by
  unfold spChQ
  exact ⟨c, d, w, m, rfl, hd, hw, O, q⟩
theorem given_map {α : Type} [Inhabited α] (xs : List α) (p : α → Bool) (v : α → V) : Evl.given xs.length (fun i => p (xs.getD i default)) (fun i => v (xs.getD i default)) = (xs.filter p).map v := by
  unfold Evl.given
  have h : xs = (List.range xs.length).map (fun i => xs.getD i default) := by
    refine List.ext_getElem (by simp) fun i h1 h2 => ?_
    simp only [List.getElem_map, List.getElem_range]
    simp [List.getD, List.getElem?_eq_getElem h1]
  conv => rhs; rw [h]
  rw [List.filter_map, List.map_map]
  rfl
theorem ex_tupK {a : Addr} {xs : List V} {H H' : Hp} (e : Evl.Ex H H') (h : SqT K H a xs) : SqT K H' a xs := Evl.ex_t e h
theorem el_lcT {a : Addr} {xs : List V} {tl : TE} {j : Nat} {vs : List Nat} {t : TT} {te : TE} (f : Nat → Bool) (v : Nat → V) (h : Evl.Ev tl σ H (.ref a)) (hx : SqT K H a xs) (hz : xs.length ≤ 40000) (hw : ∀ x, wipe ((wipe σ vs).set j (some x)) vs = wipe σ vs)
    (ht : ∀ (i : Nat) (x : V) H1, Evl.Ex H H1 → xs[i]? = some x → Evl.EvT t ((wipe σ vs).set j (some x)) H1 (f i)) (he : ∀ (i : Nat) (x : V) H1, Evl.Ex H H1 → xs[i]? = some x → f i = true → Evl.Ev te ((wipe σ vs).set j (some x)) H1 (v i)) :
    Evl.EvL (tLc (iTup K tl) (gName j) t te vs) σ H (Evl.given xs.length f v) := fun H0 e Q q => h H0 e _ fun H1 e1 => ⟨a, rfl, ⟨xs, Evl.ex_t (e.trans e1) hx⟩, fun Dl hD =>
  lc_tup (xs := xs) (Evl.Cw H1 f v Dl) ⟨hD, Evl.Ex.new hD, upd_same⟩ (fun i H' _ p => Evl.ex_t ((e.trans e1).trans p.2.1) hx) (fun i x H' hi p => ⟨hw x, Evl.cw_turn p (by have := (List.getElem?_eq_some_iff.mp hi).1; omega) (ht i x H1 (e.trans e1) hi) (fun hf => he i x H1 (e.trans e1) hi hf)⟩)
    (fun H' p => q Dl H' (Evl.fresh_back e1 p.1) (e1.trans p.2.1) p.2.2)⟩
theorem pm_at {i : Nat} {x : V} (h : (allPm.map pmV)[i]? = some x) : x = pmV (allPm.getD i .ending) := by
  rw [List.getElem?_map, Option.map_eq_some_iff] at h
  obtain ⟨m, e, r⟩ := h
  rw [← r, List.getD, e]
  rfl
instance : Inhabited Pm := ⟨.ending⟩
end
theorem eqV_pm : ∀ a b : Pm, eqV (pmV a) (pmV b) = decide (a = b) := by
  intro a b
  cases a <;> cases b <;> decide +kernel
theorem pmEq (a b : Pm) : decide (pmV a = pmV b) = decide (a = b) := by
  cases a <;> cases b <;> decide +kernel
section
variable {P : Program} {w : World} {K : PySem.W.Frag} {mg : Str → Option Value} {base : Heap}
theorem ok_check_promise (T : Txt K mg) (U : TxtC K mg) : FnOk P w K mg base CX0 1 T.f_check_promise T.fd_check_promise ["value"] spChPm := by
  refine T.F_check_promise.ok sc_check_promise (fun vs H Q E h => ?_) (fun cdv A outer s H vs Q E hr h => ?_)
  · unfold spChPm at h
    obtain ⟨m, rfl, _⟩ := h
    rfl
  · unfold spChPm at h
    obtain ⟨m, rfl, q⟩ := h
    refine ⟨_, (pss_one (ps_if (pt_cmpR op_notIn_seq (pv 0) (pe_glob (v := .ref U.v_PROMISES) rfl U.m_PROMISES rfl) (by rfl)) (pss_one ps_never) pss_nil)), ?_⟩
    refine ⟨_, rfl, _, _, rfl, .inr (U.s_PROMISES H), rfl, flat_map _, false, ?_, iteF q⟩
    have z : inV (pmV m) ((["ending", "filled", "forward", "fresh", "linear", "mended", "moving", "quiet", "rest", "single"] : List Str).map V.str) = true := in_map (by cases m <;> simp [Pm.str])
    show V.bl (!inV _ _) = _
    rw [z]
    rfl
theorem ok_check_question (T : Txt K mg) (U : TxtC K mg) : FnOk P w K mg base CX0 4 T.f_check_question T.fd_check_question ["design", "world", "promise"] spChQ := by
  refine T.F_check_question.ok sc_check_question (fun vs H Q E h => ?_) (fun cdv A outer s H vs Q E hr h => ?_)
  · unfold spChQ at h
    obtain ⟨c, d, w, m, rfl, _⟩ := h
    rfl
  · unfold spChQ at h
    obtain ⟨c, d, w, m, rfl, hd, hw, O, q⟩ := h
    refine ⟨_, (pss_cons (ps_expr (pe_call (ok_check_design T U) (hr.mono (by decide)) rfl T.m_check_design T.F_check_design.kp (b_check_design T) .nil pass0 (pa_cons (pv 0) pa_nil)))
      (pss_cons (ps_expr (pe_call (ok_check_world T U) (hr.mono (by decide)) rfl T.m_check_world T.F_check_world.kp (b_check_world T) .nil pass0 (pa_cons (pv 1) pa_nil)))
      (pss_one (ps_expr (pe_call (ok_check_promise T U) (hr.mono (by decide)) rfl T.m_check_promise T.F_check_promise.kp (b_check_promise T) .nil pass0 (pa_cons (pv 2) pa_nil)))))), ?_⟩
    refine ⟨_, rfl, ?_⟩
    refine chd_i hd O ⟨_, rfl, ?_⟩
    refine chw_i hw O ⟨_, rfl, ?_⟩
    exact chpm_i q
end
end Ca

set_option Elab.async false
set_option linter.all false
set_option maxRecDepth 100000
set_option maxHeartbeats 4000000
namespace Ca
open PySem L2
/-! ### when an operation ended, whether it was under way -/
def POp.endedBy (q : POp) (n : Nat) : Bool := q.ended && decide (q.left.getD 0 < n)
def POp.underFrom (q : POp) (n : Nat) : Bool := q.under || decide (n ≤ q.left.getD 0)
/-- what has ended has a version; what is over noted when -/
structure QOk (q : POp) : Prop where
  ver : q.ended = true → ∃ v, q.version = some v
  left : q.under = false → ∃ x, q.left = some x
theorem under_ended {q : POp} (h : q.ended = true) : q.under = false := by
  unfold POp.under
  rw [h]
  simp
@[irreducible] def spEndedBy (C : Addr) : Sp := fun vs H Q _ => ∃ (a : Addr) (oas : List Addr) (o : POp) (n : Nat), vs = [.ref a, .int (n : Int)] ∧ OpAt C H oas a o ∧ QOk o ∧ Q (.bl (o.endedBy n)) H
@[irreducible] def spUnderFrom (C : Addr) : Sp := fun vs H Q _ => ∃ (a : Addr) (oas : List Addr) (o : POp) (n : Nat), vs = [.ref a, .int (n : Int)] ∧ OpAt C H oas a o ∧ QOk o ∧ Q (.bl (o.underFrom n)) H
theorem endedBy_i {C a : Addr} {H : Hp} {oas : List Addr} {o : POp} {n : Nat} {Q : VK} {E : XK} (h : OpAt C H oas a o) (k : QOk o) (q : Q (.bl (o.endedBy n)) H) : spEndedBy C [.ref a, .int (n : Int)] H Q E := by
  unfold spEndedBy
  exact ⟨a, oas, o, n, rfl, h, k, q⟩
theorem underFrom_i {C a : Addr} {H : Hp} {oas : List Addr} {o : POp} {n : Nat} {Q : VK} {E : XK} (h : OpAt C H oas a o) (k : QOk o) (q : Q (.bl (o.underFrom n)) H) : spUnderFrom C [.ref a, .int (n : Int)] H Q E := by
  unfold spUnderFrom
  exact ⟨a, oas, o, n, rfl, h, k, q⟩
section
variable {P : Program} {w : World} {K : PySem.W.Frag} {mg : Str → Option Value} {base : Heap}
theorem ok_Operation_had_ended_by (T : Txt K mg) : FnOk P w K mg base CX0 2 T.f_Operation_had_ended_by T.fd_Operation_had_ended_by ["self", "place"] (spEndedBy T.C_Operation) := by
  refine T.F_Operation_had_ended_by.ok sc_Operation_had_ended_by (fun vs H Q E h => ?_) (fun cdv A outer s H vs Q E hr h => ?_)
  · unfold spEndedBy at h
    obtain ⟨a, oas, o, n, rfl, _⟩ := h
    rfl
  · unfold spEndedBy at h
    obtain ⟨a, oas, o, n, rfl, O, k, q⟩ := h
    obtain ⟨dx, ta, h1, h2⟩ := id O
    refine ⟨_, (pss_one (ps_ret (pe_and (pe_meth0 (pv 0) T.c_Operation T.M_Operation_has_ended (ok_Operation_has_ended T) (hr.mono (by decide)) (b_Operation_has_ended T) .nil pass0) (pe_one (pe_cmpR op_lt (pe_fld (pv 0) rfl) (pv 1) (nomark _)))))), ?_⟩
    refine ⟨_, rfl, _, _, _, rfl, h1, ln_Operation_has_ended, ?_⟩
    refine ended_i O ⟨_, rfl, ?_⟩
    unfold POp.endedBy at q
    cases ee : o.ended with
    | false =>
      rw [ee] at q
      exact iteF q
    | true =>
      rw [ee] at q
      obtain ⟨x, ex⟩ := k.left (under_ended ee)
      have e2 : (opF oas o ta).lookup ("left" : Str) = some (.int (x : Int)) := by
        rw [l_Operation_left, ex]
        rfl
      refine iteT ⟨_, rfl, _, _, _, _, _, rfl, h1, T.c_Operation, T.a_Operation_left, e2, _, rfl, _, _, rfl, rfl, ?_⟩
      show Q (.bl (decide ((x : Int) < (n : Int)))) H
      rw [show decide ((x : Int) < (n : Int)) = (true && decide (o.left.getD 0 < n)) from by rw [ex]; simp]
      exact q
theorem ok_Operation_was_under_way_from (T : Txt K mg) : FnOk P w K mg base CX0 3 T.f_Operation_was_under_way_from T.fd_Operation_was_under_way_from ["self", "place"] (spUnderFrom T.C_Operation) := by
  refine T.F_Operation_was_under_way_from.ok sc_Operation_was_under_way_from (fun vs H Q E h => ?_) (fun cdv A outer s H vs Q E hr h => ?_)
  · unfold spUnderFrom at h
    obtain ⟨a, oas, o, n, rfl, _⟩ := h
    rfl
  · unfold spUnderFrom at h
    obtain ⟨a, oas, o, n, rfl, O, k, q⟩ := h
    obtain ⟨dx, ta, h1, h2⟩ := id O
    refine ⟨_, (pss_one (ps_ret (pe_or (pe_meth0 (pv 0) T.c_Operation T.M_Operation_is_under_way (ok_Operation_is_under_way T) (hr.mono (by decide)) (b_Operation_is_under_way T) .nil pass0) (pe_one (pe_cmpR op_ge (pe_fld (pv 0) rfl) (pv 1) (nomark _)))))), ?_⟩
    refine ⟨_, rfl, _, _, _, rfl, h1, ln_Operation_is_under_way, ?_⟩
    refine under_i O ⟨_, rfl, ?_⟩
    unfold POp.underFrom at q
    cases ee : o.under with
    | true =>
      rw [ee] at q
      exact iteT q
    | false =>
      rw [ee] at q
      obtain ⟨x, ex⟩ := k.left ee
      have e2 : (opF oas o ta).lookup ("left" : Str) = some (.int (x : Int)) := by
        rw [l_Operation_left, ex]
        rfl
      refine iteF ⟨_, rfl, _, _, _, _, _, rfl, h1, T.c_Operation, T.a_Operation_left, e2, _, rfl, _, _, rfl, rfl, ?_⟩
      show Q (.bl (decide ((x : Int) ≥ (n : Int)))) H
      rw [show decide ((x : Int) ≥ (n : Int)) = (false || decide (n ≤ o.left.getD 0)) from by rw [ex]; simp]
      exact q
end
/-! ### comprehensions over a play's operations -/
abbrev PRefs (A : PL) (t : PSt) (xs : List V) (os : List POp) : Prop := Paired (fun (x : V) (o : POp) => ∃ (k : Nat) (b : Addr), x = .ref b ∧ A.oas[k]? = some b ∧ t.ops[k]? = some o) xs os
theorem all_prefs {C D p : Addr} {c : Conf} {H : Hp} {A : PL} {t : PSt} (L : Play0 C D c H p A t) : PRefs A t (A.oas.map V.ref) t.ops := by
  have key : ∀ (as : List Addr) (os : List POp), as.length = os.length → (∀ (j : Nat) a o, as[j]? = some a → os[j]? = some o → ∃ k : Nat, A.oas[k]? = some a ∧ t.ops[k]? = some o) → PRefs A t (as.map V.ref) os := by
    intro as
    induction as with
    | nil =>
      intro os hl _
      cases os with
      | nil => exact .nil
      | cons _ _ => cases hl
    | cons a as ih =>
      intro os hl hg
      cases os with
      | nil => cases hl
      | cons o os =>
        obtain ⟨k, e1, e2⟩ := hg 0 a o rfl rfl
        exact .cons ⟨k, a, rfl, e1, e2⟩ (ih os (by simpa using hl) fun j x y p q => hg (j + 1) x y p q)
  exact key _ _ L.ops.len fun j a o e1 e2 => ⟨j, e1, e2⟩
section
variable {K : PySem.W.Frag} {a : Addr} {g : TG} {tt : TT} {te : TE} {vs : List Nat} {σ : St} {H : Hp} {D : Addr} {Qd : Hp → Prop} {j : Nat} {A : PL} {s : PSt} {xs : List V} {os : List POp}
theorem lcPs (p : POp → Bool) (nD : H D = none) (hs : SqL K H a xs) (X : PRefs A s xs os) (hl : xs.length ≤ 200) (hg : g = gName j) (hw : ∀ x, wipe ((wipe σ vs).set j (some x)) vs = wipe σ vs)
    (ht : ∀ (k : Nat) b o, A.oas[k]? = some b → s.ops[k]? = some o → o ∈ os → Evl.EvT tt ((wipe σ vs).set j (some (.ref b))) H (p o)) (he : ∀ b, Evl.Ev te ((wipe σ vs).set j (some (.ref b))) H (.ref b))
    (hq : ∀ H' acc, Evl.Ex H H' → H' D = some (.lst acc) → PRefs A s acc (os.filter p) → Qd H') :
    ∃ W : Nat → Nat → Hp → Prop, (∃ m, W 0 m (upd H D (.lst []))) ∧ ∀ i m H', W i m H' →
      ((Itl K a).stop i H' ∧ Qd H') ∨ ((Itl K a).go i H' ∧ ∃ Nx : Hp → Prop, (∀ H', Nx H' → ∃ m', m' < m ∧ W (i + 1) m' H') ∧ ∀ x H'', (Itl K a).yld i H' x H'' → g x (wipe σ vs) H'' fun σ2 H2 => wipe σ2 vs = wipe σ vs ∧ tt σ2 H2 fun b H3 =>
        if b = true then te σ2 H3 fun y H4 => ∃ acc, H4 D = some (.lst acc) ∧ acc.length < sizeLine ∧ Nx (upd H4 D (.lst (acc ++ [y]))) else Nx H3) := by
  subst hg
  refine lc_list (xs := xs) (fun i H' => ∃ acc, Evl.Ex H H' ∧ H' D = some (.lst acc) ∧ PRefs A s acc ((os.take i).filter p)) ⟨[], Evl.Ex.new nD, upd_same, .nil⟩ (fun i H' _ ⟨_, e, _⟩ => Evl.ex_l e hs) (fun i x H' hi ⟨acc, e, hD, R⟩ => ⟨?_, ?_⟩) fun H' ⟨acc, e, hD, R⟩ => ?_
  · exact hw x
  · obtain ⟨o, eo, k, b, rfl, ek, es⟩ := pget X hi
    have h3 : os.take (i + 1) = os.take i ++ [o] := by
      rw [List.take_succ, eo]
      rfl
    have al : acc.length ≤ 200 := by
      rw [R.length]
      refine Nat.le_trans (List.length_filter_le _ _) ?_
      rw [List.length_take, ← X.length]
      omega
    refine ht k b o ek es (List.mem_of_getElem? eo) H' e _ fun H2 e2 => ?_
    cases hp : p o with
    | true =>
      show te _ H2 _
      refine he b H2 (e.trans e2) _ fun H3 e3 => ⟨acc, e3 _ _ (e2 _ _ hD), Nat.lt_of_le_of_lt al (by decide), acc ++ [.ref b], Evl.Ex.mut ((e.trans e2).trans e3) nD, upd_same, ?_⟩
      rw [h3, List.filter_append, List.filter_cons, if_pos hp]
      exact Paired.app R (.cons ⟨k, b, rfl, ek, es⟩ .nil)
    | false =>
      show ∃ acc, _
      refine ⟨acc, e.trans e2, e2 _ _ hD, ?_⟩
      rw [h3, List.filter_append, List.filter_cons, if_neg (by rw [hp]; decide)]
      simpa using R
  · rw [X.length, List.take_length] at R
    exact hq H' acc e hD R
/-- a value of each -/
theorem lcPsM (f : POp → V) (nD : H D = none) (hs : SqL K H a xs) (X : PRefs A s xs os) (hl : xs.length ≤ 200) (hg : g = gName j) (ht : tt = tYes) (hw : ∀ x, wipe ((wipe σ vs).set j (some x)) vs = wipe σ vs)
    (he : ∀ (k : Nat) b o, A.oas[k]? = some b → s.ops[k]? = some o → o ∈ os → Evl.Ev te ((wipe σ vs).set j (some (.ref b))) H (f o))
    (hq : ∀ H', Evl.Ex H H' → H' D = some (.lst (os.map f)) → Qd H') :
    ∃ W : Nat → Nat → Hp → Prop, (∃ m, W 0 m (upd H D (.lst []))) ∧ ∀ i m H', W i m H' →
      ((Itl K a).stop i H' ∧ Qd H') ∨ ((Itl K a).go i H' ∧ ∃ Nx : Hp → Prop, (∀ H', Nx H' → ∃ m', m' < m ∧ W (i + 1) m' H') ∧ ∀ x H'', (Itl K a).yld i H' x H'' → g x (wipe σ vs) H'' fun σ2 H2 => wipe σ2 vs = wipe σ vs ∧ tt σ2 H2 fun b H3 =>
        if b = true then te σ2 H3 fun y H4 => ∃ acc, H4 D = some (.lst acc) ∧ acc.length < sizeLine ∧ Nx (upd H4 D (.lst (acc ++ [y]))) else Nx H3) := by
  subst hg
  subst ht
  refine lc_list (xs := xs) (fun i H' => Evl.Ex H H' ∧ H' D = some (.lst ((os.take i).map f))) ⟨Evl.Ex.new nD, upd_same⟩ (fun i H' _ ⟨e, _⟩ => Evl.ex_l e hs) (fun i x H' hi ⟨e, hD⟩ => ⟨?_, ?_⟩) fun H' ⟨e, hD⟩ => ?_
  · exact hw x
  · obtain ⟨o, eo, k, b, rfl, ek, es⟩ := pget X hi
    have h3 : os.take (i + 1) = os.take i ++ [o] := by
      rw [List.take_succ, eo]
      rfl
    have al : ((os.take i).map f).length ≤ 200 := by
      rw [List.length_map, List.length_take, ← X.length]
      omega
    have mo := List.mem_of_getElem? eo
    show te _ H' _
    refine he k b o ek es mo H' e _ fun H3 e3 => ⟨_, e3 _ _ hD, Nat.lt_of_le_of_lt al (by decide), Evl.Ex.mut (e.trans e3) nD, ?_⟩
    rw [upd_same, h3, List.map_append]
    rfl
  · rw [X.length, List.take_length] at hD
    exact hq H' e hD
end
end Ca

set_option Elab.async false
set_option linter.all false
set_option maxRecDepth 100000
set_option maxHeartbeats 4000000
namespace Ca
open PySem L2
/-- some triple of words is drawn; the row is turned, some lists are made -/
@[irreducible] def spTriple (K : PySem.W.Frag) (C1 C2 C3 : Str → Prop) : Sp := fun vs H Q _ => ∃ (H0 : Hp) (a r : Addr), vs = [.ref r] ∧ RowAt K H0 a r H ∧
  ∀ (p : Addr) (H' : Hp) (x y z : Str), C1 x → C2 y → C3 z → RowAt K H0 a r H' → Keep (fun b => b = r) H H' → H p = none → H' p = some (.tup [.str x, .str y, .str z]) → Q (.ref p) H'
section
variable {P : Program} {w : World} {K : PySem.W.Frag} {mg : Str → Option Value} {base : Heap}
theorem ok_Lworld (T : Txt K mg) : FnOk P w K mg base CX0 3 T.f_Lworld T.fd_Lworld ["row"] (spTriple K (fun x => x = "primary" ∨ x = "replica") (fun x => x = "evicts" ∨ x = "keeps") (fun x => x = "finishes" ∨ x = "stops")) := by
  refine T.F_Lworld.ok sc_Lworld (fun vs H Q E h => ?_) (fun cdv A outer s H vs Q E hr h => ?_)
  · unfold spTriple at h
    obtain ⟨H0, a, r, rfl, _⟩ := h
    rfl
  · unfold spTriple at h
    obtain ⟨H0, a, r, rfl, R, k⟩ := h
    refine ⟨_, (pss_one (ps_ret (pe_tup (pa_cons (pe_call (ok_Lpick T) (hr.mono (by decide)) rfl T.m_Lpick T.F_Lpick.kp (b_Lpick T) .nil pass0 (pa_cons (pv 0) (pa_cons (pe_lst (pa_cons pe_str (pa_cons pe_str pa_nil))) pa_nil))) (pa_cons (pe_call (ok_Lpick T) (hr.mono (by decide)) rfl T.m_Lpick T.F_Lpick.kp (b_Lpick T) .nil pass0 (pa_cons (pv 0) (pa_cons (pe_lst (pa_cons pe_str (pa_cons pe_str (pa_cons pe_str pa_nil)))) pa_nil))) (pa_cons (pe_call (ok_Lpick T) (hr.mono (by decide)) rfl T.m_Lpick T.F_Lpick.kp (b_Lpick T) .nil pass0 (pa_cons (pv 0) (pa_cons (pe_lst (pa_cons pe_str (pa_cons pe_str (pa_cons pe_str pa_nil)))) pa_nil))) pa_nil)))))), ?_⟩
    refine ⟨_, rfl, (by show 2 ≤ sizeLine; decide), fun l1 n1 => ?_⟩
    refine pick_lst R n1 [.str "primary", .str "replica"] (by simp) (by show 2 ≤ 1000; decide) fun x1 H1 m1 R1 K1 => ?_
    refine ⟨_, rfl, (by show 3 ≤ sizeLine; decide), fun l2 n2 => ?_⟩
    refine pick_lst R1 n2 [.str "evicts", .str "keeps", .str "keeps"] (by simp) (by show 3 ≤ 1000; decide) fun x2 H2 m2 R2 K2 => ?_
    refine ⟨_, rfl, (by show 3 ≤ sizeLine; decide), fun l3 n3 => ?_⟩
    refine pick_lst R2 n3 [.str "finishes", .str "finishes", .str "stops"] (by simp) (by show 3 ≤ 1000; decide) fun x3 H3 m3 R3 K3 => ?_
    have K3 := (K1.trans K2).trans K3
    refine ⟨(by show 3 ≤ sizeLine; decide), fun p np => ?_⟩
    have q1 : ∃ x, x1 = V.str x ∧ (x = "primary" ∨ x = "replica") := by
      simp only [List.mem_cons, List.not_mem_nil, or_false] at m1
      rcases m1 with rfl | rfl <;> exact ⟨_, rfl, by simp⟩
    have q2 : ∃ x, x2 = V.str x ∧ (x = "evicts" ∨ x = "keeps") := by
      simp only [List.mem_cons, List.not_mem_nil, or_false] at m2
      rcases m2 with rfl | rfl | rfl <;> exact ⟨_, rfl, by simp⟩
    have q3 : ∃ x, x3 = V.str x ∧ (x = "finishes" ∨ x = "stops") := by
      simp only [List.mem_cons, List.not_mem_nil, or_false] at m3
      rcases m3 with rfl | rfl | rfl <;> exact ⟨_, rfl, by simp⟩
    obtain ⟨x, rfl, c1⟩ := q1
    obtain ⟨y, rfl, c2⟩ := q2
    obtain ⟨z, rfl, c3⟩ := q3
    exact k p _ x y z c1 c2 c3 (R3.new np) (K3.new np) (K3.free np (R3.ne np)) upd_same
theorem ok_Ldesign (T : Txt K mg) : FnOk P w K mg base CX0 3 T.f_Ldesign T.fd_Ldesign ["row"] (spTriple K (fun x => x ∈ pathsL) (fun x => x ∈ guardsL) (fun x => x ∈ flightsL)) := by
  refine T.F_Ldesign.ok sc_Ldesign (fun vs H Q E h => ?_) (fun cdv A outer s H vs Q E hr h => ?_)
  · unfold spTriple at h
    obtain ⟨H0, a, r, rfl, _⟩ := h
    rfl
  · unfold spTriple at h
    obtain ⟨H0, a, r, rfl, R, k⟩ := h
    refine ⟨_, (pss_cons (ps_set (i := 1) sc_Ldesign.nd rfl (Or.inl rfl) (pe_call (ok_Lpick T) (hr.mono (by decide)) rfl T.m_Lpick T.F_Lpick.kp (b_Lpick T) .nil pass0 (pa_cons (pv 0) (pa_cons (pe_lst (pa_cons pe_str (pa_cons pe_str (pa_cons pe_str (pa_cons pe_str (pa_cons pe_str (pa_cons pe_str (pa_cons pe_str (pa_cons pe_str (pa_cons pe_str pa_nil)))))))))) pa_nil))))
      (pss_one (ps_ret (pe_tup (pa_cons (pe_call (ok_Lpick T) (hr.mono (by decide)) rfl T.m_Lpick T.F_Lpick.kp (b_Lpick T) .nil pass0 (pa_cons (pv 0) (pa_cons (pe_op op_cat (pe_call0 (ok_Lpaths T) (hr.mono (by decide)) rfl T.m_Lpaths T.F_Lpaths.kp (b_Lpaths T) .nil pass0) (pe_lst (pa_cons pe_str (pa_cons pe_str pa_nil)))) pa_nil))) (pa_cons (pv 1) (pa_cons (pe_call (ok_Lpick T) (hr.mono (by decide)) rfl T.m_Lpick T.F_Lpick.kp (b_Lpick T) .nil pass0 (pa_cons (pv 0) (pa_cons (pe_lst (pa_cons pe_str (pa_cons pe_str (pa_cons pe_str pa_nil)))) pa_nil))) pa_nil))))))), ?_⟩
    refine ⟨_, rfl, (by show 9 ≤ sizeLine; decide), fun l1 n1 => ?_⟩
    refine pick_lst R n1 [.str "always", .str "empty", .str "mark", .str "mark", .str "never", .str "newer", .str "newer", .str "token", .str "token"] (by simp) (by show 9 ≤ 1000; decide) fun x1 H1 m1 R1 K1 => ?_
    refine ⟨_, rfl, ?_⟩
    refine paths_i fun l2 n2 => ?_
    refine ⟨(by show 2 ≤ sizeLine; decide), fun l3 n3 => ?_⟩
    have R2 := R1.new (o := .lst [.str "drop store", .str "drop store drop", .str "store", .str "store drop", .str "store set"]) n2
    have K2 := K1.new (o := .lst [.str "drop store", .str "drop store drop", .str "store", .str "store drop", .str "store set"]) n2
    have h23 : (upd (upd H1 l2 (.lst [.str "drop store", .str "drop store drop", .str "store", .str "store drop", .str "store set"])) l3 (.lst [.str "store drop", .str "store set"])) l2 = some (.lst [.str "drop store", .str "drop store drop", .str "store", .str "store drop", .str "store set"]) := by
      rw [upd_ne (ne_of_none upd_same n3)]
      exact upd_same
    have R3 := R2.new (o := .lst [.str "store drop", .str "store set"]) n3
    have K3 := K2.new (o := .lst [.str "store drop", .str "store set"]) n3
    refine ⟨_, _, _, _, rfl, rfl, h23, upd_same, (by show 7 ≤ sizeLine; decide), fun l4 n4 => ?_⟩
    refine pick_lst R3 n4 ([.str "drop store", .str "drop store drop", .str "store", .str "store drop", .str "store set"] ++ [.str "store drop", .str "store set"]) (by simp) (by show 7 ≤ 1000; decide) fun x2 H4 m2 R4 K4 => ?_
    refine ⟨_, rfl, _, rfl, (by show 3 ≤ sizeLine; decide), fun l5 n5 => ?_⟩
    refine pick_lst R4 n5 [.str "alone", .str "alone", .str "shared"] (by simp) (by show 3 ≤ 1000; decide) fun x3 H5 m3 R5 K5 => ?_
    have K5 := (K3.trans K4).trans K5
    refine ⟨(by show 3 ≤ sizeLine; decide), fun p np => ?_⟩
    have q1 : ∃ x, x1 = V.str x ∧ x ∈ guardsL := by
      simp only [List.mem_cons, List.not_mem_nil, or_false] at m1
      rcases m1 with rfl | rfl | rfl | rfl | rfl | rfl | rfl | rfl | rfl <;> exact ⟨_, rfl, by simp [guardsL]⟩
    have q2 : ∃ x, x2 = V.str x ∧ x ∈ pathsL := by
      simp only [List.mem_append, List.mem_cons, List.not_mem_nil, or_false] at m2
      rcases m2 with (rfl | rfl | rfl | rfl | rfl) | rfl | rfl <;> exact ⟨_, rfl, by simp [pathsL]⟩
    have q3 : ∃ x, x3 = V.str x ∧ x ∈ flightsL := by
      simp only [List.mem_cons, List.not_mem_nil, or_false] at m3
      rcases m3 with rfl | rfl | rfl <;> exact ⟨_, rfl, by simp [flightsL]⟩
    obtain ⟨x, rfl, c1⟩ := q1
    obtain ⟨y, rfl, c2⟩ := q2
    obtain ⟨z, rfl, c3⟩ := q3
    exact k p _ y x z c2 c1 c3 (R5.new np) (K5.new np) (K5.free np (R5.ne np)) upd_same
end
end Ca

set_option Elab.async false
set_option linter.all false
set_option maxRecDepth 100000
set_option maxHeartbeats 4000000
namespace Ca
open PySem L2
theorem triple_i {K : PySem.W.Frag} {C1 C2 C3 : Str → Prop} {H0 H : Hp} {a r : Addr} {Q : VK} {E : XK} (R : RowAt K H0 a r H) (q : ∀ (p : Addr) (H' : Hp) (x y z : Str), C1 x → C2 y → C3 z → RowAt K H0 a r H' → Keep (fun b => b = r) H H' → H p = none → H' p = some (.tup [.str x, .str y, .str z]) → Q (.ref p) H') :
    spTriple K C1 C2 C3 [.ref r] H Q E := by
  unfold spTriple
  exact ⟨H0, a, r, rfl, R, q⟩
theorem past_at {c : Conf} {H : Hp} {h : Addr} {A : LA} {s : HS} (L : LawAt c H h A s) : EvsAt H (A.eas.map V.ref) s.past := by
  have key : ∀ (n : Nat) (as : List Addr) (es : List Ev), as.length = es.length → (∀ (i : Nat) (a : Addr) (e : Ev), as[i]? = some a → es[i]? = some e → H a = some (.tup (evV e))) → EvsAt H (as.map V.ref) es := by
    intro n as
    induction as with
    | nil =>
      intro es hl _
      cases es with
      | nil => exact .nil
      | cons _ _ => cases hl
    | cons a as ih =>
      intro es hl hg
      cases es with
      | nil => cases hl
      | cons e es => exact .cons ⟨a, rfl, hg 0 a e rfl rfl⟩ (ih es (by simpa using hl) fun i x y p q => hg (i + 1) x y p q)
  exact key 0 _ _ L.el L.eg
theorem dt_str {H : Hp} {n : Nat} {x : Str} : Dt H n (.str x) (.str x) := by cases n <;> exact rfl
theorem dt_int {H : Hp} {n : Nat} {x : Int} : Dt H n (.int x) (.int x) := by cases n <;> exact rfl
def onD : Option Nat → PyData
  | none => .none
  | some k => .int (k : Int)
theorem dt_on {H : Hp} {n : Nat} {x : Option Nat} : Dt H n (on x) (onD x) := by cases x <;> cases n <;> first | exact trivial | exact rfl
theorem ev_dt {H : Hp} {t : Addr} {e : Ev} {n : Nat} (h : H t = some (.tup (evV e))) : Dt H (n + 1) (.ref t) (evD' e) := by
  obtain ⟨w, k⟩ := e
  cases k with
  | none => exact (show ∃ xs, _ from ⟨_, h, by show 1 ≤ 1000; decide, .cons dt_str .nil⟩)
  | some k => exact (show ∃ xs, _ from ⟨_, h, by show 2 ≤ 1000; decide, .cons dt_str (.cons dt_int .nil)⟩)
theorem evs_dt {H : Hp} {n : Nat} : ∀ {xs : List V} {es : List Ev}, EvsAt H xs es → Paired (Dt H (n + 1)) xs (es.map evD')
  | _, _, .nil => .nil
  | _, _, .cons ⟨t, e, h⟩ r => by
    subst e
    exact .cons (ev_dt h) (evs_dt r)
theorem tup_dt {H : Hp} {n : Nat} {p : Addr} {xs : List V} {ds : List PyData} (h : H p = some (.tup xs)) (l : xs.length ≤ 1000) (r : Paired (Dt H n) xs ds) : Dt H (n + 1) (.ref p) (.tuple ds) := (show ∃ xs, _ from ⟨xs, h, l, r⟩)
end Ca

set_option Elab.async false
set_option linter.all false
set_option maxRecDepth 100000
set_option maxHeartbeats 4000000
namespace Ca
open PySem L2
/-- the law's own promise: True for every script -/
@[irreducible] def spLaw (K : PySem.W.Frag) : Sp := fun vs H Q _ => ∃ (a : Addr) (ns : List Int), vs = [.ref a] ∧ SqL K H a (ns.map V.int) ∧ ∀ H', Q (.bl true) H'
end Ca

set_option Elab.async false
set_option linter.all false
set_option maxRecDepth 100000
set_option maxHeartbeats 4000000
namespace Ca
/-! ### orders of reads and writes -/
structure XOp where
  begun : Nat
  over : Option Nat
  wr : Bool
  ver : Nat
def XOp.before (x y : XOp) : Bool := match x.over with
  | none => false
  | some e => decide (e < y.begun)
/-- whether operations can be put in an order behind a version -/
def ordB : Nat → List XOp → Nat → Bool
  | _, [], _ => true
  | 0, _ :: _, _ => false
  | n + 1, x :: l, v => (List.range (l.length + 1)).any fun i => match (x :: l)[i]? with
    | none => false
    | some o => ((x :: l).eraseIdx i).all (fun y => !y.before o) && (o.wr || decide (o.ver = v)) && ordB n ((x :: l).eraseIdx i) o.ver
theorem ordB_step {n : Nat} {l : List XOp} {v : Nat} (ne : l ≠ []) : ordB (n + 1) l v = true ↔ ∃ i o, l[i]? = some o ∧ (∀ y ∈ l.eraseIdx i, y.before o = false) ∧ (o.wr = true ∨ o.ver = v) ∧ ordB n (l.eraseIdx i) o.ver = true := by
  cases l with
  | nil => exact absurd rfl ne
  | cons x l =>
    show ((List.range (l.length + 1)).any _) = true ↔ _
    rw [List.any_eq_true]
    constructor
    · rintro ⟨i, hi, h⟩
      cases eo : (x :: l)[i]? with
      | none => rw [eo] at h; cases h
      | some o =>
        rw [eo] at h
        have h : (((x :: l).eraseIdx i).all (fun y => !y.before o) && (o.wr || decide (o.ver = v)) && ordB n ((x :: l).eraseIdx i) o.ver) = true := h
        rw [Bool.and_eq_true, Bool.and_eq_true, List.all_eq_true, Bool.or_eq_true, decide_eq_true_eq] at h
        exact ⟨i, o, eo, fun y hy => by simpa using h.1.1 y hy, h.1.2, h.2⟩
    · rintro ⟨i, o, eo, h1, h2, h3⟩
      refine ⟨i, List.mem_range.mpr (List.getElem?_eq_some_iff.mp eo).1, ?_⟩
      rw [eo]
      show (((x :: l).eraseIdx i).all (fun y => !y.before o) && (o.wr || decide (o.ver = v)) && ordB n ((x :: l).eraseIdx i) o.ver) = true
      rw [Bool.and_eq_true, Bool.and_eq_true, List.all_eq_true, Bool.or_eq_true, decide_eq_true_eq]
      exact ⟨⟨fun y hy => by rw [h1 y hy]; rfl, h2⟩, h3⟩
/-- no two versions bar each other; one stands ahead of all -/
structure NoTwo (v : Nat) (l : List XOp) : Prop where
  head : ∀ y ∈ l, ∀ z ∈ l, z.ver = v → ¬ y.ver = v → y.before z = false
  two : ∀ x1 ∈ l, ∀ y1 ∈ l, ∀ y2 ∈ l, ∀ x2 ∈ l, x1.ver = x2.ver → y1.ver = y2.ver → ¬ x1.ver = y1.ver → x1.before y1 = true → y2.before x2 = true → False
/-- a version has one write at most, none the version that stands ahead of all -/
structure OneW (v : Nat) (l : List XOp) : Prop where
  none_ : ∀ x ∈ l, x.wr = true → ¬ x.ver = v
  one : ∀ (i j : Nat) x y, l[i]? = some x → l[j]? = some y → x.wr = true → y.wr = true → x.ver = y.ver → i = j
theorem mem_erase {l : List XOp} {i : Nat} {x : XOp} (h : x ∈ l.eraseIdx i) : x ∈ l := List.mem_of_mem_eraseIdx h
theorem mem_split {l : List XOp} {i : Nat} {o y : XOp} (eo : l[i]? = some o) (h : y ∈ l) : y = o ∨ y ∈ l.eraseIdx i := by
  obtain ⟨j, hj, e⟩ := List.getElem_of_mem h
  have ej : l[j]? = some y := by rw [List.getElem?_eq_getElem hj, e]
  by_cases hij : j = i
  · subst hij
    rw [ej] at eo
    cases eo
    exact .inl rfl
  · refine .inr ?_
    rw [List.mem_eraseIdx_iff_getElem?]
    exact ⟨j, hij, ej⟩
theorem erase_at {l : List XOp} {i j : Nat} {x : XOp} (h : (l.eraseIdx i)[j]? = some x) : ∃ j', ¬ j' = i ∧ l[j']? = some x ∧ j' = if j < i then j else j + 1 := by
  rw [List.getElem?_eraseIdx] at h
  split at h
  · rename_i z; exact ⟨j, by omega, h, by rw [if_pos z]⟩
  · rename_i z; exact ⟨j + 1, by omega, h, by rw [if_neg z]⟩
theorem OneW.erase {l : List XOp} {v i : Nat} {o : XOp} (h : OneW v l) (eo : l[i]? = some o) (ho : o.wr = true ∨ o.ver = v) : OneW o.ver (l.eraseIdx i) := by
  refine ⟨fun x hx wx e => ?_, fun a b x y ha hb wx wy e => ?_⟩
  · obtain ⟨j, hj, ej⟩ := List.getElem_of_mem hx
    have ej : (l.eraseIdx i)[j]? = some x := by rw [List.getElem?_eq_getElem hj, ej]
    obtain ⟨j', n1, e1, _⟩ := erase_at ej
    rcases ho with wo | eo'
    · exact n1 (h.one j' i x o e1 eo wx wo e)
    · exact h.none_ x (mem_erase hx) wx (e.trans eo')
  · obtain ⟨a', _, ea, za⟩ := erase_at ha
    obtain ⟨b', _, eb, zb⟩ := erase_at hb
    have z := h.one a' b' x y ea eb wx wy e
    rw [za, zb] at z
    split at z <;> split at z <;> omega
/-- a version without its write does not come again -/
theorem ord_none {u : Nat} : ∀ {n : Nat} {l : List XOp} {v : Nat}, ordB n l v = true → ¬ v = u → (∀ x ∈ l, x.wr = true → ¬ x.ver = u) → ∀ x ∈ l, ¬ x.ver = u
  | _, [], _, _, _, _, x, hx => by cases hx
  | 0, _ :: _, _, h, _, _, _, _ => by cases h
  | n + 1, a :: l, v, h, nv, nw, x, hx => by
    obtain ⟨i, o, eo, _, h2, h3⟩ := (ordB_step (by simp)).mp h
    have mo : o ∈ a :: l := List.mem_of_getElem? eo
    have ou : ¬ o.ver = u := fun z => by
      rcases h2 with y | y
      · exact nw o mo y z
      · exact nv (y.symm.trans z)
    rcases mem_split eo hx with z | z
    · rw [z]; exact ou
    · exact ord_none h3 ou (fun y hy => nw y (mem_erase hy)) x z
/-- an order shows that no two bar each other -/
theorem ord_no : ∀ {n : Nat} {l : List XOp} {v : Nat}, ordB n l v = true → OneW v l → NoTwo v l
  | _, [], _, _, _ => ⟨fun y hy => (by cases hy), fun y hy => (by cases hy)⟩
  | 0, _ :: _, _, h, _ => by cases h
  | n + 1, a :: l, v, h, W => by
    obtain ⟨i, o, eo, h1, h2, h3⟩ := (ordB_step (by simp)).mp h
    have W' := W.erase eo h2
    have N := ord_no h3 W'
    have sp : ∀ {y : XOp}, y ∈ a :: l → y = o ∨ y ∈ (a :: l).eraseIdx i := fun hy => mem_split eo hy
    -- nothing else ahead of the first
    have first : ∀ y ∈ a :: l, ¬ y.ver = o.ver → y.before o = false := fun y hy n => by
      rcases sp hy with z | z
      · rw [z] at n; exact absurd rfl n
      · exact h1 y z
    have noV : ¬ o.ver = v → ∀ x ∈ (a :: l).eraseIdx i, ¬ x.ver = v := fun n => ord_none h3 n fun x hx => W.none_ x (mem_erase hx)
    -- of the first's version
    have key : ∀ y ∈ a :: l, ∀ z ∈ a :: l, z.ver = o.ver → ¬ y.ver = o.ver → y.before z = false := fun y hy z hz ez ny => by
      rcases sp hz with e | e
      · rw [e]; exact first y hy ny
      · rcases sp hy with f | f
        · rw [f] at ny; exact absurd rfl ny
        · exact N.head y f z e ez ny
    refine ⟨fun y hy z hz ez ny => ?_, fun x1 m1 y1 m2 y2 m3 x2 m4 e1 e2 ne b1 b2 => ?_⟩
    · by_cases ho : o.ver = v
      · rw [← ho] at ez ny
        exact key y hy z hz ez ny
      · rcases sp hz with e | e
        · rw [e] at ez; exact absurd ez ho
        · exact absurd ez (noV ho z e)
    · by_cases hx : x1.ver = o.ver
      · have z := key y2 m3 x2 m4 (e1.symm.trans hx) (fun q => ne (hx.trans (q.symm.trans e2.symm)))
        rw [b2] at z
        cases z
      · by_cases hy : y1.ver = o.ver
        · have z := key x1 m1 y1 m2 hy hx
          rw [b1] at z
          cases z
        · have g : ∀ {y : XOp}, y ∈ a :: l → ¬ y.ver = o.ver → y ∈ (a :: l).eraseIdx i := fun hy' n => by
            rcases sp hy' with z | z
            · rw [z] at n; exact absurd rfl n
            · exact z
          exact N.two x1 (g m1 hx) y1 (g m2 hy) y2 (g m3 (fun q => hy (e2.trans q))) x2 (g m4 (fun q => hx (e1.trans q))) e1 e2 ne b1 b2

/-! ### an order, if no two bar each other -/
structure Fit (v : Nat) (l : List XOp) : Prop where
  self : ∀ x ∈ l, ∀ e, x.over = some e → x.begun ≤ e
  wr : ∀ r ∈ l, ¬ r.ver = v → r.wr = false → ∃ w ∈ l, w.wr = true ∧ w.ver = r.ver ∧ r.before w = false
theorem least {α : Type} (f : α → Nat) : ∀ {l : List α}, l ≠ [] → ∃ x ∈ l, ∀ y ∈ l, f x ≤ f y
  | [], h => absurd rfl h
  | [x], _ => ⟨x, List.mem_cons_self .., fun y hy => by rw [List.mem_singleton.mp hy]; exact Nat.le_refl _⟩
  | x :: z :: l, _ => by
    obtain ⟨m, hm, h⟩ := least f (l := z :: l) (by simp)
    by_cases hx : f x ≤ f m
    · refine ⟨x, List.mem_cons_self .., fun y hy => ?_⟩
      rcases List.mem_cons.mp hy with e | e
      · rw [e]; exact Nat.le_refl _
      · exact Nat.le_trans hx (h y e)
    · refine ⟨m, List.mem_cons_of_mem _ hm, fun y hy => ?_⟩
      rcases List.mem_cons.mp hy with e | e
      · rw [e]; omega
      · exact h y e
/-- a version that no other has to stand ahead of -/
theorem source {v : Nat} {l : List XOp} (ne : l ≠ []) (N : NoTwo v l) : ∃ x ∈ l, ∀ y ∈ l, ∀ z ∈ l, z.ver = x.ver → ¬ y.ver = x.ver → y.before z = false := by
  by_cases hs : ∃ x ∈ l, x.over ≠ none
  · obtain ⟨x0, hx0, ho⟩ := hs
    have ne2 : l.filter (fun x => x.over.isSome) ≠ [] := fun z => by
      have : x0 ∈ l.filter (fun x => x.over.isSome) := List.mem_filter.mpr ⟨hx0, by cases e : x0.over with | none => exact absurd e ho | some _ => rfl⟩
      rw [z] at this
      cases this
    obtain ⟨m, hm, least⟩ := least (fun x : XOp => x.over.getD 0) ne2
    obtain ⟨ml, mo⟩ := List.mem_filter.mp hm
    obtain ⟨em, hem⟩ := Option.isSome_iff_exists.mp mo
    by_cases hsrc : ∀ y ∈ l, ∀ z ∈ l, z.ver = m.ver → ¬ y.ver = m.ver → y.before z = false
    · exact ⟨m, ml, hsrc⟩
    · have : ∃ y ∈ l, ∃ z ∈ l, z.ver = m.ver ∧ ¬ y.ver = m.ver ∧ y.before z = true := by
        refine Classical.byContradiction fun no => hsrc fun y hy z hz ez ny => ?_
        cases hb : y.before z with
        | false => rfl
        | true => exact absurd ⟨y, hy, z, hz, ez, ny, hb⟩ no
      obtain ⟨y, hy, z, hz, ez, ny, hb⟩ := this
      refine ⟨y, hy, fun p hp q hq eq np => ?_⟩
      cases hpq : p.before q with
      | false => rfl
      | true =>
        have mq : m.before q = true := by
          unfold XOp.before at hpq ⊢
          cases ep : p.over with
          | none => rw [ep] at hpq; cases hpq
          | some e =>
            rw [ep] at hpq
            have z1 : e < q.begun := of_decide_eq_true hpq
            have z2 := least p (List.mem_filter.mpr ⟨hp, by rw [ep]; rfl⟩)
            rw [hem, ep] at z2
            have z2 : em ≤ e := z2
            rw [hem]
            exact decide_eq_true (by omega)
        exact (N.two m ml q hq y hy z hz ez.symm eq (fun e => ny (eq.symm.trans e.symm)) mq hb).elim
  · obtain ⟨x, l', rfl⟩ : ∃ x l', l = x :: l' := by
      cases l with
      | nil => exact absurd rfl ne
      | cons x l' => exact ⟨x, l', rfl⟩
    refine ⟨x, List.mem_cons_self .., fun y hy z hz _ _ => ?_⟩
    unfold XOp.before
    cases e : y.over with
    | none => rfl
    | some k => exact absurd ⟨y, hy, by rw [e]; simp⟩ hs
theorem NoTwo.erase {v i : Nat} {l : List XOp} (N : NoTwo v l) : NoTwo v (l.eraseIdx i) :=
  ⟨fun y hy z hz => N.head y (mem_erase hy) z (mem_erase hz), fun x1 a y1 b y2 d x2 e => N.two x1 (mem_erase a) y1 (mem_erase b) y2 (mem_erase d) x2 (mem_erase e)⟩
theorem no_ord : ∀ {n : Nat} {l : List XOp} {v : Nat}, l.length ≤ n → NoTwo v l → OneW v l → Fit v l → ordB n l v = true
  | 0, [], _, _, _, _, _ => rfl
  | _ + 1, [], _, _, _, _, _ => rfl
  | 0, _ :: _, _, h, _, _, _ => absurd h (by simp)
  | n + 1, a :: l, v, hl, N, W, F => by
    rw [ordB_step (by simp)]
    have len : ∀ {i : Nat} {o : XOp}, (a :: l)[i]? = some o → ((a :: l).eraseIdx i).length ≤ n := fun e => by
      have := (List.getElem?_eq_some_iff.mp e).1
      rw [List.length_eraseIdx, if_pos this]
      have : (a :: l).length ≤ n + 1 := hl
      omega
    have at_ : ∀ {o : XOp}, o ∈ a :: l → ∃ i, (a :: l)[i]? = some o := fun h => by
      obtain ⟨i, hi, e⟩ := List.getElem_of_mem h
      exact ⟨i, by rw [List.getElem?_eq_getElem hi, e]⟩
    by_cases hv : ∃ x ∈ a :: l, x.ver = v
    · obtain ⟨x0, hx0, ev0⟩ := hv
      have ne : (a :: l).filter (fun x => decide (x.ver = v)) ≠ [] := fun z => by
        have : x0 ∈ (a :: l).filter (fun x => decide (x.ver = v)) := List.mem_filter.mpr ⟨hx0, decide_eq_true ev0⟩
        rw [z] at this
        cases this
      obtain ⟨o, ho, least⟩ := least (fun x : XOp => x.begun) ne
      obtain ⟨om, ov⟩ := List.mem_filter.mp ho
      have ov := of_decide_eq_true ov
      obtain ⟨i, eo⟩ := at_ om
      have W' := W.erase eo (.inr ov)
      rw [ov] at W'
      refine ⟨i, o, eo, fun y hy => ?_, .inr ov, ?_⟩
      · by_cases ey : y.ver = v
        · unfold XOp.before
          cases e : y.over with
          | none => rfl
          | some k =>
            have z1 := F.self y (mem_erase hy) k e
            have z2 := least y (List.mem_filter.mpr ⟨mem_erase hy, decide_eq_true ey⟩)
            exact decide_eq_false (by omega)
        · exact N.head y (mem_erase hy) o om ov ey
      · rw [ov]
        refine no_ord (len eo) N.erase W' ⟨fun x hx => F.self x (mem_erase hx), fun r hr nr wr => ?_⟩
        obtain ⟨w, hw, h1, h2, h3⟩ := F.wr r (mem_erase hr) nr wr
        rcases mem_split eo hw with z | z
        · rw [z, ov] at h2
          exact absurd h2.symm nr
        · exact ⟨w, z, h1, h2, h3⟩
    · obtain ⟨x, hx, src⟩ := source (by simp) N
      have nv : ∀ y ∈ a :: l, ¬ y.ver = v := fun y hy e => hv ⟨y, hy, e⟩
      obtain ⟨o, om, ow, ox⟩ : ∃ o ∈ a :: l, o.wr = true ∧ o.ver = x.ver := by
        cases hw : x.wr with
        | true => exact ⟨x, hx, hw, rfl⟩
        | false =>
          obtain ⟨w, a1, a2, a3, _⟩ := F.wr x hx (nv x hx) hw
          exact ⟨w, a1, a2, a3⟩
      obtain ⟨i, eo⟩ := at_ om
      have W' := W.erase eo (.inl ow)
      refine ⟨i, o, eo, fun y hy => ?_, .inl ow, ?_⟩
      · by_cases ey : y.ver = x.ver
        · cases hw : y.wr with
          | true =>
            obtain ⟨j, hj, ej⟩ := List.getElem_of_mem hy
            have ej : ((a :: l).eraseIdx i)[j]? = some y := by rw [List.getElem?_eq_getElem hj, ej]
            obtain ⟨j', n1, e1, _⟩ := erase_at ej
            exact absurd (W.one j' i y o e1 eo hw ow (ey.trans ox.symm)) n1
          | false =>
            obtain ⟨w, a1, a2, a3, a4⟩ := F.wr y (mem_erase hy) (nv y (mem_erase hy)) hw
            obtain ⟨j, ej⟩ := at_ a1
            have := W.one j i w o ej eo a2 ow (a3.trans (ey.trans ox.symm))
            rw [this, eo] at ej
            cases ej
            exact a4
        · exact src y (mem_erase hy) o om ox ey
      · refine no_ord (len eo) ⟨fun y hy z hz ez ny => src y (mem_erase hy) z (mem_erase hz) (ez.trans ox) (fun e => ny (e.trans ox.symm)), N.erase.two⟩ W' ⟨fun x hx => F.self x (mem_erase hx), fun r hr nr wr => ?_⟩
        obtain ⟨w, hw, h1, h2, h3⟩ := F.wr r (mem_erase hr) (nv r (mem_erase hr)) wr
        rcases mem_split eo hw with z | z
        · rw [z] at h2
          exact absurd h2.symm nr
        · exact ⟨w, z, h1, h2, h3⟩
/-- an order there is just if no two versions bar each other -/
theorem ord_iff {n v : Nat} {l : List XOp} (hn : l.length ≤ n) (W : OneW v l) (F : Fit v l) : ordB n l v = true ↔ NoTwo v l := ⟨fun h => ord_no h W, fun N => no_ord hn N W F⟩
end Ca

set_option Elab.async false
set_option linter.all false
set_option maxRecDepth 100000
set_option maxHeartbeats 4000000
namespace Ca
open PySem L2
theorem for_enumO {K : PySem.W.Frag} {a : Addr} {xs : List V} {g : TG} {tb : TS} {D : Ends} {σ : St} {H : Hp} (Pv : Nat → St → Hp → Prop) (h0 : Pv 0 σ H) (hl : ∀ i σ H, i ≤ xs.length → Pv i σ H → SqL K H a xs)
    (hs : ∀ i x σ H T, xs[i]? = some x → Pv i σ H → H T = none → g (.ref T) σ (upd H T (.tup [.int (i : Nat), x])) fun σ2 H2 => tb { D with nx := Pv (i + 1), ct := Pv (i + 1), bk := D.nx } σ2 H2) (hd : ∀ σ H, Pv xs.length σ H → D.nx σ H) :
    ∃ W : Nat → Nat → St → Hp → Prop, (∃ m, W 0 m σ H) ∧ ∀ i m σ H, W i m σ H →
      ((Ite K a).stop i H ∧ D.nx σ H) ∨ ((Ite K a).go i H ∧ ∃ N : St → Hp → Prop, (∀ σ' H', N σ' H' → ∃ m', m' < m ∧ W (i + 1) m' σ' H') ∧ ∀ x H', (Ite K a).yld i H x H' → g x σ H' fun σ2 H2 => tb { D with nx := N, ct := N, bk := D.nx } σ2 H2) := by
  refine ⟨fun i m σ H => m = xs.length - i ∧ i ≤ xs.length ∧ Pv i σ H, ⟨xs.length, by simp, Nat.zero_le _, h0⟩, ?_⟩
  rintro i m σ H ⟨rfl, hi, p⟩
  have q := hl i σ H hi p
  by_cases hlt : i < xs.length
  · refine .inr ⟨⟨xs, xs[i], q, by simp [hlt]⟩, Pv (i + 1), fun σ' H' p' => ⟨xs.length - (i + 1), by omega, rfl, hlt, p'⟩, fun v H' y => ?_⟩
    obtain ⟨T, x, rfl, nT, rfl, y⟩ := y
    exact hs i x σ _ T (y xs q) p nT
  · have e : i = xs.length := by omega
    subst e
    exact .inl ⟨⟨xs, q, Nat.le_refl _⟩, hd σ H p⟩
/-! ### the law's own search for an order -/
structure XAt (H : Hp) (b : Addr) (o : XOp) : Prop where
  at_ : ∃ kvs, H b = some (.dK kvs) ∧ valV kvs (Sum.inr "over") = some (on o.over) ∧ valV kvs (Sum.inr "begun") = some (.int (o.begun : Int)) ∧ valV kvs (Sum.inr "version") = some (.int (o.ver : Int)) ∧ ∃ kd : Str, valV kvs (Sum.inr "kind") = some (.str kd) ∧ decide (kd = "write") = o.wr
abbrev XRefs (H : Hp) (xs : List V) (os : List XOp) : Prop := Paired (fun x o => ∃ b, x = V.ref b ∧ XAt H b o) xs os
theorem XAt.ex {H H' : Hp} {b : Addr} {o : XOp} (h : XAt H b o) (e : Evl.Ex H H') : XAt H' b o := by
  obtain ⟨kvs, a, r⟩ := h.at_
  exact ⟨kvs, e _ _ a, r⟩
theorem XRefs.ex {H H' : Hp} {xs : List V} {os : List XOp} (h : XRefs H xs os) (e : Evl.Ex H H') : XRefs H' xs os := Paired.mapP h fun _ _ ⟨b, r, z⟩ => ⟨b, r, z.ex e⟩
@[irreducible] def spOrd (K : PySem.W.Frag) (n : Nat) : Sp := fun vs H Q _ => ∃ (l : Addr) (v : Nat) (xs : List V) (os : List XOp), vs = [.ref l, .int (v : Int)] ∧ SqL K H l xs ∧ XRefs H xs os ∧ os.length ≤ n ∧ n ≤ 100 ∧ ∀ H', Evl.Ex H H' → Q (.bl (ordB n os v)) H'
theorem ord_i {K : PySem.W.Frag} {n v : Nat} {l : Addr} {xs : List V} {os : List XOp} {H : Hp} {Q : VK} {E : XK} (hs : SqL K H l xs) (X : XRefs H xs os) (hn : os.length ≤ n) (h100 : n ≤ 100) (q : ∀ H', Evl.Ex H H' → Q (.bl (ordB n os v)) H') : spOrd K n [.ref l, .int (v : Int)] H Q E := by
  unfold spOrd
  exact ⟨l, v, xs, os, rfl, hs, X, hn, h100, q⟩
/-- a place that may stand first -/
def tstB (n : Nat) (l : List XOp) (v i : Nat) : Bool := match l[i]? with
  | none => false
  | some o => ((l.eraseIdx i).all fun y => !y.before o) && (o.wr || decide (o.ver = v)) && ordB n (l.eraseIdx i) o.ver
theorem ordB_any {n v : Nat} {l : List XOp} (ne : l ≠ []) : ordB (n + 1) l v = (List.range l.length).any (tstB n l v) := by
  cases l with
  | nil => exact absurd rfl ne
  | cons x l => rfl
theorem ordB_nil {n v : Nat} : ordB n [] v = true := by cases n <;> rfl
theorem erase_eq {α : Type} (l : List α) (i : Nat) : l.eraseIdx i = l.take i ++ l.drop (i + 1) := List.eraseIdx_eq_take_drop_succ ..
theorem cut_to (xs : List V) (i : Nat) : cutV xs none (some (i : Int)) = xs.take i := by
  unfold cutV
  rw [HT.sIx_none, HT.sIx_nat, List.drop_zero, Nat.sub_zero]
  by_cases h : i ≤ xs.length
  · rw [Nat.min_eq_left h]
  · rw [Nat.min_eq_right (by omega), List.take_of_length_le (Nat.le_refl _), List.take_of_length_le (by omega)]
theorem cut_from (xs : List V) (i : Nat) : cutV xs (some ((i : Int) + 1)) none = xs.drop (i + 1) := by
  unfold cutV
  rw [show ((i : Int) + 1) = ((i + 1 : Nat) : Int) from by omega, HT.sIx_nat, HT.sIx_none]
  by_cases h : i + 1 ≤ xs.length
  · rw [Nat.min_eq_left h]
    exact List.take_of_length_le (by rw [List.length_drop]; exact Nat.le_refl _)
  · rw [Nat.min_eq_right (by omega), Nat.sub_self, List.take_zero, List.drop_eq_nil_of_le (by omega)]
theorem prd_take {α β : Type} {R : α → β → Prop} : ∀ (i : Nat) {xs : List α} {ys : List β}, Paired R xs ys → Paired R (xs.take i) (ys.take i)
  | 0, _, _, _ => by rw [List.take_zero, List.take_zero]; exact .nil
  | _ + 1, _, _, .nil => .nil
  | i + 1, _, _, .cons h r => .cons h (prd_take i r)
theorem prd_drop {α β : Type} {R : α → β → Prop} : ∀ (i : Nat) {xs : List α} {ys : List β}, Paired R xs ys → Paired R (xs.drop i) (ys.drop i)
  | 0, _, _, h => h
  | _ + 1, _, _, .nil => .nil
  | i + 1, _, _, .cons _ r => prd_drop i r
theorem xs_all {f : XOp → Bool} : ∀ {l : List XOp}, (l.filter f).isEmpty = l.all fun y => !f y
  | [] => rfl
  | x :: l => by
    rw [List.filter_cons, List.all_cons]
    cases f x with
    | true => rfl
    | false => exact xs_all
section
variable {K : PySem.W.Frag} {a : Addr} {g : TG} {tt : TT} {te : TE} {vs : List Nat} {σ : St} {H : Hp} {D : Addr} {Qd : Hp → Prop} {j : Nat} {xs : List V} {os : List XOp}
theorem lcXs (p : XOp → Bool) (nD : H D = none) (hs : SqL K H a xs) (X : XRefs H xs os) (hl : xs.length ≤ 200) (hg : g = gName j) (hw : ∀ x, wipe ((wipe σ vs).set j (some x)) vs = wipe σ vs)
    (ht : ∀ b o, XAt H b o → o ∈ os → Evl.EvT tt ((wipe σ vs).set j (some (.ref b))) H (p o)) (he : ∀ b, Evl.Ev te ((wipe σ vs).set j (some (.ref b))) H (.ref b))
    (hq : ∀ H' acc, Evl.Ex H H' → H' D = some (.lst acc) → XRefs H acc (os.filter p) → Qd H') :
    ∃ W : Nat → Nat → Hp → Prop, (∃ m, W 0 m (upd H D (.lst []))) ∧ ∀ i m H', W i m H' →
      ((Itl K a).stop i H' ∧ Qd H') ∨ ((Itl K a).go i H' ∧ ∃ Nx : Hp → Prop, (∀ H', Nx H' → ∃ m', m' < m ∧ W (i + 1) m' H') ∧ ∀ x H'', (Itl K a).yld i H' x H'' → g x (wipe σ vs) H'' fun σ2 H2 => wipe σ2 vs = wipe σ vs ∧ tt σ2 H2 fun b H3 =>
        if b = true then te σ2 H3 fun y H4 => ∃ acc, H4 D = some (.lst acc) ∧ acc.length < sizeLine ∧ Nx (upd H4 D (.lst (acc ++ [y]))) else Nx H3) := by
  subst hg
  refine lc_list (xs := xs) (fun i H' => ∃ acc, Evl.Ex H H' ∧ H' D = some (.lst acc) ∧ XRefs H acc ((os.take i).filter p)) ⟨[], Evl.Ex.new nD, upd_same, .nil⟩ (fun i H' _ ⟨_, e, _⟩ => Evl.ex_l e hs) (fun i x H' hi ⟨acc, e, hD, R⟩ => ⟨?_, ?_⟩) fun H' ⟨acc, e, hD, R⟩ => ?_
  · exact hw x
  · obtain ⟨o, eo, b, rfl, hb⟩ := pget X hi
    have h3 : os.take (i + 1) = os.take i ++ [o] := by
      rw [List.take_succ, eo]
      rfl
    have al : acc.length ≤ 200 := by
      rw [R.length]
      refine Nat.le_trans (List.length_filter_le _ _) ?_
      rw [List.length_take, ← X.length]
      omega
    refine ht b o hb (List.mem_of_getElem? eo) H' e _ fun H2 e2 => ?_
    cases hp : p o with
    | true =>
      show te _ H2 _
      refine he b H2 (e.trans e2) _ fun H3 e3 => ⟨acc, e3 _ _ (e2 _ _ hD), Nat.lt_of_le_of_lt al (by decide), acc ++ [.ref b], Evl.Ex.mut ((e.trans e2).trans e3) nD, upd_same, ?_⟩
      rw [h3, List.filter_append, List.filter_cons, if_pos hp]
      exact Paired.app R (.cons ⟨b, rfl, hb⟩ .nil)
    | false =>
      show ∃ acc, _
      refine ⟨acc, e.trans e2, e2 _ _ hD, ?_⟩
      rw [h3, List.filter_append, List.filter_cons, if_neg (by rw [hp]; decide)]
      simpa using R
  · rw [X.length, List.take_length] at R
    exact hq H' acc e hD R
end
section
variable {P : Program} {w : World} {K : PySem.W.Frag} {mg : Str → Option Value} {base : Heap}
theorem ok_Lordered (n : Nat) : ∀ (T : Txt K mg), FnOk P w K mg base CX0 (n + 1) T.f_Lordered T.fd_Lordered ["left", "version"] (spOrd K n) := by
  induction n with
  | zero =>
    intro T
    refine T.F_Lordered.ok sc_Lordered (fun vs H Q E h => ?_) (fun cdv A outer s H vs Q E hr h => ?_)
    · unfold spOrd at h
      obtain ⟨l, v, xs, os, rfl, _⟩ := h
      rfl
    · unfold spOrd at h
      obtain ⟨l, v, xs, os, rfl, hs, X, hn, h100, q⟩ := h
      refine ⟨_, (pss_cons (ps_if (pt_cmpR (op_eqNil (un1 hr)) (pv 0) (pe_lst pa_nil) (nomark _)) (pss_one (ps_ret pe_bl)) pss_nil) (pss_cons ps_never (pss_one ps_never))), ?_⟩
      refine ⟨_, rfl, by show 0 ≤ sizeLine; decide, fun l0 nl0 => ⟨_, _, xs, rfl, rfl, Evl.ex_l (Evl.Ex.new nl0) hs, SqL.of upd_same, _, rfl, ?_⟩⟩
      have e1 := Evl.Ex.new (o := .lst []) nl0
      cases X with
      | nil => exact iteT (q _ e1)
      | cons _ _ => exact absurd hn (by simp)
  | succ n ih =>
    intro T
    refine T.F_Lordered.ok sc_Lordered (fun vs H Q E h => ?_) (fun cdv A outer s H vs Q E hr h => ?_)
    · unfold spOrd at h
      obtain ⟨l, v, xs, os, rfl, _⟩ := h
      rfl
    · unfold spOrd at h
      obtain ⟨l, v, xs, os, rfl, hs, X, hn, h100, q⟩ := h
      have hu := hu_of hr
      refine ⟨_, (pss_cons (ps_if (pt_cmpR (op_eqNil (un1 hr)) (pv 0) (pe_lst pa_nil) (nomark _)) (pss_one (ps_ret pe_bl)) pss_nil)
      (pss_cons (ps_for PassesOwn.never rfl (pi_enum (by rfl) T.n_enumerate (pa_cons (pv 0) pa_nil)) (pg_tup rfl (pgs_cons (pg_name (i := 2) sc_Lordered.nd rfl (Or.inl rfl)) (pgs_cons (pg_name (i := 3) sc_Lordered.nd rfl (Or.inr rfl)) pgs_nil))) (pss_cons (ps_set (i := 4) sc_Lordered.nd rfl (Or.inl rfl) (pe_op op_cat (pe_slice sl_list (pv 0) po_none (po_some (pv 2))) (pe_slice sl_list (pv 0) (po_some (pe_op op_add (pv 2) pe_int)) po_none)))
      (pss_cons (ps_setLc (i := 5) (own := [("other", 6)]) rfl sc_Lordered.nd rfl rfl (sw_true rfl rfl rfl (by decide +kernel)) (pi_list (pv 4)) (blkOk_by (N := ["left", "version", "at", "one", "others", "late", "other"]) (sc := defScope s_Lordered) (by decide +kernel)) (fun _ _ _ _ _ => (pg_name (i := 6) sc_Lordered.nd rfl (Or.inl rfl))) (fun _ _ _ _ _ => (pts_one (PW.pt (pw_and (pt_cmpR op_notN (pe_dget hu (pv 6) pe_str (fun _ _ => rfl)) pe_non (nomark _)) (pw_and1 (pt_cmpR op_lt (pe_dget hu (pv 6) pe_str (fun _ _ => rfl)) (pe_dget hu (pv 3) pe_str (fun _ _ => rfl)) (nomark _))))))) (fun _ _ _ _ _ => (pv 6)))
      (pss_one (ps_if (PW.pt (pw_and (pt_cmpR (op_eqNil (un1 hr)) (pv 5) (pe_lst pa_nil) (nomark _)) (pw_and (PW.pt (pw_or (pt_cmpR op_eq (pe_dget hu (pv 3) pe_str (fun _ _ => rfl)) pe_str (nomark _)) (pw_or1 (pt_cmpR op_eq (pe_dget hu (pv 3) pe_str (fun _ _ => rfl)) (pv 1) (nomark _))))) (pw_and1 (pt_val (pe_call (ih T) hr rfl T.m_Lordered T.F_Lordered.kp (b_Lordered T) .nil pass0 (pa_cons (pv 4) (pa_cons (pe_dget hu (pv 3) pe_str (fun _ _ => rfl)) pa_nil)))))))) (pss_one (ps_ret pe_bl)) pss_nil)))))
      (pss_one (ps_ret pe_bl)))), ?_⟩
      refine ⟨_, rfl, by show 0 ≤ sizeLine; decide, fun l0 nl0 => ⟨_, _, xs, rfl, rfl, Evl.ex_l (Evl.Ex.new nl0) hs, SqL.of upd_same, _, rfl, ?_⟩⟩
      have e1 := Evl.Ex.new (o := .lst []) nl0
      generalize upd H l0 (.lst []) = H1 at e1
      have es : xs.isEmpty = os.isEmpty := by cases X <;> rfl
      rw [Bool.bne_false, es]
      cases os with
      | nil =>
        rw [ordB_nil] at q
        exact iteT (q _ e1)
      | cons o0 os0 =>
      refine iteF ?_
      have ne : o0 :: os0 ≠ [] := by simp
      rw [ordB_any ne] at q
      generalize o0 :: os0 = os at X hn q ne es
      have xl : xs.length = os.length := X.length
      refine ⟨_, rfl, l, xs, rfl, Evl.ex_l e1 hs, for_enumO (xs := xs) (fun i σ' H' => ∃ x2 x3 x4 x5, σ' = [some (.ref l), some (.int (v : Int)), x2, x3, x4, x5, none] ∧ Evl.Ex H H' ∧ ∀ j, j < i → tstB n os v j = false) ⟨_, _, _, _, rfl, e1, fun j hj => absurd hj (Nat.not_lt_zero j)⟩ (fun i σ' H' _ ⟨_, _, _, _, _, e, _⟩ => Evl.ex_l e hs) ?_ ?_⟩
      · rintro i x σ' H2 tt hi ⟨x2, x3, x4, x5, rfl, e2, no⟩ ntt
        obtain ⟨o, eo, b, rfl, hb⟩ := pget X hi
        have e3 := e2.trans (Evl.Ex.new (o := .tup [.int (i : Nat), .ref b]) ntt)
        have htt : (upd H2 tt (.tup [.int (i : Nat), .ref b])) tt = some (.tup [.int (i : Nat), .ref b]) := upd_same
        generalize upd H2 tt (.tup [.int (i : Nat), .ref b]) = H3 at e3 htt
        refine ⟨tt, _, rfl, SqT.of htt, rfl, _, _, rfl, _, _, rfl, rfl, ?_⟩
        -- the others
        refine ⟨_, rfl, _, rfl, _, rfl, l, xs, rfl, Evl.ex_l e3 hs, fun p1 np1 => ?_⟩
        have e4 := e3.trans (Evl.Ex.new (o := .lst (cutV xs none (some (i : Int)))) np1)
        have hp1 : (upd H3 p1 (.lst (cutV xs none (some (i : Int))))) p1 = some (.lst (xs.take i)) := by rw [← cut_to]; exact upd_same
        generalize upd H3 p1 (.lst (cutV xs none (some (i : Int)))) = H4 at e4 hp1
        refine ⟨_, rfl, _, rfl, _, _, rfl, rfl, _, rfl, l, xs, rfl, Evl.ex_l e4 hs, fun p2 np2 => ?_⟩
        have e5 := e4.trans (Evl.Ex.new (o := .lst (cutV xs (some ((i : Int) + 1)) none)) np2)
        have hp2 : (upd H4 p2 (.lst (cutV xs (some ((i : Int) + 1)) none))) p2 = some (.lst (xs.drop (i + 1))) := by rw [← cut_from]; exact upd_same
        have hp1 := same_new (o := .lst (cutV xs (some ((i : Int) + 1)) none)) np2 _ _ hp1
        generalize upd H4 p2 (.lst (cutV xs (some ((i : Int) + 1)) none)) = H5 at e5 hp1 hp2
        have lo : (xs.take i).length + (xs.drop (i + 1)).length ≤ 100 := by
          rw [List.length_take, List.length_drop]
          omega
        refine ⟨p1, p2, _, _, rfl, rfl, hp1, hp2, Nat.le_trans lo (by decide), fun p3 np3 => ?_⟩
        have e6 := e5.trans (Evl.Ex.new (o := .lst (xs.take i ++ xs.drop (i + 1))) np3)
        have hp3 : (upd H5 p3 (.lst (xs.take i ++ xs.drop (i + 1)))) p3 = some (.lst (xs.take i ++ xs.drop (i + 1))) := upd_same
        generalize upd H5 p3 (.lst (xs.take i ++ xs.drop (i + 1))) = H6 at e6 hp3
        have X6 := X.ex e6
        have XE : XRefs H6 (xs.take i ++ xs.drop (i + 1)) (os.eraseIdx i) := by
          rw [erase_eq]
          exact Paired.app (prd_take i X6) (prd_drop (i + 1) X6)
        have hb6 := hb.ex e6
        refine ⟨_, rfl, p3, rfl, ⟨_, SqL.of hp3⟩, fun D nD => lcXs (fun y => y.before o) nD (SqL.of hp3) XE (by rw [List.length_append]; omega) rfl (fun _ => rfl) (fun b' y hb' my => ?_) (fun b => Evl.ev_var rfl) fun H7 acc e7 hD R => ?_⟩
        · intro H8 e8 Q8 q8
          obtain ⟨kv, k1, k2, k3, k4, k5⟩ := (hb'.ex e8).at_
          obtain ⟨kw, w1, w2, w3, w4, w5⟩ := (hb6.ex e8).at_
          refine ⟨_, rfl, _, _, rfl, dget k1 k2, rfl, _, rfl, ?_⟩
          unfold XOp.before at q8
          cases ey : y.over with
          | none =>
            rw [ey] at q8
            exact iteF (q8 _ (Evl.Ex.refl _))
          | some z =>
            rw [ey] at q8 k2
            refine iteT ⟨_, rfl, _, _, rfl, dget k1 k2, _, rfl, _, _, rfl, dget w1 w3, _, _, rfl, rfl, _, rfl, ?_⟩
            have ed : decide ((z : Int) < (o.begun : Int)) = decide (z < o.begun) := by simp
            rw [ed]
            exact q8 _ (Evl.Ex.refl _)
        have al : acc.length ≤ 200 := by
          rw [R.length]
          refine Nat.le_trans (List.length_filter_le _ _) ?_
          rw [← XE.length, List.length_append]
          omega
        have et : tstB n os v i = (((os.eraseIdx i).all fun y => !y.before o) && (o.wr || decide (o.ver = v)) && ordB n (os.eraseIdx i) o.ver) := by
          unfold tstB
          rw [eo]
        have miss : tstB n os v i = false → ∀ j, j < i + 1 → tstB n os v j = false := fun h j hj => by
          by_cases z : j = i
          · rw [z]; exact h
          · exact no j (by omega)
        have hit : tstB n os v i = true → (List.range os.length).any (tstB n os v) = true := fun h => List.any_eq_true.mpr ⟨i, List.mem_range.mpr (List.getElem?_eq_some_iff.mp eo).1, h⟩
        have elen : (os.eraseIdx i).length ≤ n := by
          have := (List.getElem?_eq_some_iff.mp eo).1
          rw [List.length_eraseIdx, if_pos this]
          omega
        refine ⟨_, rfl, by show 0 ≤ sizeLine; decide, fun l1 nl1 => ⟨_, _, acc, rfl, rfl, SqL.of (same_new nl1 _ _ hD), SqL.of upd_same, _, rfl, ?_⟩⟩
        have e8 := (e6.trans e7).trans (Evl.Ex.new (o := .lst []) nl1)
        have hp8 := same_new (o := .lst []) nl1 _ _ (e7 _ _ hp3)
        generalize upd H7 l1 (.lst []) = H8 at e8 hp8
        have ea : acc.isEmpty = (os.eraseIdx i).all fun y => !y.before o := by
          rw [← xs_all]
          generalize List.filter (fun y => y.before o) (os.eraseIdx i) = fl at R ⊢
          cases R <;> rfl
        rw [Bool.bne_false, ea]
        have XE8 : XRefs H8 (xs.take i ++ xs.drop (i + 1)) (os.eraseIdx i) := by
          rw [erase_eq]
          exact Paired.app (prd_take i (X.ex e8)) (prd_drop (i + 1) (X.ex e8))
        obtain ⟨kw, w1, w2, w3, w4, kd, w5, w6⟩ := (hb.ex e8).at_
        have ek : decide (V.str kd = V.str "write") = o.wr := by
          rw [← w6]
          simp
        have ev : decide (V.int (o.ver : Int) = V.int (v : Int)) = decide (o.ver = v) := by
          rw [Bool.eq_iff_iff, decide_eq_true_eq, decide_eq_true_eq]
          constructor
          · intro h
            have := V.int.inj h
            omega
          · intro h
            rw [h]
        cases ha : (os.eraseIdx i).all fun y => !y.before o with
        | false =>
          rw [ha] at et
          exact iteF ⟨_, _, _, _, rfl, e8, miss (by rw [et]; rfl)⟩
        | true =>
        rw [ha, Bool.true_and] at et
        refine iteT ⟨_, rfl, _, _, rfl, dget w1 w5, rfl, _, rfl, ?_⟩
        rw [ek]
        cases hw : o.wr with
        | true =>
          rw [hw, Bool.true_or, Bool.true_and] at et
          refine iteT ⟨_, rfl, _, rfl, _, _, rfl, dget w1 w4, ?_⟩
          refine ord_i (SqL.of hp8) XE8 elen (by omega) fun H9 e9 => ⟨_, rfl, ?_⟩
          rw [← et]
          refine iteB (fun h => ?_) (fun h => ?_)
          · rw [hit h] at q
            exact q _ (e8.trans e9)
          · exact ⟨_, _, _, _, rfl, e8.trans e9, miss h⟩
        | false =>
          rw [hw, Bool.false_or] at et
          refine iteF ⟨_, rfl, _, _, rfl, dget w1 w4, _, rfl, rfl, _, rfl, ?_⟩
          rw [ev]
          cases hv : decide (o.ver = v) with
          | false =>
            rw [hv] at et
            exact iteF ⟨_, _, _, _, rfl, e8, miss (by rw [et]; rfl)⟩
          | true =>
            rw [hv, Bool.true_and] at et
            refine iteT ⟨_, rfl, _, rfl, _, _, rfl, dget w1 w4, ?_⟩
            refine ord_i (SqL.of hp8) XE8 elen (by omega) fun H9 e9 => ⟨_, rfl, ?_⟩
            rw [← et]
            refine iteB (fun h => ?_) (fun h => ?_)
            · rw [hit h] at q
              exact q _ (e8.trans e9)
            · exact ⟨_, _, _, _, rfl, e8.trans e9, miss h⟩
      · rintro σ' H2 ⟨x2, x3, x4, x5, rfl, e2, no⟩
        have z : (List.range os.length).any (tstB n os v) = false := by
          rw [List.any_eq_false]
          intro j hj
          rw [no j (by rw [xl]; exact List.mem_range.mp hj)]
          decide
        rw [z] at q
        exact q _ e2
end
end Ca

set_option Elab.async false
set_option linter.all false
set_option maxRecDepth 100000
set_option maxHeartbeats 4000000
namespace Ca
open PySem L2
/-! ### whether a run's reads and writes can be put in one order, by the law -/
def rDictO (K : PySem.W.Frag) : List V → Hp → VK → Prop := fun xs H Q => ∃ (a : Addr) (ps : List Addr) (kvs : List (Key × V)), xs = [.ref a] ∧ SqL K H a (ps.map V.ref) ∧ Paired (fun p kv => SqT K H p [kV kv.1, kv.2]) ps kvs ∧
    ∀ p, H p = none → Q (.ref p) (upd H p (.dK (mergeK [] kvs)))
def rdX (o : OpS) : XOp := ⟨o.begun, o.over, false, o.version.getD 0⟩
def wrX (o : OpS) : XOp := ⟨o.begun, if o.stage = ("ended" : Str) then o.over else none, true, o.version.getD 0⟩
def readsL (s : HS) : List OpS := s.ops.filter fun o => decide (o.kind = ("read" : Str)) && decide (o.stage = ("ended" : Str))
def writesA (s : HS) : List OpS := s.ops.filter fun o => decide (o.kind = ("write" : Str)) && o.version.isSome
def toldB (s : HS) (o : OpS) : Bool := decide (o.stage = ("ended" : Str)) || (readsL s).any fun r => decide (r.version.getD 0 = o.version.getD 0)
def writesL (s : HS) : List OpS := (writesA s).filter (toldB s)
def inOrderH (s : HS) : Bool := ordB 14 ((readsL s).map rdX ++ (writesL s).map wrX) 0
theorem in_vers (l : List OpS) (v : Nat) : inV (.int (v : Int)) (l.map fun o => .int ((o.version.getD 0 : Nat) : Int)) = l.any fun r => decide (r.version.getD 0 = v) := by
  unfold inV
  rw [List.any_map]
  congr 1
  funext r
  show (((r.version.getD 0 : Nat) : Int) == (v : Int)) = decide (r.version.getD 0 = v)
  rw [Bool.eq_iff_iff, beq_iff_eq, decide_eq_true_eq]
  omega
theorem flat_ints (l : List OpS) : (l.map fun o => V.int ((o.version.getD 0 : Nat) : Int)).all flatV = true := by
  rw [List.all_eq_true]
  intro y hy
  obtain ⟨x, _, rfl⟩ := List.mem_map.mp hy
  rfl
theorem prd_map {α β γ : Type} {R : α → β → Prop} {S : α → γ → Prop} {f : β → γ} : ∀ {xs : List α} {os : List β}, Paired R xs os → (∀ x o, o ∈ os → R x o → S x (f o)) → Paired S xs (os.map f)
  | _, _, .nil, _ => .nil
  | _, _, .cons h r, g => .cons (g _ _ (List.mem_cons_self ..) h) (prd_map r fun x o m => g x o (List.mem_cons_of_mem _ m))
theorem len_rw : ∀ l : List OpS, (l.filter fun o => decide (o.kind = ("read" : Str)) && decide (o.stage = ("ended" : Str))).length + (l.filter fun o => decide (o.kind = ("write" : Str)) && o.version.isSome).length ≤ l.length
  | [] => Nat.le_refl _
  | o :: l => by
    have ih := len_rw l
    rw [List.filter_cons, List.filter_cons]
    by_cases hr : o.kind = ("read" : Str)
    · have z : decide (o.kind = ("write" : Str)) = false := by rw [hr]; decide +kernel
      rw [z, Bool.false_and]
      split <;> simp only [List.length_cons, Bool.false_eq_true, if_false] <;> omega
    · rw [decide_eq_false hr, Bool.false_and]
      simp only [Bool.false_eq_true, if_false]
      split <;> simp only [List.length_cons] <;> omega
theorem over_all {u : OpS} {x : Option Nat} : mergeK [] (oK u ++ ([(Sum.inr "over", on x)] : List (Key × V))) = oK { u with over := x } := by rfl
section
variable {P : Program} {w : World} {K : PySem.W.Frag} {mg : Str → Option Value} {base : Heap}
@[irreducible] def spInOrder : Sp := fun vs H Q _ => ∃ (c : Conf) (h : Addr) (A : LA) (s : HS), vs = [.ref h] ∧ c.Ok ∧ LawAt c H h A s ∧ Reach c s ∧ s.past.length ≤ 14 ∧ ∀ H', Evl.Ex H H' → Q (.bl (inOrderH s)) H'
theorem ok_Lin_order (T : Txt K mg) : FnOk P w K mg base CX0 20 T.f_Lin_order T.fd_Lin_order ["h"] spInOrder := by
  refine T.F_Lin_order.ok sc_Lin_order (fun vs H Q E h => ?_) (fun cdv A outer s H vs Q E hr h => ?_)
  · unfold spInOrder at h
    obtain ⟨c, h, A, s, rfl, _⟩ := h
    rfl
  · unfold spInOrder at h
    obtain ⟨c, h, A, s, rfl, O, L, r, l, q⟩ := h
    have hu := hu_of hr
    obtain ⟨W, hol⟩ := r.wf O
    have io := r.io O
    have sl : s.ops.length ≤ 14 := by omega
    have ol : (A.oas.map V.ref).length ≤ 200 := by
      rw [List.length_map, L.ol]
      omega
    have rv : ∀ o ∈ readsL s, ∃ v, o.version = some v := fun o ho => by
      obtain ⟨mo, pr⟩ := List.mem_filter.mp ho
      rw [Bool.and_eq_true, decide_eq_true_eq, decide_eq_true_eq] at pr
      exact Option.isSome_iff_exists.mp ((io o mo).ended O (.inl pr.1) pr.2)
    refine ⟨_, (pss_cons (ps_setLc (i := 1) (own := [("one", 5)]) rfl sc_Lin_order.nd rfl rfl (sw_true rfl rfl rfl (by decide +kernel)) (pi_list (pe_dget hu (pv 0) pe_str (fun _ _ => rfl))) (blkOk_by (N := ["h", "reads", "told", "writes", "plain", "one"]) (sc := defScope s_Lin_order) (by decide +kernel)) (fun _ _ _ _ _ => (pg_name (i := 5) sc_Lin_order.nd rfl (Or.inl rfl))) (fun _ _ _ _ _ => (pts_one (PW.pt (pw_and (pt_cmpR op_eq (pe_dget hu (pv 5) pe_str (fun _ _ => rfl)) pe_str (nomark _)) (pw_and1 (pt_cmpR op_eq (pe_dget hu (pv 5) pe_str (fun _ _ => rfl)) pe_str (nomark _))))))) (fun _ _ _ _ _ => (pv 5)))
      (pss_cons (ps_set (i := 2) sc_Lin_order.nd rfl (Or.inr rfl) (pe_lc (own := [("one", 5)]) rfl sc_Lin_order.nd (pi_list (pv 1)) (blkOk_by (N := ["h", "reads", "told", "writes", "plain", "one"]) (sc := defScope s_Lin_order) (by decide +kernel)) (fun _ _ _ _ _ => (pg_name (i := 5) sc_Lin_order.nd rfl (Or.inl rfl))) (fun _ _ _ _ _ => pts_nil) (fun _ _ _ _ _ => (pe_dget hu (pv 5) pe_str (fun _ _ => rfl)))))
      (pss_cons (ps_setLc (i := 3) (own := [("one", 5)]) rfl sc_Lin_order.nd rfl rfl (sw_true rfl rfl rfl (by decide +kernel)) (pi_list (pe_dget hu (pv 0) pe_str (fun _ _ => rfl))) (blkOk_by (N := ["h", "reads", "told", "writes", "plain", "one"]) (sc := defScope s_Lin_order) (by decide +kernel)) (fun _ _ _ _ _ => (pg_name (i := 5) sc_Lin_order.nd rfl (Or.inl rfl))) (fun _ _ _ _ _ => (pts_one (PW.pt (pw_and (pt_cmpR op_eq (pe_dget hu (pv 5) pe_str (fun _ _ => rfl)) pe_str (nomark _)) (pw_and1 (pt_cmpR op_notN (pe_dget hu (pv 5) pe_str (fun _ _ => rfl)) pe_non (nomark _))))))) (fun _ _ _ _ _ => (pv 5)))
      (pss_cons (ps_setLc (i := 3) (own := [("one", 5)]) rfl sc_Lin_order.nd rfl rfl (sw_true rfl rfl rfl (by decide +kernel)) (pi_list (pv 3)) (blkOk_by (N := ["h", "reads", "told", "writes", "plain", "one"]) (sc := defScope s_Lin_order) (by decide +kernel)) (fun _ _ _ _ _ => (pg_name (i := 5) sc_Lin_order.nd rfl (Or.inl rfl))) (fun _ _ _ _ _ => (pts_one (PW.pt (pw_or (pt_cmpR op_eq (pe_dget hu (pv 5) pe_str (fun _ _ => rfl)) pe_str (nomark _)) (pw_or1 (pt_cmpR (op_inK (K := K) rfl) (pe_dget hu (pv 5) pe_str (fun _ _ => rfl)) (pv 2) (by rfl))))))) (fun _ _ _ _ _ => (pv 5)))
      (pss_cons (ps_setLc (i := 4) (own := [("one", 5)]) rfl sc_Lin_order.nd rfl rfl (sw_true rfl rfl rfl (by decide +kernel)) (pi_list (pv 3)) (blkOk_by (N := ["h", "reads", "told", "writes", "plain", "one"]) (sc := defScope s_Lin_order) (by decide +kernel)) (fun _ _ _ _ _ => (pg_name (i := 5) sc_Lin_order.nd rfl (Or.inl rfl))) (fun _ _ _ _ _ => pts_nil) (fun _ _ _ _ _ => (pe_callTy (show CallR _ _ (rDictO K) from call_dictP rfl) (by rfl) T.n_dict (by decide +kernel) (pa_cons (pe_op op_cat (LiI.pe_listItems rfl (pv 5) (by rfl) T.n_list (by decide +kernel)) (pe_lst (pa_cons (pe_tup (pa_cons pe_str (pa_cons (pe_ifExp (pt_cmpR op_eq (pe_dget hu (pv 5) pe_str (fun _ _ => rfl)) pe_str (nomark _)) (pe_dget hu (pv 5) pe_str (fun _ _ => rfl)) pe_non) pa_nil))) pa_nil))) pa_nil))))
      (pss_one (ps_ret (pe_call (ok_Lordered 14 T) (hr.mono (by decide)) rfl T.m_Lordered T.F_Lordered.kp (b_Lordered T) .nil pass0 (pa_cons (pe_op op_cat (pv 1) (pv 4)) (pa_cons pe_int pa_nil)))))))))), ?_⟩
    -- the reads
    refine ⟨_, rfl, _, _, rfl, dget (L.hd) rfl, A.lo, rfl, ⟨_, SqL.of L.lo⟩, fun D1 nD1 => lcOps (A := A) (s := s) (fun o => decide (o.kind = ("read" : Str)) && decide (o.stage = ("ended" : Str))) nD1 (SqL.of L.lo) (all_refs L) ol rfl (fun _ => rfl) (fun k b u eb eu mu => ?_) (fun b => Evl.ev_var rfl) fun H1 acc1 e1 hD1 R1 => ?_⟩
    · have hb := L.og k b u eb eu
      have z : (decide (u.kind = ("read" : Str)) && decide (u.stage = ("ended" : Str))) = (decide (V.str u.kind = V.str "read") && decide (V.str u.stage = V.str "ended")) := by simp
      rw [z]
      exact Evl.et_and (Evl.et_test (Evl.ev_op (ev_dg rfl hb rfl) Evl.ev_c (Evl.rv_eq rfl))) (fun _ => Evl.et_test (Evl.ev_op (ev_dg rfl hb rfl) Evl.ev_c (Evl.rv_eq rfl)))
    have R1 : OpRefs A s acc1 (readsL s) := R1
    have L1 := L.same (same_ex e1)
    have l1 : acc1.length ≤ 200 := by
      rw [R1.length]
      exact Nat.le_trans (List.length_filter_le _ _) (by omega)
    -- what they returned
    refine ⟨_, rfl, D1, rfl, ⟨_, SqL.of hD1⟩, fun D2 nD2 => lcOpsM (A := A) (s := s) (fun _ => true) (fun o => .int ((o.version.getD 0 : Nat) : Int)) nD2 (SqL.of hD1) R1 l1 rfl (fun _ => rfl) (fun k b u eb eu mu H2 e2 Q2 q2 => q2 H2 (Evl.Ex.refl _)) (fun k b u eb eu mu _ => ?_) fun H2 e2 hD2 => ?_⟩
    · have hb := L1.og k b u eb eu
      obtain ⟨v, ev⟩ := rv u mu
      exact ev_dg rfl hb (by show some (on u.version) = _; rw [ev]; rfl)
    rw [List.filter_eq_self.mpr fun _ _ => rfl] at hD2
    have L2 := L1.same (same_ex e2)
    have hD12 := e2 _ _ hD1
    -- the writes
    refine ⟨_, rfl, _, _, rfl, dget (L2.hd) rfl, A.lo, rfl, ⟨_, SqL.of L2.lo⟩, fun D3 nD3 => lcOps (A := A) (s := s) (fun o => decide (o.kind = ("write" : Str)) && o.version.isSome) nD3 (SqL.of L2.lo) (all_refs L2) ol rfl (fun _ => rfl) (fun k b u eb eu mu => ?_) (fun b => Evl.ev_var rfl) fun H3 acc3 e3 hD3 R3 => ?_⟩
    · have hb := L2.og k b u eb eu
      have z : decide (u.kind = ("write" : Str)) = decide (V.str u.kind = V.str "write") := by simp
      show Evl.EvT _ _ _ (decide (u.kind = ("write" : Str)) && u.version.isSome)
      rw [z]
      refine Evl.et_and (Evl.et_test (Evl.ev_op (ev_dg rfl hb rfl) Evl.ev_c (Evl.rv_eq rfl))) (fun _ => ?_)
      intro H4 e4 Q4 q4
      refine ⟨_, rfl, _, _, rfl, dget (e4 _ _ hb) rfl, rfl, _, rfl, ?_⟩
      have zz : (!decide (on u.version = V.non)) = u.version.isSome := by cases u.version <;> rfl
      rw [zz]
      exact q4 _ (Evl.Ex.refl _)
    have R3 : OpRefs A s acc3 (writesA s) := R3
    have L3 := L2.same (same_ex e3)
    have hD13 := e3 _ _ hD12
    have hD23 := e3 _ _ hD2
    have l3 : acc3.length ≤ 200 := by
      rw [R3.length]
      exact Nat.le_trans (List.length_filter_le _ _) (by omega)
    have wv : ∀ o ∈ writesA s, ∃ v, o.version = some v := fun o ho => by
      have pr := (List.mem_filter.mp ho).2
      rw [Bool.and_eq_true] at pr
      exact Option.isSome_iff_exists.mp pr.2
    -- those that ended or were told
    refine ⟨_, rfl, D3, rfl, ⟨_, SqL.of hD3⟩, fun D4 nD4 => lcOps (A := A) (s := s) (toldB s) nD4 (SqL.of hD3) R3 l3 rfl (fun _ => rfl) (fun k b u eb eu mu => ?_) (fun b => Evl.ev_var rfl) fun H4 acc4 e4 hD4 R4 => ?_⟩
    · intro H5 e5 Q5 q5
      have hb := e5 _ _ (L3.og k b u eb eu)
      obtain ⟨v, ev⟩ := wv u mu
      refine ⟨_, rfl, _, _, rfl, dget hb rfl, rfl, _, rfl, ?_⟩
      have z : decide (V.str u.stage = V.str "ended") = decide (u.stage = ("ended" : Str)) := by simp
      rw [z]
      unfold toldB at q5
      cases he : decide (u.stage = ("ended" : Str)) with
      | true =>
        rw [he] at q5
        exact iteT (q5 _ (Evl.Ex.refl _))
      | false =>
        rw [he, Bool.false_or] at q5
        refine iteF ⟨_, rfl, _, _, rfl, dget hb (by show some (on u.version) = some (.int (v : Int)); rw [ev]; rfl), _, rfl, ?_⟩
        refine ⟨D2, _, rfl, .inl (SqL.of (e5 _ _ hD23)), rfl, flat_ints _, _, rfl, ?_⟩
        rw [in_vers]
        rw [ev] at q5
        exact q5 _ (Evl.Ex.refl _)
    have R4 : OpRefs A s acc4 (writesL s) := R4
    have L4 := L3.same (same_ex e4)
    have hD14 := e4 _ _ hD13
    have l4 : acc4.length ≤ 14 := by
      rw [R4.length]
      exact Nat.le_trans (List.length_filter_le _ _) (Nat.le_trans (List.length_filter_le _ _) sl)
    -- the writes, an end where they ended
    refine ⟨_, rfl, D4, rfl, ⟨_, SqL.of hD4⟩, fun D5 nD5 => ?_⟩
    refine lc_list (xs := acc4) (fun i H' => ∃ acc, Evl.Ex H4 H' ∧ H' D5 = some (.lst acc) ∧ XRefs H' acc (((writesL s).take i).map wrX)) ⟨[], Evl.Ex.new nD5, upd_same, .nil⟩ (fun i H' _ ⟨_, e, _⟩ => Evl.ex_l e (SqL.of hD4)) (fun i x H' hi ⟨acc, e, hD, X⟩ => ⟨rfl, ?_⟩) ?_
    · obtain ⟨u, eu, k, b, rfl, ek, es⟩ := pget R4 hi
      have mu : u ∈ writesL s := List.mem_of_getElem? eu
      have hb := e _ _ (L4.og k b u ek es)
      have h3 : (writesL s).take (i + 1) = (writesL s).take i ++ [u] := by
        rw [List.take_succ, eu]
        rfl
      have al : acc.length ≤ 200 := by
        rw [X.length, List.length_map, List.length_take]
        have := (List.getElem?_eq_some_iff.mp hi).1
        omega
      obtain ⟨v, ev⟩ := wv u (List.mem_filter.mp mu).1
      have kw : u.kind = ("write" : Str) := by
        have pr := (List.mem_filter.mp (List.mem_filter.mp mu).1).2
        rw [Bool.and_eq_true, decide_eq_true_eq] at pr
        exact pr.1
      have fin : ∀ (H6 : Hp) (l : Addr) (ts : List Addr), Same H' H6 → H6 l = some (.lst (ts.map V.ref)) → Paired (fun t kv => H6 t = some (.tup [kV kv.1, kv.2])) ts (oK u) → ∀ (t1 l1 : Addr), H6 t1 = none → (upd H6 t1 (.tup [.str "over", on (wrX u).over])) l1 = none →
          rCat (.ref l) (.ref l1) (upd (upd H6 t1 (.tup [.str "over", on (wrX u).over])) l1 (.lst [.ref t1])) (fun x H7 => rDictO K [x] H7 (fun y H8 => ∃ acc, H8 D5 = some (.lst acc) ∧ acc.length < sizeLine ∧ ∃ acc2, Evl.Ex H4 (upd H8 D5 (.lst (acc ++ [y]))) ∧ (upd H8 D5 (.lst (acc ++ [y]))) D5 = some (.lst acc2) ∧ XRefs (upd H8 D5 (.lst (acc ++ [y]))) acc2 (((writesL s).take (i + 1)).map wrX))) := fun H6 l ts s6 hl hts t1 l1 n1 nl1 => by
        have g1 := sN (same_new (o := .tup [.str "over", on (wrX u).over]) n1) (o := .lst [.ref t1]) nl1
        have f1 := same_new (o := .lst [.ref t1]) nl1 _ _ (upd_same (H := H6) (a := t1) (o := .tup [.str "over", on (wrX u).over]))
        have f2 : (upd (upd H6 t1 (.tup [.str "over", on (wrX u).over])) l1 (.lst [.ref t1])) l1 = some (.lst [.ref t1]) := upd_same
        generalize upd (upd H6 t1 (.tup [.str "over", on (wrX u).over])) l1 (.lst [.ref t1]) = H7 at g1 f1 f2 ⊢
        have tl : ts.length = 9 := hts.length
        refine ⟨_, _, _, _, rfl, rfl, g1 _ _ hl, f2, (by rw [List.length_map, tl]; show 10 ≤ sizeLine; decide), fun l7 n7 => ?_⟩
        have s7 := same_new (o := .lst (ts.map V.ref ++ [.ref t1])) n7
        have h7 : (upd H7 l7 (.lst (ts.map V.ref ++ [.ref t1]))) l7 = some (.lst ((ts ++ [t1]).map V.ref)) := by
          rw [upd_same, List.map_append]
          rfl
        generalize upd H7 l7 (.lst (ts.map V.ref ++ [.ref t1])) = H9 at s7 h7
        refine ⟨l7, ts ++ [t1], oK u ++ ([(Sum.inr "over", on (wrX u).over)] : List (Key × V)), rfl, SqL.of h7, ?_, fun p8 n8 => ?_⟩
        · refine Paired.app (Paired.mapP hts fun a b q => SqT.of (s7 _ _ (g1 _ _ q))) ?_
          exact .cons (SqT.of (s7 _ _ f1)) .nil
        rw [over_all]
        have s8 := same_new (o := .dK (oK { u with over := (wrX u).over })) n8
        have h8 : (upd H9 p8 (.dK (oK { u with over := (wrX u).over }))) p8 = some (.dK (oK { u with over := (wrX u).over })) := upd_same
        generalize upd H9 p8 (.dK (oK { u with over := (wrX u).over })) = H8 at s8 h8
        have sa : Same H' H8 := ((s6.trans g1).trans s7).trans s8
        have ea : Evl.Ex H' H8 := fun b o hb => sa b o hb
        refine ⟨acc, sa _ _ hD, Nat.lt_of_le_of_lt al (by decide), acc ++ [.ref p8], Evl.Ex.mut (e.trans ea) nD5, upd_same, ?_⟩
        have ne8 : ∀ b (o : XOp), XAt H8 b o → XAt (upd H8 D5 (.lst (acc ++ [.ref p8]))) b o := fun b o h => by
          obtain ⟨kvs, a1, a2⟩ := h.at_
          refine ⟨kvs, ?_, a2⟩
          rw [upd_ne fun z => ?_]
          · exact a1
          · rw [z, sa _ _ hD] at a1
            cases a1
        rw [h3, List.map_append]
        refine Paired.app (Paired.mapP X fun x o ⟨b, e1, e2⟩ => ⟨b, e1, ne8 b o (e2.ex ea)⟩) (.cons ⟨p8, rfl, ne8 p8 _ ⟨_, h8, rfl, rfl, ?_, u.kind, rfl, ?_⟩⟩ .nil)
        · show some (on u.version) = some (.int ((u.version.getD 0 : Nat) : Int))
          rw [ev]
          rfl
        · rw [kw]
          rfl
      refine ⟨_, rfl, b, _, rfl, hb, fun H6 l ts s6 nl nts nlt hl hts => ?_⟩
      have hb6 := s6 _ _ hb
      refine ⟨_, rfl, _, _, rfl, dget hb6 rfl, rfl, _, rfl, ?_⟩
      have z : decide (V.str u.stage = V.str "ended") = decide (u.stage = ("ended" : Str)) := by simp
      rw [z]
      have f := fin H6 l ts s6 hl hts
      refine iteB (fun he => ?_) (fun he => ?_)
      · have eo : on (wrX u).over = on u.over := by
          show on (if u.stage = ("ended" : Str) then u.over else none) = _
          rw [if_pos (of_decide_eq_true he)]
        rw [eo] at f
        exact ⟨_, rfl, _, _, rfl, dget hb6 rfl, (by show 2 ≤ sizeLine; decide), fun t1 n1 => ⟨(by show 1 ≤ sizeLine; decide), fun l1 nl1 => f t1 l1 n1 nl1⟩⟩
      · have eo : on (wrX u).over = .non := by
          show on (if u.stage = ("ended" : Str) then u.over else none) = _
          rw [if_neg (of_decide_eq_false he)]
          rfl
        rw [eo] at f
        exact ⟨(by show 2 ≤ sizeLine; decide), fun t1 n1 => ⟨(by show 1 ≤ sizeLine; decide), fun l1 nl1 => f t1 l1 n1 nl1⟩⟩
    · rintro H5 ⟨acc, e5, hD5, X5⟩
      rw [List.take_of_length_le (by rw [R4.length]; exact Nat.le_refl _)] at X5
      have hD15 := e5 _ _ hD14
      have L5 := L4.same (same_ex e5)
      have R15 : XRefs H5 acc1 ((readsL s).map rdX) := prd_map R1 fun x o mo ⟨k, b, ex, ek, es⟩ => by
        obtain ⟨v, ev⟩ := rv o mo
        have pr := (List.mem_filter.mp mo).2
        rw [Bool.and_eq_true, decide_eq_true_eq] at pr
        refine ⟨b, ex, ⟨_, L5.og k b o ek es, rfl, rfl, ?_, o.kind, rfl, ?_⟩⟩
        · show some (on o.version) = some (.int ((o.version.getD 0 : Nat) : Int))
          rw [ev]
          rfl
        · rw [pr.1]
          show decide (("read" : Str) = "write") = false
          decide +kernel
      have ll := len_rw s.ops
      have l1' : acc1.length = (readsL s).length := R1.length
      have l5' : acc.length ≤ (writesA s).length := by
        rw [X5.length, List.length_map]
        exact List.length_filter_le _ _
      have l5 : acc1.length + acc.length ≤ 14 := by
        have ll : (readsL s).length + (writesA s).length ≤ s.ops.length := ll
        omega
      refine ⟨_, rfl, _, rfl, _, _, _, _, rfl, rfl, hD15, hD5, Nat.le_trans l5 (by decide), fun p np => ?_⟩
      have e6 := Evl.Ex.new (o := .lst (acc1 ++ acc)) np
      refine ord_i (v := 0) (SqL.of upd_same) (Paired.app (R15.ex e6) (X5.ex e6)) ?_ (by decide) fun H7 e7 => q _ (((((e1.trans e2).trans e3).trans e4).trans e5).trans (e6.trans e7))
      have l5x : acc.length = (writesL s).length := by rw [X5.length, List.length_map]
      rw [List.length_append, List.length_map, List.length_map]
      omega
end
end Ca

set_option Elab.async false
set_option linter.all false
set_option maxRecDepth 100000
set_option maxHeartbeats 4000000
namespace Ca
open PySem L2
/-! ### versions: who has which, and since when -/
structure VO (c : Conf) (db n : Nat) (o : OpS) : Prop where
  bg : o.begun ≤ n
  ov : ∀ e, o.over = some e → o.begun ≤ e ∧ e ≤ n
  lv : endedB o = false → o.over = none
  le : ∀ v, o.version = some v → v ≤ db
  ge : o.kind = "write" → ∀ v, o.version = some v → 1 ≤ v
  st : o.kind = "write" → o.version.isSome = true → ∃ j, j < o.step ∧ c.steps.getD j "" = "store"
structure VI (c : Conf) (n : Nat) (s : HS) : Prop where
  rep : s.rep ≤ s.db
  ca : ∀ v, s.cache = some v → v ≤ s.db
  ops : ∀ o ∈ s.ops, VO c s.db n o
  one : ∀ (i j : Nat) o u v, s.ops[i]? = some o → s.ops[j]? = some u → o.kind = "write" → u.kind = "write" → o.version = some v → u.version = some v → i = j
  has : ∀ v, 1 ≤ v → v ≤ s.db → ∃ w ∈ s.ops, w.kind = "write" ∧ w.version = some v
  fit : ∀ r ∈ s.ops, r.kind = "read" → ∀ e v, r.over = some e → r.version = some v → ∀ w ∈ s.ops, w.kind = "write" → w.version = some v → w.begun ≤ e
section
variable {c : Conf} {n : Nat} {s s' : HS} {k : Nat} {o o' : OpS}
theorem VO.mono {db db' n' : Nat} (h : VO c db n o) (h1 : db ≤ db') (h2 : n ≤ n') : VO c db' n' o :=
  ⟨Nat.le_trans h.bg h2, fun e z => ⟨(h.ov e z).1, Nat.le_trans (h.ov e z).2 h2⟩, h.lv, fun v z => Nat.le_trans (h.le v z) h1, h.ge, h.st⟩
theorem VI.later {n' : Nat} (h : VI c n s) (h2 : n ≤ n') : VI c n' s := ⟨h.rep, h.ca, fun o m => (h.ops o m).mono (Nat.le_refl _) h2, h.one, h.has, h.fit⟩
/-- nothing is told of the past, of the mark, of the open flight -/
theorem VI.of (h : VI c n s) (e1 : s'.db = s.db) (e2 : s'.rep = s.rep) (e3 : s'.cache = s.cache) (e4 : s'.ops = s.ops) : VI c n s' :=
  ⟨by rw [e1, e2]; exact h.rep, by rw [e1, e3]; exact h.ca, by rw [e1, e4]; exact h.ops, by rw [e4]; exact h.one, by rw [e1, e4]; exact h.has, by rw [e4]; exact h.fit⟩
theorem fver {f : OpS → OpS} (h : f = id ∨ f = cf) (u : OpS) : (f u).kind = u.kind ∧ (f u).version = u.version ∧ (f u).begun = u.begun ∧ (f u).over = u.over ∧ (f u).step = u.step ∧ endedB (f u) = endedB u := by
  rcases h with e | e <;> rw [e] <;> exact ⟨rfl, rfl, rfl, rfl, rfl, rfl⟩
theorem VO.f {db : Nat} {f : OpS → OpS} (hf : f = id ∨ f = cf) (h : VO c db n o) : VO c db n (f o) := by
  obtain ⟨a, b, d, e, g, i⟩ := fver hf o
  exact ⟨by rw [d]; exact h.bg, by rw [e, d]; exact h.ov, by rw [i, e]; exact h.lv, by rw [b]; exact h.le, by rw [a, b]; exact h.ge, by rw [a, b, g]; exact h.st⟩
/-- what stands in the changed list -/
theorem set_at {f : OpS → OpS} (eo : s.ops[k]? = some o) {j : Nat} {u : OpS} (h : ((s.ops.map f).set k o')[j]? = some u) : (j = k ∧ u = o') ∨ (¬ j = k ∧ ∃ u0, s.ops[j]? = some u0 ∧ u = f u0) := by
  have hk := (List.getElem?_eq_some_iff.mp eo).1
  by_cases e : j = k
  · subst e
    rw [List.getElem?_set_self (by rw [List.length_map]; exact hk)] at h
    exact .inl ⟨rfl, (Option.some.inj h).symm⟩
  · rw [List.getElem?_set_ne (Ne.symm e), List.getElem?_map] at h
    cases z : s.ops[j]? with
    | none => rw [z] at h; cases h
    | some u0 => rw [z] at h; exact .inr ⟨e, u0, rfl, (Option.some.inj h).symm⟩
theorem set_mem {f : OpS → OpS} (eo : s.ops[k]? = some o) {u : OpS} (h : u ∈ (s.ops.map f).set k o') : u = o' ∨ ∃ j u0, ¬ j = k ∧ s.ops[j]? = some u0 ∧ u = f u0 := by
  obtain ⟨j, hj, e⟩ := List.getElem_of_mem h
  have ej : ((s.ops.map f).set k o')[j]? = some u := by rw [List.getElem?_eq_getElem hj, e]
  rcases set_at eo ej with ⟨_, z⟩ | ⟨a, u0, b, d⟩
  · exact .inl z
  · exact .inr ⟨j, u0, a, b, d⟩
theorem mem_set_new {f : OpS → OpS} (eo : s.ops[k]? = some o) : o' ∈ (s.ops.map f).set k o' := by
  have hk := (List.getElem?_eq_some_iff.mp eo).1
  exact List.mem_of_getElem? (i := k) (List.getElem?_set_self (by rw [List.length_map]; exact hk))
theorem mem_set_old {f : OpS → OpS} (eo : s.ops[k]? = some o) {j : Nat} {u : OpS} (hj : ¬ j = k) (h : s.ops[j]? = some u) : f u ∈ (s.ops.map f).set k o' := by
  refine List.mem_of_getElem? (i := j) ?_
  rw [List.getElem?_set_ne (Ne.symm hj), List.getElem?_map, h]
  rfl
/-- a step that stores nothing -/
theorem VI.put {f : OpS → OpS} (h : VI c n s) (eo : s.ops[k]? = some o) (lv : endedB o = false) (hf : f = id ∨ f = cf) (e4 : s'.ops = (s.ops.map f).set k o') (e1 : s'.db = s.db) (e2 : s'.rep = s.rep)
    (e3 : ∀ v, s'.cache = some v → v ≤ s.db) (hk : o'.kind = o.kind) (hb : o'.begun = o.begun) (hov : (o'.over = none ∧ endedB o' = false) ∨ (o'.over = some n ∧ endedB o' = true)) (hw : o.kind = "write" → o'.version = o.version) (hr : ∀ v, o'.version = some v → v ≤ s.db) (hs : o.step ≤ o'.step) : VI c n s' := by
  have ho := h.ops o (List.mem_of_getElem? eo)
  have new : VO c s.db n o' := by
    refine ⟨by rw [hb]; exact ho.bg, fun e z => ?_, fun z => ?_, hr, fun z v y => ?_, fun z y => ?_⟩
    · rcases hov with ⟨a, _⟩ | ⟨a, _⟩
      · rw [a] at z; cases z
      · rw [a] at z
        cases z
        rw [hb]
        exact ⟨ho.bg, Nat.le_refl _⟩
    · rcases hov with ⟨a, _⟩ | ⟨_, b⟩
      · exact a
      · rw [b] at z; cases z
    · rw [hk] at z
      rw [hw z] at y
      exact ho.ge z v y
    · rw [hk] at z
      rw [hw z] at y
      obtain ⟨j, a, b⟩ := ho.st z y
      exact ⟨j, by omega, b⟩
  have back : ∀ (j : Nat) u, s'.ops[j]? = some u → u.kind = "write" → ∃ u0, s.ops[j]? = some u0 ∧ u0.kind = "write" ∧ u.version = u0.version ∧ u.begun = u0.begun := fun j u e ku => by
    rw [e4] at e
    rcases set_at eo e with ⟨rfl, rfl⟩ | ⟨_, u0, a, rfl⟩
    · exact ⟨o, eo, by rw [← hk]; exact ku, hw (by rw [← hk]; exact ku), hb⟩
    · obtain ⟨b1, b2, b3, _⟩ := fver hf u0
      exact ⟨u0, a, by rw [← b1]; exact ku, b2, b3⟩
  refine ⟨by rw [e1, e2]; exact h.rep, by rw [e1]; exact e3, fun u m => ?_, fun i j x y v h1 h2 k1 k2 v1 v2 => ?_, fun v l1 l2 => ?_, fun r mr kr e v eo' ev w mw kw vw => ?_⟩
  · rw [e4] at m
    rw [e1]
    rcases set_mem eo m with e | ⟨j, u0, _, b, e⟩
    · rw [e]; exact new
    · rw [e]; exact (h.ops u0 (List.mem_of_getElem? b)).f hf
  · obtain ⟨x0, a1, a2, a3, _⟩ := back i x h1 k1
    obtain ⟨y0, b1, b2, b3, _⟩ := back j y h2 k2
    exact h.one i j x0 y0 v a1 b1 a2 b2 (by rw [← a3]; exact v1) (by rw [← b3]; exact v2)
  · rw [e1] at l2
    obtain ⟨w, mw, kw, vw⟩ := h.has v l1 l2
    obtain ⟨j, hj, e⟩ := List.getElem_of_mem mw
    have ej : s.ops[j]? = some w := by rw [List.getElem?_eq_getElem hj, e]
    rw [e4]
    by_cases hjk : j = k
    · subst hjk
      rw [eo] at ej
      cases ej
      exact ⟨o', mem_set_new eo, by rw [hk]; exact kw, by rw [hw kw]; exact vw⟩
    · obtain ⟨b1, b2, _⟩ := fver hf w
      exact ⟨f w, mem_set_old eo hjk ej, by rw [b1]; exact kw, by rw [b2]; exact vw⟩
  · obtain ⟨jw, hjw, ew⟩ := List.getElem_of_mem mw
    obtain ⟨w0, c1, c2, c3, c4⟩ := back jw w (by rw [List.getElem?_eq_getElem hjw, ew]) kw
    have bw := (h.ops w0 (List.mem_of_getElem? c1)).bg
    rw [c4]
    rw [e4] at mr
    rcases set_mem eo mr with z | ⟨j, r0, _, b, z⟩
    · rw [z] at eo'
      rcases hov with ⟨a, _⟩ | ⟨a, _⟩
      · rw [a] at eo'; cases eo'
      · rw [a] at eo'
        cases eo'
        exact bw
    · obtain ⟨b1, b2, b3, b4, _⟩ := fver hf r0
      rw [z] at kr eo' ev
      exact h.fit r0 (List.mem_of_getElem? b) (by rw [← b1]; exact kr) e v (by rw [← b4]; exact eo') (by rw [← b2]; exact ev) w0 (List.mem_of_getElem? c1) c2 (by rw [← c3]; exact vw)
/-- a store -/
theorem VI.store (h : VI c n s) (eo : s.ops[k]? = some o) (lv : endedB o = false) (kw0 : o.kind = "write") (nv : o.version = none) (e4 : s'.ops = s.ops.set k o') (e1 : s'.db = s.db + 1) (e2 : s'.rep = s.rep) (e3 : s'.cache = s.cache) (hk : o'.kind = o.kind) (hb : o'.begun = o.begun)
    (hov : (o'.over = none ∧ endedB o' = false) ∨ (o'.over = some n ∧ endedB o' = true)) (hv : o'.version = some (s.db + 1)) (hs : ∃ j, j < o'.step ∧ c.steps.getD j "" = "store") : VI c n s' := by
  have ho := h.ops o (List.mem_of_getElem? eo)
  have e4 : s'.ops = (s.ops.map id).set k o' := by rw [e4, List.map_id]
  have new : VO c (s.db + 1) n o' := by
    refine ⟨by rw [hb]; exact ho.bg, fun e z => ?_, fun z => ?_, fun v z => ?_, fun z v y => ?_, fun _ _ => hs⟩
    · rcases hov with ⟨a, _⟩ | ⟨a, _⟩
      · rw [a] at z; cases z
      · rw [a] at z
        cases z
        rw [hb]
        exact ⟨ho.bg, Nat.le_refl _⟩
    · rcases hov with ⟨a, _⟩ | ⟨_, b⟩
      · exact a
      · rw [b] at z; cases z
    · rw [hv] at z
      cases z
      exact Nat.le_refl _
    · rw [hv] at y
      cases y
      omega
  have old : ∀ {u : OpS} {v : Nat}, u ∈ s.ops → u.version = some v → ¬ v = s.db + 1 := fun m e z => by
    have := (h.ops _ m).le _ e
    omega
  refine ⟨by rw [e1, e2]; exact Nat.le_trans h.rep (Nat.le_succ _), fun v z => by rw [e3] at z; rw [e1]; exact Nat.le_trans (h.ca v z) (Nat.le_succ _), fun u m => ?_, fun i j x y v h1 h2 k1 k2 v1 v2 => ?_, fun v l1 l2 => ?_, fun r mr kr e v eo' ev w mw kw vw => ?_⟩
  · rw [e4] at m
    rw [e1]
    rcases set_mem eo m with e | ⟨j, u0, _, b, e⟩
    · rw [e]; exact new
    · rw [e]; exact (h.ops u0 (List.mem_of_getElem? b)).mono (Nat.le_succ _) (Nat.le_refl _)
  · rw [e4] at h1 h2
    rcases set_at eo h1 with ⟨a1, rfl⟩ | ⟨a1, x0, a2, rfl⟩
    · rcases set_at eo h2 with ⟨b1, rfl⟩ | ⟨b1, y0, b2, rfl⟩
      · rw [a1, b1]
      · rw [hv] at v1
        cases v1
        exact absurd rfl (old (List.mem_of_getElem? b2) v2)
    · rcases set_at eo h2 with ⟨b1, rfl⟩ | ⟨b1, y0, b2, rfl⟩
      · rw [hv] at v2
        cases v2
        exact absurd rfl (old (List.mem_of_getElem? a2) v1)
      · exact h.one i j _ _ v a2 b2 k1 k2 v1 v2
  · rw [e4]
    by_cases hl : v = s.db + 1
    · exact ⟨o', mem_set_new eo, by rw [hk]; exact kw0, by rw [hv, hl]⟩
    · rw [e1] at l2
      obtain ⟨w, mw, kw, vw⟩ := h.has v l1 (by omega)
      obtain ⟨j, hj, e⟩ := List.getElem_of_mem mw
      have ej : s.ops[j]? = some w := by rw [List.getElem?_eq_getElem hj, e]
      have hjk : ¬ j = k := fun z => by
        subst z
        rw [eo] at ej
        cases ej
        rw [nv] at vw
        cases vw
      exact ⟨id w, mem_set_old eo hjk ej, kw, vw⟩
  · rw [e4] at mr mw
    rcases set_mem eo mr with z | ⟨j, r0, _, b, z⟩
    · rw [z, hk, kw0] at kr
      exact absurd kr (by decide +kernel)
    · rw [z] at kr eo' ev
      rcases set_mem eo mw with y | ⟨j2, w0, _, b2, y⟩
      · rw [y, hv] at vw
        cases vw
        exact absurd rfl (old (List.mem_of_getElem? b) ev)
      · rw [y] at kw vw
        rw [y]
        exact h.fit r0 (List.mem_of_getElem? b) kr e v eo' ev w0 (List.mem_of_getElem? b2) kw vw
theorem one_store (O : c.Ok) {i j : Nat} (hi : c.steps.getD i "" = "store") (hj : c.steps.getD j "" = "store") : i = j := by
  have hp := O.p
  unfold Conf.steps at hi hj
  have lt : ∀ {i : Nat} {l : List Str}, l.getD i "" = "store" → i < l.length := fun {i l} h => by
    rcases Nat.lt_or_ge i l.length with z | z
    · exact z
    · rw [List.getD_eq_getElem?_getD, List.getElem?_eq_none z] at h
      exact absurd h (by decide +kernel)
  have fin : ∀ {l : List Str}, l.length ≤ 3 → (∀ i, i < 3 → ∀ j, j < 3 → l.getD i "" = "store" → l.getD j "" = "store" → i = j) → l.getD i "" = "store" → l.getD j "" = "store" → i = j := fun hl h a b => h i (by have := lt a; omega) j (by have := lt b; omega) a b
  simp only [pathsL, List.mem_cons, List.not_mem_nil, or_false] at hp
  rcases hp with e | e | e | e | e <;> rw [e] at hi hj <;> exact fin (by decide +kernel) (by decide +kernel) hi hj
theorem hold_cache {v : Nat} : (holdH c s v).cache = some v := by
  unfold holdH
  split <;> rfl
/-- a read under way: what is ahead of it, and its version -/
theorem VI.op {wd : Str} (O : c.Ok) (W : Wf c s) (h : VI c n s) (hn : s.past.length = n) (eo : s.ops[k]? = some o) (n1 : ¬ o.stage = "ended") (n2 : ¬ o.stage = "stopped") (a : Ahead s o wd) : VI c n (doOp c s k o wd) := by
  have ho := h.ops o (List.mem_of_getElem? eo)
  have p := W.ops k o eo
  have lv := endedB_not n1 n2
  have ovn := ho.lv lv
  unfold doOp
  split
  · obtain ⟨f1, f2, f3, _⟩ := end_f (k := k) (o := o) (s := s) (st := "stopped")
    exact h.put (f := id) (o' := { o with stage := "stopped", over := some s.past.length }) eo lv (.inl rfl) (by rw [end_ops, List.map_id]) f1 f2 (by rw [f3]; exact h.ca) rfl rfl (.inr ⟨by show some s.past.length = _; rw [hn], endedB_of (.inr rfl)⟩) (fun _ => rfl) ho.le (Nat.le_refl _)
  rename_i ns
  rcases a with a | ⟨_, _, hnx⟩
  · exact absurd a ns
  split
  · rename_i kd
    obtain ⟨hs, ew, hst, hset⟩ := p.write O kd n1 n2 hnx
    unfold writeH
    have pp := past_wr (c := c) (s := s) (k := k) (o := o) (wd := wd)
    have hb : (wo1 s o wd).begun = o.begun := by unfold wo1; split <;> rfl
    have hk : (wo1 s o wd).kind = o.kind := by unfold wo1; split <;> rfl
    have hstp : (wo1 s o wd).step = o.step := by unfold wo1; split <;> rfl
    obtain ⟨g1, g2, g3, g4, g5, g6⟩ := wr4_f (c := c) (k := k) (s := wr3 c (wr2 c (wr1 s k o wd) (wo1 s o wd) wd) (wo1 s o wd) wd) (o := wo1 s o wd)
    have z5 : ∀ {s3 : HS} {u : OpS}, s3.past.length = n → u.over = none → u.step = o.step → (((o5 c s3 u).over = none ∧ endedB (o5 c s3 u) = false) ∨ ((o5 c s3 u).over = some n ∧ endedB (o5 c s3 u) = true)) ∧ (o5 c s3 u).step = o.step + 1 ∧ (o5 c s3 u).version = u.version ∧ (o5 c s3 u).kind = u.kind ∧ (o5 c s3 u).begun = u.begun := fun {s3 u} e1 e2 e3 => by
      unfold o5
      split
      · exact ⟨.inr ⟨by show some s3.past.length = _; rw [e1], endedB_of (.inl rfl)⟩, by show u.step + 1 = _; rw [e3], rfl, rfl, rfl⟩
      · rename_i z
        obtain ⟨_, y1, y2, _⟩ := not_wait O (j := u.step + 1) (by omega)
        exact ⟨.inl ⟨e2, endedB_not y1 y2⟩, by show u.step + 1 = _; rw [e3], rfl, rfl, rfl⟩
    have ov1 : (wo1 s o wd).over = none := by unfold wo1; split <;> exact ovn
    obtain ⟨y1, y2, y3, y4, y5⟩ := z5 (s3 := wr3 c (wr2 c (wr1 s k o wd) (wo1 s o wd) wd) (wo1 s o wd) wd) (u := wo1 s o wd) (by rw [pp]; exact hn) ov1 hstp
    by_cases est : wd = "store"
    · have nv : o.version = none := by
        cases ev : o.version with
        | none => rfl
        | some v =>
          obtain ⟨j, hj, ej⟩ := ho.st kd (by rw [ev]; rfl)
          have := one_store O ej (by rw [← ew]; exact est)
          omega
      have u1 : wo1 s o wd = { o with version := some (s.db + 1) } := if_pos est
      have r1 : wr1 s k o wd = { s with db := s.db + 1, ops := s.ops.set k { o with version := some (s.db + 1) } } := if_pos est
      have r2 : ∀ s1 o1, wr2 c s1 o1 wd = s1 := fun s1 o1 => if_neg (by rw [est]; decide +kernel)
      have r3 : ∀ s1 o1, wr3 c s1 o1 wd = s1 := fun s1 o1 => if_neg (by rw [est]; decide +kernel)
      rw [r3, r2, r1] at g1 g2 g3 g5 y1 y2 y3 y4 y5 ⊢
      refine h.store eo lv kd nv ?_ g1 g2 g3 (y4.trans hk) (y5.trans hb) y1 (by rw [y3, u1]) ⟨o.step, by rw [y2]; omega, by rw [← ew]; exact est⟩
      rw [g5]
      show (s.ops.set k _).set k _ = _
      rw [List.set_set]
    · have u1 : wo1 s o wd = cf o := if_neg est
      have r1 : wr1 s k o wd = { s with ops := s.ops.map cf } := if_neg est
      have vv : (wo1 s o wd).version = o.version := by rw [u1]; rfl
      have fld : ∀ {s1 : HS}, (wr2 c s1 (wo1 s o wd) wd).db = s1.db ∧ (wr2 c s1 (wo1 s o wd) wd).rep = s1.rep ∧ ((wr2 c s1 (wo1 s o wd) wd).cache = s1.cache ∨ (wr2 c s1 (wo1 s o wd) wd).cache = none) := fun {s1} => by
        unfold wr2
        split
        · split <;> exact ⟨rfl, rfl, .inr rfl⟩
        · exact ⟨rfl, rfl, .inl rfl⟩
      have fld3 : ∀ {s1 : HS}, (wr3 c s1 (wo1 s o wd) wd).db = s1.db ∧ (wr3 c s1 (wo1 s o wd) wd).rep = s1.rep ∧ ((wr3 c s1 (wo1 s o wd) wd).cache = s1.cache ∨ ∃ v, o.version = some v ∧ (wr3 c s1 (wo1 s o wd) wd).cache = some v) := fun {s1} => by
        unfold wr3
        split
        · rename_i es
          obtain ⟨v, ev⟩ := Option.isSome_iff_exists.mp (hset es)
          split
          · obtain ⟨a1, a2, a3, _⟩ := hold_f (c := c) (s := s1) (v := (wo1 s o wd).version.getD 0)
            refine ⟨a1, a2, .inr ⟨v, ev, ?_⟩⟩
            rw [a3, vv, ev]
            rfl
          · exact ⟨rfl, rfl, .inl rfl⟩
        · exact ⟨rfl, rfl, .inl rfl⟩
      obtain ⟨a1, a2, a3⟩ := fld (s1 := wr1 s k o wd)
      obtain ⟨b1, b2, b3⟩ := fld3 (s1 := wr2 c (wr1 s k o wd) (wo1 s o wd) wd)
      have d1 : (wr1 s k o wd).db = s.db ∧ (wr1 s k o wd).rep = s.rep ∧ (wr1 s k o wd).cache = s.cache := by rw [r1]; exact ⟨rfl, rfl, rfl⟩
      refine h.put (f := cf) eo lv (.inr rfl) ?_ (by rw [g1, b1, a1, d1.1]) (by rw [g2, b2, a2, d1.2.1]) (fun v z => ?_) (y4.trans hk) (y5.trans hb) y1 (fun _ => y3.trans vv) (fun v z => ho.le v (by rw [← vv, ← y3]; exact z)) (by rw [y2]; omega)
      · rw [g5, wr3_ops.1, wr2_ops.1, r1]
      · rw [g3] at z
        rcases b3 with e | ⟨v', ev, e⟩
        · rw [e] at z
          rcases a3 with e2 | e2
          · rw [e2, d1.2.2] at z
            exact h.ca v z
          · rw [e2] at z; cases z
        · rw [e] at z
          cases z
          exact ho.le v ev
  · rename_i kd
    have kr : o.kind = "read" := p.kd.resolve_right kd
    have rd := p.read O kd n1 n2 hnx
    have put0 : ∀ {s2 : HS} {o2 : OpS}, s2.ops = s.ops.set k o2 → s2.db = s.db → s2.rep = s.rep → s2.cache = s.cache → o2.kind = o.kind → o2.begun = o.begun → o2.over = none → endedB o2 = false → (∀ v, o2.version = some v → v ≤ s.db) → o2.step = o.step → VI c n s2 := fun {s2 o2} h1 h2 h3 h4 h5 h6 h7 h8 h9 h10 =>
      h.put (f := id) eo lv (.inl rfl) (by rw [h1, List.map_id]) h2 h3 (by rw [h4]; exact h.ca) h5 h6 (.inl ⟨h7, h8⟩) (fun z => absurd z kd) h9 (Nat.le_of_eq h10.symm)
    have end0 : ∀ {s2 : HS} {o2 : OpS}, s2.ops = s.ops.set k { o2 with stage := "ended", over := some n } → s2.db = s.db → s2.rep = s.rep → (∀ v, s2.cache = some v → v ≤ s.db) → o2.kind = o.kind → o2.begun = o.begun → (∀ v, o2.version = some v → v ≤ s.db) → o2.step = o.step → VI c n s2 := fun {s2 o2} h1 h2 h3 h4 h5 h6 h9 h10 =>
      h.put (f := id) (o' := { o2 with stage := "ended", over := some n }) eo lv (.inl rfl) (by rw [h1, List.map_id]) h2 h3 h4 h5 h6 (.inr ⟨rfl, endedB_of (.inl rfl)⟩) (fun z => absurd z kd) h9 (Nat.le_of_eq h10.symm)
    unfold readH
    split
    · obtain ⟨f1, f2, f3, _⟩ := end_f (k := k) (o := { o with version := s.cache }) (s := s.put k { o with version := s.cache }) (st := "ended")
      refine end0 (o2 := { o with version := s.cache }) ?_ f1 f2 (by rw [f3]; exact h.ca) rfl rfl h.ca rfl
      rw [end_ops]
      show (s.ops.set k _).set k _ = _
      rw [List.set_set]
      show s.ops.set k { o with version := s.cache, stage := "ended", over := some s.past.length } = _
      rw [hn]
    split
    · exact put0 (o2 := { o with stage := "waits", leader := s.opn }) rfl rfl rfl rfl rfl rfl ovn (endedB_not (by show ¬ ("waits" : Str) = "ended"; decide +kernel) (by show ¬ ("waits" : Str) = "stopped"; decide +kernel)) ho.le rfl
    split
    · exact put0 (o2 := { o with stage := "fetch" }) rfl rfl rfl rfl rfl rfl ovn (endedB_not (by show ¬ ("fetch" : Str) = "ended"; decide +kernel) (by show ¬ ("fetch" : Str) = "stopped"; decide +kernel)) ho.le rfl
    have vf : ∀ v, some (if c.source = "replica" then s.rep else s.db) = some v → v ≤ s.db := fun v z => by
      cases z
      split
      · exact h.rep
      · exact Nat.le_refl _
    split
    · split
      · obtain ⟨f1, f2, f3, _⟩ := end_f (k := k) (o := { o with version := some (if c.source = "replica" then s.rep else s.db), stage := "fill" }) (s := s.put k { o with version := some (if c.source = "replica" then s.rep else s.db), stage := "fill" }) (st := "ended")
        refine end0 (o2 := { o with version := some (if c.source = "replica" then s.rep else s.db), stage := "fill" }) ?_ f1 f2 (by rw [f3]; exact h.ca) rfl rfl vf rfl
        rw [end_ops]
        show (s.ops.set k _).set k _ = _
        rw [List.set_set]
        show s.ops.set k { o with version := some (if c.source = "replica" then s.rep else s.db), stage := "ended", over := some s.past.length } = _
        rw [hn]
      · exact put0 (o2 := { o with version := some (if c.source = "replica" then s.rep else s.db), stage := "fill" }) rfl rfl rfl rfl rfl rfl ovn (endedB_not (by show ¬ ("fill" : Str) = "ended"; decide +kernel) (by show ¬ ("fill" : Str) = "stopped"; decide +kernel)) vf rfl
    split
    · obtain ⟨f1, f2, f3, _⟩ := end_f (k := k) (o := { o with version := leadV s o }) (s := s.put k { o with version := leadV s o }) (st := "ended")
      refine end0 (o2 := { o with version := leadV s o }) ?_ f1 f2 (by rw [f3]; exact h.ca) rfl rfl (fun v z => ?_) rfl
      · rw [end_ops]
        show (s.ops.set k _).set k _ = _
        rw [List.set_set]
        show s.ops.set k { o with version := leadV s o, stage := "ended", over := some s.past.length } = _
        rw [hn]
      · have z : leadV s o = some v := z
        unfold leadV at z
        split at z
        · split at z
          · rename_i q eq
            exact (h.ops q (List.mem_of_getElem? eq)).le v z
          · cases z
        · cases z
    · have hv : ∀ v, o.version = some v → v ≤ s.db := ho.le
      rename_i q1 q2 q3 q4 q5
      have hvs : o.version.isSome = true := by
        rcases rd with ⟨e, _⟩ | ⟨e, _⟩ | ⟨_, _, v⟩ | ⟨e, _⟩
        · exact absurd e q3
        · exact absurd e q4
        · exact v
        · exact absurd e q5
      obtain ⟨v0, ev0⟩ := Option.isSome_iff_exists.mp hvs
      have key : ∀ {s1 : HS}, s1.ops = s.ops → s1.past = s.past → s1.db = s.db → s1.rep = s.rep → (∀ v, s1.cache = some v → v ≤ s.db) → VI c n (endH s1 k o "ended") := fun {s1} h1 h2 h3 h4 h5 => by
        obtain ⟨f1, f2, f3, _⟩ := end_f (k := k) (o := o) (s := s1) (st := "ended")
        refine end0 (o2 := o) ?_ (f1.trans h3) (f2.trans h4) (by rw [f3]; exact h5) rfl rfl hv rfl
        rw [end_ops, h1, h2, hn]
      split
      · obtain ⟨a1, a2, a3, _⟩ := hold_f (c := c) (s := s) (v := o.version.getD 0)
        refine key hold_ops hold_past a1 a2 (fun v z => ?_)
        rw [a3, ev0] at z
        cases z
        exact hv _ ev0
      · exact key rfl rfl rfl rfl h.ca
theorem VI.new {w : Str} (h : VI c n s) (hn : s.past.length = n) (hw : w = "look" ∨ w = firstW c) : VI c n { s with ops := s.ops ++ [newOp s w] } := by
  have nv : (newOp s w).version = none := rfl
  have old : ∀ {j : Nat} {u : OpS}, (s.ops ++ [newOp s w])[j]? = some u → u.version.isSome = true → s.ops[j]? = some u := fun {j u} e z => by
    by_cases hj : j < s.ops.length
    · rw [List.getElem?_append_left hj] at e
      exact e
    · rw [List.getElem?_append_right (by omega)] at e
      have m := List.mem_of_getElem? e
      rw [List.mem_singleton] at m
      rw [m, nv] at z
      cases z
  have oldm : ∀ {u : OpS}, u ∈ s.ops ++ [newOp s w] → u.version.isSome = true → u ∈ s.ops := fun {u} m z => by
    rcases List.mem_append.mp m with y | y
    · exact y
    · rw [List.mem_singleton] at y
      rw [y, nv] at z
      cases z
  refine ⟨h.rep, h.ca, fun u m => ?_, fun i j x y v h1 h2 k1 k2 v1 v2 => h.one i j x y v (old h1 (by rw [v1]; rfl)) (old h2 (by rw [v2]; rfl)) k1 k2 v1 v2, fun v l1 l2 => ?_, fun r mr kr e v eo' ev x mw kw vw => h.fit r (oldm mr (by rw [ev]; rfl)) kr e v eo' ev x (oldm mw (by rw [vw]; rfl)) kw vw⟩
  · rcases List.mem_append.mp m with z | z
    · exact h.ops u z
    · rw [List.mem_singleton] at z
      rw [z]
      exact ⟨(by show s.past.length ≤ n; omega), fun e y => (nomatch y), fun _ => rfl, fun v y => (nomatch y), fun _ v y => (nomatch y), fun _ y => (nomatch y)⟩
  · obtain ⟨x, mx, a, b⟩ := h.has v l1 l2
    exact ⟨x, List.mem_append_left _ mx, a, b⟩
end
theorem Reach.vi {c : Conf} {s : HS} (O : c.Ok) (r : Reach c s) : VI c s.past.length s := by
  induction r with
  | begin => exact ⟨Nat.le_refl _, fun v z => (by cases z), fun o m => (by cases m), fun i j o u v e => (by cases e), fun v l1 l2 => absurd (Nat.lt_of_lt_of_le l1 l2) (Nat.lt_irrefl 0), fun r m => (by cases m)⟩
  | @step s e r h ih =>
    have W := (r.wf O).1
    have z : VI c s.past.length (doE c s e) := by
      cases ev_case W h with
      | evict z =>
        have zL : doE c s evictE = { s with cache := none, mark := 0 } := if_pos rfl
        rw [zL]
        exact ⟨ih.rep, fun v y => (by cases y), ih.ops, ih.one, ih.has, ih.fit⟩
      | copy z =>
        have zL : doE c s copyE = { s with rep := s.rep + 1 } := by
          unfold doE
          rw [if_neg (by decide +kernel), if_pos rfl]
        rw [zL]
        unfold canCopy at z
        rw [Bool.and_eq_true, decide_eq_true_eq, decide_eq_true_eq] at z
        exact ⟨z.2, ih.ca, ih.ops, ih.one, ih.has, ih.fit⟩
      | new w hw =>
        have eo : (preH s w s.ops.length).ops[s.ops.length]? = some (newOp s w) := by
          rw [pre_new]
          show (s.ops ++ [newOp s w])[s.ops.length]? = _
          rw [List.getElem?_append_right (Nat.le_refl _), Nat.sub_self]
          rfl
        rw [doE_at eo]
        obtain ⟨a, b, d⟩ := new_next (s := s) (s' := preH s w s.ops.length) O hw
        have WP := W.pre O hw
        rw [pre_new] at eo d WP ⊢
        exact (ih.new rfl hw).op O WP rfl eo a b (.inr ⟨a, b, d⟩)
      | step k o w eo h1 h2 h3 =>
        rw [doE_at (by rw [pre_old eo]; exact eo), pre_old eo]
        exact ih.op O W rfl eo h1 h2 (.inr ⟨h1, h2, h3⟩)
      | stop k o eo h1 h2 h3 =>
        rw [doE_at (by rw [pre_old eo]; exact eo), pre_old eo]
        exact ih.op O W rfl eo h1 h2 (.inl rfl)
    have el : (doH c s e).past.length = s.past.length + 1 := by
      show (s.past ++ [e]).length = _
      rw [List.length_append]
      rfl
    rw [el]
    exact (z.later (Nat.le_succ _)).of rfl rfl rfl rfl
end Ca

set_option Elab.async false
set_option linter.all false
set_option maxRecDepth 100000
set_option maxHeartbeats 4000000
namespace Ca
open PySem L2
/-! ### the program's word on orders: where versions ended, where they began -/
def cntP (o : POp) : Bool := o.ended || (decide (o.kind = ("write" : Str)) && o.version.isSome)
def endP (n : Nat) (o : POp) : Nat := if o.ended then o.left.getD 0 else n
abbrev VN := Nat → Option Nat
def stE (n : Nat) (e : VN) (o : POp) : VN := fun u => if (cntP o && decide (u = o.version.getD 0)) = true then some (min (endP n o) ((e u).getD n)) else e u
def stB (b : VN) (o : POp) : VN := fun u => if (cntP o && decide (u = o.version.getD 0)) = true then some (max o.began ((b u).getD 0)) else b u
def zeroV : VN := fun v => if v = 0 then some 0 else none
def spE (t : PSt) : VN := t.ops.foldl (stE (t.past.length + 1)) zeroV
def spS (t : PSt) : VN := t.ops.foldl stB zeroV
def linT (e b : VN) (v u : Nat) : Bool := decide (v < u) && (match e v, e u with
  | some x, some y => decide (x < (b u).getD 0) && decide (y < (b v).getD 0)
  | _, _ => false)
def linP (t : PSt) : Bool := (List.range (t.db + 1)).any fun v => (List.range (t.db + 1)).any fun u => linT (spE t) (spS t) v u
section
variable {n : Nat}
theorem stE_hit {e : VN} {o : POp} (h : cntP o = true) : stE n e o (o.version.getD 0) = some (min (endP n o) ((e (o.version.getD 0)).getD n)) := by
  unfold stE
  rw [h, decide_eq_true rfl]
  rfl
theorem stE_miss {e : VN} {o : POp} {u : Nat} (h : ¬ (cntP o = true ∧ u = o.version.getD 0)) : stE n e o u = e u := by
  unfold stE
  rw [if_neg (by rw [Bool.and_eq_true, decide_eq_true_eq]; exact h)]
theorem stB_hit {e : VN} {o : POp} (h : cntP o = true) : stB e o (o.version.getD 0) = some (max o.began ((e (o.version.getD 0)).getD 0)) := by
  unfold stB
  rw [h, decide_eq_true rfl]
  rfl
theorem stB_miss {e : VN} {o : POp} {u : Nat} (h : ¬ (cntP o = true ∧ u = o.version.getD 0)) : stB e o u = e u := by
  unfold stB
  rw [if_neg (by rw [Bool.and_eq_true, decide_eq_true_eq]; exact h)]
/-- what is there stays or becomes less -/
theorem foldE_le : ∀ (l : List POp) (e : VN) (u x : Nat), e u = some x → ∃ y, y ≤ x ∧ l.foldl (stE n) e u = some y
  | [], e, u, x, h => ⟨x, Nat.le_refl _, h⟩
  | o :: l, e, u, x, h => by
    rw [List.foldl_cons]
    by_cases z : cntP o = true ∧ u = o.version.getD 0
    · obtain ⟨z1, rfl⟩ := z
      obtain ⟨y, h1, h2⟩ := foldE_le l (stE n e o) _ _ (stE_hit z1)
      refine ⟨y, Nat.le_trans h1 ?_, h2⟩
      rw [h]
      exact Nat.min_le_right _ _
    · exact foldE_le l (stE n e o) u x ((stE_miss z).trans h)
theorem foldE_mem : ∀ (l : List POp) (e : VN) (o : POp), o ∈ l → cntP o = true → ∃ y, y ≤ endP n o ∧ l.foldl (stE n) e (o.version.getD 0) = some y
  | a :: l, e, o, m, h => by
    rw [List.foldl_cons]
    rcases List.mem_cons.mp m with z | z
    · subst z
      obtain ⟨y, h1, h2⟩ := foldE_le l (stE n e o) _ _ (stE_hit h)
      exact ⟨y, Nat.le_trans h1 (Nat.min_le_left _ _), h2⟩
    · exact foldE_mem l (stE n e a) o z h
theorem foldE_from : ∀ (l : List POp) (e : VN) (u y : Nat), (∀ o ∈ l, cntP o = true → endP n o ≤ n) → l.foldl (stE n) e u = some y → e u = some y ∨ ∃ o ∈ l, cntP o = true ∧ o.version.getD 0 = u ∧ endP n o = y
  | [], e, u, y, _, h => .inl h
  | o :: l, e, u, y, hn, h => by
    rw [List.foldl_cons] at h
    rcases foldE_from l (stE n e o) u y (fun a m => hn a (List.mem_cons_of_mem _ m)) h with z | ⟨a, m, z1, z2, z3⟩
    · by_cases q : cntP o = true ∧ u = o.version.getD 0
      · obtain ⟨q1, rfl⟩ := q
        rw [stE_hit q1] at z
        have le := hn o (List.mem_cons_self ..) q1
        cases ee : e (o.version.getD 0) with
        | none =>
          rw [ee] at z
          have z : min (endP n o) n = y := Option.some.inj z
          exact .inr ⟨o, List.mem_cons_self .., q1, rfl, by omega⟩
        | some x =>
          rw [ee] at z
          have z : min (endP n o) x = y := Option.some.inj z
          by_cases lt : endP n o ≤ x
          · exact .inr ⟨o, List.mem_cons_self .., q1, rfl, by omega⟩
          · exact .inl (by rw [show y = x by omega])
      · rw [stE_miss q] at z
        exact .inl z
    · exact .inr ⟨a, List.mem_cons_of_mem _ m, z1, z2, z3⟩
theorem foldB_le : ∀ (l : List POp) (e : VN) (u x : Nat), e u = some x → ∃ y, x ≤ y ∧ l.foldl stB e u = some y
  | [], e, u, x, h => ⟨x, Nat.le_refl _, h⟩
  | o :: l, e, u, x, h => by
    rw [List.foldl_cons]
    by_cases z : cntP o = true ∧ u = o.version.getD 0
    · obtain ⟨z1, rfl⟩ := z
      obtain ⟨y, h1, h2⟩ := foldB_le l (stB e o) _ _ (stB_hit z1)
      refine ⟨y, Nat.le_trans ?_ h1, h2⟩
      rw [h]
      exact Nat.le_max_right _ _
    · exact foldB_le l (stB e o) u x ((stB_miss z).trans h)
theorem foldB_mem : ∀ (l : List POp) (e : VN) (o : POp), o ∈ l → cntP o = true → ∃ y, o.began ≤ y ∧ l.foldl stB e (o.version.getD 0) = some y
  | a :: l, e, o, m, h => by
    rw [List.foldl_cons]
    rcases List.mem_cons.mp m with z | z
    · subst z
      obtain ⟨y, h1, h2⟩ := foldB_le l (stB e o) _ _ (stB_hit h)
      exact ⟨y, Nat.le_trans (Nat.le_max_left _ _) h1, h2⟩
    · exact foldB_mem l (stB e a) o z h
theorem foldB_from : ∀ (l : List POp) (e : VN) (u y : Nat), l.foldl stB e u = some y → e u = some y ∨ y = 0 ∨ ∃ o ∈ l, cntP o = true ∧ o.version.getD 0 = u ∧ o.began = y
  | [], e, u, y, h => .inl h
  | o :: l, e, u, y, h => by
    rw [List.foldl_cons] at h
    rcases foldB_from l (stB e o) u y h with z | z | ⟨a, m, z1, z2, z3⟩
    · by_cases q : cntP o = true ∧ u = o.version.getD 0
      · obtain ⟨q1, rfl⟩ := q
        rw [stB_hit q1] at z
        have z : max o.began ((e (o.version.getD 0)).getD 0) = y := Option.some.inj z
        by_cases lt : (e (o.version.getD 0)).getD 0 ≤ o.began
        · exact .inr (.inr ⟨o, List.mem_cons_self .., q1, rfl, by omega⟩)
        · cases ee : e (o.version.getD 0) with
          | none =>
            rw [ee] at lt
            exact absurd (Nat.zero_le _) lt
          | some x =>
            rw [ee] at z lt
            have z : max o.began x = y := z
            have lt : ¬ x ≤ o.began := lt
            exact .inl (by rw [show y = x by omega])
      · rw [stB_miss q] at z
        exact .inl z
    · exact .inr (.inl z)
    · exact .inr (.inr ⟨a, List.mem_cons_of_mem _ m, z1, z2, z3⟩)
end
theorem linP_iff {t : PSt} : linP t = true ↔ ∃ v u x y, v < u ∧ v ≤ t.db ∧ u ≤ t.db ∧ spE t v = some x ∧ spE t u = some y ∧ x < (spS t u).getD 0 ∧ y < (spS t v).getD 0 := by
  unfold linP
  rw [List.any_eq_true]
  constructor
  · rintro ⟨v, hv, h⟩
    rw [List.any_eq_true] at h
    obtain ⟨u, hu, h⟩ := h
    rw [List.mem_range] at hv hu
    unfold linT at h
    rw [Bool.and_eq_true, decide_eq_true_eq] at h
    obtain ⟨lt, h⟩ := h
    cases e1 : spE t v with
    | none => rw [e1] at h; cases h
    | some x =>
      cases e2 : spE t u with
      | none => rw [e1, e2] at h; cases h
      | some y =>
        rw [e1, e2] at h
        simp only [Bool.and_eq_true, decide_eq_true_eq] at h
        exact ⟨v, u, x, y, lt, by omega, by omega, e1, e2, h.1, h.2⟩
  · rintro ⟨v, u, x, y, lt, h1, h2, e1, e2, h3, h4⟩
    refine ⟨v, List.mem_range.mpr (by omega), List.any_eq_true.mpr ⟨u, List.mem_range.mpr (by omega), ?_⟩⟩
    unfold linT
    rw [e1, e2, decide_eq_true lt]
    simp only [Bool.and_eq_true, decide_eq_true_eq]
    exact ⟨trivial, h3, h4⟩
/-! ### the law's list -/
def lawL (s : HS) : List XOp := (readsL s).map rdX ++ (writesL s).map wrX
theorem inOrderH_eq {s : HS} : inOrderH s = ordB 14 (lawL s) 0 := rfl
section
variable {c : Conf} {s : HS}
theorem mem_reads {o : OpS} : o ∈ readsL s ↔ o ∈ s.ops ∧ o.kind = ("read" : Str) ∧ o.stage = ("ended" : Str) := by
  unfold readsL
  rw [List.mem_filter, Bool.and_eq_true, decide_eq_true_eq, decide_eq_true_eq]
theorem mem_writes {o : OpS} : o ∈ writesL s ↔ o ∈ s.ops ∧ o.kind = ("write" : Str) ∧ o.version.isSome = true ∧ (o.stage = ("ended" : Str) ∨ ∃ r ∈ readsL s, r.version.getD 0 = o.version.getD 0) := by
  unfold writesL writesA
  rw [List.mem_filter, List.mem_filter, Bool.and_eq_true, decide_eq_true_eq]
  unfold toldB
  rw [Bool.or_eq_true, decide_eq_true_eq, List.any_eq_true]
  constructor
  · rintro ⟨⟨a, b, d⟩, e⟩
    refine ⟨a, b, d, ?_⟩
    rcases e with e | ⟨r, h1, h2⟩
    · exact .inl e
    · exact .inr ⟨r, h1, of_decide_eq_true h2⟩
  · rintro ⟨a, b, d, e⟩
    refine ⟨⟨a, b, d⟩, ?_⟩
    rcases e with e | ⟨r, h1, h2⟩
    · exact .inl e
    · exact .inr ⟨r, h1, decide_eq_true h2⟩
theorem mem_law {x : XOp} : x ∈ lawL s ↔ (∃ o ∈ readsL s, x = rdX o) ∨ ∃ o ∈ writesL s, x = wrX o := by
  unfold lawL
  rw [List.mem_append, List.mem_map, List.mem_map]
  constructor
  · rintro (⟨o, a, b⟩ | ⟨o, a, b⟩)
    · exact .inl ⟨o, a, b.symm⟩
    · exact .inr ⟨o, a, b.symm⟩
  · rintro (⟨o, a, b⟩ | ⟨o, a, b⟩)
    · exact .inl ⟨o, a, b.symm⟩
    · exact .inr ⟨o, a, b.symm⟩
theorem law_len (s : HS) : (lawL s).length ≤ s.ops.length := by
  unfold lawL
  rw [List.length_append, List.length_map, List.length_map]
  have h := len_rw s.ops
  have z : (writesL s).length ≤ (writesA s).length := List.length_filter_le _ _
  have h : (readsL s).length + (writesA s).length ≤ s.ops.length := h
  omega
theorem law_one (h : VI c s.past.length s) : OneW 0 (lawL s) := by
  have pw : (lawL s).Pairwise fun x y => ¬ (x.wr = true ∧ y.wr = true ∧ x.ver = y.ver) := by
    unfold lawL
    rw [List.pairwise_append]
    refine ⟨?_, ?_, ?_⟩
    · rw [List.pairwise_map]
      exact List.pairwise_of_forall fun x y z => nomatch z.1
    · rw [List.pairwise_map]
      have base : s.ops.Pairwise fun a b => ¬ (a.kind = ("write" : Str) ∧ b.kind = ("write" : Str) ∧ ∃ v, a.version = some v ∧ b.version = some v) := by
        rw [List.pairwise_iff_getElem]
        rintro i j hi hj lt ⟨k1, k2, v, v1, v2⟩
        have := h.one i j _ _ v (List.getElem?_eq_getElem hi) (List.getElem?_eq_getElem hj) k1 k2 v1 v2
        omega
      have sub : (writesL s).Sublist s.ops := List.Sublist.trans List.filter_sublist List.filter_sublist
      refine List.Pairwise.imp_of_mem ?_ (base.sublist sub)
      rintro a b ma mb no ⟨_, _, e⟩
      obtain ⟨_, k1, v1, _⟩ := mem_writes.mp ma
      obtain ⟨_, k2, v2, _⟩ := mem_writes.mp mb
      obtain ⟨v, ev⟩ := Option.isSome_iff_exists.mp v1
      obtain ⟨u, eu⟩ := Option.isSome_iff_exists.mp v2
      have e : a.version.getD 0 = b.version.getD 0 := e
      rw [ev, eu] at e
      have e : v = u := e
      exact no ⟨k1, k2, v, ev, by rw [eu, e]⟩
    · rintro x hx y hy ⟨wx, _⟩
      obtain ⟨o, _, rfl⟩ := List.mem_map.mp hx
      cases wx
  refine ⟨fun x hx wx e => ?_, fun i j x y hi hj wx wy e => ?_⟩
  · rcases mem_law.mp hx with ⟨o, _, rfl⟩ | ⟨o, mo, rfl⟩
    · cases wx
    · obtain ⟨m, k1, v1, _⟩ := mem_writes.mp mo
      obtain ⟨v, ev⟩ := Option.isSome_iff_exists.mp v1
      have := (h.ops o m).ge k1 v ev
      have e : o.version.getD 0 = 0 := e
      rw [ev] at e
      have e : v = 0 := e
      omega
  · rw [List.pairwise_iff_getElem] at pw
    obtain ⟨li, ei⟩ := List.getElem?_eq_some_iff.mp hi
    obtain ⟨lj, ej⟩ := List.getElem?_eq_some_iff.mp hj
    rcases Nat.lt_trichotomy i j with z | z | z
    · exact absurd ⟨by rw [ei]; exact wx, by rw [ej]; exact wy, by rw [ei, ej]; exact e⟩ (pw i j li lj z)
    · exact z
    · exact absurd ⟨by rw [ej]; exact wy, by rw [ei]; exact wx, by rw [ei, ej]; exact e.symm⟩ (pw j i lj li z)
theorem law_fit (h : VI c s.past.length s) (io : IOL c s.ops) : Fit 0 (lawL s) := by
  refine ⟨fun x hx e ee => ?_, fun r hr nr wr => ?_⟩
  · rcases mem_law.mp hx with ⟨o, mo, rfl⟩ | ⟨o, mo, rfl⟩
    · exact ((h.ops o (mem_reads.mp mo).1).ov e ee).1
    · have ee : (if o.stage = ("ended" : Str) then o.over else none) = some e := ee
      split at ee
      · exact ((h.ops o (mem_writes.mp mo).1).ov e ee).1
      · cases ee
  · rcases mem_law.mp hr with ⟨o, mo, rfl⟩ | ⟨o, mo, rfl⟩
    · obtain ⟨m, k1, st⟩ := mem_reads.mp mo
      obtain ⟨v, ev⟩ := Option.isSome_iff_exists.mp ((io o m).re k1 st)
      obtain ⟨e, eo⟩ := Option.isSome_iff_exists.mp ((io o m).ov st)
      have nr : ¬ o.version.getD 0 = 0 := nr
      rw [ev] at nr
      have nr : ¬ v = 0 := nr
      obtain ⟨w, mw, kw, vw⟩ := h.has v (by omega) ((h.ops o m).le v ev)
      refine ⟨wrX w, mem_law.mpr (.inr ⟨w, mem_writes.mpr ⟨mw, kw, by rw [vw]; rfl, .inr ⟨o, mo, by rw [ev, vw]⟩⟩, rfl⟩), rfl, ?_, ?_⟩
      · show w.version.getD 0 = o.version.getD 0
        rw [ev, vw]
      · have z := h.fit o m k1 e v eo ev w mw kw vw
        show (match o.over with | none => false | some e => decide (e < w.begun)) = false
        rw [eo]
        exact decide_eq_false (by omega)
    · cases wr
end
/-! ### the two words are the same -/
section
variable {c : Conf} {s : HS}
theorem linear_two (O : c.Ok) (r : Reach c s) : NoTwo 0 (lawL s) ↔ ¬ linP (runS c s.past) = true := by
  have S := (reach_sim O r).1
  obtain ⟨M, I⟩ := reach_times O r
  have V := r.vi O
  have io := r.io O
  have W := (r.wf O).1
  generalize runS c s.past = t at S M
  have R := S.rel
  have len := R.ops.len
  have pair : ∀ {q : POp}, q ∈ t.ops → ∃ (k : Nat) (o : OpS), s.ops[k]? = some o ∧ t.ops[k]? = some q := fun {q} m => by
    obtain ⟨k, hk, e⟩ := List.getElem_of_mem m
    have eq : t.ops[k]? = some q := by rw [List.getElem?_eq_getElem hk, e]
    exact ⟨k, _, List.getElem?_eq_getElem (by rw [len]; exact hk), eq⟩
  have pair' : ∀ {o : OpS}, o ∈ s.ops → ∃ (k : Nat) (q : POp), s.ops[k]? = some o ∧ t.ops[k]? = some q := fun {o} m => by
    obtain ⟨k, hk, e⟩ := List.getElem_of_mem m
    have eo : s.ops[k]? = some o := by rw [List.getElem?_eq_getElem hk, e]
    exact ⟨k, _, eo, List.getElem?_eq_getElem (by rw [← len]; exact hk)⟩
  have endq : ∀ {k : Nat} {o : OpS} {q : POp}, s.ops[k]? = some o → t.ops[k]? = some q → (q.ended = true ↔ o.stage = ("ended" : Str)) := fun {k o q} a b => by
    have z := (R.ops.op k o q a b).ne
    unfold POp.ended
    rw [List.isEmpty_iff]
    exact z
  have kindq : ∀ {k : Nat} {o : OpS} {q : POp}, s.ops[k]? = some o → t.ops[k]? = some q → q.kind = o.kind ∧ q.version = o.version := fun {k o q} a b => ⟨(R.ops.op k o q a b).kind, (R.ops.op k o q a b).ver⟩
  have beg : ∀ {k : Nat} {o : OpS} {q : POp}, s.ops[k]? = some o → t.ops[k]? = some q → q.began = o.begun + 1 ∧ o.begun < s.past.length := fun {k o q} a b => by
    refine ⟨(M.op k o q a b).1, ?_⟩
    obtain ⟨w, hw⟩ := I.bg k o a
    exact (List.getElem?_eq_some_iff.mp hw).1
  have pl : t.past.length = s.past.length := by rw [M.past]
  -- an end that is less than some beginning is one of an operation that has ended
  have ended : ∀ {k : Nat} {o : OpS} {q : POp}, s.ops[k]? = some o → t.ops[k]? = some q → o.stage = ("ended" : Str) → ∃ e, o.over = some e ∧ endP (t.past.length + 1) q = e + 1 ∧ e < s.past.length := fun {k o q} a b st => by
    obtain ⟨e, eo⟩ := Option.isSome_iff_exists.mp ((io o (List.mem_of_getElem? a)).ov st)
    refine ⟨e, eo, ?_, ?_⟩
    · unfold endP
      rw [if_pos ((endq a b).mpr st), (M.op k o q a b).2, eo]
      rfl
    · obtain ⟨w, hw⟩ := I.ov k o e a eo
      exact (List.getElem?_eq_some_iff.mp hw).1
  have endle : ∀ q ∈ t.ops, cntP q = true → endP (t.past.length + 1) q ≤ t.past.length + 1 := fun q m _ => by
    obtain ⟨k, o, a, b⟩ := pair m
    by_cases st : o.stage = ("ended" : Str)
    · obtain ⟨e, _, e2, e3⟩ := ended a b st
      omega
    · unfold endP
      rw [if_neg (fun z => st ((endq a b).mp z))]
      exact Nat.le_refl _
  have cnt : ∀ {k : Nat} {o : OpS} {q : POp}, s.ops[k]? = some o → t.ops[k]? = some q → (cntP q = true ↔ (o.stage = ("ended" : Str) ∨ (o.kind = ("write" : Str) ∧ o.version.isSome = true))) := fun {k o q} a b => by
    obtain ⟨h1, h2⟩ := kindq a b
    unfold cntP
    rw [Bool.or_eq_true, Bool.and_eq_true, decide_eq_true_eq, h1, h2, endq a b]
  have hzero : ∀ {v x : Nat}, zeroV v = some x → v = 0 ∧ x = 0 := fun {v x} h => by
    unfold zeroV at h
    split at h
    · rename_i z
      exact ⟨z, (Option.some.inj h).symm⟩
    · cases h
  have rver : ∀ {o : OpS}, o ∈ s.ops → o.stage = ("ended" : Str) → ∃ v, o.version = some v := fun {o} m st => by
    obtain ⟨k, hk, e⟩ := List.getElem_of_mem m
    have eo : s.ops[k]? = some o := by rw [List.getElem?_eq_getElem hk, e]
    exact Option.isSome_iff_exists.mp ((io o m).ended O (W.ops k o eo).kd st)
  -- the law's operation of a counted one
  let xOf : OpS → XOp := fun o => if o.kind = ("read" : Str) then rdX o else wrX o
  have xver : ∀ o, (xOf o).ver = o.version.getD 0 := fun o => by
    show (if o.kind = ("read" : Str) then rdX o else wrX o).ver = _
    split <;> rfl
  have xbeg : ∀ o, (xOf o).begun = o.begun := fun o => by
    show (if o.kind = ("read" : Str) then rdX o else wrX o).begun = _
    split <;> rfl
  have xover : ∀ o, o.stage = ("ended" : Str) → (xOf o).over = o.over := fun o st => by
    show (if o.kind = ("read" : Str) then rdX o else wrX o).over = _
    split
    · rfl
    · show (if o.stage = ("ended" : Str) then o.over else none) = _
      rw [if_pos st]
  have xmem : ∀ {o : OpS}, o ∈ s.ops → (o.stage = ("ended" : Str) ∨ (o.kind = ("write" : Str) ∧ o.version.isSome = true ∧ ∃ r ∈ readsL s, r.version.getD 0 = o.version.getD 0)) → xOf o ∈ lawL s := fun {o} m h => by
    by_cases kr : o.kind = ("read" : Str)
    · have e : xOf o = rdX o := if_pos kr
      rw [e]
      rcases h with h | ⟨h, _⟩
      · exact mem_law.mpr (.inl ⟨o, mem_reads.mpr ⟨m, kr, h⟩, rfl⟩)
      · rw [kr] at h; exact absurd h (by decide +kernel)
    · have e : xOf o = wrX o := if_neg kr
      rw [e]
      obtain ⟨k, hk, e⟩ := List.getElem_of_mem m
      have eo : s.ops[k]? = some o := by rw [List.getElem?_eq_getElem hk, e]
      have kw : o.kind = ("write" : Str) := (W.ops k o eo).kd.resolve_left kr
      refine mem_law.mpr (.inr ⟨o, mem_writes.mpr ⟨m, kw, ?_, ?_⟩, rfl⟩)
      · rcases h with h | ⟨_, h, _⟩
        · obtain ⟨v, ev⟩ := rver m h
          rw [ev]; rfl
        · exact h
      · rcases h with h | ⟨_, _, h⟩
        · exact .inl h
        · exact .inr h
  have bef : ∀ {o u : OpS} {e : Nat}, o.stage = ("ended" : Str) → o.over = some e → ((xOf o).before (xOf u) = decide (e < u.begun)) := fun {o u e} st eo => by
    show (match (xOf o).over with | none => false | some e => decide (e < (xOf u).begun)) = _
    rw [xover o st, eo, xbeg]
  constructor
  · intro N h
    obtain ⟨v, u, x, y, lt, _, _, e1, e2, h3, h4⟩ := linP_iff.mp h
    -- beginnings
    have begin_ : ∀ {w z : Nat}, z < (spS t w).getD 0 → ∃ (k : Nat) (o : OpS) (q : POp), s.ops[k]? = some o ∧ t.ops[k]? = some q ∧ cntP q = true ∧ o.version.getD 0 = w ∧ z < o.begun + 1 := fun {w z} hz => by
      cases eb : spS t w with
      | none => rw [eb] at hz; exact absurd hz (Nat.not_lt_zero _)
      | some b =>
        rw [eb] at hz
        have hz : z < b := hz
        rcases foldB_from t.ops zeroV w b eb with q | q | ⟨q, m, q1, q2, q3⟩
        · have := (hzero q).2
          omega
        · omega
        · obtain ⟨k, o, a, b'⟩ := pair m
          obtain ⟨_, h2⟩ := kindq a b'
          refine ⟨k, o, q, a, b', q1, by rw [← h2]; exact q2, ?_⟩
          rw [← (beg a b').1]
          omega
    have end_ : ∀ {w z w' : Nat}, spE t w = some z → z < (spS t w').getD 0 → (w = 0 ∧ z = 0) ∨ ∃ (k : Nat) (o : OpS) (q : POp) (e : Nat), s.ops[k]? = some o ∧ t.ops[k]? = some q ∧ o.stage = ("ended" : Str) ∧ o.version.getD 0 = w ∧ o.over = some e ∧ z = e + 1 := fun {w z w'} he hz => by
      rcases foldE_from t.ops zeroV w z endle he with q | ⟨q, m, q1, q2, q3⟩
      · exact .inl (hzero q)
      · obtain ⟨k, o, a, b'⟩ := pair m
        obtain ⟨_, h2⟩ := kindq a b'
        by_cases st : o.stage = ("ended" : Str)
        · obtain ⟨e, eo, e2, _⟩ := ended a b' st
          exact .inr ⟨k, o, q, e, a, b', st, by rw [← h2]; exact q2, eo, by omega⟩
        · exfalso
          unfold endP at q3
          rw [if_neg (fun z => st ((endq a b').mp z))] at q3
          obtain ⟨k2, o2, q2', a2, b2, _, _, lt2⟩ := begin_ hz
          have := (beg a2 b2).2
          omega
    obtain ⟨kq, oq, qq, aq, bq, cq, vq, lq⟩ := begin_ h3
    obtain ⟨kw, ow, qw, aw, bw, cw, vw, lw⟩ := begin_ h4
    rcases end_ e2 h4 with ⟨z, _⟩ | ⟨kr, or_, qr, er, ar, br, str_, vr, ovr, zr⟩
    · omega
    have mr := List.mem_of_getElem? ar
    have mq := List.mem_of_getElem? aq
    have mw := List.mem_of_getElem? aw
    have xr := xmem mr (.inl str_)
    -- what began is in the law's list
    have inL : ∀ {k1 k2 : Nat} {o1 o2 : OpS} {q1 q2 : POp}, s.ops[k1]? = some o1 → t.ops[k1]? = some q1 → cntP q1 = true → s.ops[k2]? = some o2 → o2.stage = ("ended" : Str) → o1.version.getD 0 = o2.version.getD 0 → xOf o1 ∈ lawL s := fun {k1 k2 o1 o2 q1 q2} a1 b1 c1 a2 st2 ev => by
      have m1 := List.mem_of_getElem? a1
      have m2 := List.mem_of_getElem? a2
      rcases (cnt a1 b1).mp c1 with z | ⟨z1, z2⟩
      · exact xmem m1 (.inl z)
      · obtain ⟨v1, ev1⟩ := Option.isSome_iff_exists.mp z2
        obtain ⟨v2, ev2⟩ := rver m2 st2
        rw [ev1, ev2] at ev
        have ev : v1 = v2 := ev
        rcases (W.ops k2 o2 a2).kd with kd | kd
        · exact xmem m1 (.inr ⟨z1, z2, o2, mem_reads.mpr ⟨m2, kd, st2⟩, by rw [ev1, ev2, ev]⟩)
        · have := V.one k1 k2 o1 o2 v1 a1 a2 z1 kd ev1 (by rw [ev2, ev])
          subst this
          rw [a1] at a2
          cases a2
          exact xmem m1 (.inl st2)
    have xq := inL (q2 := qr) aq bq cq ar str_ (vq.trans vr.symm)
    by_cases v0 : v = 0
    · have xw : xOf ow ∈ lawL s := by
        rcases (cnt aw bw).mp cw with z | ⟨z1, z2⟩
        · exact xmem mw (.inl z)
        · obtain ⟨v1, ev1⟩ := Option.isSome_iff_exists.mp z2
          have := (V.ops ow mw).ge z1 v1 ev1
          rw [ev1] at vw
          have vw : v1 = v := vw
          omega
      have z := N.head (xOf or_) xr (xOf ow) xw (by rw [xver, vw, v0]) (by rw [xver, vr]; omega)
      rw [bef str_ ovr] at z
      exact of_decide_eq_false z (by omega)
    · rcases end_ e1 h3 with ⟨z, _⟩ | ⟨kp, op, qp, ep, ap, bp, stp, vp, ovp, zp⟩
      · exact absurd z v0
      have xp := xmem (List.mem_of_getElem? ap) (.inl stp)
      have xw := inL (q2 := qp) aw bw cw ap stp (vw.trans vp.symm)
      refine N.two (xOf op) xp (xOf oq) xq (xOf or_) xr (xOf ow) xw (by rw [xver, xver, vp, vw]) (by rw [xver, xver, vq, vr]) (by rw [xver, xver, vp, vq]; omega) ?_ ?_
      · rw [bef stp ovp]
        exact decide_eq_true (by omega)
      · rw [bef str_ ovr]
        exact decide_eq_true (by omega)
  · intro h
    -- each of the law's list is a counted one
    have back : ∀ {x : XOp}, x ∈ lawL s → ∃ (k : Nat) (o : OpS) (q : POp), s.ops[k]? = some o ∧ t.ops[k]? = some q ∧ cntP q = true ∧ x.ver = o.version.getD 0 ∧ x.begun = o.begun ∧ (∀ e, x.over = some e → o.stage = ("ended" : Str) ∧ o.over = some e) := fun {x} hx => by
      rcases mem_law.mp hx with ⟨o, mo, rfl⟩ | ⟨o, mo, rfl⟩
      · obtain ⟨m, k1, st⟩ := mem_reads.mp mo
        obtain ⟨k, q, a, b⟩ := pair' m
        exact ⟨k, o, q, a, b, (cnt a b).mpr (.inl st), rfl, rfl, fun e ee => ⟨st, ee⟩⟩
      · obtain ⟨m, k1, v1, _⟩ := mem_writes.mp mo
        obtain ⟨k, q, a, b⟩ := pair' m
        refine ⟨k, o, q, a, b, (cnt a b).mpr (.inr ⟨k1, v1⟩), rfl, rfl, fun e ee => ?_⟩
        have ee : (if o.stage = ("ended" : Str) then o.over else none) = some e := ee
        split at ee
        · rename_i st
          exact ⟨st, ee⟩
        · cases ee
    have verle : ∀ {k : Nat} {o : OpS} {q : POp}, s.ops[k]? = some o → t.ops[k]? = some q → o.version.getD 0 ≤ t.db := fun {k o q} a b => by
      rw [R.db]
      cases ev : o.version with
      | none => exact Nat.zero_le _
      | some v => exact (V.ops o (List.mem_of_getElem? a)).le v ev
    have lowE : ∀ {k : Nat} {o : OpS} {q : POp} {e : Nat}, s.ops[k]? = some o → t.ops[k]? = some q → cntP q = true → o.stage = ("ended" : Str) → o.over = some e → ∃ y, y ≤ e + 1 ∧ spE t (o.version.getD 0) = some y := fun {k o q e} a b cq st eo => by
      obtain ⟨y, h1, h2⟩ := foldE_mem (n := t.past.length + 1) t.ops zeroV q (List.mem_of_getElem? b) cq
      obtain ⟨e', eo', e2, _⟩ := ended a b st
      rw [eo] at eo'
      cases eo'
      rw [(kindq a b).2] at h2
      exact ⟨y, by omega, h2⟩
    have highB : ∀ {k : Nat} {o : OpS} {q : POp}, s.ops[k]? = some o → t.ops[k]? = some q → cntP q = true → o.begun + 1 ≤ (spS t (o.version.getD 0)).getD 0 := fun {k o q} a b cq => by
      obtain ⟨y, h1, h2⟩ := foldB_mem t.ops zeroV q (List.mem_of_getElem? b) cq
      rw [(kindq a b).2] at h2
      have z : spS t (o.version.getD 0) = some y := h2
      rw [z]
      rw [(beg a b).1] at h1
      exact h1
    have bf : ∀ {x y : XOp}, x.before y = true → ∃ e, x.over = some e ∧ e < y.begun := fun {x y} h => by
      unfold XOp.before at h
      cases e : x.over with
      | none => rw [e] at h; cases h
      | some e' => rw [e] at h; exact ⟨e', rfl, of_decide_eq_true h⟩
    have no : ∀ {v u x y : Nat}, ¬ v = u → v ≤ t.db → u ≤ t.db → spE t v = some x → spE t u = some y → x < (spS t u).getD 0 → y < (spS t v).getD 0 → False := fun {v u x y} ne h1 h2 e1 e2 h3 h4 => by
      rcases Nat.lt_or_gt_of_ne ne with z | z
      · exact h (linP_iff.mpr ⟨v, u, x, y, z, h1, h2, e1, e2, h3, h4⟩)
      · exact h (linP_iff.mpr ⟨u, v, y, x, z, h2, h1, e2, e1, h4, h3⟩)
    refine ⟨fun y hy z hz ez ny => ?_, fun x1 m1 y1 m2 y2 m3 x2 m4 e1 e2 ne b1 b2 => ?_⟩
    · cases hb : y.before z with
      | false => rfl
      | true =>
        exfalso
        obtain ⟨e, eo, lt⟩ := bf hb
        obtain ⟨ky, oy, qy, ay, by_, cy, vy, bgy, ovy⟩ := back hy
        obtain ⟨kz, oz, qz, az, bz, cz, vz, bgz, ovz⟩ := back hz
        obtain ⟨st, eoo⟩ := ovy e eo
        obtain ⟨y', l1, l2⟩ := lowE ay by_ cy st eoo
        have hB := highB az bz cz
        obtain ⟨x0, l3, l4⟩ := foldE_le (n := t.past.length + 1) t.ops zeroV 0 0 rfl
        rw [← vz, ez] at hB
        have hB2 := highB ay by_ cy
        exact no (v := 0) (u := oy.version.getD 0) (by rw [← vy]; exact fun z => ny z.symm) (Nat.zero_le _) (verle ay by_) l4 l2 (by omega) (by omega)
    · obtain ⟨p, ep, lp⟩ := bf b1
      obtain ⟨r', er, lr⟩ := bf b2
      obtain ⟨k1, o1, q1, a1, b1', c1, v1, g1, ov1⟩ := back m1
      obtain ⟨k2, o2, q2, a2, b2', c2, v2, g2, ov2⟩ := back m2
      obtain ⟨k3, o3, q3, a3, b3', c3, v3, g3, ov3⟩ := back m3
      obtain ⟨k4, o4, q4, a4, b4', c4, v4, g4, ov4⟩ := back m4
      obtain ⟨st1, eo1⟩ := ov1 p ep
      obtain ⟨st3, eo3⟩ := ov3 r' er
      obtain ⟨x, l1, l2⟩ := lowE a1 b1' c1 st1 eo1
      obtain ⟨y, l3, l4⟩ := lowE a3 b3' c3 st3 eo3
      have h2 := highB a2 b2' c2
      have h4 := highB a4 b4' c4
      have w1 : o4.version.getD 0 = o1.version.getD 0 := by rw [← v4, ← v1, e1]
      have w2 : o3.version.getD 0 = o2.version.getD 0 := by rw [← v3, ← v2, e2]
      rw [w2] at l4
      rw [w1] at h4
      exact no (v := o1.version.getD 0) (u := o2.version.getD 0) (by rw [← v1, ← v2]; exact ne) (verle a1 b1') (verle a2 b2') l2 l4 (by omega) (by omega)
theorem linear_eq (O : c.Ok) (r : Reach c s) (l : s.past.length ≤ 14) : inOrderH s = !linP (runS c s.past) := by
  have hol := (r.wf O).2
  have z := ord_iff (n := 14) (v := 0) (Nat.le_trans (law_len s) (by omega)) (law_one (r.vi O)) (law_fit (r.vi O) (r.io O))
  have y := linear_two O r
  rw [inOrderH_eq]
  cases h : linP (runS c s.past) with
  | true =>
    have : ¬ ordB 14 (lawL s) 0 = true := fun w => (y.mp (z.mp w)) h
    simpa using this
  | false =>
    exact z.mpr (y.mpr (by rw [h]; decide))
end
end Ca

set_option Elab.async false
set_option linter.all false
set_option maxRecDepth 100000
set_option maxHeartbeats 4000000
namespace Ca
open PySem L2
/-- what the words on orders ask of a play -/
structure BOk0 (c : Conf) (t : PSt) : Prop where
  ok : c.Ok
  len : t.ops.length ≤ 90
  past : t.past.length ≤ 90
  q : ∀ o ∈ t.ops, QOk o
  db : ∀ o ∈ t.ops, ∀ v, o.version = some v → v ≤ t.db
end Ca

set_option Elab.async false
set_option linter.all false
set_option maxRecDepth 100000
set_option maxHeartbeats 4000000
namespace Ca
open PySem L2
/-! ### the program's spans -/
structure SpAt (kvs : List (Key × V)) (f : VN) : Prop where
  val : ∀ v : Nat, valV kvs (Sum.inl (v : Int)) = (f v).map fun x => V.int (x : Int)
  key : ∀ p ∈ kvs, ∃ v : Nat, p.1 = Sum.inl (v : Int) ∧ (f v).isSome = true
theorem putK_len {l : List (Key × V)} {k : Key} {v : V} : (putK l k v).length ≤ l.length + 1 := by
  unfold putK
  split <;> simp
theorem SpAt.put {kvs : List (Key × V)} {f : VN} {v x : Nat} (h : SpAt kvs f) : SpAt (putK kvs (Sum.inl (v : Int)) (.int (x : Int))) (fun u => if u = v then some x else f u) := by
  refine ⟨fun u => ?_, fun p hp => ?_⟩
  · rw [valV_put]
    by_cases e : u = v
    · rw [if_pos (by rw [e]), if_pos e]
      rfl
    · rw [if_neg (fun z => e (by have := Sum.inl.inj z; omega)), if_neg e]
      exact h.val u
  · unfold putK at hp
    split at hp
    · obtain ⟨q, hq, rfl⟩ := List.mem_map.mp hp
      obtain ⟨u, e1, e2⟩ := h.key q hq
      refine ⟨u, ?_, ?_⟩
      · split
        · exact e1
        · exact e1
      · show (if u = v then some x else f u).isSome = true
        split
        · rfl
        · exact e2
    · rcases List.mem_append.mp hp with hp | hp
      · obtain ⟨u, e1, e2⟩ := h.key p hp
        refine ⟨u, e1, ?_⟩
        show (if u = v then some x else f u).isSome = true
        split
        · rfl
        · exact e2
      · rw [List.mem_singleton] at hp
        rw [hp]
        exact ⟨v, rfl, by show (if v = v then some x else f v).isSome = true; rw [if_pos rfl]; rfl⟩
theorem spAt_zero : SpAt [(Sum.inl 0, .int 0)] zeroV := by
  refine ⟨fun u => ?_, fun p hp => ?_⟩
  · unfold zeroV
    by_cases e : u = 0
    · rw [if_pos e, e]
      rfl
    · rw [if_neg e]
      refine (valV_neg (fun z => e ?_)).trans valV_nil
      have z : (0 : Int) = (u : Int) := Sum.inl.inj z
      omega
  · rw [List.mem_singleton] at hp
    rw [hp]
    exact ⟨0, rfl, rfl⟩
theorem stE_put {n : Nat} {e : VN} {o : POp} (h : cntP o = true) : stE n e o = fun u => if u = o.version.getD 0 then some (min (endP n o) ((e (o.version.getD 0)).getD n)) else e u := by
  funext u
  by_cases z : u = o.version.getD 0
  · rw [if_pos z, z]
    exact stE_hit h
  · rw [if_neg z]
    exact stE_miss fun y => z y.2
theorem stB_put {e : VN} {o : POp} (h : cntP o = true) : stB e o = fun u => if u = o.version.getD 0 then some (max o.began ((e (o.version.getD 0)).getD 0)) else e u := by
  funext u
  by_cases z : u = o.version.getD 0
  · rw [if_pos z, z]
    exact stB_hit h
  · rw [if_neg z]
    exact stB_miss fun y => z y.2
theorem stE_no {n : Nat} {e : VN} {o : POp} (h : cntP o = false) : stE n e o = e := by
  funext u
  exact stE_miss fun y => by rw [h] at y; cases y.1
theorem stB_no {e : VN} {o : POp} (h : cntP o = false) : stB e o = e := by
  funext u
  exact stB_miss fun y => by rw [h] at y; cases y.1
theorem int_min {i j : Nat} : (if (j : Int) < (i : Int) then (j : Int) else (i : Int)) = ((min i j : Nat) : Int) := by
  by_cases h : j < i
  · rw [if_pos (by omega), Nat.min_eq_right (by omega)]
  · rw [if_neg (by omega), Nat.min_eq_left (by omega)]
theorem int_max {i j : Nat} : (if (j : Int) > (i : Int) then (j : Int) else (i : Int)) = ((max i j : Nat) : Int) := by
  by_cases h : j > i
  · rw [if_pos (by omega), Nat.max_eq_right (by omega)]
  · rw [if_neg (by omega), Nat.max_eq_left (by omega)]
/-- what spans leaves -/
structure Spans (H H' : Hp) (tp e b : Addr) (t : PSt) : Prop where
  x : Evl.Ex H H'
  tp : H' tp = some (.tup [.ref e, .ref b])
  ne : e ≠ b
  ends : ∃ kvs, H' e = some (.dK kvs) ∧ SpAt kvs (spE t) ∧ kvs.length ≤ 1 + t.ops.length
  begs : ∃ kvs, H' b = some (.dK kvs) ∧ SpAt kvs (spS t)
  fe : H e = none
@[irreducible] def spSpans (C D : Addr) : Sp := fun vs H Q _ => ∃ (c : Conf) (p : Addr) (A : PL) (t : PSt), vs = [.ref p] ∧ Play0 C D c H p A t ∧ BOk0 c t ∧ ∀ H' tp e b, Spans H H' tp e b t → Q (.ref tp) H'
theorem spans_i {C D p : Addr} {c : Conf} {H : Hp} {A : PL} {t : PSt} {Q : VK} {E : XK} (L : Play0 C D c H p A t) (B : BOk0 c t) (q : ∀ H' tp e b, Spans H H' tp e b t → Q (.ref tp) H') : spSpans C D [.ref p] H Q E := by
  unfold spSpans
  exact ⟨c, p, A, t, rfl, L, B, q⟩
section
variable {P : Program} {w : World} {K : PySem.W.Frag} {mg : Str → Option Value} {base : Heap}
theorem ok_spans (T : Txt K mg) : FnOk P w K mg base CX0 3 T.f_spans T.fd_spans ["play"] (spSpans T.C_Operation T.C_Play) := by
  refine T.F_spans.ok sc_spans (fun vs H Q E h => ?_) (fun cdv A outer s H vs Q E hr h => ?_)
  · unfold spSpans at h
    obtain ⟨c, p, A, t, rfl, _⟩ := h
    rfl
  · unfold spSpans at h
    obtain ⟨c, p, A, t, rfl, L, B, q⟩ := h
    have hu := hu_of hr
    have bl := B.len
    refine ⟨_, (pss_cons (ps_set (i := 1) sc_spans.nd rfl (Or.inl rfl) (pe_op op_add (pe_callB call_len_seq (by rfl) T.n_len (by decide +kernel) (pa_cons (pe_fld (pv 0) rfl) pa_nil)) pe_int))
      (pss_cons (ps_set (i := 2) sc_spans.nd rfl (Or.inl rfl) (pe_disp (pps_cons pe_int pe_int pps_nil) rfl rfl (by simp) (by decide)))
      (pss_cons (ps_set (i := 3) sc_spans.nd rfl (Or.inl rfl) (pe_disp (pps_cons pe_int pe_int pps_nil) rfl rfl (by simp) (by decide)))
      (pss_cons (ps_for PassesOwn.never rfl (pi_list (pe_fld (pv 0) rfl)) (pg_name (i := 4) sc_spans.nd rfl (Or.inl rfl)) (pss_one (ps_if (PW.pt (pw_or (pt_val (pe_meth0 (pv 4) T.c_Operation T.M_Operation_has_ended (ok_Operation_has_ended T) (hr.mono (by decide)) (b_Operation_has_ended T) .nil pass0)) (pw_or1 (PW.pt (pw_and (pt_cmpR op_eq (pe_fld (pv 4) rfl) pe_str (nomark _)) (pw_and1 (pt_cmpR op_notN (pe_fld (pv 4) rfl) pe_non (nomark _)))))))) (pss_cons (ps_set (i := 5) sc_spans.nd rfl (Or.inl rfl) (pe_ifExp (pt_val (pe_meth0 (pv 4) T.c_Operation T.M_Operation_has_ended (ok_Operation_has_ended T) (hr.mono (by decide)) (b_Operation_has_ended T) .nil pass0)) (pe_fld (pv 4) rfl) (pv 1)))
      (pss_cons (ps_dput hu (pv 2) (pe_fld (pv 4) rfl) (pe_callB (call_min2 rfl) (by rfl) T.n_min (by decide +kernel) (pa_cons (pv 5) (pa_cons (pe_dget2 hu (pv 2) (pe_fld (pv 4) rfl) (pv 1) ⟨rfl, rfl, rfl, rfl⟩) pa_nil))) rfl)
      (pss_one (ps_dput hu (pv 3) (pe_fld (pv 4) rfl) (pe_callB (call_max2 rfl) (by rfl) T.n_max (by decide +kernel) (pa_cons (pe_fld (pv 4) rfl) (pa_cons (pe_dget2 hu (pv 3) (pe_fld (pv 4) rfl) pe_int ⟨rfl, rfl, rfl, rfl⟩) pa_nil))) rfl)))) pss_nil)))
      (pss_one (ps_ret (pe_tup (pa_cons (pv 2) (pa_cons (pv 3) pa_nil))))))))), ?_⟩
    -- how many events, the two dicts
    refine ⟨_, rfl, _, _, _, _, _, rfl, L.at_, T.c_Play, T.a_Play_past, l_Play_past, A.pa, _, rfl, .inl (SqL.of L.pa), _, _, rfl, rfl, ?_⟩
    have el : (A.eas.map V.ref).length = t.past.length := L.evs.length
    rw [el]
    refine fun e ne => ?_
    refine ⟨upd_same, [(Sum.inl 0, .int 0)], rfl, by decide, ?_⟩
    rw [upd_upd]
    have e1 := Evl.Ex.new (o := .dK (mergeK [] [(Sum.inl 0, .int 0)])) ne
    have he1 : (upd H e (.dK (mergeK [] [(Sum.inl 0, .int 0)]))) e = some (.dK [(Sum.inl 0, .int 0)]) := upd_same
    generalize upd H e (.dK (mergeK [] [(Sum.inl 0, .int 0)])) = H1 at e1 he1
    refine fun b nb => ?_
    refine ⟨upd_same, [(Sum.inl 0, .int 0)], rfl, by decide, ?_⟩
    rw [upd_upd]
    have e2 := Evl.Ex.new (o := .dK (mergeK [] [(Sum.inl 0, .int 0)])) nb
    have hb2 : (upd H1 b (.dK (mergeK [] [(Sum.inl 0, .int 0)]))) b = some (.dK [(Sum.inl 0, .int 0)]) := upd_same
    have he2 := e2 _ _ he1
    generalize upd H1 b (.dK (mergeK [] [(Sum.inl 0, .int 0)])) = H2 at e2 hb2 he2
    have nb0 : H b = none := Evl.fresh_back e1 nb
    have neb : e ≠ b := fun z => by
      rw [z, nb] at he1
      cases he1
    have e02 := e1.trans e2
    have L2 := L.same (same_ex e02)
    show tSeq _ _ _ [some (.ref p), some (.int ((t.past.length : Int) + 1)), some (.ref e), some (.ref b), none, none] H2
    refine ⟨_, rfl, _, _, _, _, _, rfl, L2.at_, T.c_Play, T.a_Play_operations, l_Play_operations, A.lo, rfl, ⟨_, SqL.of L2.lo0⟩, for_list (xs := A.oas.map V.ref) (fun i σ H' => ∃ x4 x5, σ = [some (.ref p), some (.int ((t.past.length : Int) + 1)), some (.ref e), some (.ref b), x4, x5] ∧ Evl.Ex H H' ∧
      (∃ kvs, H' e = some (.dK kvs) ∧ SpAt kvs ((t.ops.take i).foldl (stE (t.past.length + 1)) zeroV) ∧ kvs.length ≤ 1 + i) ∧ ∃ kvs, H' b = some (.dK kvs) ∧ SpAt kvs ((t.ops.take i).foldl stB zeroV) ∧ kvs.length ≤ 1 + i)
      ⟨none, none, rfl, e02, ⟨_, he2, spAt_zero, Nat.le_refl _⟩, ⟨_, hb2, spAt_zero, Nat.le_refl _⟩⟩ (fun i σ' H' _ ⟨_, _, _, x, _⟩ => SqL.of (L.same (same_ex x)).lo0) ?_ ?_⟩
    · rintro i x σ' H3 hi ⟨x4, x5, rfl, x3, ⟨ke, he, se, le⟩, ⟨kb, hb, sb, lb⟩⟩
      obtain ⟨a, ea, rfl⟩ : ∃ a, A.oas[i]? = some a ∧ x = .ref a := by
        rw [List.getElem?_map, Option.map_eq_some_iff] at hi
        obtain ⟨a, h1, h2⟩ := hi
        exact ⟨a, h1, h2.symm⟩
      have il : i < t.ops.length := by
        rw [← L.ops.len]
        exact (List.getElem?_eq_some_iff.mp ea).1
      obtain ⟨o, eo⟩ : ∃ o, t.ops[i]? = some o := ⟨_, List.getElem?_eq_getElem il⟩
      have mo := List.mem_of_getElem? eo
      have L3 := L.same (same_ex x3)
      have OA := L3.ops.get i a o ea eo
      obtain ⟨dx, ta, h1, h2⟩ := id OA
      have tk : t.ops.take (i + 1) = t.ops.take i ++ [o] := by
        rw [List.take_succ, eo]
        rfl
      rw [tk, List.foldl_append, List.foldl_append]
      generalize hfe : (t.ops.take i).foldl (stE (t.past.length + 1)) zeroV = fe at se
      generalize hfb : (t.ops.take i).foldl stB zeroV = fb at sb
      show tIfS _ _ _ _ [some (.ref p), some (.int ((t.past.length : Int) + 1)), some (.ref e), some (.ref b), some (.ref a), x5] H3
      refine Evl.s_if (b := cntP o) ?_ (fun hc H4 x34 => ?_) (fun hc H4 x34 => ?_)
      · intro H5 x5 Q5 q5
        have OA5 := OA.same (same_ex x5)
        obtain ⟨dx5, ta5, h15, h25⟩ := id OA5
        refine ⟨_, rfl, _, _, _, rfl, h15, ln_Operation_has_ended, ?_⟩
        refine ended_i OA5 ⟨_, rfl, ?_⟩
        unfold cntP at q5
        cases he' : o.ended with
        | true =>
          rw [he'] at q5
          exact iteT (q5 _ (Evl.Ex.refl _))
        | false =>
          rw [he', Bool.false_or] at q5
          refine iteF ⟨_, rfl, _, _, _, _, _, rfl, h15, T.c_Operation, T.a_Operation_kind, l_Operation_kind, rfl, _, rfl, ?_⟩
          rw [show decide (V.str o.kind = V.str "write") = decide (o.kind = ("write" : Str)) from by simp]
          cases hk : decide (o.kind = ("write" : Str)) with
          | false =>
            rw [hk] at q5
            exact iteF (q5 _ (Evl.Ex.refl _))
          | true =>
            rw [hk, Bool.true_and] at q5
            refine iteT ⟨_, rfl, _, _, _, _, _, rfl, h15, T.c_Operation, T.a_Operation_version, l_Operation_version, rfl, _, rfl, ?_⟩
            rw [show (!decide (on o.version = V.non)) = o.version.isSome from by cases o.version <;> rfl]
            exact q5 _ (Evl.Ex.refl _)
      · obtain ⟨v, ev⟩ : ∃ v, o.version = some v := by
          unfold cntP at hc
          rw [Bool.or_eq_true, Bool.and_eq_true] at hc
          rcases hc with z | ⟨_, z⟩
          · exact (B.q o mo).ver z
          · exact Option.isSome_iff_exists.mp z
        have vd : o.version.getD 0 = v := by rw [ev]; rfl
        have OA4 := OA.same (same_ex x34)
        have he4 := x34 _ _ he
        have hb4 := x34 _ _ hb
        have vf : ∀ {oas : List Addr} {ta : Addr}, (opF oas o ta).lookup ("version" : Str) = some (.int (v : Int)) := fun {oas ta} => by
          rw [l_Operation_version, ev]
          rfl
        -- where it ended
        refine Evl.q_asg (v := .int ((endP (t.past.length + 1) o : Nat) : Int)) ?_ fun H5 x45 => ?_
        · intro H6 x6 Q6 q6
          have OA6 := OA4.same (same_ex x6)
          obtain ⟨dx6, ta6, h16, h26⟩ := id OA6
          refine ⟨_, rfl, _, _, _, rfl, h16, ln_Operation_has_ended, ?_⟩
          refine ended_i OA6 ⟨_, rfl, ?_⟩
          unfold endP at q6
          cases he' : o.ended with
          | true =>
            rw [he'] at q6
            obtain ⟨x, ex⟩ := (B.q o mo).left (under_ended he')
            refine iteT ⟨_, rfl, _, _, _, _, _, rfl, h16, T.c_Operation, T.a_Operation_left, l_Operation_left, ?_⟩
            have q6 : ∀ H2, Evl.Ex H6 H2 → Q6 (.int ((o.left.getD 0 : Nat) : Int)) H2 := q6
            rw [ex] at q6 ⊢
            exact q6 _ (Evl.Ex.refl _)
          | false =>
            rw [he'] at q6
            refine iteF ⟨_, rfl, ?_⟩
            exact q6 _ (Evl.Ex.refl _)
        have OA5 := OA4.same (same_ex x45)
        obtain ⟨dx5, ta5, h15, h25⟩ := id OA5
        have he5 := x45 _ _ he4
        have hb5 := x45 _ _ hb4
        have le5 : ke.length < sizeLine := Nat.lt_of_le_of_lt (Nat.le_trans le (by omega : 1 + i ≤ 1000)) (by decide)
        have lb5 : kb.length < sizeLine := Nat.lt_of_le_of_lt (Nat.le_trans lb (by omega : 1 + i ≤ 1000)) (by decide)
        have gE := se.val v
        have gB := sb.val v
        show tSeq _ _ _ [some (.ref p), some (.int ((t.past.length : Int) + 1)), some (.ref e), some (.ref b), some (.ref a), some (.int ((endP (t.past.length + 1) o : Nat) : Int))] H5
        -- the first end
        have hgE : (valV ke (Sum.inl (v : Int))).getD (V.int ((t.past.length : Int) + 1)) = V.int (((fe v).getD (t.past.length + 1) : Nat) : Int) := by
          rw [gE]
          cases fe v <;> rfl
        have hgB : (valV kb (Sum.inl (v : Int))).getD (V.int 0) = V.int (((fb v).getD 0 : Nat) : Int) := by
          rw [gB]
          cases fb v <;> rfl
        refine ⟨_, rfl, _, rfl, e, rfl, .inl ⟨ke, .inl he5⟩, _, rfl, _, _, _, _, _, rfl, h15, T.c_Operation, T.a_Operation_version, vf, _, rfl, _, DGet.k (k := Sum.inl (v : Int)) he5, ((endP (t.past.length + 1) o : Nat) : Int), (((fe v).getD (t.past.length + 1) : Nat) : Int), by rw [hgE], ?_⟩
        rw [int_min]
        refine ⟨_, rfl, _, rfl, _, _, _, _, _, rfl, h15, T.c_Operation, T.a_Operation_version, vf, e, _, rfl, DPut.k (k := Sum.inl (v : Int)) he5 le5, ?_⟩
        have se' := se.put (v := v) (x := min (endP (t.past.length + 1) o) ((fe v).getD (t.past.length + 1)))
        rw [show (fun u => if u = v then some (min (endP (t.past.length + 1) o) ((fe v).getD (t.past.length + 1))) else fe u) = stE (t.past.length + 1) fe o from by rw [stE_put hc, vd]] at se'
        have le' : (putK ke (Sum.inl (v : Int)) (.int ((min (endP (t.past.length + 1) o) ((fe v).getD (t.past.length + 1)) : Nat) : Int))).length ≤ 1 + (i + 1) := by
          have := putK_len (l := ke) (k := Sum.inl (v : Int)) (v := .int ((min (endP (t.past.length + 1) o) ((fe v).getD (t.past.length + 1)) : Nat) : Int))
          omega
        have x05 := (x3.trans x34).trans x45
        have x06 : Evl.Ex H (upd H5 e (.dK (putK ke (Sum.inl (v : Int)) (.int ((min (endP (t.past.length + 1) o) ((fe v).getD (t.past.length + 1)) : Nat) : Int))))) := Evl.Ex.mut x05 ne
        have he6 : (upd H5 e (.dK (putK ke (Sum.inl (v : Int)) (.int ((min (endP (t.past.length + 1) o) ((fe v).getD (t.past.length + 1)) : Nat) : Int))))) e = some (.dK (putK ke (Sum.inl (v : Int)) (.int ((min (endP (t.past.length + 1) o) ((fe v).getD (t.past.length + 1)) : Nat) : Int)))) := upd_same
        have hb6 : (upd H5 e (.dK (putK ke (Sum.inl (v : Int)) (.int ((min (endP (t.past.length + 1) o) ((fe v).getD (t.past.length + 1)) : Nat) : Int))))) b = some (.dK kb) := by
          rw [upd_ne neb.symm]
          exact hb5
        generalize putK ke (Sum.inl (v : Int)) (.int ((min (endP (t.past.length + 1) o) ((fe v).getD (t.past.length + 1)) : Nat) : Int)) = ke' at se' le' x06 he6 hb6
        generalize upd H5 e (.dK ke') = H6 at x06 he6 hb6
        -- the last beginning
        have L6 := L.same (same_ex x06)
        obtain ⟨dx6, ta6, h16, h26⟩ := id (L6.ops.get i a o ea eo)
        refine ⟨_, rfl, _, _, _, _, _, rfl, h16, T.c_Operation, T.a_Operation_began, l_Operation_began, _, rfl, b, rfl, .inl ⟨kb, .inl hb6⟩, _, rfl, _, _, _, _, _, rfl, h16, T.c_Operation, T.a_Operation_version, vf, _, DGet.k (k := Sum.inl (v : Int)) hb6, (o.began : Int), (((fb v).getD 0 : Nat) : Int), by rw [hgB], ?_⟩
        rw [int_max]
        refine ⟨_, rfl, _, rfl, _, _, _, _, _, rfl, h16, T.c_Operation, T.a_Operation_version, vf, b, _, rfl, DPut.k (k := Sum.inl (v : Int)) hb6 lb5, ?_⟩
        have sb' := sb.put (v := v) (x := max o.began ((fb v).getD 0))
        rw [show (fun u => if u = v then some (max o.began ((fb v).getD 0)) else fb u) = stB fb o from by rw [stB_put hc, vd]] at sb'
        have lb' : (putK kb (Sum.inl (v : Int)) (.int ((max o.began ((fb v).getD 0) : Nat) : Int))).length ≤ 1 + (i + 1) := by
          have := putK_len (l := kb) (k := Sum.inl (v : Int)) (v := .int ((max o.began ((fb v).getD 0) : Nat) : Int))
          omega
        refine ⟨_, _, rfl, Evl.Ex.mut x06 nb0, ⟨ke', ?_, se', le'⟩, ⟨_, upd_same, sb', lb'⟩⟩
        rw [upd_ne neb]
        exact he6
      · have c0 : cntP o = false := hc
        rw [List.foldl_cons, List.foldl_nil, List.foldl_cons, List.foldl_nil, stE_no c0, stB_no c0]
        exact ⟨_, _, rfl, x3.trans x34, ⟨_, x34 _ _ he, se, by omega⟩, ⟨_, x34 _ _ hb, sb, by omega⟩⟩
    · rintro σ' H3 ⟨x4, x5, rfl, x3, ⟨ke, he, se, le⟩, ⟨kb, hb, sb, lb⟩⟩
      have il : (A.oas.map V.ref).length = t.ops.length := by rw [List.length_map, L.ops.len]
      rw [il, List.take_length] at se sb
      rw [il] at le
      refine ⟨_, rfl, _, rfl, (by show 2 ≤ sizeLine; decide), fun tp ntp => ?_⟩
      have x4' := Evl.Ex.new (o := .tup [.ref e, .ref b]) ntp
      exact q _ tp e b ⟨x3.trans x4', upd_same, neb, ⟨ke, x4' _ _ he, se, le⟩, ⟨kb, x4' _ _ hb, sb⟩, ne⟩
end
end Ca

set_option Elab.async false
set_option linter.all false
set_option maxRecDepth 100000
set_option maxHeartbeats 4000000
namespace Ca
open PySem L2
/-! ### the pairs of versions that the program looks at -/
theorem foldE_some {n : Nat} : ∀ (l : List POp) (e : VN) (u : Nat), (l.foldl (stE n) e u).isSome = true → (e u).isSome = true ∨ ∃ o ∈ l, cntP o = true ∧ o.version.getD 0 = u
  | [], e, u, h => .inl h
  | o :: l, e, u, h => by
    rw [List.foldl_cons] at h
    rcases foldE_some l (stE n e o) u h with z | ⟨a, m, z1, z2⟩
    · by_cases q : cntP o = true ∧ u = o.version.getD 0
      · exact .inr ⟨o, List.mem_cons_self .., q.1, q.2.symm⟩
      · rw [stE_miss q] at z
        exact .inl z
    · exact .inr ⟨a, List.mem_cons_of_mem _ m, z1, z2⟩
def pairT (e b : VN) (v u : Nat) : Bool := decide ((e v).getD 0 < (b u).getD 0) && decide ((e u).getD 0 < (b v).getD 0)
def rowB (ks : List Nat) (T : Nat → Nat → Bool) (v : Nat) : List Bool := (ks.filter fun u => decide (v < u)).map (T v)
def allB (ks : List Nat) (T : Nat → Nat → Bool) (l : List Nat) : List Bool := l.flatMap (rowB ks T)
theorem allB_succ {ks l : List Nat} {T : Nat → Nat → Bool} {i v : Nat} (h : l[i]? = some v) : allB ks T (l.take (i + 1)) = allB ks T (l.take i) ++ rowB ks T v := by
  unfold allB
  rw [List.take_succ, h, List.flatMap_append]
  simp
theorem rowB_succ {ks : List Nat} {T : Nat → Nat → Bool} {v j u : Nat} (h : ks[j]? = some u) : rowB (ks.take (j + 1)) T v = rowB (ks.take j) T v ++ (if decide (v < u) = true then [T v u] else []) := by
  unfold rowB
  rw [List.take_succ, h, List.filter_append, List.map_append]
  congr 1
  show ((List.filter _ [u]).map _) = _
  rw [List.filter_cons, List.filter_nil]
  split <;> rfl
theorem rowB_len {ks : List Nat} {T : Nat → Nat → Bool} {v : Nat} : (rowB ks T v).length ≤ ks.length := by
  unfold rowB
  rw [List.length_map]
  exact List.length_filter_le _ _
theorem allB_len {ks : List Nat} {T : Nat → Nat → Bool} : ∀ l : List Nat, (allB ks T l).length ≤ l.length * ks.length
  | [] => by simp [allB]
  | v :: l => by
    have ih := allB_len (ks := ks) (T := T) l
    unfold allB at ih ⊢
    rw [List.flatMap_cons, List.length_append, List.length_cons, Nat.succ_mul]
    have := rowB_len (ks := ks) (T := T) (v := v)
    omega
theorem keys_nat {kvs : List (Key × V)} (h : ∀ p ∈ kvs, ∃ v : Nat, p.1 = Sum.inl (v : Int)) : ∃ ks : List Nat, kvs.map (·.1) = ks.map fun v : Nat => (Sum.inl (v : Int) : Key) := by
  induction kvs with
  | nil => exact ⟨[], rfl⟩
  | cons p l ih =>
    obtain ⟨ks, e⟩ := ih fun q m => h q (List.mem_cons_of_mem _ m)
    obtain ⟨v, ev⟩ := h p (List.mem_cons_self ..)
    exact ⟨v :: ks, by rw [List.map_cons, List.map_cons, e, ev]⟩
theorem valV_mem {kvs : List (Key × V)} {k : Key} {v : V} (h : valV kvs k = some v) : (k, v) ∈ kvs := by
  unfold valV at h
  rw [Option.map_eq_some_iff] at h
  obtain ⟨p, hp, rfl⟩ := h
  have m := List.mem_of_find?_eq_some hp
  have e : p.1 = k := by
    have z := List.find?_some hp
    exact of_decide_eq_true z
  rw [← e]
  exact m
theorem lin_any {c : Conf} {t : PSt} {kvs : List (Key × V)} {ks : List Nat} (B : BOk0 c t) (S : SpAt kvs (spE t)) (hk : kvs.map (·.1) = ks.map fun v : Nat => (Sum.inl (v : Int) : Key)) : (allB ks (pairT (spE t) (spS t)) ks).any id = linP t := by
  have mem : ∀ v, v ∈ ks ↔ (spE t v).isSome = true := fun v => by
    constructor
    · intro m
      have : (Sum.inl (v : Int) : Key) ∈ kvs.map (·.1) := by rw [hk]; exact List.mem_map.mpr ⟨v, m, rfl⟩
      obtain ⟨p, mp, ep⟩ := List.mem_map.mp this
      obtain ⟨u, e1, e2⟩ := S.key p mp
      have z : (u : Int) = (v : Int) := Sum.inl.inj (e1.symm.trans ep)
      have : u = v := by omega
      rw [← this]
      exact e2
    · intro h
      obtain ⟨x, ex⟩ := Option.isSome_iff_exists.mp h
      have z := S.val v
      rw [ex] at z
      have : (Sum.inl (v : Int) : Key) ∈ kvs.map (·.1) := List.mem_map.mpr ⟨_, valV_mem z, rfl⟩
      rw [hk] at this
      obtain ⟨u, mu, eu⟩ := List.mem_map.mp this
      have z : (u : Int) = (v : Int) := Sum.inl.inj eu
      have : u = v := by omega
      rw [← this]
      exact mu
  have le : ∀ v, (spE t v).isSome = true → v ≤ t.db := fun v h => by
    rcases foldE_some t.ops zeroV v h with z | ⟨o, mo, co, vo⟩
    · unfold zeroV at z
      split at z
      · omega
      · cases z
    · rw [← vo]
      cases ev : o.version with
      | none => exact Nat.zero_le _
      | some x => exact B.db o mo x ev
  rw [Bool.eq_iff_iff, List.any_eq_true, linP_iff]
  constructor
  · rintro ⟨b, mb, hb⟩
    have hb : b = true := hb
    subst hb
    unfold allB at mb
    obtain ⟨v, mv, mb⟩ := List.mem_flatMap.mp mb
    unfold rowB at mb
    obtain ⟨u, mu, eb⟩ := List.mem_map.mp mb
    obtain ⟨mu, lt⟩ := List.mem_filter.mp mu
    unfold pairT at eb
    rw [Bool.and_eq_true, decide_eq_true_eq, decide_eq_true_eq] at eb
    have s1 := (mem v).mp mv
    have s2 := (mem u).mp mu
    obtain ⟨x, ex⟩ := Option.isSome_iff_exists.mp s1
    obtain ⟨y, ey⟩ := Option.isSome_iff_exists.mp s2
    rw [ex, ey] at eb
    exact ⟨v, u, x, y, of_decide_eq_true lt, le v s1, le u s2, ex, ey, eb.1, eb.2⟩
  · rintro ⟨v, u, x, y, lt, _, _, ex, ey, h1, h2⟩
    refine ⟨true, ?_, rfl⟩
    unfold allB
    refine List.mem_flatMap.mpr ⟨v, (mem v).mpr (by rw [ex]; rfl), ?_⟩
    unfold rowB
    refine List.mem_map.mpr ⟨u, List.mem_filter.mpr ⟨(mem u).mpr (by rw [ey]; rfl), decide_eq_true lt⟩, ?_⟩
    unfold pairT
    rw [ex, ey, Bool.and_eq_true, decide_eq_true_eq, decide_eq_true_eq]
    exact ⟨h1, h2⟩
theorem span_both {n u : Nat} (l : List POp) (h : (l.foldl (stE n) zeroV u).isSome = true) : (l.foldl stB zeroV u).isSome = true := by
  rcases foldE_some l zeroV u h with z | ⟨o, mo, co, vo⟩
  · unfold zeroV at z
    split at z
    · rename_i e
      subst e
      obtain ⟨y, _, h2⟩ := foldB_le l zeroV 0 0 rfl
      rw [h2]
      rfl
    · cases z
  · obtain ⟨y, _, h2⟩ := foldB_mem l zeroV o mo co
    rw [vo] at h2
    rw [h2]
    rfl
theorem tyes_if {σ : St} {H : Hp} {A B : Hp → Prop} (a : A H) : tYes σ H fun b H3 => if b = true then A H3 else B H3 := by
  show if true = true then A H else B H
  rw [if_pos rfl]
  exact a
@[irreducible] def spB0 (C D : Addr) (f : PSt → Bool) : Sp := fun vs H Q _ => ∃ (c : Conf) (p : Addr) (A : PL) (t : PSt), vs = [.ref p] ∧ Play0 C D c H p A t ∧ BOk0 c t ∧ ∀ H', Evl.Ex H H' → Q (.bl (f t)) H'
theorem b0_i {C D p : Addr} {c : Conf} {H : Hp} {A : PL} {t : PSt} {Q : VK} {E : XK} {f : PSt → Bool} (L : Play0 C D c H p A t) (B : BOk0 c t) (q : ∀ H', Evl.Ex H H' → Q (.bl (f t)) H') : spB0 C D f [.ref p] H Q E := by
  unfold spB0
  exact ⟨c, p, A, t, rfl, L, B, q⟩
section
variable {P : Program} {w : World} {K : PySem.W.Frag} {mg : Str → Option Value} {base : Heap}
theorem ok_breaks_linear (T : Txt K mg) : FnOk P w K mg base CX0 4 T.f_breaks_linear T.fd_breaks_linear ["play"] (spB0 T.C_Operation T.C_Play linP) := by
  refine T.F_breaks_linear.ok sc_breaks_linear (fun vs H Q E h => ?_) (fun cdv A outer s H vs Q E hr h => ?_)
  · unfold spB0 at h
    obtain ⟨c, p, A, t, rfl, _⟩ := h
    rfl
  · unfold spB0 at h
    obtain ⟨c, p, A, t, rfl, L, B, q⟩ := h
    have hu := hu_of hr
    refine ⟨_, (pss_cons (ps_asg (pe_call (ok_spans T) (hr.mono (by decide)) rfl T.m_spans T.F_spans.kp (b_spans T) .nil pass0 (pa_cons (pv 0) pa_nil)) (pg_tup rfl (pgs_cons (pg_name (i := 1) sc_breaks_linear.nd rfl (Or.inr rfl)) (pgs_cons (pg_name (i := 2) sc_breaks_linear.nd rfl (Or.inr rfl)) pgs_nil))))
      (pss_one (ps_ret (pe_callB (cr_any rfl) (by rfl) T.n_any (by decide +kernel) (pa_cons (pe_lock (pe_lc2 (own := [("one", 3), ("other", 4)]) (vs1 := [4]) rfl sc_breaks_linear.nd (pi_keys (pv 1)) (blkOk_by (N := ["play", "ends", "beginnings", "one", "other"]) (sc := defScope s_breaks_linear) (by decide +kernel)) (by decide) (fun _ _ _ _ _ => (pg_name (i := 3) sc_breaks_linear.nd rfl (Or.inl rfl))) (fun _ _ _ _ _ => pts_nil) (fun _ _ _ _ _ => (pi_keys (pv 1))) (fun _ _ _ _ _ => (pg_name (i := 4) sc_breaks_linear.nd rfl (Or.inl rfl))) (fun _ _ _ _ _ => (pts_one (pt_cmpR op_lt (pv 3) (pv 4) (nomark _)))) (fun _ _ _ _ _ => (pe_and (pe_cmpR op_lt (pe_dget hu (pv 1) (pv 3) (fun _ _ => rfl)) (pe_dget hu (pv 2) (pv 4) (fun _ _ => rfl)) (nomark _)) (pe_one (pe_cmpR op_lt (pe_dget hu (pv 1) (pv 4) (fun _ _ => rfl)) (pe_dget hu (pv 2) (pv 3) (fun _ _ => rfl)) (nomark _))))))) pa_nil))))), ?_⟩
    refine ⟨_, rfl, ?_⟩
    refine spans_i L B fun H1 tp e b S => ?_
    obtain ⟨ke, he, se, le⟩ := S.ends
    obtain ⟨kb, hb, sb⟩ := S.begs
    obtain ⟨ks, hks⟩ := keys_nat fun p m => let ⟨v, a, _⟩ := se.key p m; ⟨v, a⟩
    have lks : ks.length = ke.length := by
      have := congrArg List.length hks
      simpa using this.symm
    have bl := B.len
    refine ⟨tp, _, rfl, SqT.of S.tp, rfl, _, _, rfl, _, _, rfl, rfl, ?_⟩
    refine ⟨e, .dK ke, he, trivial, fun od => ?_⟩
    have hl0 : (upd H1 e (.frz od (.dK ke))) e = some (.frz od (.dK ke)) := upd_same
    have hbl : (upd H1 e (.frz od (.dK ke))) b = some (.dK kb) := by rw [upd_ne S.ne.symm]; exact hb
    have back : ∀ {H' : Hp} {o : HO}, Evl.Ex (upd H1 e (.frz od (.dK ke))) H' → o = .dK ke → Evl.Ex H1 (upd H' e o) := fun {H' o} x eo a u ha => by
      by_cases z : a = e
      · rw [z, he] at ha
        cases ha
        rw [z, upd_same, eo]
      · rw [upd_ne z]
        refine x _ _ ?_
        rw [upd_ne z]
        exact ha
    generalize upd H1 e (.frz od (.dK ke)) = Hl at hl0 hbl back
    have xh : Evl.Ex Hl Hl := Evl.Ex.refl _
    -- one pair of the keys
    have keyAt : ∀ {i : Nat} {k : Key} {v : V}, ke[i]? = some (k, v) → ∃ n, ks[i]? = some n ∧ k = Sum.inl (n : Int) := fun {i k v} h => by
      have z : (ke.map (·.1))[i]? = some k := by rw [List.getElem?_map, h]; rfl
      rw [hks, List.getElem?_map, Option.map_eq_some_iff] at z
      obtain ⟨n, a, b⟩ := z
      exact ⟨n, a, b.symm⟩
    have getE : ∀ {n : Nat} {i : Nat}, ks[i]? = some n → ∀ {H' : Hp}, H' e = some (.frz od (.dK ke)) → DGet H' e (.int (n : Int)) (some (.int (((spE t n).getD 0 : Nat) : Int))) := fun {n i} hi {H'} h => by
      have m : (Sum.inl (n : Int) : Key) ∈ ke.map (·.1) := by rw [hks]; exact List.mem_map.mpr ⟨n, List.mem_of_getElem? hi, rfl⟩
      obtain ⟨pq, mp, ep⟩ := List.mem_map.mp m
      obtain ⟨u, e1, e2⟩ := se.key pq mp
      have z : (u : Int) = (n : Int) := Sum.inl.inj (e1.symm.trans ep)
      have z : u = n := by omega
      rw [z] at e2
      obtain ⟨x, ex⟩ := Option.isSome_iff_exists.mp e2
      refine .inl ⟨ke, Sum.inl (n : Int), .inr ⟨od, h⟩, rfl, ?_⟩
      rw [se.val n, ex]
      rfl
    have getB : ∀ {n : Nat} {i : Nat}, ks[i]? = some n → ∀ {H' : Hp}, H' b = some (.dK kb) → DGet H' b (.int (n : Int)) (some (.int (((spS t n).getD 0 : Nat) : Int))) := fun {n i} hi {H'} h => by
      have m : (Sum.inl (n : Int) : Key) ∈ ke.map (·.1) := by rw [hks]; exact List.mem_map.mpr ⟨n, List.mem_of_getElem? hi, rfl⟩
      obtain ⟨pq, mp, ep⟩ := List.mem_map.mp m
      obtain ⟨u, e1, e2⟩ := se.key pq mp
      have z : (u : Int) = (n : Int) := Sum.inl.inj (e1.symm.trans ep)
      have z : u = n := by omega
      rw [z] at e2
      have s2 := span_both t.ops e2
      obtain ⟨x, ex⟩ := Option.isSome_iff_exists.mp s2
      have ex : spS t n = some x := ex
      refine .inl ⟨kb, Sum.inl (n : Int), .inl h, rfl, ?_⟩
      rw [sb.val n, ex]
      rfl
    have alen : ∀ (i j : Nat), (allB ks (pairT (spE t) (spS t)) (ks.take i)).length ≤ 100 * 100 := fun i j => by
      refine Nat.le_trans (allB_len _) (Nat.mul_le_mul ?_ (by omega))
      rw [List.length_take]
      omega
    refine ⟨_, rfl, e, od, rfl, .inl ⟨ke, hl0, fun D nD => ?_⟩⟩
    refine ⟨fun i m H' => m = ke.length - i ∧ i ≤ ke.length ∧ Evl.Ex Hl H' ∧ H' D = some (.lst ((allB ks (pairT (spE t) (spS t)) (ks.take i)).map V.bl)), ⟨ke.length, by simp, Nat.zero_le _, Evl.Ex.new nD, upd_same⟩, ?_⟩
    rintro i m H' ⟨rfl, hi, x1, hD⟩
    by_cases hlt : i < ke.length
    · refine .inr ⟨⟨x1 _ _ hl0, hlt⟩, fun H' => Evl.Ex Hl H' ∧ H' D = some (.lst ((allB ks (pairT (spE t) (spS t)) (ks.take (i + 1))).map V.bl)), fun H'' ⟨a1, a2⟩ => ⟨ke.length - (i + 1), by omega, rfl, hlt, a1, a2⟩, ?_⟩
      rintro x H'' ⟨rfl, k, v, hk, rfl⟩
      obtain ⟨n, hn, rfl⟩ := keyAt hk
      refine ⟨rfl, ?_⟩
      refine tyes_if ?_
      refine ⟨_, rfl, e, od, rfl, .inl ⟨ke, x1 _ _ hl0, ?_⟩⟩
      refine ⟨fun j m H2 => m = ke.length - j ∧ j ≤ ke.length ∧ Evl.Ex Hl H2 ∧ H2 D = some (.lst ((allB ks (pairT (spE t) (spS t)) (ks.take i) ++ rowB (ks.take j) (pairT (spE t) (spS t)) n).map V.bl)), ⟨ke.length, by simp, Nat.zero_le _, x1, ?_⟩, ?_⟩
      · rw [hD, List.take_zero]
        show _ = some (HO.lst ((_ ++ []).map V.bl))
        rw [List.append_nil]
      rintro j m H2 ⟨rfl, hj, x2, hD2⟩
      by_cases hlt2 : j < ke.length
      · refine .inr ⟨⟨x2 _ _ hl0, hlt2⟩, fun H3 => Evl.Ex Hl H3 ∧ H3 D = some (.lst ((allB ks (pairT (spE t) (spS t)) (ks.take i) ++ rowB (ks.take (j + 1)) (pairT (spE t) (spS t)) n).map V.bl)), fun H3 ⟨a1, a2⟩ => ⟨ke.length - (j + 1), by omega, rfl, hlt2, a1, a2⟩, ?_⟩
        rintro y H3 ⟨rfl, k2, v2, hk2, rfl⟩
        obtain ⟨n2, hn2, rfl⟩ := keyAt hk2
        refine ⟨rfl, ?_⟩
        refine ⟨_, rfl, _, rfl, _, _, rfl, rfl, _, rfl, ?_⟩
        rw [show decide ((n : Int) < (n2 : Int)) = decide (n < n2) from by simp, rowB_succ hn2]
        have hE := x2 _ _ hl0
        have hB := x2 _ _ hbl
        refine iteB (fun hc => ?_) (fun hc => ?_)
        · rw [if_pos hc]
          have rl : (rowB (ks.take j) (pairT (spE t) (spS t)) n).length ≤ 100 := Nat.le_trans rowB_len (by rw [List.length_take]; omega)
          have al := alen i j
          have tl : ((allB ks (pairT (spE t) (spS t)) (ks.take i) ++ rowB (ks.take j) (pairT (spE t) (spS t)) n).map V.bl).length < sizeLine := by
            rw [List.length_map, List.length_append]
            exact Nat.lt_of_le_of_lt (Nat.add_le_add al rl) (by decide)
          have fin : ∀ z : Bool, z = pairT (spE t) (spS t) n n2 → ∃ acc, H3 D = some (.lst acc) ∧ acc.length < sizeLine ∧ (Evl.Ex Hl (upd H3 D (.lst (acc ++ [.bl z]))) ∧ (upd H3 D (.lst (acc ++ [.bl z]))) D = some (.lst ((allB ks (pairT (spE t) (spS t)) (ks.take i) ++ (rowB (ks.take j) (pairT (spE t) (spS t)) n ++ [pairT (spE t) (spS t) n n2])).map V.bl))) := fun z ez => by
            refine ⟨_, hD2, tl, Evl.Ex.mut x2 nD, ?_⟩
            rw [upd_same, ez, ← List.append_assoc, List.map_append (l₁ := _ ++ _)]
            rfl
          refine ⟨_, rfl, _, rfl, e, _, rfl, getE hn hE, ?_⟩
          refine ⟨_, rfl, _, rfl, b, _, rfl, getB hn2 hB, _, _, rfl, rfl, _, rfl, ?_⟩
          rw [show decide ((((spE t n).getD 0 : Nat) : Int) < (((spS t n2).getD 0 : Nat) : Int)) = decide ((spE t n).getD 0 < (spS t n2).getD 0) from by simp]
          cases h1 : decide ((spE t n).getD 0 < (spS t n2).getD 0) with
          | false => exact iteF (fin false (by unfold pairT; rw [h1]; rfl))
          | true =>
            refine iteT ⟨_, rfl, _, rfl, e, _, rfl, getE hn2 hE, _, rfl, _, rfl, b, _, rfl, getB hn hB, _, _, rfl, rfl, ?_⟩
            exact fin (decide ((((spE t n2).getD 0 : Nat) : Int) < (((spS t n).getD 0 : Nat) : Int))) (by
              rw [show decide ((((spE t n2).getD 0 : Nat) : Int) < (((spS t n).getD 0 : Nat) : Int)) = decide ((spE t n2).getD 0 < (spS t n).getD 0) from by simp]
              unfold pairT
              rw [h1]
              rfl)
        · rw [if_neg (by rw [hc]; decide), List.append_nil]
          exact ⟨x2, hD2⟩
      · have ej : j = ke.length := by omega
        subst ej
        refine .inl ⟨⟨x2 _ _ hl0, Nat.le_refl _⟩, x2, ?_⟩
        rw [hD2, allB_succ hn, ← lks, List.take_length]
    · have ei : i = ke.length := by omega
      subst ei
      refine .inl ⟨⟨x1 _ _ hl0, Nat.le_refl _⟩, x1 _ _ hl0, ?_⟩
      have hD2 : (upd H' e (.dK ke)) D = some (.lst ((allB ks (pairT (spE t) (spS t)) ks).map V.bl)) := by
        have ne : D ≠ e := fun z => by
          rw [z, hl0] at nD
          cases nD
        rw [upd_ne ne, hD, ← lks, List.take_length]
      refine ⟨_, _, rfl, SqL.of hD2, ?_⟩
      rw [lin_any B se hks]
      exact q _ (S.x.trans (back x1 rfl))
end
end Ca

set_option Elab.async false
set_option linter.all false
set_option maxRecDepth 100000
set_option maxHeartbeats 4000000
namespace Ca
open PySem L2
/-! ### breaks and first_break, over any words on plays -/
/-- the table of the defs that tell whether a play breaks a promise -/
structure TxtD_BREAKS (K : PySem.W.Frag) (w : World) (mg : Str → Option Value) (T : Txt K mg) where
  v_ : Addr
  m_ : mg "BREAKS" = some (.ref v_)
  k_ending : KDct K w v_ "ending" (.ref T.f_breaks_ending)
  k_filled : KDct K w v_ "filled" (.ref T.f_breaks_filled)
  k_forward : KDct K w v_ "forward" (.ref T.f_breaks_forward)
  k_fresh : KDct K w v_ "fresh" (.ref T.f_breaks_fresh)
  k_linear : KDct K w v_ "linear" (.ref T.f_breaks_linear)
  k_mended : KDct K w v_ "mended" (.ref T.f_breaks_mended)
  k_moving : KDct K w v_ "moving" (.ref T.f_breaks_moving)
  k_quiet : KDct K w v_ "quiet" (.ref T.f_breaks_quiet)
  k_rest : KDct K w v_ "rest" (.ref T.f_breaks_rest)
  k_single : KDct K w v_ "single" (.ref T.f_breaks_single)
@[irreducible] def spG (C D : Addr) (pre : Conf → PSt → Prop) (f : Conf → PSt → Bool) : Sp := fun vs H Q _ => ∃ (c : Conf) (p : Addr) (A : PL) (t : PSt), vs = [.ref p] ∧ Play0 C D c H p A t ∧ pre c t ∧ ∀ H', Evl.Ex H H' → Q (.bl (f c t)) H'
theorem g_i {C D p : Addr} {c : Conf} {H : Hp} {A : PL} {t : PSt} {Q : VK} {E : XK} {pre : Conf → PSt → Prop} {f : Conf → PSt → Bool} (L : Play0 C D c H p A t) (B : pre c t) (q : ∀ H', Evl.Ex H H' → Q (.bl (f c t)) H') : spG C D pre f [.ref p] H Q E := by
  unfold spG
  exact ⟨c, p, A, t, rfl, L, B, q⟩
def firstG (brk : Conf → PSt → Pm → Bool) (c : Conf) (es : List Ev) (m : Pm) : Option Nat := (List.range (es.length + 1)).find? fun i => brk c (runS c (es.take i)) m
@[irreducible] def spBreaksG (M : Pm → Prop) (pre : Conf → PSt → Prop) (brk : Conf → PSt → Pm → Bool) : Sp := fun vs H Q _ => ∃ (c : Conf) (d w r : Addr) (es : List Ev) (m : Pm), vs = [.ref d, .ref w, pmV m, .ref r] ∧ Ran H c d w r es ∧ M m ∧ pre c (runS c es) ∧ ∀ H', Evl.Ex H H' → Q (.bl (brk c (runS c es) m)) H'
@[irreducible] def spFirstG (M : Pm → Prop) (pre : Conf → PSt → Prop) (brk : Conf → PSt → Pm → Bool) : Sp := fun vs H Q _ => ∃ (c : Conf) (d w r : Addr) (es : List Ev) (m : Pm), vs = [.ref d, .ref w, pmV m, .ref r] ∧ Ran H c d w r es ∧ M m ∧ (∀ i, pre c (runS c (es.take i))) ∧ ∀ H', Evl.Ex H H' → Q (on (firstG brk c es m)) H'
section
variable {c : Conf} {d w r : Addr} {es : List Ev} {m : Pm} {H : Hp} {Q : VK} {E : XK} {M : Pm → Prop} {pre : Conf → PSt → Prop} {brk : Conf → PSt → Pm → Bool}
theorem breaksG_i (R : Ran H c d w r es) (nl : M m) (B : pre c (runS c es)) (q : ∀ H', Evl.Ex H H' → Q (.bl (brk c (runS c es) m)) H') : spBreaksG M pre brk [.ref d, .ref w, pmV m, .ref r] H Q E := by
  unfold spBreaksG
  exact ⟨c, d, w, r, es, m, rfl, R, nl, B, q⟩
theorem firstG_i (R : Ran H c d w r es) (nl : M m) (B : ∀ i, pre c (runS c (es.take i))) (q : ∀ H', Evl.Ex H H' → Q (on (firstG brk c es m)) H') : spFirstG M pre brk [.ref d, .ref w, pmV m, .ref r] H Q E := by
  unfold spFirstG
  exact ⟨c, d, w, r, es, m, rfl, R, nl, B, q⟩
end
/-- each promise's def, with what it says -/
abbrev HeldG (P : Program) (w : World) (K : PySem.W.Frag) (mg : Str → Option Value) (base : Heap) (C D v : Addr) (pre : Conf → PSt → Prop) (brk : Conf → PSt → Pm → Bool) (m : Pm) : Prop :=
  ∃ (f : Addr) (fd : FuncData) (k : Nat), FnOk P w K mg base CX0 k f fd ["play"] (spG C D pre fun c t => brk c t m) ∧ k ≤ 9 ∧ PySem.W.keepIn K (.ref f) = true ∧ Binds K fd ["play"] [] ∧ KDct K w v m.str (.ref f)
section
variable {P : Program} {w : World} {K : PySem.W.Frag} {mg : Str → Option Value} {base : Heap} {CB fB : Addr} {M : Pm → Prop} {pre : Conf → PSt → Prop} {brk : Conf → PSt → Pm → Bool}
theorem ok_breaksG (T : Txt K mg) (U : TxtC K mg) (B : PySem.BadX.BadTxt P K mg CB fB) (Y : TxtD_BREAKS K w mg T) (hG : ∀ m, M m → HeldG P w K mg base T.C_Operation T.C_Play Y.v_ pre brk m) : FnOk P w K mg base CX0 10 T.f_breaks T.fd_breaks ["design", "world", "promise", "run"] (spBreaksG M pre brk) := by
  refine T.F_breaks.ok sc_breaks (fun vs H Q E h => ?_) (fun cdv A outer s H vs Q E hr h => ?_)
  · unfold spBreaksG at h
    obtain ⟨c, d, w, r, es, m, rfl, _⟩ := h
    rfl
  · unfold spBreaksG at h
    obtain ⟨c, d, u, r, es, m, rfl, R, nl, BO, q⟩ := h
    obtain ⟨f, fd, k, F, kp, hk, hb, kd⟩ := hG m nl
    refine ⟨_, (pss_cons (ps_expr (pe_call (ok_check_question T U) (hr.mono (by decide)) rfl T.m_check_question T.F_check_question.kp (b_check_question T) .nil pass0 (pa_cons (pv 0) (pa_cons (pv 1) (pa_cons (pv 2) pa_nil)))))
      (pss_cons (ps_set (i := 4) sc_breaks.nd rfl (Or.inl rfl) (pe_ix ix_kdict (pe_glob (v := .ref Y.v_) rfl Y.m_ rfl) (pv 2) (fun _ _ => rfl)))
      (pss_one (ps_ret (pe_callL (i := 4) F (hr.mono kp) rfl (Or.inl rfl) hk hb .nil pass0 (pa_cons (pe_call (ok_played T U B) (hr.mono (by decide)) rfl T.m_played T.F_played.kp (b_played T) .nil passL (pa_cons (pv 0) (pa_cons (pv 1) (pa_cons (pv 3) pa_nil)))) pa_nil)))))), ?_⟩
    refine ⟨_, rfl, _, rfl, _, rfl, ?_⟩
    refine chq_i R.dd R.ww R.ok ?_
    refine ⟨_, rfl, _, _, _, rfl, rfl, kd, rfl, _, rfl, _, rfl, _, rfl, ?_⟩
    refine played_i R.dd R.ww R.ok (R.c fun p A' H1 S1 fr L => ?_)
    exact g_i L BO fun H2 e2 => q H2 fun b o e => e2 b o (S1 b o e)
theorem find_rangeG {p : Nat → Bool} : ∀ (n : Nat), (∀ j, j < n → p j = false) → ∀ m, n ≤ m → (List.range m).find? p = ((List.range' n (m - n)).find? p) := by
  intro n h m hm
  have e : List.range m = List.range n ++ List.range' n (m - n) := by
    have : m = n + (m - n) := by omega
    rw [this, List.range_add, Nat.add_sub_cancel_left]
    congr 1
    rw [List.range'_eq_map_range]
  rw [e, List.find?_append]
  have z : (List.range n).find? p = none := by
    rw [List.find?_eq_none]
    intro x hx
    rw [h x (List.mem_range.mp hx)]
    decide
  rw [z]
  rfl
theorem firstG_hit {c : Conf} {es : List Ev} {m : Pm} {i : Nat} (hi : i ≤ es.length) (h : ∀ j, j < i → brk c (runS c (es.take j)) m = false) (hb : brk c (runS c (es.take i)) m = true) : firstG brk c es m = some i := by
  unfold firstG
  rw [find_rangeG i h _ (by omega), show es.length + 1 - i = (es.length - i) + 1 by omega, List.range'_succ, List.find?_cons]
  simp only [hb]
theorem firstG_miss {c : Conf} {es : List Ev} {m : Pm} (h : ∀ j, j ≤ es.length → brk c (runS c (es.take j)) m = false) : firstG brk c es m = none := by
  unfold firstG
  rw [List.find?_eq_none]
  intro x hx
  rw [h x (by have := List.mem_range.mp hx; omega)]
  decide
theorem ok_first_breakG (T : Txt K mg) (U : TxtC K mg) (B : PySem.BadX.BadTxt P K mg CB fB) (Y : TxtD_BREAKS K w mg T) (hG : ∀ m, M m → HeldG P w K mg base T.C_Operation T.C_Play Y.v_ pre brk m) : FnOk P w K mg base CX0 10 T.f_first_break T.fd_first_break ["design", "world", "promise", "run"] (spFirstG M pre brk) := by
  refine T.F_first_break.ok sc_first_break (fun vs H Q E h => ?_) (fun cdv A outer s H vs Q E hr h => ?_)
  · unfold spFirstG at h
    obtain ⟨c, d, w, r, es, m, rfl, _⟩ := h
    rfl
  · unfold spFirstG at h
    obtain ⟨c, d, u, r, es, m, rfl, R, nl, BO, q⟩ := h
    obtain ⟨f, fd, k, F, kp, hk, hb, kd⟩ := hG m nl
    refine ⟨_, (pss_cons (ps_expr (pe_call (ok_check_question T U) (hr.mono (by decide)) rfl T.m_check_question T.F_check_question.kp (b_check_question T) .nil pass0 (pa_cons (pv 0) (pa_cons (pv 1) (pa_cons (pv 2) pa_nil)))))
      (pss_cons (ps_expr (pe_call (ok_played T U B) (hr.mono (by decide)) rfl T.m_played T.F_played.kp (b_played T) .nil passL (pa_cons (pv 0) (pa_cons (pv 1) (pa_cons (pv 3) pa_nil)))))
      (pss_cons (ps_set (i := 4) sc_first_break.nd rfl (Or.inl rfl) (pe_ix ix_kdict (pe_glob (v := .ref Y.v_) rfl Y.m_ rfl) (pv 2) (fun _ _ => rfl)))
      (pss_cons (ps_set (i := 5) sc_first_break.nd rfl (Or.inl rfl) (pe_make T.k_Play (ok_Play_init T U) (hr.mono (by decide)) rfl T.m_Play (b_Play_init T) .nil pass0 (pa_cons (pv 0) (pa_cons (pv 1) pa_nil))))
      (pss_cons (ps_for PassesOwn.never rfl (pi_tup (pv 3)) (pg_name (i := 6) sc_first_break.nd rfl (Or.inl rfl)) (pss_cons (ps_if (pt_val (pe_callL (i := 4) F (hr.mono kp) rfl (Or.inl rfl) hk hb .nil pass0 (pa_cons (pv 5) pa_nil))) (pss_one (ps_ret (pe_callB call_len_seq (by rfl) T.n_len (by decide +kernel) (pa_cons (pe_fld (pv 5) rfl) pa_nil)))) pss_nil)
      (pss_one (ps_expr (pe_meth (pv 5) T.c_Play T.M_Play_do (ok_Play_do T) (hr.mono (by decide)) (b_Play_do T) .nil pass0 (pa_cons (pv 6) pa_nil))))))
      (pss_one (ps_ret (pe_ifExp (pt_val (pe_callL (i := 4) F (hr.mono kp) rfl (Or.inl rfl) hk hb .nil pass0 (pa_cons (pv 5) pa_nil))) (pe_callB call_len_seq (by rfl) T.n_len (by decide +kernel) (pa_cons (pe_fld (pv 5) rfl) pa_nil)) pe_non)))))))), ?_⟩
    refine ⟨_, rfl, _, rfl, _, rfl, ?_⟩
    refine chq_i R.dd R.ww R.ok ?_
    refine ⟨_, rfl, _, rfl, _, rfl, ?_⟩
    refine played_i R.dd R.ww R.ok (R.c fun p0 A0 H1 S1 fr0 L0 => ?_)
    refine ⟨_, rfl, _, _, _, rfl, rfl, kd, ?_⟩
    refine ⟨_, rfl, _, rfl, fun p dx np ndx ne => ?_⟩
    have S2 : Same H (upd (upd H1 dx (.own p)) p (.ins T.C_Play dx [])) := fun b o e => by
      have e1 := S1 _ _ e
      rw [upd_ne (ne_of_none e1 np), upd_ne (ne_of_none e1 ndx)]
      exact e1
    refine play_i upd_same (S2 _ _ R.dd) (S2 _ _ R.ww) R.ok fun A1 H2 oas1 eas1 ed1 ew1 nlo1 npa1 L1 K2 => ⟨rfl, ?_⟩
    obtain ⟨xs, hx, X, l⟩ := R.at_
    have np0 : H p = none := Evl.fresh_back (fun b o e => S1 b o e) np
    have S3 : Evl.Ex H H2 := fun b o e => K2 b o (S2 b o e) (ne_of_none e np0)
    have nlo1 : H A1.lo = none := S2.free nlo1
    have npa1 : H A1.pa = none := S2.free npa1
    have xe : xs.length = es.length := X.length
    have fr1 : ∀ b, PF p A1 b → H b = none := by
      rintro b (z | z | z | z)
      · rw [z]; exact np0
      · rw [z]; exact nlo1
      · rw [z]; exact npa1
      · have z := List.mem_of_mem_drop z
        rw [oas1] at z
        cases z
    have ask : ∀ (i : Nat) (A' : PL) (H' : Hp) (Q' : VK), Evl.Ex H H' → Play0 T.C_Operation T.C_Play c H' p A' (runS c (es.take i)) → (∀ H'', Evl.Ex H' H'' → Q' (.bl (brk c (runS c (es.take i)) m)) H'') → spG T.C_Operation T.C_Play pre (fun c t => brk c t m) [.ref p] H' Q' E0 := fun i A' H' Q' e L' q' => g_i L' (BO i) q'
    refine ⟨_, rfl, r, rfl, ⟨_, SqT.of (S3 _ _ hx)⟩, for_tup (xs := xs) (fun i σ' H' => i ≤ es.length ∧ ∃ A' x6, σ' = [some (.ref d), some (.ref u), some (pmV m), some (.ref r), some (.ref f), some (.ref p), x6] ∧ Evl.Ex H H' ∧ Play0 T.C_Operation T.C_Play c H' p A' (runS c (es.take i)) ∧ (∀ b, PF p A' b → H b = none) ∧ ∀ j, j < i → brk c (runS c (es.take j)) m = false)
      ⟨Nat.zero_le _, A1, none, rfl, S3, L1, fr1, fun j hj => absurd hj (Nat.not_lt_zero _)⟩ (fun i σ' H' _ ⟨_, _, _, _, e, _⟩ => SqT.of (e _ _ hx)) ?_ ?_⟩
    · rintro i x σ' H' hi ⟨hle, A', x6, rfl, e, L, fr, nb⟩
      obtain ⟨ev, ee, t, rfl, ht⟩ := pget X hi
      have il : i < es.length := (List.getElem?_eq_some_iff.mp ee).1
      refine ⟨rfl, _, rfl, ?_⟩
      refine ask i A' H' _ e L fun H3 e3 => ⟨_, rfl, ?_⟩
      have L3 := L.same (same_ex e3)
      have plen : (runS c (es.take i)).past.length = i := by
        rw [runS_past, List.length_take, Nat.min_eq_left hle]
      refine iteB (fun hb' => ?_) (fun hb' => ?_)
      · refine ⟨_, rfl, _, _, _, _, _, rfl, L3.at_, T.c_Play, T.a_Play_past, l_Play_past, _, _, rfl, .inl (SqL.of L3.pa), ?_⟩
        rw [L3.evs.length, plen]
        have z := q _ (e.trans e3)
        rw [firstG_hit hle nb hb'] at z
        exact z
      · refine ⟨_, rfl, _, _, _, rfl, L3.at_, ln_Play_do, _, rfl, ?_⟩
        have ol : (runS c (es.take i)).ops.length ≤ 100 := by
          have := runS_len (c := c) (es := es) i
          omega
        refine dop_i (e3 _ _ (e _ _ ht)) L3.toPlayAt ol (by rw [plen]; omega) (by rw [L3.g0]; exact (R.run.step i ev ee).2.2) fun H6 A6 L6 gr K6 => ?_
        refine ⟨il, A6, _, rfl, ?_, ?_, ?_, fun j hj => ?_⟩
        · exact fun b o hb => K6 b o (e3 _ _ (e b o hb)) fun ff => by
            rw [fr b ff] at hb
            cases hb
        · rw [runS_snoc ee]
          rw [L3.g0] at L6
          exact ⟨L6, gr.g.trans L3.g0⟩
        · rintro b (z | z | z | z)
          · rw [z]; exact np0
          · exact fr b (.inr (.inl (by rw [← gr.lo]; exact z)))
          · exact fr b (.inr (.inr (.inl (by rw [← gr.pa]; exact z))))
          · rcases gr.oas b z with y | y
            · exact fr b (.inr (.inr (.inr y)))
            · exact Evl.fresh_back (e.trans e3) y
        · rcases Nat.lt_or_ge j i with z | z
          · exact nb j z
          · have ej : j = i := by omega
            rw [ej]
            exact hb'
    · rintro σ' H' ⟨hle, A', x6, rfl, e, L, fr, nb⟩
      rw [xe] at L nb
      refine ⟨rfl, _, rfl, ?_⟩
      refine ask es.length A' H' _ e L fun H3 e3 => ⟨_, rfl, ?_⟩
      have L3 := L.same (same_ex e3)
      have plen : (runS c (es.take es.length)).past.length = es.length := by
        rw [runS_past, List.length_take, Nat.min_self]
      refine iteB (fun hb' => ?_) (fun hb' => ?_)
      · refine ⟨_, rfl, _, _, _, _, _, rfl, L3.at_, T.c_Play, T.a_Play_past, l_Play_past, _, _, rfl, .inl (SqL.of L3.pa), ?_⟩
        rw [L3.evs.length, plen]
        have z := q _ (e.trans e3)
        rw [firstG_hit (Nat.le_refl _) nb hb'] at z
        exact z
      · have z := q _ (e.trans e3)
        rw [firstG_miss (fun j hj => ?_)] at z
        · exact z
        · rcases Nat.lt_or_ge j es.length with y | y
          · exact nb j y
          · have ej : j = es.length := by omega
            rw [ej]
            exact hb'
end
end Ca

set_option Elab.async false
set_option linter.all false
set_option maxRecDepth 100000
set_option maxHeartbeats 4000000
namespace Ca
open PySem L2
theorem bok0 {c : Conf} {s : HS} (O : c.Ok) (r : Reach c s) (l : s.past.length ≤ 62) : BOk0 c (runS c s.past) := by
  have S := (reach_sim O r).1
  obtain ⟨M, I⟩ := reach_times O r
  have V := r.vi O
  have io := r.io O
  obtain ⟨W, hol⟩ := r.wf O
  generalize runS c s.past = t at S M
  have R := S.rel
  have len := R.ops.len
  have pair : ∀ {q : POp}, q ∈ t.ops → ∃ (k : Nat) (o : OpS), s.ops[k]? = some o ∧ t.ops[k]? = some q := fun {q} m => by
    obtain ⟨k, hk, e⟩ := List.getElem_of_mem m
    exact ⟨k, _, List.getElem?_eq_getElem (by rw [len]; exact hk), by rw [List.getElem?_eq_getElem hk, e]⟩
  refine ⟨O, by omega, by rw [M.past]; omega, fun q m => ?_, fun q m v ev => ?_⟩
  · obtain ⟨k, o, a, b⟩ := pair m
    have RO := R.ops.op k o q a b
    refine ⟨fun e => ?_, fun e => ?_⟩
    · have st : o.stage = ("ended" : Str) := RO.ne.mp (List.isEmpty_iff.mp e)
      rw [RO.ver]
      exact Option.isSome_iff_exists.mp ((io o (List.mem_of_getElem? a)).ended O (W.ops k o a).kd st)
    · rw [under_lv RO] at e
      rw [(M.op k o q a b).2]
      cases ho : o.over with
      | none =>
        rw [(I.lv k o a).mp ho] at e
        cases e
      | some x => exact ⟨x + 1, rfl⟩
  · obtain ⟨k, o, a, b⟩ := pair m
    rw [(R.ops.op k o q a b).ver] at ev
    rw [R.db]
    exact (V.ops o (List.mem_of_getElem? a)).le v ev
theorem bok0_at {c : Conf} {es : List Ev} (O : c.Ok) (C : ChainH c es) (l : es.length ≤ 62) (i : Nat) : BOk0 c (runS c (es.take i)) := by
  have go : ∀ j, j ≤ es.length → BOk0 c (runS c (es.take j)) := fun j hj => by
    obtain ⟨r, p⟩ := C.reach j hj
    have z := bok0 O r (by rw [p]; exact Nat.le_trans (List.length_take_le ..) (by omega))
    rw [p] at z
    exact z
  by_cases hi : i ≤ es.length
  · exact go i hi
  · have z := go es.length (Nat.le_refl _)
    rw [List.take_length] at z
    rw [List.take_of_length_le (by omega)]
    exact z
def shortL (c : Conf) (es : List Ev) (n : Nat) : List Nat := (List.range n).filter fun i => !inOrderH (runH c (es.take i))
theorem shortL_succ {c : Conf} {es : List Ev} {i : Nat} : shortL c es (i + 1) = shortL c es i ++ (if (!inOrderH (runH c (es.take i))) = true then [i] else []) := by
  unfold shortL
  rw [List.range_succ, List.filter_append, List.filter_cons, List.filter_nil]
theorem find_filter {α : Type} (p : α → Bool) : ∀ l : List α, (l.filter p).head? = l.find? p
  | [] => rfl
  | x :: l => by
    rw [List.filter_cons, List.find?_cons]
    cases p x with
    | true => rfl
    | false => exact find_filter p l
def linBrk : Conf → PSt → Pm → Bool := fun _ t _ => linP t
theorem firstL_eq {c : Conf} {es : List Ev} (O : c.Ok) (C : ChainH c es) (l : es.length ≤ 14) (m : Pm) : (shortL c es (es.length + 1)).head? = firstG linBrk c es m := by
  unfold shortL firstG
  rw [find_filter]
  have key : ∀ l : List Nat, (∀ i ∈ l, i ≤ es.length) → l.find? (fun i => !inOrderH (runH c (es.take i))) = l.find? fun i => linBrk c (runS c (es.take i)) m := fun l => by
    induction l with
    | nil => exact fun _ => rfl
    | cons i l ih =>
      intro h
      have hi := h i (List.mem_cons_self ..)
      obtain ⟨r, p⟩ := C.reach i hi
      have z := linear_eq O r (by rw [p]; exact Nat.le_trans (List.length_take_le ..) (by omega))
      rw [p] at z
      rw [List.find?_cons, List.find?_cons, ih fun j hj => h j (List.mem_cons_of_mem _ hj), z, Bool.not_not]
      rfl
  exact key _ fun i hi => Nat.le_of_lt_succ (List.mem_range.mp hi)
theorem paired_take {α β : Type} {R : α → β → Prop} : ∀ (i : Nat) {xs : List α} {ys : List β}, Paired R xs ys → Paired R (xs.take i) (ys.take i)
  | 0, _, _, _ => by rw [List.take_zero, List.take_zero]; exact .nil
  | _ + 1, _, _, .nil => .nil
  | i + 1, _, _, .cons h r => .cons h (paired_take i r)
def intsV (l : List Nat) : List V := l.map fun n : Nat => V.int (n : Int)
theorem inO_i {c : Conf} {h : Addr} {A : LA} {s : HS} {H : Hp} {Q : VK} {E : XK} (O : c.Ok) (L : LawAt c H h A s) (r : Reach c s) (l : s.past.length ≤ 14) (q : ∀ H', Evl.Ex H H' → Q (.bl (inOrderH s)) H') : spInOrder [.ref h] H Q E := by
  unfold spInOrder
  exact ⟨c, h, A, s, rfl, O, L, r, l, q⟩
section
variable {P : Program} {w : World} {K : PySem.W.Frag} {mg : Str → Option Value} {base : Heap} {CB fB : Addr}
theorem heldL (T : Txt K mg) (Y : TxtD_BREAKS K w mg T) : ∀ m, m = Pm.linear → HeldG P w K mg base T.C_Operation T.C_Play Y.v_ BOk0 linBrk m := by
  rintro m rfl
  exact ⟨_, _, _, (ok_breaks_linear T).imp fun vs H Q E h => by
    unfold spG at h
    obtain ⟨c, p, A, t, rfl, L, B, q⟩ := h
    exact b0_i L B q, by decide, T.F_breaks_linear.kp, b_breaks_linear T, Y.k_linear⟩
theorem ok_breaksL (T : Txt K mg) (U : TxtC K mg) (B : PySem.BadX.BadTxt P K mg CB fB) (Y : TxtD_BREAKS K w mg T) : FnOk P w K mg base CX0 10 T.f_breaks T.fd_breaks ["design", "world", "promise", "run"] (spBreaksG (fun m => m = Pm.linear) BOk0 linBrk) := ok_breaksG T U B Y (heldL T Y)
theorem ok_first_breakL (T : Txt K mg) (U : TxtC K mg) (B : PySem.BadX.BadTxt P K mg CB fB) (Y : TxtD_BREAKS K w mg T) : FnOk P w K mg base CX0 10 T.f_first_break T.fd_first_break ["design", "world", "promise", "run"] (spFirstG (fun m => m = Pm.linear) BOk0 linBrk) := ok_first_breakG T U B Y (heldL T Y)
theorem ok_law (T : Txt K mg) (U : TxtC K mg) (B : PySem.BadX.BadTxt P K mg CB fB) (Y : TxtD_BREAKS K w mg T) : FnOk P w K mg base CX0 21 T.f_law T.fd_law ["script"] (spLaw K) := by
  refine T.F_law.ok sc_law (fun vs H Q E h => ?_) (fun cdv A outer s H vs Q E hr h => ?_)
  · unfold spLaw at h
    obtain ⟨a, ns, rfl, _⟩ := h
    rfl
  · unfold spLaw at h
    obtain ⟨a, ns, rfl, hs, q⟩ := h
    have hu := hu_of hr
    refine ⟨_, (pss_cons (ps_set (i := 1) sc_law.nd rfl (Or.inl rfl) (pe_lst (pa_cons (pv 0) (pa_cons pe_int (pa_cons pe_int (pa_cons pe_int pa_nil))))))
      (pss_cons (ps_asg (pe_tup (pa_cons (pe_call (ok_Ldesign T) (hr.mono (by decide)) rfl T.m_Ldesign T.F_Ldesign.kp (b_Ldesign T) .nil pass0 (pa_cons (pv 1) pa_nil)) (pa_cons (pe_call (ok_Lworld T) (hr.mono (by decide)) rfl T.m_Lworld T.F_Lworld.kp (b_Lworld T) .nil pass0 (pa_cons (pv 1) pa_nil)) pa_nil))) (pg_tup rfl (pgs_cons (pg_name (i := 2) sc_law.nd rfl (Or.inr rfl)) (pgs_cons (pg_name (i := 3) sc_law.nd rfl (Or.inr rfl)) pgs_nil))))
      (pss_cons (ps_set (i := 4) sc_law.nd rfl (Or.inl rfl) (pe_call (ok_Lwalk T) (hr.mono (by decide)) rfl T.m_Lwalk T.F_Lwalk.kp (b_Lwalk T) .nil pass0 (pa_cons (pv 1) (pa_cons (pv 2) (pa_cons (pv 3) (pa_cons pe_int pa_nil))))))
      (pss_cons (ps_set (i := 5) sc_law.nd rfl (Or.inr rfl) (pe_callTy call_tuple_of (by rfl) T.n_tuple (by decide +kernel) (pa_cons (pe_dget hu (pv 4) pe_str (fun _ _ => rfl)) pa_nil)))
      (pss_cons (ps_if (pt_not (pt_val (pe_call (ok_alike 1 T) (hr.mono (by decide)) rfl T.m_Lalike T.F_Lalike.kp (b_Lalike T) .nil pass0 (pa_cons (pe_call (ok_breaksL T U B Y) (hr.mono (by decide)) rfl T.m_breaks T.F_breaks.kp (b_breaks T) .nil pass0 (pa_cons (pv 2) (pa_cons (pv 3) (pa_cons pe_str (pa_cons (pv 5) pa_nil))))) (pa_cons (pe_not (pe_call (ok_Lin_order T) (hr.mono (by decide)) rfl T.m_Lin_order T.F_Lin_order.kp (b_Lin_order T) .nil pass0 (pa_cons (pv 4) pa_nil))) pa_nil))))) (pss_one (ps_ret pe_bl)) pss_nil)
      (pss_cons (ps_set (i := 2) sc_law.nd rfl (Or.inr rfl) (pe_tup (pa_cons pe_str (pa_cons (pe_call (ok_Lpick T) (hr.mono (by decide)) rfl T.m_Lpick T.F_Lpick.kp (b_Lpick T) .nil pass0 (pa_cons (pv 1) (pa_cons (pe_lst (pa_cons pe_str (pa_cons pe_str (pa_cons pe_str (pa_cons pe_str (pa_cons pe_str pa_nil)))))) pa_nil))) (pa_cons pe_str pa_nil)))))
      (pss_cons (ps_set (i := 4) sc_law.nd rfl (Or.inl rfl) (pe_call (ok_Lwalk T) (hr.mono (by decide)) rfl T.m_Lwalk T.F_Lwalk.kp (b_Lwalk T) .nil pass0 (pa_cons (pv 1) (pa_cons (pv 2) (pa_cons (pe_tup (pa_cons pe_str (pa_cons pe_str (pa_cons pe_str pa_nil)))) (pa_cons pe_int pa_nil))))))
      (pss_cons (ps_set (i := 5) sc_law.nd rfl (Or.inr rfl) (pe_callTy call_tuple_of (by rfl) T.n_tuple (by decide +kernel) (pa_cons (pe_dget hu (pv 4) pe_str (fun _ _ => rfl)) pa_nil)))
      (pss_cons (ps_if (pt_not (pt_val (pe_call (ok_alike 1 T) (hr.mono (by decide)) rfl T.m_Lalike T.F_Lalike.kp (b_Lalike T) .nil pass0 (pa_cons (pe_call (ok_breaksL T U B Y) (hr.mono (by decide)) rfl T.m_breaks T.F_breaks.kp (b_breaks T) .nil pass0 (pa_cons (pv 2) (pa_cons (pe_tup (pa_cons pe_str (pa_cons pe_str (pa_cons pe_str pa_nil)))) (pa_cons pe_str (pa_cons (pv 5) pa_nil))))) (pa_cons (pe_not (pe_call (ok_Lin_order T) (hr.mono (by decide)) rfl T.m_Lin_order T.F_Lin_order.kp (b_Lin_order T) .nil pass0 (pa_cons (pv 4) pa_nil))) pa_nil))))) (pss_one (ps_ret pe_bl)) pss_nil)
      (pss_cons (ps_set (i := 3) sc_law.nd rfl (Or.inr rfl) (pe_tup (pa_cons pe_str (pa_cons pe_str (pa_cons pe_str pa_nil)))))
      (pss_cons (ps_setLc (i := 6) (own := [("many", 7)]) rfl sc_law.nd rfl rfl (sw_true rfl rfl rfl (by decide +kernel)) (pi_range1 rfl T.n_range (pa_cons (pe_op op_add (pe_callB call_len_seq (by rfl) T.n_len (by decide +kernel) (pa_cons (pv 5) pa_nil)) pe_int) pa_nil)) (blkOk_by (N := ["script", "row", "design", "world", "h", "events", "short", "many"]) (sc := defScope s_law) (by decide +kernel)) (fun _ _ _ _ _ => (pg_name (i := 7) sc_law.nd rfl (Or.inl rfl))) (fun _ _ _ _ _ => (pts_one (pt_not (pt_val (pe_call (ok_Lin_order T) (hr.mono (by decide)) rfl T.m_Lin_order T.F_Lin_order.kp (b_Lin_order T) .nil pass0 (pa_cons (pe_call (ok_Lrun T) (hr.mono (by decide)) rfl T.m_Lrun T.F_Lrun.kp (b_Lrun T) .nil pass0 (pa_cons (pv 2) (pa_cons (pv 3) (pa_cons (pe_slice (show SlR _ (rSlA K) from sl_tupA) (pv 5) po_none (po_some (pv 7))) pa_nil)))) pa_nil)))))) (fun _ _ _ _ _ => (pv 7)))
      (pss_one (ps_ret (pe_call (ok_alike 1 T) (hr.mono (by decide)) rfl T.m_Lalike T.F_Lalike.kp (b_Lalike T) .nil pass0 (pa_cons (pe_call (ok_first_breakL T U B Y) (hr.mono (by decide)) rfl T.m_first_break T.F_first_break.kp (b_first_break T) .nil pass0 (pa_cons (pv 2) (pa_cons (pv 3) (pa_cons pe_str (pa_cons (pv 5) pa_nil))))) (pa_cons (pe_ifExp (pt_cmpR (op_neNil (un1 hr)) (pv 6) (pe_lst pa_nil) (nomark _)) (pe_ix ix_list (pv 6) pe_int (fun _ _ => rfl)) pe_non) pa_nil)))))))))))))))), ?_⟩
    refine ⟨_, rfl, (by show 4 ≤ sizeLine; decide), fun r nr => ?_⟩
    have R0 : RowAt K H a r (upd H r (.lst [.ref a, .int 0, .int 15549, .int 0])) := ⟨⟨ns, hs⟩, nr, same_new nr, _, upd_same, _, _, _, rfl, by decide, by decide, by decide⟩
    generalize upd H r (.lst [.ref a, .int 0, .int 15549, .int 0]) = H1 at R0
    refine ⟨_, rfl, ?_⟩
    refine triple_i R0 fun d H2 x1 y1 z1 c1 c2 c3 R2 K2 nd hd => ?_
    refine ⟨_, rfl, ?_⟩
    refine triple_i R2 fun w' H3 x2 y2 z2 c4 c5 c6 R3 K3 nw hw => ⟨(by show 2 ≤ sizeLine; decide), fun t0 nt0 => ?_⟩
    refine ⟨t0, _, rfl, SqT.of upd_same, rfl, _, _, rfl, _, _, rfl, rfl, ?_⟩
    have S3 := same_new (o := .tup [.ref d, .ref w']) nt0
    have hd3 := S3 _ _ (K3 _ _ hd (R2.ne_tup hd))
    have hw := S3 _ _ hw
    have R3 := R3.same S3
    clear K3 nw
    generalize upd H3 t0 (.tup [.ref d, .ref w']) = H3 at R3 hd3 hw S3
    generalize ec : (⟨x1, y1, z1, x2, y2, z2⟩ : Conf) = c
    have O : c.Ok := by
      subst ec
      exact ⟨c1, c2, c3, c4, c5, c6⟩
    have hd3 : H3 d = some (dT c) := by subst ec; exact hd3
    have hw3 : H3 w' = some (wT c) := by subst ec; exact hw
    clear ec c1 c2 c3 c4 c5 c6 hd hw
    -- a walk, its word on orders
    refine ⟨_, rfl, _, rfl, _, rfl, ?_⟩
    refine walk_i (m := 14) O R3 (by decide) hd3 hw3 fun h A st H4 rch lp L eqd eqw R4 K4 fp => ?_
    obtain ⟨SS, PP⟩ := reach_sim O rch
    refine ⟨_, rfl, _, _, rfl, dget (L.hd) rfl, _, _, rfl, .inl ⟨SqL.of L.lp, fun ev nev => ?_⟩⟩
    have L5 := L.new (o := .tup (A.eas.map V.ref)) nev
    have S5 := same_new (o := .tup (A.eas.map V.ref)) nev
    have X5 := (past_at L).same S5
    have hev : (upd H4 ev (.tup (A.eas.map V.ref))) ev = some (.tup (A.eas.map V.ref)) := upd_same
    have R5 := R4.same S5
    have hd5 : (upd H4 ev (.tup (A.eas.map V.ref))) d = some (dT c) := by have z := L5.dd; rw [eqd] at z; exact z
    have hw5 : (upd H4 ev (.tup (A.eas.map V.ref))) w' = some (wT c) := by have z := L5.ww; rw [eqw] at z; exact z
    generalize upd H4 ev (.tup (A.eas.map V.ref)) = H5 at L5 S5 X5 hev R5 hd5 hw5
    have el : (A.eas.map V.ref).length = st.past.length := by rw [List.length_map, L.el]
    have rn : Ran H5 c d w' ev st.past := ⟨hd5, hw5, O, ⟨_, hev, X5, by rw [el]; omega⟩, PP⟩
    refine ⟨_, rfl, _, rfl, _, rfl, ?_⟩
    refine breaksG_i (M := fun m => m = Pm.linear) (m := .linear) (brk := linBrk) rn rfl (bok0 O rch (by omega)) fun H6 e6 => ?_
    refine ⟨_, rfl, ?_⟩
    refine inO_i O (L5.same (same_ex e6)) rch lp fun H7 e7 => ⟨_, rfl, ?_⟩
    rw [linear_eq O rch lp, Bool.not_not]
    refine alike_i (d := .bool (linP (runS c st.past))) (by exact rfl) (by exact rfl) fun H8 S8 => ⟨_, rfl, ?_⟩
    refine iteF ?_
    have R8 := ((R5.same (same_ex e6)).same (same_ex e7)).same S8
    clear S8 e7 e6 rn el hd5 hw5 hev X5 S5 L5 PP SS fp K4 eqd eqw lp rch hd3 hw3 O
    -- another design, a world that is told
    refine ⟨_, rfl, (by show 5 ≤ sizeLine; decide), fun l1 n1 => ?_⟩
    refine pick_lst R8 n1 [.str "always", .str "empty", .str "never", .str "token", .str "newer"] (by simp) (by show 5 ≤ 1000; decide) fun x1 H9 m1 R9 K9 => ?_
    have q1 : ∃ x, x1 = V.str x ∧ x ∈ guardsL := by
      simp only [List.mem_cons, List.not_mem_nil, or_false] at m1
      rcases m1 with rfl | rfl | rfl | rfl | rfl <;> exact ⟨_, rfl, by decide +kernel⟩
    obtain ⟨gd, rfl, mg'⟩ := q1
    refine ⟨(by show 3 ≤ sizeLine; decide), fun d2 nd2 => ?_⟩
    generalize ec : (⟨"store set", gd, "alone", "primary", "evicts", "finishes"⟩ : Conf) = c
    have O : c.Ok := by
      subst ec
      exact ⟨by simp [pathsL], mg', by simp [flightsL], .inl rfl, .inl rfl, .inl rfl⟩
    have hd9 : (upd H9 d2 (.tup [.str "store set", .str gd, .str "alone"])) d2 = some (dT c) := by subst ec; exact upd_same
    have R9 := R9.new (o := .tup [.str "store set", .str gd, .str "alone"]) nd2
    generalize upd H9 d2 (.tup [.str "store set", .str gd, .str "alone"]) = H10 at hd9 R9
    have wNew : ∀ {H' : Hp} {p : Addr}, H' p = none → (upd H' p (.tup [.str "primary", .str "evicts", .str "finishes"])) p = some (wT c) := fun {H' p} _ => by subst ec; exact upd_same
    refine ⟨_, rfl, _, rfl, (by show 3 ≤ sizeLine; decide), fun w2 nw2 => ?_⟩
    have hw10 := wNew nw2
    have S10 := same_new (o := .tup [.str "primary", .str "evicts", .str "finishes"]) nw2
    have hd10 := S10 _ _ hd9
    have R10 := R9.same S10
    generalize upd H10 w2 (.tup [.str "primary", .str "evicts", .str "finishes"]) = H11 at hw10 S10 hd10 R10
    refine walk_i (m := 14) O R10 (by decide) hd10 hw10 fun h A st H4 rch lp L eqd eqw R4 K4 fp => ?_
    obtain ⟨SS, PP⟩ := reach_sim O rch
    have CC := rch.run.2
    refine ⟨_, rfl, _, _, rfl, dget (L.hd) rfl, _, _, rfl, .inl ⟨SqL.of L.lp, fun ev nev => ?_⟩⟩
    have L5 := L.new (o := .tup (A.eas.map V.ref)) nev
    have S5 := same_new (o := .tup (A.eas.map V.ref)) nev
    have X5 := (past_at L).same S5
    have hev : (upd H4 ev (.tup (A.eas.map V.ref))) ev = some (.tup (A.eas.map V.ref)) := upd_same
    have hd5 : (upd H4 ev (.tup (A.eas.map V.ref))) d2 = some (dT c) := by have z := L5.dd; rw [eqd] at z; exact z
    generalize upd H4 ev (.tup (A.eas.map V.ref)) = H5 at L5 S5 X5 hev hd5
    have el : (A.eas.map V.ref).length = st.past.length := by rw [List.length_map, L.el]
    refine ⟨_, rfl, (by show 3 ≤ sizeLine; decide), fun w3 nw3 => ⟨_, rfl, ?_⟩⟩
    have hw6 := wNew nw3
    have S6 := same_new (o := .tup [.str "primary", .str "evicts", .str "finishes"]) nw3
    have rn : Ran (upd H5 w3 (.tup [.str "primary", .str "evicts", .str "finishes"])) c d2 w3 ev st.past := ⟨S6 _ _ hd5, hw6, O, ⟨_, S6 _ _ hev, X5.same S6, by rw [el]; omega⟩, PP⟩
    refine breaksG_i (M := fun m => m = Pm.linear) (m := .linear) (brk := linBrk) rn rfl (bok0 O rch (by omega)) fun H6 e6 => ?_
    refine ⟨_, rfl, ?_⟩
    refine inO_i O ((L5.same S6).same (same_ex e6)) rch lp fun H7 e7 => ⟨_, rfl, ?_⟩
    rw [linear_eq O rch lp, Bool.not_not]
    refine alike_i (d := .bool (linP (runS c st.past))) (by exact rfl) (by exact rfl) fun H8 S8 => ⟨_, rfl, ?_⟩
    refine iteF ?_
    have S58 := ((S6.trans (same_ex e6)).trans (same_ex e7)).trans S8
    refine ⟨(by show 3 ≤ sizeLine; decide), fun w4 nw4 => ?_⟩
    have hw9 := wNew nw4
    have S9 := S58.trans (same_new (o := .tup [.str "primary", .str "evicts", .str "finishes"]) nw4)
    have hd9 := S9 _ _ hd5
    have hev9 := S9 _ _ hev
    have X9 := X5.same S9
    generalize upd H8 w4 (.tup [.str "primary", .str "evicts", .str "finishes"]) = H9 at hw9 S9 hd9 hev9 X9
    clear S58 S8 e7 e6 rn S6 hw6
    -- the beginnings that have no order
    refine ⟨_, rfl, _, _, rfl, .inr (SqT.of hev9), _, _, rfl, rfl, _, rfl, by rw [el]; omega, by rw [el]; omega, fun D nD => ?_⟩
    have en : (((A.eas.map V.ref).length : Int) + 1).toNat = st.past.length + 1 := by rw [el]; omega
    rw [en]
    have turn : ∀ (i : Nat) (H11 H14 : Hp), Evl.Ex H9 H11 → Evl.Ex H11 H14 → H11 D = some (.lst (intsV (shortL c st.past i))) → i < st.past.length + 1 → if (!inOrderH (runH c (st.past.take i))) = true then (∃ acc, H14 D = some (.lst acc) ∧ acc.length < sizeLine ∧ (Evl.Ex H9 (upd H14 D (.lst (acc ++ [V.int (i : Int)]))) ∧ (upd H14 D (.lst (acc ++ [V.int (i : Int)]))) D = some (.lst (intsV (shortL c st.past (i + 1)))))) else (Evl.Ex H9 H14 ∧ H14 D = some (.lst (intsV (shortL c st.past (i + 1))))) := fun i H11 H14 e11 e14 hD hi => by
      have al : (intsV (shortL c st.past i)).length ≤ i := by
        unfold intsV shortL
        rw [List.length_map]
        exact Nat.le_trans (List.length_filter_le _ _) (by rw [List.length_range]; exact Nat.le_refl _)
      refine iteB (fun hb => ?_) (fun hb => ?_)
      · refine ⟨_, e14 _ _ hD, Nat.lt_of_le_of_lt (Nat.le_trans al (by omega : i ≤ 100)) (by decide), Evl.Ex.mut (e11.trans e14) nD, ?_⟩
        rw [upd_same, shortL_succ, if_pos hb]
        unfold intsV
        rw [List.map_append]
        rfl
      · refine ⟨e11.trans e14, ?_⟩
        rw [shortL_succ, if_neg (by rw [hb]; decide), List.append_nil]
        exact e14 _ _ hD
    refine lc_range (lo := 0) (n := st.past.length + 1) (fun i H' => Evl.Ex H9 H' ∧ H' D = some (.lst (intsV (shortL c st.past i)))) ⟨Evl.Ex.new nD, upd_same⟩ ?_ ?_
    · rintro i H11 hi ⟨e11, hD⟩
      refine ⟨rfl, ?_⟩
      have S11 := same_ex e11
      have X11 := X9.same S11
      have hd11 := S11 _ _ hd9
      have hw11 := S11 _ _ hw9
      have hev11 := S11 _ _ hev9
      obtain ⟨rr, pp⟩ := CC.reach i (by omega)
      have ll : (runH c (st.past.take i)).past.length ≤ 14 := by
        rw [pp]
        exact Nat.le_trans (List.length_take_le' ..) (by omega)
      have l70 : (st.past.take i).length ≤ 70 := Nat.le_trans (List.length_take_le' ..) (by omega)
      have zi : (0 : Int) + (i : Int) = (i : Int) := Int.zero_add _
      refine ⟨_, rfl, _, rfl, _, rfl, _, rfl, _, rfl, ?_⟩
      rw [zi]
      refine ⟨ev, _, rfl, SqT.of hev11, fun hwh => ?_, fun nwh p np => ?_⟩
      · have zt : st.past.take i = st.past := by
          refine List.take_of_length_le ?_
          have z := hwh.2
          rw [HT.sIx_nat, el] at z
          omega
        refine run_i hd11 hw11 O (.inr hev11) (by rw [zt]; exact X11) (CC.take i) l70 fun h2 A2 H13 e13 L13 _ _ _ => ?_
        refine inO_i O L13 rr ll fun H14 e14 => ⟨_, rfl, ?_⟩
        have z := turn i H11 H14 e11 (e13.trans e14) hD hi
        refine iteB (fun hb => ?_) (fun hb => ?_)
        · rw [if_pos hb] at z
          exact ⟨_, rfl, z⟩
        · rw [if_neg (by rw [hb]; decide)] at z
          exact z
      · have e12 := Evl.Ex.new (o := .tup (cutV (A.eas.map V.ref) none (some (i : Int)))) np
        have S12 := same_ex e12
        have zc : cutV (A.eas.map V.ref) none (some (i : Int)) = (A.eas.map V.ref).take i := by
          unfold cutV
          rw [HT.sIx_none, HT.sIx_nat, List.drop_zero, Nat.sub_zero]
          rw [← List.take_take, List.take_length]
        have hp12 : (upd H11 p (.tup (cutV (A.eas.map V.ref) none (some (i : Int))))) p = some (.tup ((A.eas.map V.ref).take i)) := by rw [← zc]; exact upd_same
        refine run_i (S12 _ _ hd11) (S12 _ _ hw11) O (.inr hp12) (paired_take i (X11.same S12)) (CC.take i) l70 fun h2 A2 H13 e13 L13 _ _ _ => ?_
        refine inO_i O L13 rr ll fun H14 e14 => ⟨_, rfl, ?_⟩
        have z := turn i H11 H14 e11 (e12.trans (e13.trans e14)) hD hi
        refine iteB (fun hb => ?_) (fun hb => ?_)
        · rw [if_pos hb] at z
          exact ⟨_, rfl, z⟩
        · rw [if_neg (by rw [hb]; decide)] at z
          exact z
    · rintro H11 ⟨e11, hD⟩
      have S11 := same_ex e11
      have X11 := X9.same S11
      refine ⟨_, rfl, _, rfl, _, rfl, ?_⟩
      have rn : Ran H11 c d2 w4 ev st.past := ⟨S11 _ _ hd9, S11 _ _ hw9, O, ⟨_, S11 _ _ hev9, X11, by rw [el]; omega⟩, PP⟩
      refine firstG_i (M := fun m => m = Pm.linear) (m := .linear) (brk := linBrk) rn rfl (bok0_at O CC (by omega)) fun H12 e12 => ?_
      rw [← firstL_eq O CC lp]
      have hD12 := e12 _ _ hD
      refine ⟨_, rfl, by show 0 ≤ sizeLine; decide, fun l0 nl0 => ⟨_, _, _, rfl, rfl, SqL.of (same_new nl0 _ _ hD12), SqL.of upd_same, ?_⟩⟩
      have hD13 := same_new (o := .lst []) nl0 _ _ hD12
      generalize upd H12 l0 (.lst []) = H13 at hD13
      generalize shortL c st.past (st.past.length + 1) = sl at hD13
      cases sl with
      | nil =>
        refine ⟨_, rfl, iteF ?_⟩
        refine alike_i (d := onD none) (dt_on (x := none)) (dt_on (x := none)) fun H14 S14 => q _
      | cons i sl =>
        refine ⟨_, rfl, iteT ⟨_, rfl, _, _, _, _, rfl, rfl, SqL.of hD13, at_of (j := 0) (by omega) rfl, ?_⟩⟩
        refine alike_i (d := onD (some i)) (dt_on (x := some i)) (dt_on (x := some i)) fun H14 S14 => q _
end
end Ca

set_option Elab.async false
set_option linter.all false
set_option maxRecDepth 100000
set_option maxHeartbeats 4000000
namespace Ca
open PySem L2
/-! ### the facts of the head, piece by piece -/
def DefP (K : PySem.W.Frag) (mg : Str → Option Value) (x : Str) (st : Stmt) : Prop := ∃ f fd, Fun K x x st f fd ∧ mg x = some (.ref f)
theorem def_mk {K : PySem.W.Frag} {h : Heap} {mg : Str → Option Value} {x : Str} {st : Stmt} {f : Addr} {od an : Option Addr} {sl : Array (Option Value)} {oc kV dc pm cd ct : Value} (X : K.In h) (G : h.Ns mainGlobals mg)
    (a : PySem.W.nsIn K mainGlobals x = some (some (.ref f))) (l : K.lookup f = some ⟨oc, od, .func (PySem.W.fnOf x x (defArgs st) (defBody st) (defScope st) .none kV dc pm an cd ct), sl⟩) (c : PySem.W.codeIn K cd x = true) (k : PySem.W.keepIn K (.ref f) = true) : DefP K mg x st :=
  ⟨f, _, fun_mk (st := st) l c k, PySem.W.mg_of X G a⟩
def ConP (K : PySem.W.Frag) (mg : Str → Option Value) (x : Str) (xs : List V) : Prop := ∃ v, mg x = some (.ref v) ∧ ∀ H, SqT K H v xs
theorem con_mk {K : PySem.W.Frag} {h : Heap} {mg : Str → Option Value} {x : Str} {xs : List V} {v : Addr} {dd : Option Addr} {its : Array Value} {n : Nat} {sl : Array (Option Value)} (X : K.In h) (G : h.Ns mainGlobals mg) (a : PySem.W.nsIn K mainGlobals x = some (some (.ref v))) (l : K.lookup v = some ⟨.type "tuple", dd, .seq its n, sl⟩) (hz : its.size ≤ sizeLine) (r : Vals xs its.toList) : ConP K mg x xs :=
  ⟨v, PySem.W.mg_of X G a, fun _ => .inr ⟨_, its, n, l, rfl, rfl, hz, r⟩⟩
def IntP (mg : Str → Option Value) (x : Str) (i : Int) : Prop := ∃ tk, mg x = some (.int i tk)
theorem int_mk {K : PySem.W.Frag} {h : Heap} {mg : Str → Option Value} {x : Str} {i : Int} {tk : Tok} (X : K.In h) (G : h.Ns mainGlobals mg) (a : PySem.W.nsIn K mainGlobals x = some (some (.int i tk))) : IntP mg x i := ⟨tk, PySem.W.mg_of X G a⟩
structure OperationT (K : PySem.W.Frag) (mg : Str → Option Value) where
  C : Addr
  c_ : Cls K C
  m_ : mg "Operation" = some (.ref C)
  f_init : Addr
  fd_init : FuncData
  F_init : Fun K "__init__" "Operation.__init__" s_Operation_init f_init fd_init
  f_has_ended : Addr
  fd_has_ended : FuncData
  F_has_ended : Fun K "has_ended" "Operation.has_ended" s_Operation_has_ended f_has_ended fd_has_ended
  M_has_ended : Meth K C "has_ended" f_has_ended
  f_is_under_way : Addr
  fd_is_under_way : FuncData
  F_is_under_way : Fun K "is_under_way" "Operation.is_under_way" s_Operation_is_under_way f_is_under_way fd_is_under_way
  M_is_under_way : Meth K C "is_under_way" f_is_under_way
  f_had_ended_by : Addr
  fd_had_ended_by : FuncData
  F_had_ended_by : Fun K "had_ended_by" "Operation.had_ended_by" s_Operation_had_ended_by f_had_ended_by fd_had_ended_by
  M_had_ended_by : Meth K C "had_ended_by" f_had_ended_by
  f_was_under_way_from : Addr
  fd_was_under_way_from : FuncData
  F_was_under_way_from : Fun K "was_under_way_from" "Operation.was_under_way_from" s_Operation_was_under_way_from f_was_under_way_from fd_was_under_way_from
  M_was_under_way_from : Meth K C "was_under_way_from" f_was_under_way_from
  f_can_step : Addr
  fd_can_step : FuncData
  F_can_step : Fun K "can_step" "Operation.can_step" s_Operation_can_step f_can_step fd_can_step
  M_can_step : Meth K C "can_step" f_can_step
  f_stage : Addr
  fd_stage : FuncData
  F_stage : Fun K "stage" "Operation.stage" s_Operation_stage f_stage fd_stage
  M_stage : Meth K C "stage" f_stage
  k_ : Mk K C f_init
  a_kind : NoAttr K C "kind"
  a_steps : NoAttr K C "steps"
  a_began : NoAttr K C "began"
  a_left : NoAttr K C "left"
  a_stopped : NoAttr K C "stopped"
  a_version : NoAttr K C "version"
  a_awaited : NoAttr K C "awaited"
  a_wipes_seen : NoAttr K C "wipes_seen"
theorem Operation_mk {K : PySem.W.Frag} {h : Heap} {mg : Str → Option Value} {C : Addr} (X : K.In h) (G : h.Ns mainGlobals mg) (aC : PySem.W.nsIn K mainGlobals "Operation" = some (some (.ref C)))
    (pg : PySem.W.plainGet K C Str.empty = true) (hd : PySem.W.hasDictIn K C = true) (po : PySem.W.plainOver K C = true) (sa : PySem.W.findIn K (.ref C) "__setattr__" = some (some (.builtin "object.__setattr__"))) (mk : PySem.W.makesIn K C = true) (kc : PySem.W.keepIn K (.ref C) = true)
    {f0 : Addr} {od0 an0 : Option Addr} {sl0 : Array (Option Value)} {oc0 kV0 dc0 pm0 cd0 ct0 : Value}
    (a0 : PySem.W.findIn K (.ref C) "__init__" = some (some (.ref f0))) (i0 : PySem.W.isFn K (.ref f0) = true) (l0 : K.lookup f0 = some ⟨oc0, od0, .func (PySem.W.fnOf "__init__" "Operation.__init__" (defArgs s_Operation_init) (defBody s_Operation_init) (defScope s_Operation_init) .none kV0 dc0 pm0 an0 cd0 ct0), sl0⟩) (c0 : PySem.W.codeIn K cd0 "Operation.__init__" = true) (k0 : PySem.W.keepIn K (.ref f0) = true)
    {f1 : Addr} {od1 an1 : Option Addr} {sl1 : Array (Option Value)} {oc1 kV1 dc1 pm1 cd1 ct1 : Value}
    (a1 : PySem.W.findIn K (.ref C) "has_ended" = some (some (.ref f1))) (i1 : PySem.W.isFn K (.ref f1) = true) (l1 : K.lookup f1 = some ⟨oc1, od1, .func (PySem.W.fnOf "has_ended" "Operation.has_ended" (defArgs s_Operation_has_ended) (defBody s_Operation_has_ended) (defScope s_Operation_has_ended) .none kV1 dc1 pm1 an1 cd1 ct1), sl1⟩) (c1 : PySem.W.codeIn K cd1 "Operation.has_ended" = true) (k1 : PySem.W.keepIn K (.ref f1) = true)
    {f2 : Addr} {od2 an2 : Option Addr} {sl2 : Array (Option Value)} {oc2 kV2 dc2 pm2 cd2 ct2 : Value}
    (a2 : PySem.W.findIn K (.ref C) "is_under_way" = some (some (.ref f2))) (i2 : PySem.W.isFn K (.ref f2) = true) (l2 : K.lookup f2 = some ⟨oc2, od2, .func (PySem.W.fnOf "is_under_way" "Operation.is_under_way" (defArgs s_Operation_is_under_way) (defBody s_Operation_is_under_way) (defScope s_Operation_is_under_way) .none kV2 dc2 pm2 an2 cd2 ct2), sl2⟩) (c2 : PySem.W.codeIn K cd2 "Operation.is_under_way" = true) (k2 : PySem.W.keepIn K (.ref f2) = true)
    {f3 : Addr} {od3 an3 : Option Addr} {sl3 : Array (Option Value)} {oc3 kV3 dc3 pm3 cd3 ct3 : Value}
    (a3 : PySem.W.findIn K (.ref C) "had_ended_by" = some (some (.ref f3))) (i3 : PySem.W.isFn K (.ref f3) = true) (l3 : K.lookup f3 = some ⟨oc3, od3, .func (PySem.W.fnOf "had_ended_by" "Operation.had_ended_by" (defArgs s_Operation_had_ended_by) (defBody s_Operation_had_ended_by) (defScope s_Operation_had_ended_by) .none kV3 dc3 pm3 an3 cd3 ct3), sl3⟩) (c3 : PySem.W.codeIn K cd3 "Operation.had_ended_by" = true) (k3 : PySem.W.keepIn K (.ref f3) = true)
    {f4 : Addr} {od4 an4 : Option Addr} {sl4 : Array (Option Value)} {oc4 kV4 dc4 pm4 cd4 ct4 : Value}
    (a4 : PySem.W.findIn K (.ref C) "was_under_way_from" = some (some (.ref f4))) (i4 : PySem.W.isFn K (.ref f4) = true) (l4 : K.lookup f4 = some ⟨oc4, od4, .func (PySem.W.fnOf "was_under_way_from" "Operation.was_under_way_from" (defArgs s_Operation_was_under_way_from) (defBody s_Operation_was_under_way_from) (defScope s_Operation_was_under_way_from) .none kV4 dc4 pm4 an4 cd4 ct4), sl4⟩) (c4 : PySem.W.codeIn K cd4 "Operation.was_under_way_from" = true) (k4 : PySem.W.keepIn K (.ref f4) = true)
    {f5 : Addr} {od5 an5 : Option Addr} {sl5 : Array (Option Value)} {oc5 kV5 dc5 pm5 cd5 ct5 : Value}
    (a5 : PySem.W.findIn K (.ref C) "can_step" = some (some (.ref f5))) (i5 : PySem.W.isFn K (.ref f5) = true) (l5 : K.lookup f5 = some ⟨oc5, od5, .func (PySem.W.fnOf "can_step" "Operation.can_step" (defArgs s_Operation_can_step) (defBody s_Operation_can_step) (defScope s_Operation_can_step) .none kV5 dc5 pm5 an5 cd5 ct5), sl5⟩) (c5 : PySem.W.codeIn K cd5 "Operation.can_step" = true) (k5 : PySem.W.keepIn K (.ref f5) = true)
    {f6 : Addr} {od6 an6 : Option Addr} {sl6 : Array (Option Value)} {oc6 kV6 dc6 pm6 cd6 ct6 : Value}
    (a6 : PySem.W.findIn K (.ref C) "stage" = some (some (.ref f6))) (i6 : PySem.W.isFn K (.ref f6) = true) (l6 : K.lookup f6 = some ⟨oc6, od6, .func (PySem.W.fnOf "stage" "Operation.stage" (defArgs s_Operation_stage) (defBody s_Operation_stage) (defScope s_Operation_stage) .none kV6 dc6 pm6 an6 cd6 ct6), sl6⟩) (c6 : PySem.W.codeIn K cd6 "Operation.stage" = true) (k6 : PySem.W.keepIn K (.ref f6) = true)
    (n0 : PySem.W.findIn K (.ref C) "kind" = some none) (n1 : PySem.W.findIn K (.ref C) "steps" = some none) (n2 : PySem.W.findIn K (.ref C) "began" = some none) (n3 : PySem.W.findIn K (.ref C) "left" = some none) (n4 : PySem.W.findIn K (.ref C) "stopped" = some none) (n5 : PySem.W.findIn K (.ref C) "version" = some none) (n6 : PySem.W.findIn K (.ref C) "awaited" = some none) (n7 : PySem.W.findIn K (.ref C) "wipes_seen" = some none) : Nonempty (OperationT K mg) :=
  ⟨{ C := C, c_ := ⟨pg, hd, po, sa⟩, m_ := PySem.W.mg_of X G aC, k_ := ⟨mk, a0, i0, kc⟩, f_init := f0, fd_init := _, F_init := fun_mk (st := s_Operation_init) l0 c0 k0, f_has_ended := f1, fd_has_ended := _, F_has_ended := fun_mk (st := s_Operation_has_ended) l1 c1 k1, M_has_ended := ⟨a1, i1, k1⟩, f_is_under_way := f2, fd_is_under_way := _, F_is_under_way := fun_mk (st := s_Operation_is_under_way) l2 c2 k2, M_is_under_way := ⟨a2, i2, k2⟩, f_had_ended_by := f3, fd_had_ended_by := _, F_had_ended_by := fun_mk (st := s_Operation_had_ended_by) l3 c3 k3, M_had_ended_by := ⟨a3, i3, k3⟩, f_was_under_way_from := f4, fd_was_under_way_from := _, F_was_under_way_from := fun_mk (st := s_Operation_was_under_way_from) l4 c4 k4, M_was_under_way_from := ⟨a4, i4, k4⟩, f_can_step := f5, fd_can_step := _, F_can_step := fun_mk (st := s_Operation_can_step) l5 c5 k5, M_can_step := ⟨a5, i5, k5⟩, f_stage := f6, fd_stage := _, F_stage := fun_mk (st := s_Operation_stage) l6 c6 k6, M_stage := ⟨a6, i6, k6⟩, a_kind := n0, a_steps := n1, a_began := n2, a_left := n3, a_stopped := n4, a_version := n5, a_awaited := n6, a_wipes_seen := n7 }⟩
structure PlayT (K : PySem.W.Frag) (mg : Str → Option Value) where
  C : Addr
  c_ : Cls K C
  m_ : mg "Play" = some (.ref C)
  f_init : Addr
  fd_init : FuncData
  F_init : Fun K "__init__" "Play.__init__" s_Play_init f_init fd_init
  f_can_come : Addr
  fd_can_come : FuncData
  F_can_come : Fun K "can_come" "Play.can_come" s_Play_can_come f_can_come fd_can_come
  M_can_come : Meth K C "can_come" f_can_come
  f_events : Addr
  fd_events : FuncData
  F_events : Fun K "events" "Play.events" s_Play_events f_events fd_events
  M_events : Meth K C "events" f_events
  f_do : Addr
  fd_do : FuncData
  F_do : Fun K "do" "Play.do" s_Play_do f_do fd_do
  M_do : Meth K C "do" f_do
  f_step : Addr
  fd_step : FuncData
  F_step : Fun K "step" "Play.step" s_Play_step f_step fd_step
  M_step : Meth K C "step" f_step
  f_begun : Addr
  fd_begun : FuncData
  F_begun : Fun K "begun" "Play.begun" s_Play_begun f_begun fd_begun
  M_begun : Meth K C "begun" f_begun
  f_carry_out : Addr
  fd_carry_out : FuncData
  F_carry_out : Fun K "carry_out" "Play.carry_out" s_Play_carry_out f_carry_out fd_carry_out
  M_carry_out : Meth K C "carry_out" f_carry_out
  f_is_at_rest : Addr
  fd_is_at_rest : FuncData
  F_is_at_rest : Fun K "is_at_rest" "Play.is_at_rest" s_Play_is_at_rest f_is_at_rest fd_is_at_rest
  M_is_at_rest : Meth K C "is_at_rest" f_is_at_rest
  f_rested : Addr
  fd_rested : FuncData
  F_rested : Fun K "rested" "Play.rested" s_Play_rested f_rested fd_rested
  M_rested : Meth K C "rested" f_rested
  f_look : Addr
  fd_look : FuncData
  F_look : Fun K "look" "Play.look" s_Play_look f_look fd_look
  M_look : Meth K C "look" f_look
  f_share : Addr
  fd_share : FuncData
  F_share : Fun K "share" "Play.share" s_Play_share f_share fd_share
  M_share : Meth K C "share" f_share
  f_fetch : Addr
  fd_fetch : FuncData
  F_fetch : Fun K "fetch" "Play.fetch" s_Play_fetch f_fetch fd_fetch
  M_fetch : Meth K C "fetch" f_fetch
  f_fill : Addr
  fd_fill : FuncData
  F_fill : Fun K "fill" "Play.fill" s_Play_fill f_fill fd_fill
  M_fill : Meth K C "fill" f_fill
  f_take : Addr
  fd_take : FuncData
  F_take : Fun K "take" "Play.take" s_Play_take f_take fd_take
  M_take : Meth K C "take" f_take
  f_store : Addr
  fd_store : FuncData
  F_store : Fun K "store" "Play.store" s_Play_store f_store fd_store
  M_store : Meth K C "store" f_store
  f_drop : Addr
  fd_drop : FuncData
  F_drop : Fun K "drop" "Play.drop" s_Play_drop f_drop fd_drop
  M_drop : Meth K C "drop" f_drop
  f_put : Addr
  fd_put : FuncData
  F_put : Fun K "put" "Play.put" s_Play_put f_put fd_put
  M_put : Meth K C "put" f_put
  f_lets_fill : Addr
  fd_lets_fill : FuncData
  F_lets_fill : Fun K "lets_fill" "Play.lets_fill" s_Play_lets_fill f_lets_fill fd_lets_fill
  M_lets_fill : Meth K C "lets_fill" f_lets_fill
  f_lets_in : Addr
  fd_lets_in : FuncData
  F_lets_in : Fun K "lets_in" "Play.lets_in" s_Play_lets_in f_lets_in fd_lets_in
  M_lets_in : Meth K C "lets_in" f_lets_in
  f_hold : Addr
  fd_hold : FuncData
  F_hold : Fun K "hold" "Play.hold" s_Play_hold f_hold fd_hold
  M_hold : Meth K C "hold" f_hold
  f_raise_mark : Addr
  fd_raise_mark : FuncData
  F_raise_mark : Fun K "raise_mark" "Play.raise_mark" s_Play_raise_mark f_raise_mark fd_raise_mark
  M_raise_mark : Meth K C "raise_mark" f_raise_mark
  k_ : Mk K C f_init
  a_design : NoAttr K C "design"
  a_world : NoAttr K C "world"
  a_path : NoAttr K C "path"
  a_guard : NoAttr K C "guard"
  a_flight : NoAttr K C "flight"
  a_source : NoAttr K C "source"
  a_evictions : NoAttr K C "evictions"
  a_stops : NoAttr K C "stops"
  a_database : NoAttr K C "database"
  a_replica : NoAttr K C "replica"
  a_cache : NoAttr K C "cache"
  a_mark : NoAttr K C "mark"
  a_operations : NoAttr K C "operations"
  a_past : NoAttr K C "past"
  a_leader : NoAttr K C "leader"
  a_wipes : NoAttr K C "wipes"
theorem Play_mk {K : PySem.W.Frag} {h : Heap} {mg : Str → Option Value} {C : Addr} (X : K.In h) (G : h.Ns mainGlobals mg) (aC : PySem.W.nsIn K mainGlobals "Play" = some (some (.ref C)))
    (pg : PySem.W.plainGet K C Str.empty = true) (hd : PySem.W.hasDictIn K C = true) (po : PySem.W.plainOver K C = true) (sa : PySem.W.findIn K (.ref C) "__setattr__" = some (some (.builtin "object.__setattr__"))) (mk : PySem.W.makesIn K C = true) (kc : PySem.W.keepIn K (.ref C) = true)
    {f0 : Addr} {od0 an0 : Option Addr} {sl0 : Array (Option Value)} {oc0 kV0 dc0 pm0 cd0 ct0 : Value}
    (a0 : PySem.W.findIn K (.ref C) "__init__" = some (some (.ref f0))) (i0 : PySem.W.isFn K (.ref f0) = true) (l0 : K.lookup f0 = some ⟨oc0, od0, .func (PySem.W.fnOf "__init__" "Play.__init__" (defArgs s_Play_init) (defBody s_Play_init) (defScope s_Play_init) .none kV0 dc0 pm0 an0 cd0 ct0), sl0⟩) (c0 : PySem.W.codeIn K cd0 "Play.__init__" = true) (k0 : PySem.W.keepIn K (.ref f0) = true)
    {f1 : Addr} {od1 an1 : Option Addr} {sl1 : Array (Option Value)} {oc1 kV1 dc1 pm1 cd1 ct1 : Value}
    (a1 : PySem.W.findIn K (.ref C) "can_come" = some (some (.ref f1))) (i1 : PySem.W.isFn K (.ref f1) = true) (l1 : K.lookup f1 = some ⟨oc1, od1, .func (PySem.W.fnOf "can_come" "Play.can_come" (defArgs s_Play_can_come) (defBody s_Play_can_come) (defScope s_Play_can_come) .none kV1 dc1 pm1 an1 cd1 ct1), sl1⟩) (c1 : PySem.W.codeIn K cd1 "Play.can_come" = true) (k1 : PySem.W.keepIn K (.ref f1) = true)
    {f2 : Addr} {od2 an2 : Option Addr} {sl2 : Array (Option Value)} {oc2 kV2 dc2 pm2 cd2 ct2 : Value}
    (a2 : PySem.W.findIn K (.ref C) "events" = some (some (.ref f2))) (i2 : PySem.W.isFn K (.ref f2) = true) (l2 : K.lookup f2 = some ⟨oc2, od2, .func (PySem.W.fnOf "events" "Play.events" (defArgs s_Play_events) (defBody s_Play_events) (defScope s_Play_events) .none kV2 dc2 pm2 an2 cd2 ct2), sl2⟩) (c2 : PySem.W.codeIn K cd2 "Play.events" = true) (k2 : PySem.W.keepIn K (.ref f2) = true)
    {f3 : Addr} {od3 an3 : Option Addr} {sl3 : Array (Option Value)} {oc3 kV3 dc3 pm3 cd3 ct3 : Value}
    (a3 : PySem.W.findIn K (.ref C) "do" = some (some (.ref f3))) (i3 : PySem.W.isFn K (.ref f3) = true) (l3 : K.lookup f3 = some ⟨oc3, od3, .func (PySem.W.fnOf "do" "Play.do" (defArgs s_Play_do) (defBody s_Play_do) (defScope s_Play_do) .none kV3 dc3 pm3 an3 cd3 ct3), sl3⟩) (c3 : PySem.W.codeIn K cd3 "Play.do" = true) (k3 : PySem.W.keepIn K (.ref f3) = true)
    {f4 : Addr} {od4 an4 : Option Addr} {sl4 : Array (Option Value)} {oc4 kV4 dc4 pm4 cd4 ct4 : Value}
    (a4 : PySem.W.findIn K (.ref C) "step" = some (some (.ref f4))) (i4 : PySem.W.isFn K (.ref f4) = true) (l4 : K.lookup f4 = some ⟨oc4, od4, .func (PySem.W.fnOf "step" "Play.step" (defArgs s_Play_step) (defBody s_Play_step) (defScope s_Play_step) .none kV4 dc4 pm4 an4 cd4 ct4), sl4⟩) (c4 : PySem.W.codeIn K cd4 "Play.step" = true) (k4 : PySem.W.keepIn K (.ref f4) = true)
    {f5 : Addr} {od5 an5 : Option Addr} {sl5 : Array (Option Value)} {oc5 kV5 dc5 pm5 cd5 ct5 : Value}
    (a5 : PySem.W.findIn K (.ref C) "begun" = some (some (.ref f5))) (i5 : PySem.W.isFn K (.ref f5) = true) (l5 : K.lookup f5 = some ⟨oc5, od5, .func (PySem.W.fnOf "begun" "Play.begun" (defArgs s_Play_begun) (defBody s_Play_begun) (defScope s_Play_begun) .none kV5 dc5 pm5 an5 cd5 ct5), sl5⟩) (c5 : PySem.W.codeIn K cd5 "Play.begun" = true) (k5 : PySem.W.keepIn K (.ref f5) = true)
    {f6 : Addr} {od6 an6 : Option Addr} {sl6 : Array (Option Value)} {oc6 kV6 dc6 pm6 cd6 ct6 : Value}
    (a6 : PySem.W.findIn K (.ref C) "carry_out" = some (some (.ref f6))) (i6 : PySem.W.isFn K (.ref f6) = true) (l6 : K.lookup f6 = some ⟨oc6, od6, .func (PySem.W.fnOf "carry_out" "Play.carry_out" (defArgs s_Play_carry_out) (defBody s_Play_carry_out) (defScope s_Play_carry_out) .none kV6 dc6 pm6 an6 cd6 ct6), sl6⟩) (c6 : PySem.W.codeIn K cd6 "Play.carry_out" = true) (k6 : PySem.W.keepIn K (.ref f6) = true)
    {f7 : Addr} {od7 an7 : Option Addr} {sl7 : Array (Option Value)} {oc7 kV7 dc7 pm7 cd7 ct7 : Value}
    (a7 : PySem.W.findIn K (.ref C) "is_at_rest" = some (some (.ref f7))) (i7 : PySem.W.isFn K (.ref f7) = true) (l7 : K.lookup f7 = some ⟨oc7, od7, .func (PySem.W.fnOf "is_at_rest" "Play.is_at_rest" (defArgs s_Play_is_at_rest) (defBody s_Play_is_at_rest) (defScope s_Play_is_at_rest) .none kV7 dc7 pm7 an7 cd7 ct7), sl7⟩) (c7 : PySem.W.codeIn K cd7 "Play.is_at_rest" = true) (k7 : PySem.W.keepIn K (.ref f7) = true)
    {f8 : Addr} {od8 an8 : Option Addr} {sl8 : Array (Option Value)} {oc8 kV8 dc8 pm8 cd8 ct8 : Value}
    (a8 : PySem.W.findIn K (.ref C) "rested" = some (some (.ref f8))) (i8 : PySem.W.isFn K (.ref f8) = true) (l8 : K.lookup f8 = some ⟨oc8, od8, .func (PySem.W.fnOf "rested" "Play.rested" (defArgs s_Play_rested) (defBody s_Play_rested) (defScope s_Play_rested) .none kV8 dc8 pm8 an8 cd8 ct8), sl8⟩) (c8 : PySem.W.codeIn K cd8 "Play.rested" = true) (k8 : PySem.W.keepIn K (.ref f8) = true)
    {f9 : Addr} {od9 an9 : Option Addr} {sl9 : Array (Option Value)} {oc9 kV9 dc9 pm9 cd9 ct9 : Value}
    (a9 : PySem.W.findIn K (.ref C) "look" = some (some (.ref f9))) (i9 : PySem.W.isFn K (.ref f9) = true) (l9 : K.lookup f9 = some ⟨oc9, od9, .func (PySem.W.fnOf "look" "Play.look" (defArgs s_Play_look) (defBody s_Play_look) (defScope s_Play_look) .none kV9 dc9 pm9 an9 cd9 ct9), sl9⟩) (c9 : PySem.W.codeIn K cd9 "Play.look" = true) (k9 : PySem.W.keepIn K (.ref f9) = true)
    {f10 : Addr} {od10 an10 : Option Addr} {sl10 : Array (Option Value)} {oc10 kV10 dc10 pm10 cd10 ct10 : Value}
    (a10 : PySem.W.findIn K (.ref C) "share" = some (some (.ref f10))) (i10 : PySem.W.isFn K (.ref f10) = true) (l10 : K.lookup f10 = some ⟨oc10, od10, .func (PySem.W.fnOf "share" "Play.share" (defArgs s_Play_share) (defBody s_Play_share) (defScope s_Play_share) .none kV10 dc10 pm10 an10 cd10 ct10), sl10⟩) (c10 : PySem.W.codeIn K cd10 "Play.share" = true) (k10 : PySem.W.keepIn K (.ref f10) = true)
    {f11 : Addr} {od11 an11 : Option Addr} {sl11 : Array (Option Value)} {oc11 kV11 dc11 pm11 cd11 ct11 : Value}
    (a11 : PySem.W.findIn K (.ref C) "fetch" = some (some (.ref f11))) (i11 : PySem.W.isFn K (.ref f11) = true) (l11 : K.lookup f11 = some ⟨oc11, od11, .func (PySem.W.fnOf "fetch" "Play.fetch" (defArgs s_Play_fetch) (defBody s_Play_fetch) (defScope s_Play_fetch) .none kV11 dc11 pm11 an11 cd11 ct11), sl11⟩) (c11 : PySem.W.codeIn K cd11 "Play.fetch" = true) (k11 : PySem.W.keepIn K (.ref f11) = true)
    {f12 : Addr} {od12 an12 : Option Addr} {sl12 : Array (Option Value)} {oc12 kV12 dc12 pm12 cd12 ct12 : Value}
    (a12 : PySem.W.findIn K (.ref C) "fill" = some (some (.ref f12))) (i12 : PySem.W.isFn K (.ref f12) = true) (l12 : K.lookup f12 = some ⟨oc12, od12, .func (PySem.W.fnOf "fill" "Play.fill" (defArgs s_Play_fill) (defBody s_Play_fill) (defScope s_Play_fill) .none kV12 dc12 pm12 an12 cd12 ct12), sl12⟩) (c12 : PySem.W.codeIn K cd12 "Play.fill" = true) (k12 : PySem.W.keepIn K (.ref f12) = true)
    {f13 : Addr} {od13 an13 : Option Addr} {sl13 : Array (Option Value)} {oc13 kV13 dc13 pm13 cd13 ct13 : Value}
    (a13 : PySem.W.findIn K (.ref C) "take" = some (some (.ref f13))) (i13 : PySem.W.isFn K (.ref f13) = true) (l13 : K.lookup f13 = some ⟨oc13, od13, .func (PySem.W.fnOf "take" "Play.take" (defArgs s_Play_take) (defBody s_Play_take) (defScope s_Play_take) .none kV13 dc13 pm13 an13 cd13 ct13), sl13⟩) (c13 : PySem.W.codeIn K cd13 "Play.take" = true) (k13 : PySem.W.keepIn K (.ref f13) = true)
    {f14 : Addr} {od14 an14 : Option Addr} {sl14 : Array (Option Value)} {oc14 kV14 dc14 pm14 cd14 ct14 : Value}
    (a14 : PySem.W.findIn K (.ref C) "store" = some (some (.ref f14))) (i14 : PySem.W.isFn K (.ref f14) = true) (l14 : K.lookup f14 = some ⟨oc14, od14, .func (PySem.W.fnOf "store" "Play.store" (defArgs s_Play_store) (defBody s_Play_store) (defScope s_Play_store) .none kV14 dc14 pm14 an14 cd14 ct14), sl14⟩) (c14 : PySem.W.codeIn K cd14 "Play.store" = true) (k14 : PySem.W.keepIn K (.ref f14) = true)
    {f15 : Addr} {od15 an15 : Option Addr} {sl15 : Array (Option Value)} {oc15 kV15 dc15 pm15 cd15 ct15 : Value}
    (a15 : PySem.W.findIn K (.ref C) "drop" = some (some (.ref f15))) (i15 : PySem.W.isFn K (.ref f15) = true) (l15 : K.lookup f15 = some ⟨oc15, od15, .func (PySem.W.fnOf "drop" "Play.drop" (defArgs s_Play_drop) (defBody s_Play_drop) (defScope s_Play_drop) .none kV15 dc15 pm15 an15 cd15 ct15), sl15⟩) (c15 : PySem.W.codeIn K cd15 "Play.drop" = true) (k15 : PySem.W.keepIn K (.ref f15) = true)
    {f16 : Addr} {od16 an16 : Option Addr} {sl16 : Array (Option Value)} {oc16 kV16 dc16 pm16 cd16 ct16 : Value}
    (a16 : PySem.W.findIn K (.ref C) "put" = some (some (.ref f16))) (i16 : PySem.W.isFn K (.ref f16) = true) (l16 : K.lookup f16 = some ⟨oc16, od16, .func (PySem.W.fnOf "put" "Play.put" (defArgs s_Play_put) (defBody s_Play_put) (defScope s_Play_put) .none kV16 dc16 pm16 an16 cd16 ct16), sl16⟩) (c16 : PySem.W.codeIn K cd16 "Play.put" = true) (k16 : PySem.W.keepIn K (.ref f16) = true)
    {f17 : Addr} {od17 an17 : Option Addr} {sl17 : Array (Option Value)} {oc17 kV17 dc17 pm17 cd17 ct17 : Value}
    (a17 : PySem.W.findIn K (.ref C) "lets_fill" = some (some (.ref f17))) (i17 : PySem.W.isFn K (.ref f17) = true) (l17 : K.lookup f17 = some ⟨oc17, od17, .func (PySem.W.fnOf "lets_fill" "Play.lets_fill" (defArgs s_Play_lets_fill) (defBody s_Play_lets_fill) (defScope s_Play_lets_fill) .none kV17 dc17 pm17 an17 cd17 ct17), sl17⟩) (c17 : PySem.W.codeIn K cd17 "Play.lets_fill" = true) (k17 : PySem.W.keepIn K (.ref f17) = true)
    {f18 : Addr} {od18 an18 : Option Addr} {sl18 : Array (Option Value)} {oc18 kV18 dc18 pm18 cd18 ct18 : Value}
    (a18 : PySem.W.findIn K (.ref C) "lets_in" = some (some (.ref f18))) (i18 : PySem.W.isFn K (.ref f18) = true) (l18 : K.lookup f18 = some ⟨oc18, od18, .func (PySem.W.fnOf "lets_in" "Play.lets_in" (defArgs s_Play_lets_in) (defBody s_Play_lets_in) (defScope s_Play_lets_in) .none kV18 dc18 pm18 an18 cd18 ct18), sl18⟩) (c18 : PySem.W.codeIn K cd18 "Play.lets_in" = true) (k18 : PySem.W.keepIn K (.ref f18) = true)
    {f19 : Addr} {od19 an19 : Option Addr} {sl19 : Array (Option Value)} {oc19 kV19 dc19 pm19 cd19 ct19 : Value}
    (a19 : PySem.W.findIn K (.ref C) "hold" = some (some (.ref f19))) (i19 : PySem.W.isFn K (.ref f19) = true) (l19 : K.lookup f19 = some ⟨oc19, od19, .func (PySem.W.fnOf "hold" "Play.hold" (defArgs s_Play_hold) (defBody s_Play_hold) (defScope s_Play_hold) .none kV19 dc19 pm19 an19 cd19 ct19), sl19⟩) (c19 : PySem.W.codeIn K cd19 "Play.hold" = true) (k19 : PySem.W.keepIn K (.ref f19) = true)
    {f20 : Addr} {od20 an20 : Option Addr} {sl20 : Array (Option Value)} {oc20 kV20 dc20 pm20 cd20 ct20 : Value}
    (a20 : PySem.W.findIn K (.ref C) "raise_mark" = some (some (.ref f20))) (i20 : PySem.W.isFn K (.ref f20) = true) (l20 : K.lookup f20 = some ⟨oc20, od20, .func (PySem.W.fnOf "raise_mark" "Play.raise_mark" (defArgs s_Play_raise_mark) (defBody s_Play_raise_mark) (defScope s_Play_raise_mark) .none kV20 dc20 pm20 an20 cd20 ct20), sl20⟩) (c20 : PySem.W.codeIn K cd20 "Play.raise_mark" = true) (k20 : PySem.W.keepIn K (.ref f20) = true)
    (n0 : PySem.W.findIn K (.ref C) "design" = some none) (n1 : PySem.W.findIn K (.ref C) "world" = some none) (n2 : PySem.W.findIn K (.ref C) "path" = some none) (n3 : PySem.W.findIn K (.ref C) "guard" = some none) (n4 : PySem.W.findIn K (.ref C) "flight" = some none) (n5 : PySem.W.findIn K (.ref C) "source" = some none) (n6 : PySem.W.findIn K (.ref C) "evictions" = some none) (n7 : PySem.W.findIn K (.ref C) "stops" = some none) (n8 : PySem.W.findIn K (.ref C) "database" = some none) (n9 : PySem.W.findIn K (.ref C) "replica" = some none) (n10 : PySem.W.findIn K (.ref C) "cache" = some none) (n11 : PySem.W.findIn K (.ref C) "mark" = some none) (n12 : PySem.W.findIn K (.ref C) "operations" = some none) (n13 : PySem.W.findIn K (.ref C) "past" = some none) (n14 : PySem.W.findIn K (.ref C) "leader" = some none) (n15 : PySem.W.findIn K (.ref C) "wipes" = some none) : Nonempty (PlayT K mg) :=
  ⟨{ C := C, c_ := ⟨pg, hd, po, sa⟩, m_ := PySem.W.mg_of X G aC, k_ := ⟨mk, a0, i0, kc⟩, f_init := f0, fd_init := _, F_init := fun_mk (st := s_Play_init) l0 c0 k0, f_can_come := f1, fd_can_come := _, F_can_come := fun_mk (st := s_Play_can_come) l1 c1 k1, M_can_come := ⟨a1, i1, k1⟩, f_events := f2, fd_events := _, F_events := fun_mk (st := s_Play_events) l2 c2 k2, M_events := ⟨a2, i2, k2⟩, f_do := f3, fd_do := _, F_do := fun_mk (st := s_Play_do) l3 c3 k3, M_do := ⟨a3, i3, k3⟩, f_step := f4, fd_step := _, F_step := fun_mk (st := s_Play_step) l4 c4 k4, M_step := ⟨a4, i4, k4⟩, f_begun := f5, fd_begun := _, F_begun := fun_mk (st := s_Play_begun) l5 c5 k5, M_begun := ⟨a5, i5, k5⟩, f_carry_out := f6, fd_carry_out := _, F_carry_out := fun_mk (st := s_Play_carry_out) l6 c6 k6, M_carry_out := ⟨a6, i6, k6⟩, f_is_at_rest := f7, fd_is_at_rest := _, F_is_at_rest := fun_mk (st := s_Play_is_at_rest) l7 c7 k7, M_is_at_rest := ⟨a7, i7, k7⟩, f_rested := f8, fd_rested := _, F_rested := fun_mk (st := s_Play_rested) l8 c8 k8, M_rested := ⟨a8, i8, k8⟩, f_look := f9, fd_look := _, F_look := fun_mk (st := s_Play_look) l9 c9 k9, M_look := ⟨a9, i9, k9⟩, f_share := f10, fd_share := _, F_share := fun_mk (st := s_Play_share) l10 c10 k10, M_share := ⟨a10, i10, k10⟩, f_fetch := f11, fd_fetch := _, F_fetch := fun_mk (st := s_Play_fetch) l11 c11 k11, M_fetch := ⟨a11, i11, k11⟩, f_fill := f12, fd_fill := _, F_fill := fun_mk (st := s_Play_fill) l12 c12 k12, M_fill := ⟨a12, i12, k12⟩, f_take := f13, fd_take := _, F_take := fun_mk (st := s_Play_take) l13 c13 k13, M_take := ⟨a13, i13, k13⟩, f_store := f14, fd_store := _, F_store := fun_mk (st := s_Play_store) l14 c14 k14, M_store := ⟨a14, i14, k14⟩, f_drop := f15, fd_drop := _, F_drop := fun_mk (st := s_Play_drop) l15 c15 k15, M_drop := ⟨a15, i15, k15⟩, f_put := f16, fd_put := _, F_put := fun_mk (st := s_Play_put) l16 c16 k16, M_put := ⟨a16, i16, k16⟩, f_lets_fill := f17, fd_lets_fill := _, F_lets_fill := fun_mk (st := s_Play_lets_fill) l17 c17 k17, M_lets_fill := ⟨a17, i17, k17⟩, f_lets_in := f18, fd_lets_in := _, F_lets_in := fun_mk (st := s_Play_lets_in) l18 c18 k18, M_lets_in := ⟨a18, i18, k18⟩, f_hold := f19, fd_hold := _, F_hold := fun_mk (st := s_Play_hold) l19 c19 k19, M_hold := ⟨a19, i19, k19⟩, f_raise_mark := f20, fd_raise_mark := _, F_raise_mark := fun_mk (st := s_Play_raise_mark) l20 c20 k20, M_raise_mark := ⟨a20, i20, k20⟩, a_design := n0, a_world := n1, a_path := n2, a_guard := n3, a_flight := n4, a_source := n5, a_evictions := n6, a_stops := n7, a_database := n8, a_replica := n9, a_cache := n10, a_mark := n11, a_operations := n12, a_past := n13, a_leader := n14, a_wipes := n15 }⟩
def DctP_BREAKS (K : PySem.W.Frag) (w : World) (mg : Str → Option Value) : Prop := ∃ v, mg "BREAKS" = some (.ref v) ∧ (∃ f, mg "breaks_ending" = some (.ref f) ∧ KDct K w v "ending" (.ref f)) ∧ (∃ f, mg "breaks_filled" = some (.ref f) ∧ KDct K w v "filled" (.ref f)) ∧ (∃ f, mg "breaks_forward" = some (.ref f) ∧ KDct K w v "forward" (.ref f)) ∧ (∃ f, mg "breaks_fresh" = some (.ref f) ∧ KDct K w v "fresh" (.ref f)) ∧ (∃ f, mg "breaks_linear" = some (.ref f) ∧ KDct K w v "linear" (.ref f)) ∧ (∃ f, mg "breaks_mended" = some (.ref f) ∧ KDct K w v "mended" (.ref f)) ∧ (∃ f, mg "breaks_moving" = some (.ref f) ∧ KDct K w v "moving" (.ref f)) ∧ (∃ f, mg "breaks_quiet" = some (.ref f) ∧ KDct K w v "quiet" (.ref f)) ∧ (∃ f, mg "breaks_rest" = some (.ref f) ∧ KDct K w v "rest" (.ref f)) ∧ (∃ f, mg "breaks_single" = some (.ref f) ∧ KDct K w v "single" (.ref f))
theorem dct_BREAKS_mk {K : PySem.W.Frag} {w : World} {h : Heap} {mg : Str → Option Value} {v : Addr} {es : Array DictEntry} {n : Nat} {f0 : Addr} {f1 : Addr} {f2 : Addr} {f3 : Addr} {f4 : Addr} {f5 : Addr} {f6 : Addr} {f7 : Addr} {f8 : Addr} {f9 : Addr} (X : K.In h) (G : h.Ns mainGlobals mg) (a : PySem.W.nsIn K mainGlobals "BREAKS" = some (some (.ref v))) (l : K.lookup v = some ⟨.type "dict", none, .dict es n, #[]⟩) (kl : PySem.W.KeysLit w.params es.toList)
    (a0 : PySem.W.nsIn K mainGlobals "breaks_ending" = some (some (.ref f0))) (e0 : PySem.W.nsIn K v "ending" = some (some (.ref f0)))
    (a1 : PySem.W.nsIn K mainGlobals "breaks_filled" = some (some (.ref f1))) (e1 : PySem.W.nsIn K v "filled" = some (some (.ref f1)))
    (a2 : PySem.W.nsIn K mainGlobals "breaks_forward" = some (some (.ref f2))) (e2 : PySem.W.nsIn K v "forward" = some (some (.ref f2)))
    (a3 : PySem.W.nsIn K mainGlobals "breaks_fresh" = some (some (.ref f3))) (e3 : PySem.W.nsIn K v "fresh" = some (some (.ref f3)))
    (a4 : PySem.W.nsIn K mainGlobals "breaks_linear" = some (some (.ref f4))) (e4 : PySem.W.nsIn K v "linear" = some (some (.ref f4)))
    (a5 : PySem.W.nsIn K mainGlobals "breaks_mended" = some (some (.ref f5))) (e5 : PySem.W.nsIn K v "mended" = some (some (.ref f5)))
    (a6 : PySem.W.nsIn K mainGlobals "breaks_moving" = some (some (.ref f6))) (e6 : PySem.W.nsIn K v "moving" = some (some (.ref f6)))
    (a7 : PySem.W.nsIn K mainGlobals "breaks_quiet" = some (some (.ref f7))) (e7 : PySem.W.nsIn K v "quiet" = some (some (.ref f7)))
    (a8 : PySem.W.nsIn K mainGlobals "breaks_rest" = some (some (.ref f8))) (e8 : PySem.W.nsIn K v "rest" = some (some (.ref f8)))
    (a9 : PySem.W.nsIn K mainGlobals "breaks_single" = some (some (.ref f9))) (e9 : PySem.W.nsIn K v "single" = some (some (.ref f9)))
    : DctP_BREAKS K w mg :=
  ⟨v, PySem.W.mg_of X G a, ⟨f0, PySem.W.mg_of X G a0, es, n, _, l, kl, e0, rfl⟩, ⟨f1, PySem.W.mg_of X G a1, es, n, _, l, kl, e1, rfl⟩, ⟨f2, PySem.W.mg_of X G a2, es, n, _, l, kl, e2, rfl⟩, ⟨f3, PySem.W.mg_of X G a3, es, n, _, l, kl, e3, rfl⟩, ⟨f4, PySem.W.mg_of X G a4, es, n, _, l, kl, e4, rfl⟩, ⟨f5, PySem.W.mg_of X G a5, es, n, _, l, kl, e5, rfl⟩, ⟨f6, PySem.W.mg_of X G a6, es, n, _, l, kl, e6, rfl⟩, ⟨f7, PySem.W.mg_of X G a7, es, n, _, l, kl, e7, rfl⟩, ⟨f8, PySem.W.mg_of X G a8, es, n, _, l, kl, e8, rfl⟩, ⟨f9, PySem.W.mg_of X G a9, es, n, _, l, kl, e9, rfl⟩⟩
theorem exm_self {K : PySem.W.Frag} {S : Addr} (h1 : PySem.W.subIn K (.ref S) (.type "BaseException") = some true) (h2 : PySem.W.isClsIn K S = true) (h3 : PySem.W.typeIn K (.ref S) = some (.type "type")) (h4 : PySem.W.subIn K (.ref S) (.ref S) = some true) :
    PySem.W.exmOne K (.ref S) (.ref S) = some true := by
  have e1 : (PySem.W.subIn K (.ref S) (.type "BaseException") == some true) = true := by rw [h1] <;> rfl
  have e2 : ((PySem.W.clsIn K S).isSome && PySem.W.typeIn K (.ref S) == some (.type "type")) = true := by
    have h2' : (PySem.W.clsIn K S).isSome = true := h2
    rw [h2', h3] <;> rfl
  show (if (PySem.W.subIn K (.ref S) (.type "BaseException") == some true) = true then (if ((PySem.W.clsIn K S).isSome && PySem.W.typeIn K (.ref S) == some (.type "type")) = true then PySem.W.subIn K (.ref S) (.ref S) else none) else none) = some true
  rw [if_pos e1, if_pos e2]
  exact h4
theorem bad_mk {P : Program} {K : PySem.W.Frag} {h : Heap} {mg : Str → Option Value} {C C2 fI cda cc : Addr} (X : K.In h) (G : h.Ns mainGlobals mg)
    {nm q : Str} {N : Addr} {bs : List Value} {sn : List Str} {sub : List Value} {ab : Bool} {col : Option Bool} {dd : Option Addr} {m0 m1 m2 m3 m5 : Option Value} {od an cdd cld : Option Addr} {sl ccs csl : Array (Option Value)} {oc dc pm ct ccl cl : Value} {vs : Array Value} {file : Str} {tf : Tok}
    (aC : PySem.W.nsIn K mainGlobals "BadRun" = some (some (.ref C))) (zS : PySem.W.nsIn K mainGlobals "super" = some none)
    (xL : K.lookup C = some (excClassObj nm q C N bs [.ref C2, .type "ValueError", .type "Exception", .type "BaseException", .type "object"] true sn sub ab col dd m0 m1 m2 m3 m5 "ValueError.__new__"))
    (su : PySem.W.ks_superIn K C C "__init__" = some (some (.builtin "ValueError.__init__")))
    (sa : PySem.W.findIn K (.ref C) "__setattr__" = some (some (.builtin "object.__setattr__"))) (ga : PySem.W.findIn K (.ref C) "__getattribute__" = some (some (.builtin "BaseException.__getattribute__"))) (gg : PySem.W.findIn K (.ref C) "__getattr__" = some none) (ni : PySem.W.findIn K (.ref C) "index" = some none)
    (iC : PySem.W.findIn K (.ref C) "__init__" = some (some (.ref fI))) (tF : PySem.W.typeIn K (.ref fI) = some (.type "function")) (kC : PySem.W.keepIn K (.ref C) = true) (eC : PySem.W.subIn K (.ref C) (.type "BaseException") = some true) (eV : PySem.W.subIn K (.ref C) (.type "ValueError") = some true) (tC : PySem.W.typeIn K (.ref C) = some (.type "type")) (hC : PySem.W.hasDictIn K C = true) (cC : PySem.W.isClsIn K C = true) (sC : PySem.W.subIn K (.ref C) (.ref C) = some true)
    (oq : PySem.W.nsIn K cStatics "thirdparty.any" = some none) (tp : (P.main.scope.names.lookup ("super" : Str)).isSome = false)
    (l1 : K.lookup fI = some ⟨oc, od, .func (PySem.W.ksFn "__init__" PySem.BadX.qI (PySem.BadX.iA ⟨12, 17, 12, 21⟩ ⟨12, 23, 12, 28⟩) (PySem.BadX.iB 0 ⟨13, 8, 13, 13⟩ ⟨13, 8, 13, 15⟩ ⟨13, 8, 13, 24⟩ ⟨13, 27, 13, 41⟩ ⟨13, 42, 13, 47⟩ ⟨13, 41, 13, 48⟩ ⟨13, 25, 13, 49⟩ ⟨13, 8, 13, 50⟩ ⟨13, 8, 13, 50⟩ ⟨14, 8, 14, 12⟩ ⟨14, 8, 14, 18⟩ ⟨14, 21, 14, 26⟩ ⟨14, 8, 14, 26⟩) PySem.BadX.iS .none .none dc pm an (.ref cda) ct cc), sl⟩)
    (c1 : PySem.W.codeIn K (.ref cda) PySem.BadX.qI = true) (l2 : K.lookup cda = some ⟨ccl, cdd, .fields vs, ccs⟩) (v2 : vs[2]? = some (.str file tf)) (fl : ((P.main.file : Str) == file) = true) (l3 : K.lookup cc = some ⟨cl, cld, .cell (some (.ref C)), csl⟩) :
    ∃ C f, PySem.BadX.BadTxt P K mg C f := by
  refine ⟨C, fI, ⟨PySem.W.mg_of X G aC, PySem.W.mg_none_of X G zS, ⟨nm, q, N, bs, _, sn, sub, ab, col, dd, m0, m1, m2, m3, m5, xL, (by show PySem.HandSPX.refsVE [.type "ValueError", .type "Exception", .type "BaseException", .type "object"] = true; decide +kernel), ?_⟩, sa, ga, gg, ni, iC, tC, kC, tF, eC, eV, sC, hC, exm_self eC cC tC sC, oq, tp,
    ⟨_, _, _, _, _, _, _, _, _, _, _, _, _, _, _, _, _, _, _, _, _, _, _, _, _, l1, c1, rfl, ⟨_, _, _, _, _, _, l2, v2, fl⟩, ⟨_, _, _, l3⟩⟩⟩⟩
  have hcl : PySem.W.clsIn K C = some { name := nm, bases := bs, mro := .ref C :: [.ref C2, .type "ValueError", .type "Exception", .type "BaseException", .type "object"], ns := N, qualname := q, hasDict := true, slotNames := sn, subclasses := sub, abstract := ab, collection := col, hasDel := false } := by unfold PySem.W.clsIn; rw [xL] <;> rfl
  unfold PySem.W.ks_superIn at su
  rw [hcl, Option.bind_some, PySem.ESX.drop_own] at su
  exact su
theorem fin {P : Program} {w : World} {K : PySem.W.Frag} {mg : Str → Option Value} {fa : Addr} (hmg : mg "law" = some (.ref fa))
    (D_is_design : DefP K mg "is_design" s_is_design)
    (D_is_world : DefP K mg "is_world" s_is_world)
    (D_is_triple : DefP K mg "is_triple" s_is_triple)
    (D_write_steps : DefP K mg "write_steps" s_write_steps)
    (D_check_design : DefP K mg "check_design" s_check_design)
    (D_check_world : DefP K mg "check_world" s_check_world)
    (D_played : DefP K mg "played" s_played)
    (D_breaks : DefP K mg "breaks" s_breaks)
    (D_first_break : DefP K mg "first_break" s_first_break)
    (D_check_question : DefP K mg "check_question" s_check_question)
    (D_check_promise : DefP K mg "check_promise" s_check_promise)
    (D_breaks_ending : DefP K mg "breaks_ending" s_breaks_ending)
    (D_breaks_filled : DefP K mg "breaks_filled" s_breaks_filled)
    (D_breaks_forward : DefP K mg "breaks_forward" s_breaks_forward)
    (D_breaks_fresh : DefP K mg "breaks_fresh" s_breaks_fresh)
    (D_returns_older : DefP K mg "returns_older" s_returns_older)
    (D_last_read : DefP K mg "last_read" s_last_read)
    (D_breaks_linear : DefP K mg "breaks_linear" s_breaks_linear)
    (D_spans : DefP K mg "spans" s_spans)
    (D_breaks_mended : DefP K mg "breaks_mended" s_breaks_mended)
    (D_is_behind : DefP K mg "is_behind" s_is_behind)
    (D_breaks_moving : DefP K mg "breaks_moving" s_breaks_moving)
    (D_breaks_quiet : DefP K mg "breaks_quiet" s_breaks_quiet)
    (D_breaks_rest : DefP K mg "breaks_rest" s_breaks_rest)
    (D_breaks_single : DefP K mg "breaks_single" s_breaks_single)
    (D_Ltaken : DefP K mg "_law_taken" s_Ltaken)
    (D_Lpick : DefP K mg "_law_pick" s_Lpick)
    (D_Lalike : DefP K mg "_law_alike" s_Lalike)
    (D_Lpaths : DefP K mg "_law_paths" s_Lpaths)
    (D_Ldesign : DefP K mg "_law_design" s_Ldesign)
    (D_Lworld : DefP K mg "_law_world" s_Lworld)
    (D_Lbegin : DefP K mg "_law_begin" s_Lbegin)
    (D_Lgoing : DefP K mg "_law_going" s_Lgoing)
    (D_Lnext : DefP K mg "_law_next" s_Lnext)
    (D_Levents : DefP K mg "_law_events" s_Levents)
    (D_Lend : DefP K mg "_law_end" s_Lend)
    (D_Lhold : DefP K mg "_law_hold" s_Lhold)
    (D_Lnewer : DefP K mg "_law_newer" s_Lnewer)
    (D_Llets : DefP K mg "_law_lets" s_Llets)
    (D_Lwrite : DefP K mg "_law_write" s_Lwrite)
    (D_Lread : DefP K mg "_law_read" s_Lread)
    (D_Ldo : DefP K mg "_law_do" s_Ldo)
    (D_Lrun : DefP K mg "_law_run" s_Lrun)
    (D_Lwalk : DefP K mg "_law_walk" s_Lwalk)
    (D_Lordered : DefP K mg "_law_ordered" s_Lordered)
    (D_Lin_order : DefP K mg "_law_in_order" s_Lin_order)
    (D_law : DefP K mg "law" s_law)
    (X_Operation : Nonempty (OperationT K mg))
    (X_Play : Nonempty (PlayT K mg))
    (K_PATHS : ConP K mg "PATHS" (pathsL.map V.str))
    (K_GUARDS : ConP K mg "GUARDS" (guardsL.map V.str))
    (K_FLIGHTS : ConP K mg "FLIGHTS" (flightsL.map V.str))
    (K_SOURCES : ConP K mg "SOURCES" ((["primary", "replica"] : List Str).map V.str))
    (K_EVICTIONS : ConP K mg "EVICTIONS" ((["evicts", "keeps"] : List Str).map V.str))
    (K_STOPS : ConP K mg "STOPS" ((["finishes", "stops"] : List Str).map V.str))
    (K_PROMISES : ConP K mg "PROMISES" ((["ending", "filled", "forward", "fresh", "linear", "mended", "moving", "quiet", "rest", "single"] : List Str).map V.str))
    (I_MOST_EVENTS : IntP mg "MOST_EVENTS" 60)
    (n_len : mg "len" = none)
    (n_isinstance : mg "isinstance" = none)
    (n_max : mg "max" = none)
    (n_min : mg "min" = none)
    (n_any : mg "any" = none)
    (n_sorted : mg "sorted" = none)
    (n_range : mg "range" = none)
    (n_enumerate : mg "enumerate" = none)
    (n_int : mg "int" = none)
    (n_str : mg "str" = none)
    (n_bool : mg "bool" = none)
    (n_tuple : mg "tuple" = none)
    (n_list : mg "list" = none)
    (n_dict : mg "dict" = none)
    (d_BREAKS : DctP_BREAKS K w mg)
    (bad : ∃ C f, PySem.BadX.BadTxt P K mg C f)
    :
    ∃ fd : FuncData, (∀ (s : Shared) (u : Value), BindsTo s fd ⟨[u], []⟩ [("script", u)]) ∧ ∀ base : Heap, K.In base → base.Ns mainGlobals mg → FnOk P w K mg base CX0 21 fa fd ["script"] (spLaw K) := by
  obtain ⟨f_is_design, fd_is_design, F_is_design, m_is_design⟩ := D_is_design
  obtain ⟨f_is_world, fd_is_world, F_is_world, m_is_world⟩ := D_is_world
  obtain ⟨f_is_triple, fd_is_triple, F_is_triple, m_is_triple⟩ := D_is_triple
  obtain ⟨f_write_steps, fd_write_steps, F_write_steps, m_write_steps⟩ := D_write_steps
  obtain ⟨f_check_design, fd_check_design, F_check_design, m_check_design⟩ := D_check_design
  obtain ⟨f_check_world, fd_check_world, F_check_world, m_check_world⟩ := D_check_world
  obtain ⟨f_played, fd_played, F_played, m_played⟩ := D_played
  obtain ⟨f_breaks, fd_breaks, F_breaks, m_breaks⟩ := D_breaks
  obtain ⟨f_first_break, fd_first_break, F_first_break, m_first_break⟩ := D_first_break
  obtain ⟨f_check_question, fd_check_question, F_check_question, m_check_question⟩ := D_check_question
  obtain ⟨f_check_promise, fd_check_promise, F_check_promise, m_check_promise⟩ := D_check_promise
  obtain ⟨f_breaks_ending, fd_breaks_ending, F_breaks_ending, m_breaks_ending⟩ := D_breaks_ending
  obtain ⟨f_breaks_filled, fd_breaks_filled, F_breaks_filled, m_breaks_filled⟩ := D_breaks_filled
  obtain ⟨f_breaks_forward, fd_breaks_forward, F_breaks_forward, m_breaks_forward⟩ := D_breaks_forward
  obtain ⟨f_breaks_fresh, fd_breaks_fresh, F_breaks_fresh, m_breaks_fresh⟩ := D_breaks_fresh
  obtain ⟨f_returns_older, fd_returns_older, F_returns_older, m_returns_older⟩ := D_returns_older
  obtain ⟨f_last_read, fd_last_read, F_last_read, m_last_read⟩ := D_last_read
  obtain ⟨f_breaks_linear, fd_breaks_linear, F_breaks_linear, m_breaks_linear⟩ := D_breaks_linear
  obtain ⟨f_spans, fd_spans, F_spans, m_spans⟩ := D_spans
  obtain ⟨f_breaks_mended, fd_breaks_mended, F_breaks_mended, m_breaks_mended⟩ := D_breaks_mended
  obtain ⟨f_is_behind, fd_is_behind, F_is_behind, m_is_behind⟩ := D_is_behind
  obtain ⟨f_breaks_moving, fd_breaks_moving, F_breaks_moving, m_breaks_moving⟩ := D_breaks_moving
  obtain ⟨f_breaks_quiet, fd_breaks_quiet, F_breaks_quiet, m_breaks_quiet⟩ := D_breaks_quiet
  obtain ⟨f_breaks_rest, fd_breaks_rest, F_breaks_rest, m_breaks_rest⟩ := D_breaks_rest
  obtain ⟨f_breaks_single, fd_breaks_single, F_breaks_single, m_breaks_single⟩ := D_breaks_single
  obtain ⟨f_Ltaken, fd_Ltaken, F_Ltaken, m_Ltaken⟩ := D_Ltaken
  obtain ⟨f_Lpick, fd_Lpick, F_Lpick, m_Lpick⟩ := D_Lpick
  obtain ⟨f_Lalike, fd_Lalike, F_Lalike, m_Lalike⟩ := D_Lalike
  obtain ⟨f_Lpaths, fd_Lpaths, F_Lpaths, m_Lpaths⟩ := D_Lpaths
  obtain ⟨f_Ldesign, fd_Ldesign, F_Ldesign, m_Ldesign⟩ := D_Ldesign
  obtain ⟨f_Lworld, fd_Lworld, F_Lworld, m_Lworld⟩ := D_Lworld
  obtain ⟨f_Lbegin, fd_Lbegin, F_Lbegin, m_Lbegin⟩ := D_Lbegin
  obtain ⟨f_Lgoing, fd_Lgoing, F_Lgoing, m_Lgoing⟩ := D_Lgoing
  obtain ⟨f_Lnext, fd_Lnext, F_Lnext, m_Lnext⟩ := D_Lnext
  obtain ⟨f_Levents, fd_Levents, F_Levents, m_Levents⟩ := D_Levents
  obtain ⟨f_Lend, fd_Lend, F_Lend, m_Lend⟩ := D_Lend
  obtain ⟨f_Lhold, fd_Lhold, F_Lhold, m_Lhold⟩ := D_Lhold
  obtain ⟨f_Lnewer, fd_Lnewer, F_Lnewer, m_Lnewer⟩ := D_Lnewer
  obtain ⟨f_Llets, fd_Llets, F_Llets, m_Llets⟩ := D_Llets
  obtain ⟨f_Lwrite, fd_Lwrite, F_Lwrite, m_Lwrite⟩ := D_Lwrite
  obtain ⟨f_Lread, fd_Lread, F_Lread, m_Lread⟩ := D_Lread
  obtain ⟨f_Ldo, fd_Ldo, F_Ldo, m_Ldo⟩ := D_Ldo
  obtain ⟨f_Lrun, fd_Lrun, F_Lrun, m_Lrun⟩ := D_Lrun
  obtain ⟨f_Lwalk, fd_Lwalk, F_Lwalk, m_Lwalk⟩ := D_Lwalk
  obtain ⟨f_Lordered, fd_Lordered, F_Lordered, m_Lordered⟩ := D_Lordered
  obtain ⟨f_Lin_order, fd_Lin_order, F_Lin_order, m_Lin_order⟩ := D_Lin_order
  obtain ⟨f_law, fd_law, F_law, m_law⟩ := D_law
  obtain ⟨Z_Operation⟩ := X_Operation
  obtain ⟨Z_Play⟩ := X_Play
  obtain ⟨v_PATHS, m_PATHS, s_PATHS⟩ := K_PATHS
  obtain ⟨v_GUARDS, m_GUARDS, s_GUARDS⟩ := K_GUARDS
  obtain ⟨v_FLIGHTS, m_FLIGHTS, s_FLIGHTS⟩ := K_FLIGHTS
  obtain ⟨v_SOURCES, m_SOURCES, s_SOURCES⟩ := K_SOURCES
  obtain ⟨v_EVICTIONS, m_EVICTIONS, s_EVICTIONS⟩ := K_EVICTIONS
  obtain ⟨v_STOPS, m_STOPS, s_STOPS⟩ := K_STOPS
  obtain ⟨v_PROMISES, m_PROMISES, s_PROMISES⟩ := K_PROMISES
  obtain ⟨t_MOST_EVENTS, m_MOST_EVENTS⟩ := I_MOST_EVENTS
  obtain ⟨CB, fB, B⟩ := bad
  let T : Txt K mg := {
    f_is_design := f_is_design, fd_is_design := fd_is_design, F_is_design := F_is_design, m_is_design := m_is_design, f_is_world := f_is_world, fd_is_world := fd_is_world, F_is_world := F_is_world, m_is_world := m_is_world, f_is_triple := f_is_triple, fd_is_triple := fd_is_triple, F_is_triple := F_is_triple, m_is_triple := m_is_triple, f_write_steps := f_write_steps, fd_write_steps := fd_write_steps, F_write_steps := F_write_steps, m_write_steps := m_write_steps, f_check_design := f_check_design, fd_check_design := fd_check_design, F_check_design := F_check_design, m_check_design := m_check_design, f_check_world := f_check_world, fd_check_world := fd_check_world, F_check_world := F_check_world, m_check_world := m_check_world, f_Operation_init := Z_Operation.f_init, fd_Operation_init := Z_Operation.fd_init, F_Operation_init := Z_Operation.F_init, f_Operation_has_ended := Z_Operation.f_has_ended, fd_Operation_has_ended := Z_Operation.fd_has_ended, F_Operation_has_ended := Z_Operation.F_has_ended, f_Operation_is_under_way := Z_Operation.f_is_under_way, fd_Operation_is_under_way := Z_Operation.fd_is_under_way, F_Operation_is_under_way := Z_Operation.F_is_under_way, f_Operation_had_ended_by := Z_Operation.f_had_ended_by, fd_Operation_had_ended_by := Z_Operation.fd_had_ended_by, F_Operation_had_ended_by := Z_Operation.F_had_ended_by, f_Operation_was_under_way_from := Z_Operation.f_was_under_way_from, fd_Operation_was_under_way_from := Z_Operation.fd_was_under_way_from, F_Operation_was_under_way_from := Z_Operation.F_was_under_way_from, f_Operation_can_step := Z_Operation.f_can_step, fd_Operation_can_step := Z_Operation.fd_can_step, F_Operation_can_step := Z_Operation.F_can_step, f_Operation_stage := Z_Operation.f_stage, fd_Operation_stage := Z_Operation.fd_stage, F_Operation_stage := Z_Operation.F_stage, f_Play_init := Z_Play.f_init, fd_Play_init := Z_Play.fd_init, F_Play_init := Z_Play.F_init, f_Play_can_come := Z_Play.f_can_come, fd_Play_can_come := Z_Play.fd_can_come, F_Play_can_come := Z_Play.F_can_come, f_Play_events := Z_Play.f_events, fd_Play_events := Z_Play.fd_events, F_Play_events := Z_Play.F_events, f_Play_do := Z_Play.f_do, fd_Play_do := Z_Play.fd_do, F_Play_do := Z_Play.F_do, f_Play_step := Z_Play.f_step, fd_Play_step := Z_Play.fd_step, F_Play_step := Z_Play.F_step, f_Play_begun := Z_Play.f_begun, fd_Play_begun := Z_Play.fd_begun, F_Play_begun := Z_Play.F_begun, f_Play_carry_out := Z_Play.f_carry_out, fd_Play_carry_out := Z_Play.fd_carry_out, F_Play_carry_out := Z_Play.F_carry_out, f_Play_is_at_rest := Z_Play.f_is_at_rest, fd_Play_is_at_rest := Z_Play.fd_is_at_rest, F_Play_is_at_rest := Z_Play.F_is_at_rest, f_Play_rested := Z_Play.f_rested, fd_Play_rested := Z_Play.fd_rested, F_Play_rested := Z_Play.F_rested, f_Play_look := Z_Play.f_look, fd_Play_look := Z_Play.fd_look, F_Play_look := Z_Play.F_look, f_Play_share := Z_Play.f_share, fd_Play_share := Z_Play.fd_share, F_Play_share := Z_Play.F_share, f_Play_fetch := Z_Play.f_fetch, fd_Play_fetch := Z_Play.fd_fetch, F_Play_fetch := Z_Play.F_fetch, f_Play_fill := Z_Play.f_fill, fd_Play_fill := Z_Play.fd_fill, F_Play_fill := Z_Play.F_fill, f_Play_take := Z_Play.f_take, fd_Play_take := Z_Play.fd_take, F_Play_take := Z_Play.F_take, f_Play_store := Z_Play.f_store, fd_Play_store := Z_Play.fd_store, F_Play_store := Z_Play.F_store, f_Play_drop := Z_Play.f_drop, fd_Play_drop := Z_Play.fd_drop, F_Play_drop := Z_Play.F_drop, f_Play_put := Z_Play.f_put, fd_Play_put := Z_Play.fd_put, F_Play_put := Z_Play.F_put, f_Play_lets_fill := Z_Play.f_lets_fill, fd_Play_lets_fill := Z_Play.fd_lets_fill, F_Play_lets_fill := Z_Play.F_lets_fill, f_Play_lets_in := Z_Play.f_lets_in, fd_Play_lets_in := Z_Play.fd_lets_in, F_Play_lets_in := Z_Play.F_lets_in, f_Play_hold := Z_Play.f_hold, fd_Play_hold := Z_Play.fd_hold, F_Play_hold := Z_Play.F_hold, f_Play_raise_mark := Z_Play.f_raise_mark, fd_Play_raise_mark := Z_Play.fd_raise_mark, F_Play_raise_mark := Z_Play.F_raise_mark, f_played := f_played, fd_played := fd_played, F_played := F_played, m_played := m_played, f_breaks := f_breaks, fd_breaks := fd_breaks, F_breaks := F_breaks, m_breaks := m_breaks, f_first_break := f_first_break, fd_first_break := fd_first_break, F_first_break := F_first_break, m_first_break := m_first_break, f_check_question := f_check_question, fd_check_question := fd_check_question, F_check_question := F_check_question, m_check_question := m_check_question, f_check_promise := f_check_promise, fd_check_promise := fd_check_promise, F_check_promise := F_check_promise, m_check_promise := m_check_promise, f_breaks_ending := f_breaks_ending, fd_breaks_ending := fd_breaks_ending, F_breaks_ending := F_breaks_ending, m_breaks_ending := m_breaks_ending, f_breaks_filled := f_breaks_filled, fd_breaks_filled := fd_breaks_filled, F_breaks_filled := F_breaks_filled, m_breaks_filled := m_breaks_filled, f_breaks_forward := f_breaks_forward, fd_breaks_forward := fd_breaks_forward, F_breaks_forward := F_breaks_forward, m_breaks_forward := m_breaks_forward, f_breaks_fresh := f_breaks_fresh, fd_breaks_fresh := fd_breaks_fresh, F_breaks_fresh := F_breaks_fresh, m_breaks_fresh := m_breaks_fresh, f_returns_older := f_returns_older, fd_returns_older := fd_returns_older, F_returns_older := F_returns_older, m_returns_older := m_returns_older, f_last_read := f_last_read, fd_last_read := fd_last_read, F_last_read := F_last_read, m_last_read := m_last_read, f_breaks_linear := f_breaks_linear, fd_breaks_linear := fd_breaks_linear, F_breaks_linear := F_breaks_linear, m_breaks_linear := m_breaks_linear, f_spans := f_spans, fd_spans := fd_spans, F_spans := F_spans, m_spans := m_spans, f_breaks_mended := f_breaks_mended, fd_breaks_mended := fd_breaks_mended, F_breaks_mended := F_breaks_mended, m_breaks_mended := m_breaks_mended, f_is_behind := f_is_behind, fd_is_behind := fd_is_behind, F_is_behind := F_is_behind, m_is_behind := m_is_behind, f_breaks_moving := f_breaks_moving, fd_breaks_moving := fd_breaks_moving, F_breaks_moving := F_breaks_moving, m_breaks_moving := m_breaks_moving, f_breaks_quiet := f_breaks_quiet, fd_breaks_quiet := fd_breaks_quiet, F_breaks_quiet := F_breaks_quiet, m_breaks_quiet := m_breaks_quiet, f_breaks_rest := f_breaks_rest, fd_breaks_rest := fd_breaks_rest, F_breaks_rest := F_breaks_rest, m_breaks_rest := m_breaks_rest, f_breaks_single := f_breaks_single, fd_breaks_single := fd_breaks_single, F_breaks_single := F_breaks_single, m_breaks_single := m_breaks_single, f_Ltaken := f_Ltaken, fd_Ltaken := fd_Ltaken, F_Ltaken := F_Ltaken, m_Ltaken := m_Ltaken, f_Lpick := f_Lpick, fd_Lpick := fd_Lpick, F_Lpick := F_Lpick, m_Lpick := m_Lpick, f_Lalike := f_Lalike, fd_Lalike := fd_Lalike, F_Lalike := F_Lalike, m_Lalike := m_Lalike, f_Lpaths := f_Lpaths, fd_Lpaths := fd_Lpaths, F_Lpaths := F_Lpaths, m_Lpaths := m_Lpaths, f_Ldesign := f_Ldesign, fd_Ldesign := fd_Ldesign, F_Ldesign := F_Ldesign, m_Ldesign := m_Ldesign, f_Lworld := f_Lworld, fd_Lworld := fd_Lworld, F_Lworld := F_Lworld, m_Lworld := m_Lworld, f_Lbegin := f_Lbegin, fd_Lbegin := fd_Lbegin, F_Lbegin := F_Lbegin, m_Lbegin := m_Lbegin, f_Lgoing := f_Lgoing, fd_Lgoing := fd_Lgoing, F_Lgoing := F_Lgoing, m_Lgoing := m_Lgoing, f_Lnext := f_Lnext, fd_Lnext := fd_Lnext, F_Lnext := F_Lnext, m_Lnext := m_Lnext, f_Levents := f_Levents, fd_Levents := fd_Levents, F_Levents := F_Levents, m_Levents := m_Levents, f_Lend := f_Lend, fd_Lend := fd_Lend, F_Lend := F_Lend, m_Lend := m_Lend, f_Lhold := f_Lhold, fd_Lhold := fd_Lhold, F_Lhold := F_Lhold, m_Lhold := m_Lhold, f_Lnewer := f_Lnewer, fd_Lnewer := fd_Lnewer, F_Lnewer := F_Lnewer, m_Lnewer := m_Lnewer, f_Llets := f_Llets, fd_Llets := fd_Llets, F_Llets := F_Llets, m_Llets := m_Llets, f_Lwrite := f_Lwrite, fd_Lwrite := fd_Lwrite, F_Lwrite := F_Lwrite, m_Lwrite := m_Lwrite, f_Lread := f_Lread, fd_Lread := fd_Lread, F_Lread := F_Lread, m_Lread := m_Lread, f_Ldo := f_Ldo, fd_Ldo := fd_Ldo, F_Ldo := F_Ldo, m_Ldo := m_Ldo, f_Lrun := f_Lrun, fd_Lrun := fd_Lrun, F_Lrun := F_Lrun, m_Lrun := m_Lrun, f_Lwalk := f_Lwalk, fd_Lwalk := fd_Lwalk, F_Lwalk := F_Lwalk, m_Lwalk := m_Lwalk, f_Lordered := f_Lordered, fd_Lordered := fd_Lordered, F_Lordered := F_Lordered, m_Lordered := m_Lordered, f_Lin_order := f_Lin_order, fd_Lin_order := fd_Lin_order, F_Lin_order := F_Lin_order, m_Lin_order := m_Lin_order, f_law := f_law, fd_law := fd_law, F_law := F_law, m_law := m_law, n_len := n_len, n_isinstance := n_isinstance, n_max := n_max, n_min := n_min, n_any := n_any, n_sorted := n_sorted, n_range := n_range, n_enumerate := n_enumerate, n_int := n_int, n_str := n_str, n_bool := n_bool, n_tuple := n_tuple, n_list := n_list, n_dict := n_dict, C_Operation := Z_Operation.C, c_Operation := Z_Operation.c_, k_Operation := Z_Operation.k_, m_Operation := Z_Operation.m_, a_Operation_kind := Z_Operation.a_kind, a_Operation_steps := Z_Operation.a_steps, a_Operation_began := Z_Operation.a_began, a_Operation_left := Z_Operation.a_left, a_Operation_stopped := Z_Operation.a_stopped, a_Operation_version := Z_Operation.a_version, a_Operation_awaited := Z_Operation.a_awaited, a_Operation_wipes_seen := Z_Operation.a_wipes_seen, M_Operation_has_ended := Z_Operation.M_has_ended, M_Operation_is_under_way := Z_Operation.M_is_under_way, M_Operation_had_ended_by := Z_Operation.M_had_ended_by, M_Operation_was_under_way_from := Z_Operation.M_was_under_way_from, M_Operation_can_step := Z_Operation.M_can_step, M_Operation_stage := Z_Operation.M_stage, C_Play := Z_Play.C, c_Play := Z_Play.c_, k_Play := Z_Play.k_, m_Play := Z_Play.m_, a_Play_design := Z_Play.a_design, a_Play_world := Z_Play.a_world, a_Play_path := Z_Play.a_path, a_Play_guard := Z_Play.a_guard, a_Play_flight := Z_Play.a_flight, a_Play_source := Z_Play.a_source, a_Play_evictions := Z_Play.a_evictions, a_Play_stops := Z_Play.a_stops, a_Play_database := Z_Play.a_database, a_Play_replica := Z_Play.a_replica, a_Play_cache := Z_Play.a_cache, a_Play_mark := Z_Play.a_mark, a_Play_operations := Z_Play.a_operations, a_Play_past := Z_Play.a_past, a_Play_leader := Z_Play.a_leader, a_Play_wipes := Z_Play.a_wipes, M_Play_can_come := Z_Play.M_can_come, M_Play_events := Z_Play.M_events, M_Play_do := Z_Play.M_do, M_Play_step := Z_Play.M_step, M_Play_begun := Z_Play.M_begun, M_Play_carry_out := Z_Play.M_carry_out, M_Play_is_at_rest := Z_Play.M_is_at_rest, M_Play_rested := Z_Play.M_rested, M_Play_look := Z_Play.M_look, M_Play_share := Z_Play.M_share, M_Play_fetch := Z_Play.M_fetch, M_Play_fill := Z_Play.M_fill, M_Play_take := Z_Play.M_take, M_Play_store := Z_Play.M_store, M_Play_drop := Z_Play.M_drop, M_Play_put := Z_Play.M_put, M_Play_lets_fill := Z_Play.M_lets_fill, M_Play_lets_in := Z_Play.M_lets_in, M_Play_hold := Z_Play.M_hold, M_Play_raise_mark := Z_Play.M_raise_mark }
  let U : TxtC K mg := { v_PATHS := v_PATHS, m_PATHS := m_PATHS, s_PATHS := s_PATHS, v_GUARDS := v_GUARDS, m_GUARDS := m_GUARDS, s_GUARDS := s_GUARDS, v_FLIGHTS := v_FLIGHTS, m_FLIGHTS := m_FLIGHTS, s_FLIGHTS := s_FLIGHTS, v_SOURCES := v_SOURCES, m_SOURCES := m_SOURCES, s_SOURCES := s_SOURCES, v_EVICTIONS := v_EVICTIONS, m_EVICTIONS := m_EVICTIONS, s_EVICTIONS := s_EVICTIONS, v_STOPS := v_STOPS, m_STOPS := m_STOPS, s_STOPS := s_STOPS, v_PROMISES := v_PROMISES, m_PROMISES := m_PROMISES, s_PROMISES := s_PROMISES, t_MOST_EVENTS := t_MOST_EVENTS, m_MOST_EVENTS := m_MOST_EVENTS }
  obtain ⟨v_BREAKS, m_BREAKS, ⟨q0, r0, p0⟩, ⟨q1, r1, p1⟩, ⟨q2, r2, p2⟩, ⟨q3, r3, p3⟩, ⟨q4, r4, p4⟩, ⟨q5, r5, p5⟩, ⟨q6, r6, p6⟩, ⟨q7, r7, p7⟩, ⟨q8, r8, p8⟩, ⟨q9, r9, p9⟩⟩ := d_BREAKS
  have p0 : KDct K w v_BREAKS "ending" (.ref f_breaks_ending) := by
    have z := m_breaks_ending.symm.trans r0
    cases z
    exact p0
  have p1 : KDct K w v_BREAKS "filled" (.ref f_breaks_filled) := by
    have z := m_breaks_filled.symm.trans r1
    cases z
    exact p1
  have p2 : KDct K w v_BREAKS "forward" (.ref f_breaks_forward) := by
    have z := m_breaks_forward.symm.trans r2
    cases z
    exact p2
  have p3 : KDct K w v_BREAKS "fresh" (.ref f_breaks_fresh) := by
    have z := m_breaks_fresh.symm.trans r3
    cases z
    exact p3
  have p4 : KDct K w v_BREAKS "linear" (.ref f_breaks_linear) := by
    have z := m_breaks_linear.symm.trans r4
    cases z
    exact p4
  have p5 : KDct K w v_BREAKS "mended" (.ref f_breaks_mended) := by
    have z := m_breaks_mended.symm.trans r5
    cases z
    exact p5
  have p6 : KDct K w v_BREAKS "moving" (.ref f_breaks_moving) := by
    have z := m_breaks_moving.symm.trans r6
    cases z
    exact p6
  have p7 : KDct K w v_BREAKS "quiet" (.ref f_breaks_quiet) := by
    have z := m_breaks_quiet.symm.trans r7
    cases z
    exact p7
  have p8 : KDct K w v_BREAKS "rest" (.ref f_breaks_rest) := by
    have z := m_breaks_rest.symm.trans r8
    cases z
    exact p8
  have p9 : KDct K w v_BREAKS "single" (.ref f_breaks_single) := by
    have z := m_breaks_single.symm.trans r9
    cases z
    exact p9
  let Y : TxtD_BREAKS K w mg T := { v_ := v_BREAKS, m_ := m_BREAKS, k_ending := p0, k_filled := p1, k_forward := p2, k_fresh := p3, k_linear := p4, k_mended := p5, k_moving := p6, k_quiet := p7, k_rest := p8, k_single := p9 }
  have e : f_law = fa := by
    have z := m_law.symm.trans hmg
    cases z
    rfl
  subst e
  refine ⟨fd_law, fun s u => ?_, fun base _ _ => ok_law T U B Y⟩
  obtain ⟨oc, od, kV, doc, pm, an, cdv, ct, osl, ef, _, _⟩ := F_law.ex
  rw [ef]
  exact .of_eq rfl
theorem walk {l : PySem.W.OpenLaw} {q : Program} {loose : List Str} {XP : (Str → Option Value) → Heap → Prop} {YP : World → Heap → Prop} {d : DefRec} {K : Params → PySem.W.Frag} (hn : l.most = some 63) (hdf : d.params.defaults = [])
    (hY : ∀ (w : World) (h : Heap), YP w h → (K w.params).In h)
    (F : ∀ (w : World) (mg : Str → Option Value) (fa : Addr) (h : Heap), (K w.params).In h → h.Ns mainGlobals mg → mg d.name = some (.ref fa) →
      ∃ fd : FuncData, (∀ (s : Shared) (u : Value), BindsTo s fd ⟨[u], []⟩ [("script", u)]) ∧ ∀ base : Heap, (K w.params).In base → base.Ns mainGlobals mg → FnOk l.prog w (K w.params) mg base CX0 21 fa fd ["script"] (spLaw (K w.params))) :
    PySem.W.WalkO q loose XP YP l.row.toRowW d [] (fun f vs => PySem.call f vs) :=
  L2.walk_of (n := 63) (k := 21) (x := "script") (CX := fun _ => CX0) (sp := fun w => spLaw (K w.params)) hn (by decide) hdf ⟨rfl, by decide, by decide⟩ hY F (fun _ _ a ns hl _ hS => by unfold spLaw; exact ⟨a, ns, rfl, hS, fun _ => rfl⟩) fun _ _ _ _ _ z => z
end Ca

open PySem PySem.W PyProof.Rows
set_option Elab.async false
set_option maxRecDepth 100000 in
set_option maxHeartbeats 0 in
theorem PySem.Challenge.cw_cacheheld_k02_whole_orders_holds : PySem.Challenge.rw_cacheheld_k02_whole_orders.Holds := by
  w_on; o_law; k_head; (case hw => w_witness2)
  k_fill
  refine Ca.walk (l := PySem.Challenge.rw_cacheheld_k02_whole_orders) rfl rfl (fun w h Y => PySem.W.kIn_of Y) ?F
  case F =>
    intro w mg fa h KX G hmg
    refine' Ca.fin hmg ?D_is_design ?D_is_world ?D_is_triple ?D_write_steps ?D_check_design ?D_check_world ?D_played ?D_breaks ?D_first_break ?D_check_question ?D_check_promise ?D_breaks_ending ?D_breaks_filled ?D_breaks_forward ?D_breaks_fresh ?D_returns_older ?D_last_read ?D_breaks_linear ?D_spans ?D_breaks_mended ?D_is_behind ?D_breaks_moving ?D_breaks_quiet ?D_breaks_rest ?D_breaks_single ?D_Ltaken ?D_Lpick ?D_Lalike ?D_Lpaths ?D_Ldesign ?D_Lworld ?D_Lbegin ?D_Lgoing ?D_Lnext ?D_Levents ?D_Lend ?D_Lhold ?D_Lnewer ?D_Llets ?D_Lwrite ?D_Lread ?D_Ldo ?D_Lrun ?D_Lwalk ?D_Lordered ?D_Lin_order ?D_law ?X_Operation ?X_Play ?K_PATHS ?K_GUARDS ?K_FLIGHTS ?K_SOURCES ?K_EVICTIONS ?K_STOPS ?K_PROMISES ?I_MOST_EVENTS ?n_len ?n_isinstance ?n_max ?n_min ?n_any ?n_sorted ?n_range ?n_enumerate ?n_int ?n_str ?n_bool ?n_tuple ?n_list ?n_dict ?d_BREAKS ?bad
    case D_is_design =>
      refine' Ca.def_mk KX G ?z1_a ?z1_l ?z1_c ?z1_k
      (case z1_a => k_is)
      (case z1_l => k_is)
      (case z1_c => k_is)
      (case z1_k => k_is)
    case D_is_world =>
      refine' Ca.def_mk KX G ?z2_a ?z2_l ?z2_c ?z2_k
      (case z2_a => k_is)
      (case z2_l => k_is)
      (case z2_c => k_is)
      (case z2_k => k_is)
    case D_is_triple =>
      refine' Ca.def_mk KX G ?z3_a ?z3_l ?z3_c ?z3_k
      (case z3_a => k_is)
      (case z3_l => k_is)
      (case z3_c => k_is)
      (case z3_k => k_is)
    case D_write_steps =>
      refine' Ca.def_mk KX G ?z4_a ?z4_l ?z4_c ?z4_k
      (case z4_a => k_is)
      (case z4_l => k_is)
      (case z4_c => k_is)
      (case z4_k => k_is)
    case D_check_design =>
      refine' Ca.def_mk KX G ?z5_a ?z5_l ?z5_c ?z5_k
      (case z5_a => k_is)
      (case z5_l => k_is)
      (case z5_c => k_is)
      (case z5_k => k_is)
    case D_check_world =>
      refine' Ca.def_mk KX G ?z6_a ?z6_l ?z6_c ?z6_k
      (case z6_a => k_is)
      (case z6_l => k_is)
      (case z6_c => k_is)
      (case z6_k => k_is)
    case D_played =>
      refine' Ca.def_mk KX G ?z7_a ?z7_l ?z7_c ?z7_k
      (case z7_a => k_is)
      (case z7_l => k_is)
      (case z7_c => k_is)
      (case z7_k => k_is)
    case D_breaks =>
      refine' Ca.def_mk KX G ?z8_a ?z8_l ?z8_c ?z8_k
      (case z8_a => k_is)
      (case z8_l => k_is)
      (case z8_c => k_is)
      (case z8_k => k_is)
    case D_first_break =>
      refine' Ca.def_mk KX G ?z9_a ?z9_l ?z9_c ?z9_k
      (case z9_a => k_is)
      (case z9_l => k_is)
      (case z9_c => k_is)
      (case z9_k => k_is)
    case D_check_question =>
      refine' Ca.def_mk KX G ?z10_a ?z10_l ?z10_c ?z10_k
      (case z10_a => k_is)
      (case z10_l => k_is)
      (case z10_c => k_is)
      (case z10_k => k_is)
    case D_check_promise =>
      refine' Ca.def_mk KX G ?z11_a ?z11_l ?z11_c ?z11_k
      (case z11_a => k_is)
      (case z11_l => k_is)
      (case z11_c => k_is)
      (case z11_k => k_is)
    case D_breaks_ending =>
      refine' Ca.def_mk KX G ?z12_a ?z12_l ?z12_c ?z12_k
      (case z12_a => k_is)
      (case z12_l => k_is)
      (case z12_c => k_is)
      (case z12_k => k_is)
    case D_breaks_filled =>
      refine' Ca.def_mk KX G ?z13_a ?z13_l ?z13_c ?z13_k
      (case z13_a => k_is)
      (case z13_l => k_is)
      (case z13_c => k_is)
      (case z13_k => k_is)
    case D_breaks_forward =>
      refine' Ca.def_mk KX G ?z14_a ?z14_l ?z14_c ?z14_k
      (case z14_a => k_is)
      (case z14_l => k_is)
      (case z14_c => k_is)
      (case z14_k => k_is)
    case D_breaks_fresh =>
      refine' Ca.def_mk KX G ?z15_a ?z15_l ?z15_c ?z15_k
      (case z15_a => k_is)
      (case z15_l => k_is)
      (case z15_c => k_is)
      (case z15_k => k_is)
    case D_returns_older =>
      refine' Ca.def_mk KX G ?z16_a ?z16_l ?z16_c ?z16_k
      (case z16_a => k_is)
      (case z16_l => k_is)
      (case z16_c => k_is)
      (case z16_k => k_is)
    case D_last_read =>
      refine' Ca.def_mk KX G ?z17_a ?z17_l ?z17_c ?z17_k
      (case z17_a => k_is)
      (case z17_l => k_is)
      (case z17_c => k_is)
      (case z17_k => k_is)
    case D_breaks_linear =>
      refine' Ca.def_mk KX G ?z18_a ?z18_l ?z18_c ?z18_k
      (case z18_a => k_is)
      (case z18_l => k_is)
      (case z18_c => k_is)
      (case z18_k => k_is)
    case D_spans =>
      refine' Ca.def_mk KX G ?z19_a ?z19_l ?z19_c ?z19_k
      (case z19_a => k_is)
      (case z19_l => k_is)
      (case z19_c => k_is)
      (case z19_k => k_is)
    case D_breaks_mended =>
      refine' Ca.def_mk KX G ?z20_a ?z20_l ?z20_c ?z20_k
      (case z20_a => k_is)
      (case z20_l => k_is)
      (case z20_c => k_is)
      (case z20_k => k_is)
    case D_is_behind =>
      refine' Ca.def_mk KX G ?z21_a ?z21_l ?z21_c ?z21_k
      (case z21_a => k_is)
      (case z21_l => k_is)
      (case z21_c => k_is)
      (case z21_k => k_is)
    case D_breaks_moving =>
      refine' Ca.def_mk KX G ?z22_a ?z22_l ?z22_c ?z22_k
      (case z22_a => k_is)
      (case z22_l => k_is)
      (case z22_c => k_is)
      (case z22_k => k_is)
    case D_breaks_quiet =>
      refine' Ca.def_mk KX G ?z23_a ?z23_l ?z23_c ?z23_k
      (case z23_a => k_is)
      (case z23_l => k_is)
      (case z23_c => k_is)
      (case z23_k => k_is)
    case D_breaks_rest =>
      refine' Ca.def_mk KX G ?z24_a ?z24_l ?z24_c ?z24_k
      (case z24_a => k_is)
      (case z24_l => k_is)
      (case z24_c => k_is)
      (case z24_k => k_is)
    case D_breaks_single =>
      refine' Ca.def_mk KX G ?z25_a ?z25_l ?z25_c ?z25_k
      (case z25_a => k_is)
      (case z25_l => k_is)
      (case z25_c => k_is)
      (case z25_k => k_is)
    case D_Ltaken =>
      refine' Ca.def_mk KX G ?z26_a ?z26_l ?z26_c ?z26_k
      (case z26_a => k_is)
      (case z26_l => k_is)
      (case z26_c => k_is)
      (case z26_k => k_is)
    case D_Lpick =>
      refine' Ca.def_mk KX G ?z27_a ?z27_l ?z27_c ?z27_k
      (case z27_a => k_is)
      (case z27_l => k_is)
      (case z27_c => k_is)
      (case z27_k => k_is)
    case D_Lalike =>
      refine' Ca.def_mk KX G ?z28_a ?z28_l ?z28_c ?z28_k
      (case z28_a => k_is)
      (case z28_l => k_is)
      (case z28_c => k_is)
      (case z28_k => k_is)
    case D_Lpaths =>
      refine' Ca.def_mk KX G ?z29_a ?z29_l ?z29_c ?z29_k
      (case z29_a => k_is)
      (case z29_l => k_is)
      (case z29_c => k_is)
      (case z29_k => k_is)
    case D_Ldesign =>
      refine' Ca.def_mk KX G ?z30_a ?z30_l ?z30_c ?z30_k
      (case z30_a => k_is)
      (case z30_l => k_is)
      (case z30_c => k_is)
      (case z30_k => k_is)
    case D_Lworld =>
      refine' Ca.def_mk KX G ?z31_a ?z31_l ?z31_c ?z31_k
      (case z31_a => k_is)
      (case z31_l => k_is)
      (case z31_c => k_is)
      (case z31_k => k_is)
    case D_Lbegin =>
      refine' Ca.def_mk KX G ?z32_a ?z32_l ?z32_c ?z32_k
      (case z32_a => k_is)
      (case z32_l => k_is)
      (case z32_c => k_is)
      (case z32_k => k_is)
    case D_Lgoing =>
      refine' Ca.def_mk KX G ?z33_a ?z33_l ?z33_c ?z33_k
      (case z33_a => k_is)
      (case z33_l => k_is)
      (case z33_c => k_is)
      (case z33_k => k_is)
    case D_Lnext =>
      refine' Ca.def_mk KX G ?z34_a ?z34_l ?z34_c ?z34_k
      (case z34_a => k_is)
      (case z34_l => k_is)
      (case z34_c => k_is)
      (case z34_k => k_is)
    case D_Levents =>
      refine' Ca.def_mk KX G ?z35_a ?z35_l ?z35_c ?z35_k
      (case z35_a => k_is)
      (case z35_l => k_is)
      (case z35_c => k_is)
      (case z35_k => k_is)
    case D_Lend =>
      refine' Ca.def_mk KX G ?z36_a ?z36_l ?z36_c ?z36_k
      (case z36_a => k_is)
      (case z36_l => k_is)
      (case z36_c => k_is)
      (case z36_k => k_is)
    case D_Lhold =>
      refine' Ca.def_mk KX G ?z37_a ?z37_l ?z37_c ?z37_k
      (case z37_a => k_is)
      (case z37_l => k_is)
      (case z37_c => k_is)
      (case z37_k => k_is)
    case D_Lnewer =>
      refine' Ca.def_mk KX G ?z38_a ?z38_l ?z38_c ?z38_k
      (case z38_a => k_is)
      (case z38_l => k_is)
      (case z38_c => k_is)
      (case z38_k => k_is)
    case D_Llets =>
      refine' Ca.def_mk KX G ?z39_a ?z39_l ?z39_c ?z39_k
      (case z39_a => k_is)
      (case z39_l => k_is)
      (case z39_c => k_is)
      (case z39_k => k_is)
    case D_Lwrite =>
      refine' Ca.def_mk KX G ?z40_a ?z40_l ?z40_c ?z40_k
      (case z40_a => k_is)
      (case z40_l => k_is)
      (case z40_c => k_is)
      (case z40_k => k_is)
    case D_Lread =>
      refine' Ca.def_mk KX G ?z41_a ?z41_l ?z41_c ?z41_k
      (case z41_a => k_is)
      (case z41_l => k_is)
      (case z41_c => k_is)
      (case z41_k => k_is)
    case D_Ldo =>
      refine' Ca.def_mk KX G ?z42_a ?z42_l ?z42_c ?z42_k
      (case z42_a => k_is)
      (case z42_l => k_is)
      (case z42_c => k_is)
      (case z42_k => k_is)
    case D_Lrun =>
      refine' Ca.def_mk KX G ?z43_a ?z43_l ?z43_c ?z43_k
      (case z43_a => k_is)
      (case z43_l => k_is)
      (case z43_c => k_is)
      (case z43_k => k_is)
    case D_Lwalk =>
      refine' Ca.def_mk KX G ?z44_a ?z44_l ?z44_c ?z44_k
      (case z44_a => k_is)
      (case z44_l => k_is)
      (case z44_c => k_is)
      (case z44_k => k_is)
    case D_Lordered =>
      refine' Ca.def_mk KX G ?z45_a ?z45_l ?z45_c ?z45_k
      (case z45_a => k_is)
      (case z45_l => k_is)
      (case z45_c => k_is)
      (case z45_k => k_is)
    case D_Lin_order =>
      refine' Ca.def_mk KX G ?z46_a ?z46_l ?z46_c ?z46_k
      (case z46_a => k_is)
      (case z46_l => k_is)
      (case z46_c => k_is)
      (case z46_k => k_is)
    case D_law =>
      refine' Ca.def_mk KX G ?z47_a ?z47_l ?z47_c ?z47_k
      (case z47_a => k_is)
      (case z47_l => k_is)
      (case z47_c => k_is)
      (case z47_k => k_is)
    case X_Operation =>
      refine' Ca.Operation_mk KX G ?z48_aC ?z48_pg ?z48_hd ?z48_po ?z48_sa ?z48_mk ?z48_kc ?z48_a0 ?z48_i0 ?z48_l0 ?z48_c0 ?z48_k0 ?z48_a1 ?z48_i1 ?z48_l1 ?z48_c1 ?z48_k1 ?z48_a2 ?z48_i2 ?z48_l2 ?z48_c2 ?z48_k2 ?z48_a3 ?z48_i3 ?z48_l3 ?z48_c3 ?z48_k3 ?z48_a4 ?z48_i4 ?z48_l4 ?z48_c4 ?z48_k4 ?z48_a5 ?z48_i5 ?z48_l5 ?z48_c5 ?z48_k5 ?z48_a6 ?z48_i6 ?z48_l6 ?z48_c6 ?z48_k6 ?z48_n0 ?z48_n1 ?z48_n2 ?z48_n3 ?z48_n4 ?z48_n5 ?z48_n6 ?z48_n7
      (case z48_aC => k_is)
      (case z48_pg => k_is)
      (case z48_hd => k_is)
      (case z48_po => k_is)
      (case z48_sa => k_is)
      (case z48_mk => k_is)
      (case z48_kc => k_is)
      (case z48_a0 => k_is)
      (case z48_i0 => k_is)
      (case z48_l0 => k_is)
      (case z48_c0 => k_is)
      (case z48_k0 => k_is)
      (case z48_a1 => k_is)
      (case z48_i1 => k_is)
      (case z48_l1 => k_is)
      (case z48_c1 => k_is)
      (case z48_k1 => k_is)
      (case z48_a2 => k_is)
      (case z48_i2 => k_is)
      (case z48_l2 => k_is)
      (case z48_c2 => k_is)
      (case z48_k2 => k_is)
      (case z48_a3 => k_is)
      (case z48_i3 => k_is)
      (case z48_l3 => k_is)
      (case z48_c3 => k_is)
      (case z48_k3 => k_is)
      (case z48_a4 => k_is)
      (case z48_i4 => k_is)
      (case z48_l4 => k_is)
      (case z48_c4 => k_is)
      (case z48_k4 => k_is)
      (case z48_a5 => k_is)
      (case z48_i5 => k_is)
      (case z48_l5 => k_is)
      (case z48_c5 => k_is)
      (case z48_k5 => k_is)
      (case z48_a6 => k_is)
      (case z48_i6 => k_is)
      (case z48_l6 => k_is)
      (case z48_c6 => k_is)
      (case z48_k6 => k_is)
      (case z48_n0 => k_is)
      (case z48_n1 => k_is)
      (case z48_n2 => k_is)
      (case z48_n3 => k_is)
      (case z48_n4 => k_is)
      (case z48_n5 => k_is)
      (case z48_n6 => k_is)
      (case z48_n7 => k_is)
    case X_Play =>
      refine' Ca.Play_mk KX G ?z49_aC ?z49_pg ?z49_hd ?z49_po ?z49_sa ?z49_mk ?z49_kc ?z49_a0 ?z49_i0 ?z49_l0 ?z49_c0 ?z49_k0 ?z49_a1 ?z49_i1 ?z49_l1 ?z49_c1 ?z49_k1 ?z49_a2 ?z49_i2 ?z49_l2 ?z49_c2 ?z49_k2 ?z49_a3 ?z49_i3 ?z49_l3 ?z49_c3 ?z49_k3 ?z49_a4 ?z49_i4 ?z49_l4 ?z49_c4 ?z49_k4 ?z49_a5 ?z49_i5 ?z49_l5 ?z49_c5 ?z49_k5 ?z49_a6 ?z49_i6 ?z49_l6 ?z49_c6 ?z49_k6 ?z49_a7 ?z49_i7 ?z49_l7 ?z49_c7 ?z49_k7 ?z49_a8 ?z49_i8 ?z49_l8 ?z49_c8 ?z49_k8 ?z49_a9 ?z49_i9 ?z49_l9 ?z49_c9 ?z49_k9 ?z49_a10 ?z49_i10 ?z49_l10 ?z49_c10 ?z49_k10 ?z49_a11 ?z49_i11 ?z49_l11 ?z49_c11 ?z49_k11 ?z49_a12 ?z49_i12 ?z49_l12 ?z49_c12 ?z49_k12 ?z49_a13 ?z49_i13 ?z49_l13 ?z49_c13 ?z49_k13 ?z49_a14 ?z49_i14 ?z49_l14 ?z49_c14 ?z49_k14 ?z49_a15 ?z49_i15 ?z49_l15 ?z49_c15 ?z49_k15 ?z49_a16 ?z49_i16 ?z49_l16 ?z49_c16 ?z49_k16 ?z49_a17 ?z49_i17 ?z49_l17 ?z49_c17 ?z49_k17 ?z49_a18 ?z49_i18 ?z49_l18 ?z49_c18 ?z49_k18 ?z49_a19 ?z49_i19 ?z49_l19 ?z49_c19 ?z49_k19 ?z49_a20 ?z49_i20 ?z49_l20 ?z49_c20 ?z49_k20 ?z49_n0 ?z49_n1 ?z49_n2 ?z49_n3 ?z49_n4 ?z49_n5 ?z49_n6 ?z49_n7 ?z49_n8 ?z49_n9 ?z49_n10 ?z49_n11 ?z49_n12 ?z49_n13 ?z49_n14 ?z49_n15
      (case z49_aC => k_is)
      (case z49_pg => k_is)
      (case z49_hd => k_is)
      (case z49_po => k_is)
      (case z49_sa => k_is)
      (case z49_mk => k_is)
      (case z49_kc => k_is)
      (case z49_a0 => k_is)
      (case z49_i0 => k_is)
      (case z49_l0 => k_is)
      (case z49_c0 => k_is)
      (case z49_k0 => k_is)
      (case z49_a1 => k_is)
      (case z49_i1 => k_is)
      (case z49_l1 => k_is)
      (case z49_c1 => k_is)
      (case z49_k1 => k_is)
      (case z49_a2 => k_is)
      (case z49_i2 => k_is)
      (case z49_l2 => k_is)
      (case z49_c2 => k_is)
      (case z49_k2 => k_is)
      (case z49_a3 => k_is)
      (case z49_i3 => k_is)
      (case z49_l3 => k_is)
      (case z49_c3 => k_is)
      (case z49_k3 => k_is)
      (case z49_a4 => k_is)
      (case z49_i4 => k_is)
      (case z49_l4 => k_is)
      (case z49_c4 => k_is)
      (case z49_k4 => k_is)
      (case z49_a5 => k_is)
      (case z49_i5 => k_is)
      (case z49_l5 => k_is)
      (case z49_c5 => k_is)
      (case z49_k5 => k_is)
      (case z49_a6 => k_is)
      (case z49_i6 => k_is)
      (case z49_l6 => k_is)
      (case z49_c6 => k_is)
      (case z49_k6 => k_is)
      (case z49_a7 => k_is)
      (case z49_i7 => k_is)
      (case z49_l7 => k_is)
      (case z49_c7 => k_is)
      (case z49_k7 => k_is)
      (case z49_a8 => k_is)
      (case z49_i8 => k_is)
      (case z49_l8 => k_is)
      (case z49_c8 => k_is)
      (case z49_k8 => k_is)
      (case z49_a9 => k_is)
      (case z49_i9 => k_is)
      (case z49_l9 => k_is)
      (case z49_c9 => k_is)
      (case z49_k9 => k_is)
      (case z49_a10 => k_is)
      (case z49_i10 => k_is)
      (case z49_l10 => k_is)
      (case z49_c10 => k_is)
      (case z49_k10 => k_is)
      (case z49_a11 => k_is)
      (case z49_i11 => k_is)
      (case z49_l11 => k_is)
      (case z49_c11 => k_is)
      (case z49_k11 => k_is)
      (case z49_a12 => k_is)
      (case z49_i12 => k_is)
      (case z49_l12 => k_is)
      (case z49_c12 => k_is)
      (case z49_k12 => k_is)
      (case z49_a13 => k_is)
      (case z49_i13 => k_is)
      (case z49_l13 => k_is)
      (case z49_c13 => k_is)
      (case z49_k13 => k_is)
      (case z49_a14 => k_is)
      (case z49_i14 => k_is)
      (case z49_l14 => k_is)
      (case z49_c14 => k_is)
      (case z49_k14 => k_is)
      (case z49_a15 => k_is)
      (case z49_i15 => k_is)
      (case z49_l15 => k_is)
      (case z49_c15 => k_is)
      (case z49_k15 => k_is)
      (case z49_a16 => k_is)
      (case z49_i16 => k_is)
      (case z49_l16 => k_is)
      (case z49_c16 => k_is)
      (case z49_k16 => k_is)
      (case z49_a17 => k_is)
      (case z49_i17 => k_is)
      (case z49_l17 => k_is)
      (case z49_c17 => k_is)
      (case z49_k17 => k_is)
      (case z49_a18 => k_is)
      (case z49_i18 => k_is)
      (case z49_l18 => k_is)
      (case z49_c18 => k_is)
      (case z49_k18 => k_is)
      (case z49_a19 => k_is)
      (case z49_i19 => k_is)
      (case z49_l19 => k_is)
      (case z49_c19 => k_is)
      (case z49_k19 => k_is)
      (case z49_a20 => k_is)
      (case z49_i20 => k_is)
      (case z49_l20 => k_is)
      (case z49_c20 => k_is)
      (case z49_k20 => k_is)
      (case z49_n0 => k_is)
      (case z49_n1 => k_is)
      (case z49_n2 => k_is)
      (case z49_n3 => k_is)
      (case z49_n4 => k_is)
      (case z49_n5 => k_is)
      (case z49_n6 => k_is)
      (case z49_n7 => k_is)
      (case z49_n8 => k_is)
      (case z49_n9 => k_is)
      (case z49_n10 => k_is)
      (case z49_n11 => k_is)
      (case z49_n12 => k_is)
      (case z49_n13 => k_is)
      (case z49_n14 => k_is)
      (case z49_n15 => k_is)
    case K_PATHS =>
      refine' Ca.con_mk KX G ?z50_a ?z50_l ?z50_z ?z50_r
      (case z50_a => k_is)
      (case z50_l => k_is)
      (case z50_z => first | decide +kernel | decide)
      (case z50_r => exact (.cons ⟨_, rfl⟩ (.cons ⟨_, rfl⟩ (.cons ⟨_, rfl⟩ (.cons ⟨_, rfl⟩ (.cons ⟨_, rfl⟩ .nil))))))
    case K_GUARDS =>
      refine' Ca.con_mk KX G ?z51_a ?z51_l ?z51_z ?z51_r
      (case z51_a => k_is)
      (case z51_l => k_is)
      (case z51_z => first | decide +kernel | decide)
      (case z51_r => exact (.cons ⟨_, rfl⟩ (.cons ⟨_, rfl⟩ (.cons ⟨_, rfl⟩ (.cons ⟨_, rfl⟩ (.cons ⟨_, rfl⟩ (.cons ⟨_, rfl⟩ .nil)))))))
    case K_FLIGHTS =>
      refine' Ca.con_mk KX G ?z52_a ?z52_l ?z52_z ?z52_r
      (case z52_a => k_is)
      (case z52_l => k_is)
      (case z52_z => first | decide +kernel | decide)
      (case z52_r => exact (.cons ⟨_, rfl⟩ (.cons ⟨_, rfl⟩ .nil)))
    case K_SOURCES =>
      refine' Ca.con_mk KX G ?z53_a ?z53_l ?z53_z ?z53_r
      (case z53_a => k_is)
      (case z53_l => k_is)
      (case z53_z => first | decide +kernel | decide)
      (case z53_r => exact (.cons ⟨_, rfl⟩ (.cons ⟨_, rfl⟩ .nil)))
    case K_EVICTIONS =>
      refine' Ca.con_mk KX G ?z54_a ?z54_l ?z54_z ?z54_r
      (case z54_a => k_is)
      (case z54_l => k_is)
      (case z54_z => first | decide +kernel | decide)
      (case z54_r => exact (.cons ⟨_, rfl⟩ (.cons ⟨_, rfl⟩ .nil)))
    case K_STOPS =>
      refine' Ca.con_mk KX G ?z55_a ?z55_l ?z55_z ?z55_r
      (case z55_a => k_is)
      (case z55_l => k_is)
      (case z55_z => first | decide +kernel | decide)
      (case z55_r => exact (.cons ⟨_, rfl⟩ (.cons ⟨_, rfl⟩ .nil)))
    case K_PROMISES =>
      refine' Ca.con_mk KX G ?z56_a ?z56_l ?z56_z ?z56_r
      (case z56_a => k_is)
      (case z56_l => k_is)
      (case z56_z => first | decide +kernel | decide)
      (case z56_r => exact (.cons ⟨_, rfl⟩ (.cons ⟨_, rfl⟩ (.cons ⟨_, rfl⟩ (.cons ⟨_, rfl⟩ (.cons ⟨_, rfl⟩ (.cons ⟨_, rfl⟩ (.cons ⟨_, rfl⟩ (.cons ⟨_, rfl⟩ (.cons ⟨_, rfl⟩ (.cons ⟨_, rfl⟩ .nil)))))))))))
    case I_MOST_EVENTS =>
      refine' Ca.int_mk KX G ?z57_a
      (case z57_a => k_is)
    case n_len =>
      refine' PySem.W.mg_none_of KX G ?z58_a
      (case z58_a => k_is)
    case n_isinstance =>
      refine' PySem.W.mg_none_of KX G ?z59_a
      (case z59_a => k_is)
    case n_max =>
      refine' PySem.W.mg_none_of KX G ?z60_a
      (case z60_a => k_is)
    case n_min =>
      refine' PySem.W.mg_none_of KX G ?z61_a
      (case z61_a => k_is)
    case n_any =>
      refine' PySem.W.mg_none_of KX G ?z62_a
      (case z62_a => k_is)
    case n_sorted =>
      refine' PySem.W.mg_none_of KX G ?z63_a
      (case z63_a => k_is)
    case n_range =>
      refine' PySem.W.mg_none_of KX G ?z64_a
      (case z64_a => k_is)
    case n_enumerate =>
      refine' PySem.W.mg_none_of KX G ?z65_a
      (case z65_a => k_is)
    case n_int =>
      refine' PySem.W.mg_none_of KX G ?z66_a
      (case z66_a => k_is)
    case n_str =>
      refine' PySem.W.mg_none_of KX G ?z67_a
      (case z67_a => k_is)
    case n_bool =>
      refine' PySem.W.mg_none_of KX G ?z68_a
      (case z68_a => k_is)
    case n_tuple =>
      refine' PySem.W.mg_none_of KX G ?z69_a
      (case z69_a => k_is)
    case n_list =>
      refine' PySem.W.mg_none_of KX G ?z70_a
      (case z70_a => k_is)
    case n_dict =>
      refine' PySem.W.mg_none_of KX G ?z71_a
      (case z71_a => k_is)
    case d_BREAKS =>
      refine' Ca.dct_BREAKS_mk KX G ?z72_a ?z72_l ?z72_kl ?z72_a0 ?z72_e0 ?z72_a1 ?z72_e1 ?z72_a2 ?z72_e2 ?z72_a3 ?z72_e3 ?z72_a4 ?z72_e4 ?z72_a5 ?z72_e5 ?z72_a6 ?z72_e6 ?z72_a7 ?z72_e7 ?z72_a8 ?z72_e8 ?z72_a9 ?z72_e9
      (case z72_a => k_is)
      (case z72_l => k_is)
      (case z72_kl => exact ⟨⟨_, _, rfl, rfl⟩, ⟨_, _, rfl, rfl⟩, ⟨_, _, rfl, rfl⟩, ⟨_, _, rfl, rfl⟩, ⟨_, _, rfl, rfl⟩, ⟨_, _, rfl, rfl⟩, ⟨_, _, rfl, rfl⟩, ⟨_, _, rfl, rfl⟩, ⟨_, _, rfl, rfl⟩, ⟨_, _, rfl, rfl⟩, trivial⟩)
      (case z72_a0 => k_is)
      (case z72_e0 => k_is)
      (case z72_a1 => k_is)
      (case z72_e1 => k_is)
      (case z72_a2 => k_is)
      (case z72_e2 => k_is)
      (case z72_a3 => k_is)
      (case z72_e3 => k_is)
      (case z72_a4 => k_is)
      (case z72_e4 => k_is)
      (case z72_a5 => k_is)
      (case z72_e5 => k_is)
      (case z72_a6 => k_is)
      (case z72_e6 => k_is)
      (case z72_a7 => k_is)
      (case z72_e7 => k_is)
      (case z72_a8 => k_is)
      (case z72_e8 => k_is)
      (case z72_a9 => k_is)
      (case z72_e9 => k_is)
    case bad =>
      refine' Ca.bad_mk KX G ?zb_aC ?zb_zS ?zb_xL ?zb_su ?zb_sa ?zb_ga ?zb_gg ?zb_ni ?zb_iC ?zb_tF ?zb_kC ?zb_eC ?zb_eV ?zb_tC ?zb_hC ?zb_cC ?zb_sC ?zb_oq ?zb_tp ?zb_l1 ?zb_c1 ?zb_l2 ?zb_v2 ?zb_fl ?zb_l3
      (case zb_aC => k_is)
      (case zb_zS => k_is)
      (case zb_xL => k_is)
      (case zb_su => ks_is)
      (case zb_sa => k_is)
      (case zb_ga => k_is)
      (case zb_gg => k_is)
      (case zb_ni => k_is)
      (case zb_iC => k_is)
      (case zb_tF => k_is)
      (case zb_kC => k_is)
      (case zb_eC => k_is)
      (case zb_eV => k_is)
      (case zb_tC => k_is)
      (case zb_hC => k_is)
      (case zb_cC => k_is)
      (case zb_sC => first | k_is | rfl)
      (case zb_oq => k_is)
      (case zb_tp => first | rfl | decide +kernel)
      (case zb_l1 => k_is)
      (case zb_c1 => k_is)
      (case zb_l2 => k_is)
      (case zb_v2 => rfl)
      (case zb_fl => first | rfl | decide +kernel)
      (case zb_l3 => k_is)


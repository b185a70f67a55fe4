import PyProof.Rows.All
import PyProof.ReprRoads
import PyProof.ForAny
import PyProof.StrLawsRepr
import HandS.List
import HandS.RaiseMore
import Wide.All
import OpenK.AllK
import Wide.FinOn
import KE.KSortTup
import KE.KSortTupAny
import HandS.ForMost
import HandS.Sort
import HandS.SortOrd
import HandS.SortRule
import HandS.ForExc
import HandS.More
import HandS.Small
import HandS.Flow
import HandS.Style
import HandS.IsInst
import HandS.Deep
import HandS.ListItems
import HandS.TupAny
import HandS.NoneIn
import HandS.Evl
import HandS.CallLocal
import PySem.Challenge.RW_cacheheld_k04_whole_short_runs
import PyProof.EqAt
import PyProof.NeKinds
import KE.GoesEnum
import KE.KExcSuper
import HandS.ExcInit
import HandS.FStr
import HandS.HeadWalk
import HandS.ExcSuper
import PyProof.FString2
set_option Elab.async false
set_option linter.all false
set_option maxRecDepth 100000
set_option maxHeartbeats 4000000
/-! str of a tuple, of a list, where nothing is known of what is being shown further out: some text -/
namespace Ca
open PySem PySem.Spec PyProof.Rows L2
open PySem.Builtin
section
variable {prog : Program} {w : World} {h₀ : Heap} {d : Nat} {G : Str → Prop}
/-- what is said of texts, kept when they are put together -/
structure Good (G : Str → Prop) : Prop where
  app : ∀ a b, G a → G b → G (a ++ b)
  lit : ∀ x : String, G x
theorem Good.join (g : Good G) : ∀ ts : List Str, (∀ t ∈ ts, G t) → G (Str.join ", " ts)
  | [], _ => g.lit ""
  | [x], h => h x (List.mem_cons_self ..)
  | x :: y :: r, h => by
    show G (x ++ ", " ++ Str.join ", " (y :: r))
    exact g.app _ _ (g.app _ _ (h x (List.mem_cons_self ..)) (g.lit ", ")) (g.join (y :: r) fun t ht => h t (List.mem_cons_of_mem _ ht))
theorem Good.tup (g : Good G) {ts : List Str} (h : ∀ t ∈ ts, G t) : G (tupleText ts) := by
  unfold tupleText
  refine g.app _ _ (g.app _ _ (g.lit "(") (g.join ts h)) ?_
  split
  · exact g.lit ",)"
  · exact g.lit ")"
theorem Good.from (g : Good G) : ∀ (ts : List Str) (k : Nat) (acc : Str), G acc → (∀ t ∈ ts, G t) → G (textFrom k acc ts)
  | [], _, _, ha, _ => ha
  | t :: r, k, acc, ha, h => by
    refine g.from r (k + 1) _ (g.app _ _ (g.app _ _ ha ?_) (h t (List.mem_cons_self ..))) fun u hu => h u (List.mem_cons_of_mem _ hu)
    split
    · exact g.lit ", "
    · exact g.lit ""
theorem Good.lst (g : Good G) {ts : List Str} (h : ∀ t ∈ ts, G t) : G (listText ts) := g.app _ _ (g.from ts 0 _ (g.lit "[") h) (g.lit "]")
abbrev Has (h h' : Heap) : Prop := ∀ b o, h.get? b = some o → h'.get? b = some o
/-- shown with room for T signs: some text of that length at most -/
def RU (G : Str → Prop) (prog : Program) (w : World) (h₀ : Heap) (d : Nat) (x : Value) (T : Nat) : Prop :=
  ∀ base : Nat, base + T ≤ sizeLine → ∀ (A : Around) (E : Value → Shared → Prop) (s : Shared) (Q : Str → Shared → Prop), A.units + d < cLine → Has h₀ s.heap →
    (∀ t h' tk, (t.length ≤ T ∧ G t) → Has s.heap h' → Q t { s with heap := h', toks := tk }) → wpAny (model prog w) A (pyReprUnder base x) Q E s
theorem RU.of_is {x : Value} {t : Str} (h : ReprIs prog w x t) (gt : G t) {T : Nat} (hT : t.length ≤ T) : RU G prog w h₀ d x T :=
  fun base hb A E s Q _ _ hQ => h base (by omega) A E s Q fun tk => hQ t s.heap tk ⟨hT, gt⟩ fun _ _ e => e
theorem RU.deeper {x : Value} {T d' : Nat} (h : RU G prog w h₀ d x T) (hd : d ≤ d') : RU G prog w h₀ d' x T :=
  fun base hb A E s Q hu hk hQ => h base hb A E s Q (by omega) hk hQ
inductive RUs (G : Str → Prop) (prog : Program) (w : World) (h₀ : Heap) (d : Nat) : List Value → Nat → Prop where
  | nil : RUs G prog w h₀ d [] 0
  | cons {x : Value} {l : List Value} {T n : Nat} : RU G prog w h₀ d x T → RUs G prog w h₀ d l n → RUs G prog w h₀ d (x :: l) (T + 2 + n)
theorem foldU {A : Around} {E : Value → Shared → Prop} (hu : A.units + d < cLine) : ∀ (l : List Value) (m : Nat) (acc : Array Str) (n : Nat) (s : Shared) (Q : (Array Str × Nat) → Shared → Prop), RUs G prog w h₀ d l m → n + m ≤ sizeLine → Has h₀ s.heap →
    (∀ (ts : List Str) h' tk, ts.length = l.length → (piled ts ≤ m ∧ ∀ t ∈ ts, G t) → Has s.heap h' → Q ⟨acc ++ ts.toArray, n + piled ts⟩ { s with heap := h', toks := tk }) → wpAny (model prog w) A (forIn l (⟨acc, n⟩ : (Array Str × Nat)) tupBody) Q E s := by
  intro l
  induction l with
  | nil =>
    intro m acc n s Q hT _ _ h
    have h0 := h [] s.heap s.toks rfl ⟨Nat.zero_le _, fun t ht => (by cases ht)⟩ fun _ _ e => e
    simp only [List.forIn_nil]
    exact wpAny_pure (by simpa [piled] using h0)
  | cons x l ih =>
    intro m acc n s Q hT hn hk0 h
    cases hT with
    | cons hx hl =>
      rename_i T m'
      rw [List.forIn_cons]
      refine wpAny_bind (wpAny_bind (hx (n + 1) (by omega) _ _ _ _ hu hk0 fun t h1 tk ⟨le, gt⟩ k1 => wpAny_pure ?_))
      refine ih m' (acc.push t) (n + (t.length + 2)) _ Q hl (by omega) (fun b o e => k1 _ _ (hk0 _ _ e)) fun ts h2 tk2 e2 ⟨le2, g2⟩ k2 => ?_
      have z := h (t :: ts) h2 tk2 (by simp [e2]) ⟨by rw [piled_cons]; omega, fun u hu => (List.mem_cons.mp hu).elim (fun z => by rw [z]; exact gt) (g2 u)⟩ fun b o e => k2 _ _ (k1 _ _ e)
      have e : n + piled (t :: ts) = n + (t.length + 2) + piled ts := by rw [piled_cons]; omega
      rw [e] at z
      simpa using z
theorem tupleText_le (ts : List Str) : (tupleText ts).length ≤ piled ts + 3 := by
  have h := tupleText_len_le ts
  have e : (ts.map (·.length)).sum + 2 * ts.length = piled ts := by
    induction ts with
    | nil => rfl
    | cons t r ih =>
      rw [piled_cons, List.map_cons, List.sum_cons, List.length_cons]
      have := ih (tupleText_len_le r)
      omega
  omega
theorem listText_le (ts : List Str) : (listText ts).length ≤ piled ts + 3 := by
  have h := listText_len_le ts
  have e : (ts.map (·.length)).sum + 2 * ts.length = piled ts := by
    clear h
    induction ts with
    | nil => rfl
    | cons t r ih =>
      rw [piled_cons, List.map_cons, List.sum_cons, List.length_cons]
      omega
  omega
/-- a tuple's own part -/
theorem tupU (g : Good G) {a : Addr} {o : Obj} {items : Array Value} {n m : Nat} (ha : h₀.get? a = some o) (hd : o.data = .seq items n) (hT : RUs G prog w h₀ d items.toList m) {A : Around} {c : Code} {s : Shared} {R : Result → Shared → Prop} {E : Value → Shared → Prop} {base : Nat}
    (hcu : (A.under c).units = A.units + 1) (hu : A.units + (d + 1) < cLine) (hk0 : Has h₀ s.heap) (hR : ∀ t h' u tk, (t.length ≤ m + 5 ∧ G t) → Has s.heap h' → R (.ok (.ret (.str t u))) { s with heap := h', toks := tk }) (hsz : base + (m + 5) ≤ sizeLine) :
    wpOwn (model prog w) A c (tupleReprAt base ⟨[.ref a], []⟩) (fun fin s' => match fin with | .done f => R (.ok f) s' | .again c' => c'.quiet = true ∧ codeAny (model prog w) A c' R s') E s := by
  rw [tuple_repr_tree, tupleReprUnderWay_eq]
  refine wpOwn_of_wpAny ?_
  refine wpAny_bind (wpAny_bind (wpAny_stack_any fun st => wpAny_pure ?_))
  cases st.tail.any (tupGuardF (.ref a)) with
  | true =>
    show wpAny _ _ (do rule "tuple.repr.in-itself"; retStr "(...)") _ _ s
    refine wpAny_bind (wpAny_rule ?_)
    refine wpAny_bind (wpAny_mkStr (wpAny_pure ?_) (by show 5 ≤ sizeLine; omega))
    exact hR "(...)" s.heap _ _ ⟨by show 5 ≤ m + 5; omega, g.lit "(...)"⟩ fun _ _ e => e
  | false =>
    show wpAny _ _ (tupleReprRest base (.ref a)) _ _ s
    unfold tupleReprRest Tuple.tupleItemsOf
    refine wpAny_bind (wpAny_bind (wpAny_seqItems (hk0 _ _ ha) hd (wpAny_pure ?_)))
    rw [← Array.forIn_toList]
    refine wpAny_bind (foldU (by rw [hcu]; omega) _ m _ _ _ _ hT (by omega) hk0 fun ts h' tk e ⟨le, gt⟩ k => ?_)
    have lt := tupleText_le ts
    have hlen : ts.length = items.size := by simpa using e
    refine wpAny_bind (wpAny_mkStr (wpAny_pure ?_) (by simpa [tupleText, hlen] using (show (tupleText ts).length ≤ sizeLine by omega)))
    have z := hR (tupleText ts) h' tk (tk + 1) ⟨by omega, g.tup gt⟩ k
    simpa [tupleText, hlen] using z
theorem RU.tuple (g : Good G) {a : Addr} {o : Obj} {items : Array Value} {n m : Nat} (ha : h₀.get? a = some o) (hc : o.cls = .type "tuple") (hd : o.data = .seq items n) (hT : RUs G prog w h₀ d items.toList m) : RU G prog w h₀ (d + 1) (.ref a) (m + 5) := by
  intro base hb A E s Q hu hk hQ
  refine wpAny_pyReprUnder_ref (by omega) (wpAny_pyReprObjUnder_twin (twin := "tuple.__repr__.under") ⟨o, hk _ _ ha, hc⟩ F.slot_tuple_repr rfl (by omega) ?_)
  exact call_twin_own (F.quiet_tuple_repr_under _) F.entry_tuple_repr_under F.check_tuple_repr_under ⟨o, hk _ _ ha, hc⟩ F.slot_tuple_repr (F.args_tuple_repr_1 _)
    (tupU g (R := callEnd _ _) ha hd hT (units_under_tuple_repr_under _ _) hu hk (fun t h' u tk le k => ⟨⟨_, _, rfl⟩, _, _, rfl, hQ t h' tk le k⟩) hb)
theorem two_le : ∀ l : List (Str × Tok), 2 * l.length ≤ piled (l.map (·.1))
  | [] => Nat.zero_le _
  | p :: r => by
    have := two_le r
    rw [List.map_cons, piled_cons, List.length_cons]
    omega
/-- a list's loop -/
theorem loopU (g : Good G) {A : Around} {R : Result → Shared → Prop} {a P : Addr} (hne : a ≠ P) {items : Array Value} {base : Nat} (hu : A.units + (d + 1) < cLine) (hPf : h₀.get? P = none) :
    ∀ (k i m : Nat) (s : Shared) (oa : Obj) (na : Nat) (acc : Array Value) (c : Nat) (done : List (Str × Tok)), items.size - i = k → i ≤ items.size → RUs G prog w h₀ d (items.toList.drop i) m → base + (piled (done.map (·.1)) + m) + 5 ≤ sizeLine → done.length = i → Has h₀ s.heap →
    s.heap.get? a = some oa → oa.data = .seq items na → s.heap.get? P = some { cls := .type "list", dict := none, data := .seq acc c, slots := #[] } → acc.toList = strValues done → (∀ p ∈ done, G p.1) →
    (∀ t h' u tk, (t.length ≤ piled (done.map (·.1)) + m + 5 ∧ G t) → (∀ b o, b ≠ P → s.heap.get? b = some o → h'.get? b = some o) → R (.ok (.ret (.str t u))) { s with heap := h', toks := tk }) →
    codeAny (model prog w) A (.builtin "list.__repr__.loop" ⟨[.ref a, rawInt i, .ref P, rawInt ((base + piled (done.map (·.1)) : Nat) : Int)], []⟩) R s := by
  intro k
  induction k with
  | zero =>
    intro i m s oa na acc c done hk hi hT hsz hdl hk0 ha hda hP hacc gd hR
    have hin : i = items.size := by omega
    have lt := listText_le (done.map (·.1))
    refine codeAny_builtin F.entry_list_repr_loop ?_
    show wpAny _ _ («list.__repr__.loop» ⟨[.ref a, .int i 0, .ref P, .int ((base + piled (done.map (·.1)) : Nat) : Int) 0], []⟩) _ _ s
    rw [repr_loop_tree]
    refine wpAny_bind (wpAny_listItems ha hda ?_)
    have hnone : items[(i : Int).toNat]? = none := by simp [hin]
    simp only [hnone]
    unfold reprEnd
    refine wpAny_bind (wpAny_listItems hP rfl ?_)
    rw [hacc, repr_fold]
    refine wpAny_bind (wpAny_pure ?_)
    refine wpAny_bind (wpAny_mkStr (wpAny_pure ?_) (show (listText (done.map (·.1))).length ≤ sizeLine by omega))
    exact hR (listText (done.map (·.1))) s.heap _ _ ⟨by omega, g.lst fun t ht => by obtain ⟨p, hp, rfl⟩ := List.mem_map.mp ht; exact gd p hp⟩ (fun _ _ _ e => e)
  | succ k ih =>
    intro i m s oa na acc c done hk hi hT hsz hdl hk0 ha hda hP hacc gd hR
    have hlt : i < items.size := by omega
    have hdr : items.toList.drop i = items[i] :: items.toList.drop (i + 1) := by
      rw [List.drop_eq_getElem_cons (by simpa using hlt)]
      simp
    rw [hdr] at hT
    cases hT with
    | cons hx hl =>
      rename_i T m'
      refine codeAny_builtin F.entry_list_repr_loop ?_
      show wpAny _ _ («list.__repr__.loop» ⟨[.ref a, .int i 0, .ref P, .int ((base + piled (done.map (·.1)) : Nat) : Int) 0], []⟩) _ _ s
      rw [repr_loop_tree]
      refine wpAny_bind (wpAny_listItems ha hda ?_)
      have hsome : items[(i : Int).toNat]? = some items[i] := by simp [hlt]
      simp only [hsome]
      rw [Int.toNat_natCast]
      refine wpAny_bind (wpAny_holding (hx (base + piled (done.map (·.1)) + 1) (by omega) _ _ _ _ (by rw [units_under_list_loop]; omega) hk0 fun t h' tk ⟨le, gt⟩ hkp => ?_))
      refine wpAny_bind (wpAny_mkStr ?_ (by omega))
      refine wpAny_bind ?_
      show wpAny _ _ (updateSeq P _) _ _ _
      have hasz : acc.size ≤ sizeLine := by
        have e1 : acc.toList.length = acc.size := by simp
        have e2 : (strValues done).length = done.length := by simp [strValues]
        have e3 := two_le done
        rw [hacc] at e1
        omega
      refine wpAny_updateSeq (hkp _ _ hP) rfl (wpAny_pure ⟨F.quiet_list_repr_loop _, ?_⟩) hasz
      have e1 : ((i : Int) + 1) = ((i + 1 : Nat) : Int) := by omega
      have pd : piled ((done ++ [(t, tk)]).map (·.1)) = piled (done.map (·.1)) + (t.length + 2) := by
        rw [List.map_append, piled_append]
        show _ + piled [t] = _
        rw [piled_cons, piled_nil]
      have e2 : base + piled (done.map (·.1)) + (t.length + 2) = base + piled ((done ++ [(t, tk)]).map (·.1)) := by rw [pd]; omega
      rw [e1, e2]
      refine ih (i + 1) m' _ oa na (acc.push (.str t tk)) _ (done ++ [(t, tk)]) (by omega) hlt hl (by rw [pd]; omega) (by simp [hdl]) (fun b o e => (Heap.get?_update_other _ _ (fun h : P = b => by rw [← h, hPf] at e; cases e)).trans (hkp _ _ (hk0 _ _ e))) ((Heap.get?_update_other _ _ (fun h : P = a => hne h.symm)).trans (hkp _ _ ha)) hda (Heap.get?_update_self _ (hkp _ _ hP) rfl) (by simp [hacc, strValues]) (fun p hp => (List.mem_append.mp hp).elim (gd p) fun z => by rw [List.mem_singleton.mp z]; exact gt) fun t2 h'' u tk' ⟨le2, g2⟩ hh => ?_
      exact hR t2 h'' u tk' ⟨by rw [pd] at le2; omega, g2⟩ fun b o hb e => hh b o hb ((Heap.get?_update_other _ _ (fun h : P = b => hb h.symm)).trans (hkp _ _ e))
theorem headU {M : Model} {A : Around} {E : Value → Shared → Prop} {s : Shared} {Q : Fin → Shared → Prop} {a : Addr} {o : Obj} {x : Value} {l : List Value} {n} {b : Nat} (hget : s.heap.get? a = some o) (hd : o.data = .seq (x :: l).toArray n)
    (h1 : wpAny M A (do rule "list.__repr__.in-itself"; retStr "[...]") Q E s) (h2 : wpAny M A (do again (.builtin "list.__repr__.loop" ⟨[.ref a, rawInt 0, ← newList [], rawInt b], []⟩)) Q E s) : wpAny M A (listReprAt b ⟨[.ref a], []⟩) Q E s := by
  intro Γ p hΓ
  have z1 := h1 Γ p hΓ
  have z2 := h2 Γ p hΓ
  unfold listReprAt
  simp [slotArgs, List.listItems, seqItems?, Sem.wp_load_of (h := hget), hd, stack]
  show Sem.wp M Γ (if (Γ.below.any _) = true then _ else _) _ _ p s
  split
  · exact z1
  · exact z2
theorem lstU (g : Good G) {a : Addr} {o : Obj} {x : Value} {l : List Value} {n m : Nat} (ha : h₀.get? a = some o) (hd : o.data = .seq (x :: l).toArray n) (hT : RUs G prog w h₀ d (x :: l) m) {A : Around} {s : Shared} {R : Result → Shared → Prop} {E : Value → Shared → Prop} {base : Nat}
    (hu : A.units + (d + 1) < cLine) (hk0 : Has h₀ s.heap) (hR : ∀ t h' u tk, (t.length ≤ m + 5 ∧ G t) → Has s.heap h' → R (.ok (.ret (.str t u))) { s with heap := h', toks := tk }) (hsz : base + (m + 5) ≤ sizeLine) :
    wpAny (model prog w) A.in1 (listReprAt base ⟨[.ref a], []⟩) (fun fin s' => match fin with | .done f => R (.ok f) s' | .again c' => c'.quiet = true ∧ codeAny (model prog w) A c' R s') E s := by
  have hPf : h₀.get? s.heap.objs.size = none := by
    cases e : h₀.get? s.heap.objs.size with
    | none => rfl
    | some o => exact absurd (Heap.lt_size (hk0 _ _ e)) (Nat.lt_irrefl _)
  refine headU (hk0 _ _ ha) hd ?_ ?_
  · refine wpAny_bind (wpAny_rule ?_)
    refine wpAny_bind (wpAny_mkStr (wpAny_pure ?_) (by show 5 ≤ sizeLine; omega))
    exact hR "[...]" s.heap _ _ ⟨by show 5 ≤ m + 5; omega, g.lit "[...]"⟩ fun _ _ e => e
  · refine wpAny_bind (m := newList []) (wpAny_newObj_type ?_)
    refine wpAny_pure ⟨F.quiet_list_repr_loop _, ?_⟩
    refine loopU g (P := s.heap.objs.size) (Nat.ne_of_lt (Heap.lt_size (hk0 _ _ ha))) (base := base) hu hPf _ 0 m _ o n #[] _ [] rfl (Nat.zero_le _) hT (by show base + (0 + m) + 5 ≤ sizeLine; omega) rfl
      (fun b o e => Heap.get?_push_of_some _ (hk0 _ _ e)) (Heap.get?_push_of_some _ (hk0 _ _ ha)) hd (Heap.get?_push_size _ rfl) rfl (fun p hp => (by cases hp)) fun t h' u tk ⟨le, gt⟩ hk => ?_
    exact hR t h' u tk ⟨by have le : t.length ≤ 0 + m + 5 := le; omega, gt⟩ fun b o e => hk b o (Nat.ne_of_lt (Heap.lt_size e)) (Heap.get?_push_of_some _ e)
theorem RU.list (g : Good G) {a : Addr} {o : Obj} {items : Array Value} {n m : Nat} (ha : h₀.get? a = some o) (hc : o.cls = .type "list") (hd : o.data = .seq items n) (hT : RUs G prog w h₀ d items.toList m) : RU G prog w h₀ (d + 1) (.ref a) (m + 5) := by
  intro base hb A E s Q hu hk hQ
  obtain ⟨items⟩ := items
  cases items with
  | nil => exact wpAny_pyReprUnder_ref (by omega) (wpAny_pyReprObjUnder_list_empty ⟨o, hk _ _ ha, hc⟩ (by omega) (hk _ _ ha) hd ⟨_, _, rfl, hQ "[]" s.heap _ ⟨by show 2 ≤ m + 5; omega, g.lit "[]"⟩ fun _ _ e => e⟩)
  | cons x l =>
    refine wpAny_pyReprUnder_ref (by omega) (wpAny_pyReprObjUnder_twin (twin := "list.__repr__.under") ⟨o, hk _ _ ha, hc⟩ F.slot_list_repr.toG rfl (by omega) ?_)
    exact call_twin_plain F.plain_list_repr_under F.entry_list_repr_under F.check_list_repr_under ⟨o, hk _ _ ha, hc⟩ F.slot_list_repr.toG (F.args_list_repr_1 _)
      (lstU g (R := callEnd _ _) ha hd hT hu hk (fun t h' u tk le k => ⟨⟨_, _, rfl⟩, _, _, rfl, hQ t h' tk le k⟩) hb)
end
/-! data -/
mutual
/-- signs enough for a datum's text -/
def roomD : PyData → Nat
  | .none => 4
  | .bool b => (PyData.shown (.bool b)).length
  | .int i => (PyData.shown (.int i)).length
  | .str x => (PyData.shown (.str x)).length
  | .list xs => roomA xs + 5
  | .tuple xs => roomA xs + 5
  | .dict _ => 0
def roomA : List PyData → Nat
  | [] => 0
  | x :: xs => roomD x + 2 + roomA xs
end
/-! no texts within -/
mutual
def noStr : PyData → Bool
  | .str _ => false
  | .list xs => noStrs xs
  | .tuple xs => noStrs xs
  | _ => true
def noStrs : List PyData → Bool
  | [] => true
  | x :: xs => noStr x && noStrs xs
end
section
variable {prog : Program} {w : World} {h₀ : Heap} {G : Str → Prop}
theorem RUs.deeper {d d' : Nat} (hd : d ≤ d') : ∀ {l : List Value} {m : Nat}, RUs G prog w h₀ d l m → RUs G prog w h₀ d' l m
  | _, _, .nil => .nil
  | _, _, .cons h t => .cons (h.deeper hd) (t.deeper hd)
mutual
theorem RU.of_reads (g : Good G) : ∀ {v : Value} {d : PyData} {as : List Addr}, Reads h₀ v d as → d.showable = true → d.hasDict = false → (noStr d = true ∨ ∀ x, G x) → RU G prog w h₀ d.depth v (roomD d)
  | _, _, _, .none, _, _, _ => RU.of_is ReprIs.none (g.lit "None") (by decide)
  | _, _, _, .bool b, _, _, _ => by
    have h := ReprIs.bool (prog := prog) (w := w) b
    refine RU.of_is h (by split <;> exact g.lit _) ?_
    show _ ≤ (PyData.shown (.bool b)).length
    simp only [PyData.shown]
    exact Nat.le_refl _
  | _, _, _, .int i t, hs, _, _ => by
    have h := ReprIs.int (prog := prog) (w := w) (a := i) t (by simpa [PyData.showable] using hs)
    refine RU.of_is h (g.lit _) ?_
    show _ ≤ (PyData.shown (.int i)).length
    simp only [PyData.shown]
    exact Nat.le_refl _
  | _, _, _, .str x t, _, _, gs => by
    intro base hb
    have e : roomD (.str x) = (reprText x).length := by simp only [roomD, PyData.shown]
    rw [e] at hb ⊢
    exact RU.of_is (ReprIs.str (prog := prog) (w := w) x t (by omega)) (gs.elim (fun z => by simp [noStr] at z) fun z => z _) (Nat.le_refl _) base hb
  | _, _, _, .list (xs := xs) h1 h2 h3 h4, hs, hd, gs => by
    have z := RUs.of_reads g h4 (by simpa [PyData.showable] using hs) (by simpa [PyData.hasDict] using hd) (gs.imp (fun z => by simpa [noStr] using z) id)
    have y := RU.list g h1 h2 h3 z
    simp only [PyData.depth, roomD]
    exact y
  | _, _, _, .tuple (xs := xs) h1 h2 h3 h4, hs, hd, gs => by
    have z := RUs.of_reads g h4 (by simpa [PyData.showable] using hs) (by simpa [PyData.hasDict] using hd) (gs.imp (fun z => by simpa [noStr] using z) id)
    have y := RU.tuple g h1 h2 h3 z
    simp only [PyData.depth, roomD]
    exact y
  | _, _, _, .dict _ _ _ _ _, _, hd, _ => by simp [PyData.hasDict] at hd
theorem RUs.of_reads (g : Good G) : ∀ {vs : List Value} {ds : List PyData} {as : List Addr}, ReadsAll h₀ vs ds as → PyData.showableAll ds = true → PyData.hasDictAll ds = false → (noStrs ds = true ∨ ∀ x, G x) → RUs G prog w h₀ (PyData.depthAll ds) vs (roomA ds)
  | _, _, _, .nil, _, _, _ => by
    simp only [roomA]
    exact .nil
  | _, _, _, .cons (d := d) (ds := ds) h t, hs, hd, gs => by
    have hs : d.showable = true ∧ PyData.showableAll ds = true := by simpa [PyData.showableAll] using hs
    have hd : d.hasDict = false ∧ PyData.hasDictAll ds = false := by simpa [PyData.hasDictAll] using hd
    have g2 : (noStr d = true ∧ noStrs ds = true) ∨ ∀ x, G x := gs.imp (fun z => by simpa [noStrs] using z) id
    have z1 := RU.of_reads g h hs.1 hd.1 (g2.imp (·.1) id)
    have z2 := RUs.of_reads g t hs.2 hd.2 (g2.imp (·.2) id)
    simp only [roomA]
    refine .cons (z1.deeper ?_) (z2.deeper ?_)
    · simp only [PyData.depthAll]; omega
    · simp only [PyData.depthAll]; omega
end
/-- str of a tuple -/
theorem str_tupU (g : Good G) {a : Addr} {xs : List PyData} {as : List Addr} {A : Around} {E : Value → Shared → Prop} {s : Shared} {Q : Value → Shared → Prop} (r : Reads s.heap (.ref a) (.tuple xs) as) (hs : PyData.showableAll xs = true) (hd : PyData.hasDictAll xs = false) (gs : noStrs xs = true ∨ ∀ x, G x) (hu : A.units + (PyData.depthAll xs + 4) < cLine) (hsz : roomA xs + 5 ≤ sizeLine)
    (hQ : ∀ t h' u tk, (t.length ≤ roomA xs + 5 ∧ G t) → Has s.heap h' → Q (.str t u) { s with heap := h', toks := tk }) : wpAny (model prog w) A (call (.type "str") [.ref a]) Q E s := by
  cases r with
  | tuple h1 h2 h3 h4 =>
    rename_i o vs n
    have strOfU : ∀ (prog' : Program) (w' : World) (A' : Around) (E' : Value → Shared → Prop) (s' : Shared) (Q' : Value → Shared → Prop), A'.units + (PyData.depthAll xs + 2) < cLine → Has s.heap s'.heap → (∀ t h' u tk, (t.length ≤ roomA xs + 5 ∧ G t) → Has s'.heap h' → Q' (.str t u) { s' with heap := h', toks := tk }) → wpAny (model prog' w') A' (Builtin.Str.strOf (.ref a)) Q' E' s' := fun prog' w' A' E' s' Q' hu' hk hq => by
      have T := RUs.of_reads (prog := prog') (w := w') g h4 hs hd gs
      refine wpAny_strOf_slot rfl (by omega) ⟨o, hk _ _ h1, h2⟩ F.slot_tuple_str F.slot_tuple_repr ?_
      exact wpAny_call (codeAny_call_builtin_own (Code.quiet_builtin _ (by decide +kernel)) F.entry_tuple_repr (F.slot_tuple_repr.check _ _ _ _ _ _ _ _ ⟨o, hk _ _ h1, h2⟩ (F.args_tuple_repr_1 _)
        (tupU g (base := 0) (R := callEnd _ _) h1 h3 T (units_under_tuple_repr _ _) (by show A'.units + 1 + (_ + 1) < cLine; omega) hk (fun t h' u tk le k => ⟨_, _, rfl, hq t h' u tk le k⟩) (by omega))))
    exact callType_new F.called_str (by decide) (F.typeCall_str_1 _) (F.newCall_str_1 _) (fun obj => F.args_object_init_2 obj _) F.entry_str_new
      (meets_str_new (S := fun A' R s' => A'.units + (PyData.depthAll xs + 3) < cLine ∧ Has s.heap s'.heap ∧ ∀ t h' u tk, (t.length ≤ roomA xs + 5 ∧ G t) → Has s'.heap h' → R (.ok (.ret (.str t u))) { s' with heap := h', toks := tk })
        fun prog' w' A' R s' h => strOfU prog' w' A'.in1 _ s' _ (by show A'.units + 1 + _ < cLine; have := h.1; omega) h.2.1 h.2.2)
      ⟨by show A.units + 1 + _ < cLine; omega, fun _ _ e => e, fun t h' u tk le k => ⟨typeIs_str _ _ _, hQ t h' u tk le k⟩⟩
end
section
variable {X : Cx}
/-- codes that a text of Lean's own has -/
def Small (t : Str) : Prop := ∀ c ∈ t.cps.toList, c < 16 ^ 8
theorem small_good : Good Small := by
  refine ⟨fun a b ha hb c hc => ?_, fun x c hc => ?_⟩
  · have e : (a ++ b).cps.toList = a.cps.toList ++ b.cps.toList := by
      show (a.cps ++ b.cps).toList = _
      simp
    rw [e] at hc
    exact (List.mem_append.mp hc).elim (ha c) (hb c)
  · have e : (Str.ofString x).cps.toList = x.toList.map Char.toNat := by
      unfold Str.ofString
      simp only [List.toList_toArray]
      exact cpsOfBytes_string x
    have z : c ∈ (Str.ofString x).cps.toList := hc
    rw [e] at z
    obtain ⟨y, _, rfl⟩ := List.mem_map.mp z
    have h := y.valid
    simp only [UInt32.isValidChar, Nat.isValidChar] at h
    have h3 : y.toNat < 1114112 := by
      show y.val.toNat < _
      omega
    exact Nat.lt_trans h3 (by decide)
def rStrT (K : PySem.W.Frag) : List V → Hp → VK → Prop := fun vs H Q => ∃ (a : Addr) (xs : List PyData), vs = [.ref a] ∧ Dp K H (.ref a) (.tuple xs) ∧ PyData.showableAll xs = true ∧ PyData.hasDictAll xs = false ∧ PyData.depthAll xs ≤ 20 ∧ roomA xs + 5 ≤ sizeLine ∧
  ∀ t : Str, t.length ≤ roomA xs + 5 → (noStrs xs = true → Small t) → Q (.str t) H
theorem call_strT (hu : X.A.units + 30 < cLine) : CallR X (.type "str") (rStrT X.K) := by
  intro pins s σ H vs us Q I r h
  obtain ⟨a, xs, rfl, hd, hs, hn, dp, sz, q⟩ := h
  obtain rfl := Vals.ref1 r
  obtain ⟨as, R⟩ := Dp.reads I _ _ _ hd rfl
  by_cases ns : noStrs xs = true
  · exact str_tupU small_good R hs hn (.inl ns) (by omega) sz fun t h' u tk le k => ⟨.str t, H, I.kept k, ⟨_, rfl⟩, q t le.1 fun _ => le.2⟩
  · exact str_tupU (G := fun _ => True) ⟨fun _ _ _ _ => trivial, fun _ => trivial⟩ R hs hn (.inr fun _ => trivial) (by omega) sz fun t h' u tk le k => ⟨.str t, H, I.kept k, ⟨_, rfl⟩, q t le.1 fun z => absurd z ns⟩
/-- str of None, of an int -/
def rStrON : List V → Hp → VK → Prop := fun vs H Q => (vs = [.non] ∧ Q (.str "None") H) ∨ ∃ i : Int, vs = [.int i] ∧ i.natAbs.log2 < 1920 ∧ Q (.str (toString i)) H
theorem call_strON : CallR X (.type "str") rStrON := by
  intro pins s σ H vs us Q I r h
  rcases h with ⟨rfl, q⟩ | ⟨i, rfl, hz, q⟩
  · obtain ⟨u, rfl, rx⟩ := vals1 r
    cases rx
    exact PySem.P.str_of_none ⟨.str _, H, I.tok _, ⟨_, rfl⟩, q⟩
  · obtain ⟨u, rfl, t, rfl⟩ := vals1 r
    exact PySem.P.str_of_int hz ⟨.str _, H, I.tok _, ⟨_, rfl⟩, q⟩
end
end Ca

set_option Elab.async false
set_option linter.all false
set_option maxRecDepth 100000
set_option maxHeartbeats 4000000
/-! events (a word, maybe a number), tuples of them in the heap, and sorted of a list of such -/
namespace Ca
open PySem L2
abbrev Ev := Str × Option Int
def evV (e : Ev) : List V := match e.2 with
  | none => [.str e.1]
  | some k => [.str e.1, .int k]
def evK (e : Ev) : List (Int ⊕ List Nat) := match e.2 with
  | none => [.inr e.1.cps.toList]
  | some k => [.inr e.1.cps.toList, .inl k]
def evLt (e f : Ev) : Bool := (PyProof.Rows.listOrd PyProof.Rows.itemOrd).blt (evK e) (evK f)
theorem evK_inj {e f : Ev} (h : evK e = evK f) : e = f := by
  obtain ⟨w, k⟩ := e
  obtain ⟨v, j⟩ := f
  cases k <;> cases j <;> simp [evK] at h
  · have : w = v := by cases w; cases v; simp_all
    rw [this]
  · obtain ⟨h1, h2⟩ := h
    have : w = v := by cases w; cases v; simp_all
    rw [this, h2]
theorem evLt_swo {α : Type} (k : α → Ev) : SrtO.Swo fun x y => evLt (k x) (k y) := by
  refine ⟨fun x y h => ?_, fun x y z h1 h2 => ?_⟩
  · cases q : evLt (k y) (k x) with
    | false => rfl
    | true =>
      have t := (PyProof.Rows.listOrd PyProof.Rows.itemOrd).trans _ _ _ h q
      rw [(PyProof.Rows.listOrd PyProof.Rows.itemOrd).irrefl] at t
      cases t
  · cases q : evLt (k z) (k x) with
    | false => rfl
    | true =>
      rcases (PyProof.Rows.listOrd PyProof.Rows.itemOrd).negTrans _ (evK (k y)) _ q with t | t
      · have e : evLt (k z) (k y) = true := t
        rw [h2] at e
        cases e
      · have e : evLt (k y) (k x) = true := t
        rw [h1] at e
        cases e
theorem evLt_total {e f : Ev} (h1 : evLt e f = false) (h2 : evLt f e = false) : e = f :=
  evK_inj ((PyProof.Rows.listOrd PyProof.Rows.itemOrd).total _ _ h1 h2)
abbrev Srt (l : List Ev) : Prop := SrtO.Srtd evLt l
section
open PyProof.Rows
variable {prog : Program} {w : World} {A : Around} {E : Value → Shared → Prop} {s : Shared}
abbrev evSh : Nat → Bool := fun i => i == 0
/-- a tuple of the heap that holds an event -/
def IsEv (h : Heap) (v : Value) (e : Ev) : Prop := ∃ (a : Addr) (its : List Value), v = .ref a ∧ Vals (evV e) its ∧ IsTup h a its.toArray
theorem IsEv.keeps {h h' : Heap} {v : Value} {e : Ev} (x : IsEv h v e) (k : ∀ b o, h.get? b = some o → o.cls = .type "tuple" → h'.get? b = some o) : IsEv h' v e := by
  obtain ⟨a, its, rfl, r, o, ho, hc, hd⟩ := x
  exact ⟨a, its, rfl, r, o, k _ _ ho hc, hc, hd⟩
theorem IsEv.key {h : Heap} {v : Value} {e : Ev} (x : IsEv h v e) : tupKey h evSh v = some (evK e) := by
  obtain ⟨a, its, rfl, r, o, ho, hc, n, hd⟩ := x
  simp only [tupKey, ho, hd]
  obtain ⟨w, k⟩ := e
  cases k with
  | none =>
    cases r with
    | cons r1 r2 =>
      cases r2
      obtain ⟨t, rfl⟩ := r1
      simp [tupItems, evK]
  | some k =>
    cases r with
    | cons r1 r2 =>
      cases r2 with
      | cons r2 r3 =>
        cases r3
        obtain ⟨t, rfl⟩ := r1
        obtain ⟨u, rfl⟩ := r2
        simp [tupItems, evK]
theorem IsEv.first {h : Heap} {v : Value} {e : Ev} (x : IsEv h v e) : ∃ f, TupOf h evSh v f := by
  obtain ⟨a, its, rfl, r, o, ho, hc, n, hd⟩ := x
  obtain ⟨w, k⟩ := e
  cases k with
  | none =>
    cases r with
    | cons r1 r2 =>
      cases r2
      obtain ⟨t, rfl⟩ := r1
      exact ⟨_, a, o, _, n, rfl, ho, hc, hd, rfl, fun h => by simp at h, fun _ => ⟨_, _, rfl⟩⟩
  | some k =>
    cases r with
    | cons r1 r2 =>
      cases r2 with
      | cons r2 r3 =>
        cases r3
        obtain ⟨t, rfl⟩ := r1
        exact ⟨_, a, o, _, n, rfl, ho, hc, hd, rfl, fun h => by simp at h, fun _ => ⟨_, _, rfl⟩⟩
theorem evs_first {h : Heap} : ∀ {vs : List Value}, (∀ v ∈ vs, ∃ e, IsEv h v e) → ∃ fs, TupsOf h evSh vs fs ∧ fs.length = vs.length
  | [], _ => ⟨[], .nil, rfl⟩
  | v :: vs, x => by
    obtain ⟨fs, a, b⟩ := evs_first (vs := vs) fun u hu => x u (List.mem_cons_of_mem _ hu)
    obtain ⟨e, he⟩ := x v (List.mem_cons_self ..)
    obtain ⟨f, hf⟩ := he.first
    exact ⟨f :: fs, .cons hf a, by simp [b]⟩
theorem sorted_evs {l : Addr} {vs : List Value} {k : Value → Ev} {Q : Value → Shared → Prop} (hl : s.heap.IsList l vs.toArray) (hz : vs.length ≤ sizeLine) (hp : ∀ v ∈ vs, IsEv s.heap v (k v))
    (h : ∀ (h' : Heap) (d : Addr) (out : List Value), SrtO.Srtd (fun v u => evLt (k v) (k u)) out → SrtO.Stb (fun v u => evLt (k v) (k u)) out vs → (∀ b o, s.heap.get? b = some o → h'.get? b = some o) → s.heap.objs.size ≤ d → (∃ n, h'.get? d = some (seqObj "list" out.toArray n)) → Q (.ref d) { s with heap := h' }) :
    wpAny (model prog w) A (call (.builtin "sorted") [.ref l]) Q E s := by
  refine SrtO.sorted_ord (evLt_swo k) hl hz (fun h2 h₁ a ha kk => ?_) fun out hs hb => h _ _ out hs hb (fun b o e => sortedAll_old e) (Nat.le_succ _) (sortedAll_at s.heap vs out.toArray)
  intro h' keep
  have hp' : ∀ v ∈ vs, IsEv h' v (k v) := fun v hm => (hp v hm).keeps fun b o e c => keep b o (fun z => by
    subst z
    exact (kk b o e).1 rfl) (kk b o e).2
  obtain ⟨fs, h1, h3⟩ := evs_first fun v hm => ⟨_, hp' v hm⟩
  refine ⟨tuples' true, fun Q E hq => tup_kind (s := { s with heap := h' }) (by omega) h1 hq, ?_⟩
  intro p q hm hm'
  exact tup_ltAt (s := { s with heap := h' }) (shape := evSh) true _ _ p.1 q.1 (evK (k p.1)) (evK (k q.1)) (hp' _ hm).key (hp' _ hm').key ⟨rfl, rfl⟩
end
end Ca
namespace L2
open PySem PySem.Spec PyProof.Rows Ca
/-- sorted(xs), xs a list of tuples that hold events: a new list of the same tuples, ascending -/
def rSortedE (K : PySem.W.Frag) : List V → Hp → VK → Prop := fun vs H Q => ∃ (a : Addr) (xs : List V) (k : V → Ev), vs = [V.ref a] ∧ SqL K H a xs ∧ (∀ x ∈ xs, ∃ t, x = V.ref t ∧ H t = some (.tup (evV (k x)))) ∧
  ∀ ys p, SrtO.Srtd (fun x y => evLt (k x) (k y)) ys → ys.Perm xs → H p = none → Q (.ref p) (upd H p (.lst ys))
section
variable {X : Cx}
theorem cr_sortedE : CallR X (.builtin "sorted") (rSortedE X.K) := by
  intro pins s σ H vs us Q I r h
  obtain ⟨a, xs, k, rfl, hs, hx, q⟩ := h
  obtain ⟨its, rv, hl, hz⟩ := I.list hs
  obtain ⟨u, rfl, ru⟩ := vals1 r
  obtain rfl : u = Value.ref a := ru
  obtain ⟨e1, e2⟩ := refs_back rv fun x m => by
    obtain ⟨t, e, _⟩ := hx x m
    exact ⟨t, e⟩
  refine sorted_evs (k := fun u => k (backV u)) hl.isList (by rw [← rv.length]; exact hz) (fun v hv => ?_) fun h' d out h1 h2 kp hd hn => ?_
  · obtain ⟨t, rfl⟩ := e2 v hv
    have hm : V.ref t ∈ xs := by rw [e1]; exact List.mem_map.mpr ⟨_, hv, rfl⟩
    obtain ⟨t', e, ht⟩ := hx _ hm
    cases e
    obtain ⟨_, its2, r2, tp⟩ := I.hok _ _ ht
    exact ⟨t, its2, rfl, r2, tp⟩
  · have h3 : ∀ u ∈ out, ∃ a, u = Value.ref a := fun u hu => e2 u (h2.perm.mem_iff.mp hu)
    obtain ⟨n, hn⟩ := hn
    have hb : (out.map backV).Perm xs := by
      rw [e1]
      exact h2.perm.map _
    refine ⟨.ref d, upd H d (.lst (out.map backV)), I.laid (t' := s.toks) kp hd ⟨?_, out, n, vals_back h3, hn⟩, rfl, q _ d (SrtO.srtd_map h1) hb (I.hok.fresh hd)⟩
    rw [hb.length_eq]
    exact hz
end
end L2

set_option Elab.async false
set_option linter.all false
set_option maxRecDepth 100000
set_option maxHeartbeats 4000000
namespace Ca
open PySem L2
/-! ### the text by places -/
def top (i : Nat) : Stmt := PySem.Challenge.pw_cacheheld_k04_whole_short_runs.main.body.getD i (.Pass ⟨0, 0, 0, 0⟩)
abbrev s_is_design : Stmt := top 12
theorem sc_is_design : FnScope ["value"] ["value"] (defScope s_is_design) := ⟨rfl, rfl, rfl, by decide +kernel, rfl, by decide +kernel, by decide +kernel⟩

abbrev s_is_world : Stmt := top 13
theorem sc_is_world : FnScope ["value"] ["value"] (defScope s_is_world) := ⟨rfl, rfl, rfl, by decide +kernel, rfl, by decide +kernel, by decide +kernel⟩

abbrev s_is_triple : Stmt := top 14
theorem sc_is_triple : FnScope ["value", "firsts", "seconds", "thirds"] ["value", "firsts", "seconds", "thirds"] (defScope s_is_triple) := ⟨rfl, rfl, rfl, by decide +kernel, rfl, by decide +kernel, by decide +kernel⟩

abbrev s_check_design : Stmt := top 15
theorem sc_check_design : FnScope ["value"] ["value"] (defScope s_check_design) := ⟨rfl, rfl, rfl, by decide +kernel, rfl, by decide +kernel, by decide +kernel⟩

abbrev s_check_world : Stmt := top 16
theorem sc_check_world : FnScope ["value"] ["value"] (defScope s_check_world) := ⟨rfl, rfl, rfl, by decide +kernel, rfl, by decide +kernel, by decide +kernel⟩

abbrev s_check_question : Stmt := top 19
theorem sc_check_question : FnScope ["design", "world", "promise"] ["design", "world", "promise"] (defScope s_check_question) := ⟨rfl, rfl, rfl, by decide +kernel, rfl, by decide +kernel, by decide +kernel⟩

abbrev s_check_promise : Stmt := top 20
theorem sc_check_promise : FnScope ["value"] ["value"] (defScope s_check_promise) := ⟨rfl, rfl, rfl, by decide +kernel, rfl, by decide +kernel, by decide +kernel⟩

abbrev s_holds : Stmt := top 22
theorem sc_holds : FnScope ["design", "world", "promise", "is_kept"] ["design", "world", "promise"] (defScope s_holds) := ⟨rfl, rfl, rfl, by decide +kernel, rfl, by decide +kernel, by decide +kernel⟩

abbrev s_passes_by : Stmt := top 23
theorem sc_passes_by : FnScope ["design", "path", "guard", "_"] ["design"] (defScope s_passes_by) := ⟨rfl, rfl, rfl, by decide +kernel, rfl, by decide +kernel, by decide +kernel⟩

abbrev s_climbs : Stmt := top 24
theorem sc_climbs : FnScope ["design", "world", "path", "guard", "_"] ["design", "world"] (defScope s_climbs) := ⟨rfl, rfl, rfl, by decide +kernel, rfl, by decide +kernel, by decide +kernel⟩

abbrev s_guards : Stmt := top 25
theorem sc_guards : FnScope ["design", "world", "path", "guard", "_"] ["design", "world"] (defScope s_guards) := ⟨rfl, rfl, rfl, by decide +kernel, rfl, by decide +kernel, by decide +kernel⟩

abbrev s_is_alone : Stmt := top 26
theorem sc_is_alone : FnScope ["design"] ["design"] (defScope s_is_alone) := ⟨rfl, rfl, rfl, by decide +kernel, rfl, by decide +kernel, by decide +kernel⟩

abbrev s_is_primary : Stmt := top 27
theorem sc_is_primary : FnScope ["world"] ["world"] (defScope s_is_primary) := ⟨rfl, rfl, rfl, by decide +kernel, rfl, by decide +kernel, by decide +kernel⟩

abbrev s_keeps : Stmt := top 28
theorem sc_keeps : FnScope ["world"] ["world"] (defScope s_keeps) := ⟨rfl, rfl, rfl, by decide +kernel, rfl, by decide +kernel, by decide +kernel⟩

abbrev s_finishes : Stmt := top 29
theorem sc_finishes : FnScope ["world"] ["world"] (defScope s_finishes) := ⟨rfl, rfl, rfl, by decide +kernel, rfl, by decide +kernel, by decide +kernel⟩

abbrev s_holds_ending : Stmt := top 30
theorem sc_holds_ending : FnScope ["design", "world"] ["design", "world"] (defScope s_holds_ending) := ⟨rfl, rfl, rfl, by decide +kernel, rfl, by decide +kernel, by decide +kernel⟩

abbrev s_holds_filled : Stmt := top 31
theorem sc_holds_filled : FnScope ["design", "world", "path", "guard", "_"] ["design", "world"] (defScope s_holds_filled) := ⟨rfl, rfl, rfl, by decide +kernel, rfl, by decide +kernel, by decide +kernel⟩

abbrev s_holds_forward : Stmt := top 32
theorem sc_holds_forward : FnScope ["design", "world", "path", "guard", "_"] ["design", "world"] (defScope s_holds_forward) := ⟨rfl, rfl, rfl, by decide +kernel, rfl, by decide +kernel, by decide +kernel⟩

abbrev s_holds_fresh : Stmt := top 33
theorem sc_holds_fresh : FnScope ["design", "world"] ["design", "world"] (defScope s_holds_fresh) := ⟨rfl, rfl, rfl, by decide +kernel, rfl, by decide +kernel, by decide +kernel⟩

abbrev s_holds_linear : Stmt := top 34
theorem sc_holds_linear : FnScope ["design", "world"] ["design", "world"] (defScope s_holds_linear) := ⟨rfl, rfl, rfl, by decide +kernel, rfl, by decide +kernel, by decide +kernel⟩

abbrev s_holds_mended : Stmt := top 35
theorem sc_holds_mended : FnScope ["design", "world", "path", "guard", "_"] ["design", "world"] (defScope s_holds_mended) := ⟨rfl, rfl, rfl, by decide +kernel, rfl, by decide +kernel, by decide +kernel⟩

abbrev s_holds_moving : Stmt := top 36
theorem sc_holds_moving : FnScope ["design", "world"] ["design", "world"] (defScope s_holds_moving) := ⟨rfl, rfl, rfl, by decide +kernel, rfl, by decide +kernel, by decide +kernel⟩

abbrev s_holds_quiet : Stmt := top 37
theorem sc_holds_quiet : FnScope ["design", "world"] ["design", "world"] (defScope s_holds_quiet) := ⟨rfl, rfl, rfl, by decide +kernel, rfl, by decide +kernel, by decide +kernel⟩

abbrev s_holds_rest : Stmt := top 38
theorem sc_holds_rest : FnScope ["design", "world", "held"] ["design", "world"] (defScope s_holds_rest) := ⟨rfl, rfl, rfl, by decide +kernel, rfl, by decide +kernel, by decide +kernel⟩

abbrev s_holds_single : Stmt := top 39
theorem sc_holds_single : FnScope ["design", "world"] ["design", "world"] (defScope s_holds_single) := ⟨rfl, rfl, rfl, by decide +kernel, rfl, by decide +kernel, by decide +kernel⟩

abbrev s_Ltaken : Stmt := top 42
theorem sc_Ltaken : FnScope ["row", "many", "found", "cell"] ["row", "many"] (defScope s_Ltaken) := ⟨rfl, rfl, rfl, by decide +kernel, rfl, by decide +kernel, by decide +kernel⟩

abbrev s_Lpick : Stmt := top 43
theorem sc_Lpick : FnScope ["row", "kinds"] ["row", "kinds"] (defScope s_Lpick) := ⟨rfl, rfl, rfl, by decide +kernel, rfl, by decide +kernel, by decide +kernel⟩

abbrev s_Lpaths : Stmt := top 44
theorem sc_Lpaths : FnScope [] [] (defScope s_Lpaths) := ⟨rfl, rfl, rfl, by decide +kernel, rfl, by decide +kernel, by decide +kernel⟩

abbrev s_Lbegin : Stmt := top 45
theorem sc_Lbegin : FnScope ["design", "world"] ["design", "world"] (defScope s_Lbegin) := ⟨rfl, rfl, rfl, by decide +kernel, rfl, by decide +kernel, by decide +kernel⟩

abbrev s_Lgoing : Stmt := top 46
theorem sc_Lgoing : FnScope ["h", "one"] ["h"] (defScope s_Lgoing) := ⟨rfl, rfl, rfl, by decide +kernel, rfl, by decide +kernel, by decide +kernel⟩

abbrev s_Lnext : Stmt := top 47
theorem sc_Lnext : FnScope ["h", "one"] ["h", "one"] (defScope s_Lnext) := ⟨rfl, rfl, rfl, by decide +kernel, rfl, by decide +kernel, by decide +kernel⟩

abbrev s_Levents : Stmt := top 48
theorem sc_Levents : FnScope ["h", "many", "going", "found", "one"] ["h"] (defScope s_Levents) := ⟨rfl, rfl, rfl, by decide +kernel, rfl, by decide +kernel, by decide +kernel⟩

abbrev s_Lend : Stmt := top 49
theorem sc_Lend : FnScope ["h", "one", "stage"] ["h", "one", "stage"] (defScope s_Lend) := ⟨rfl, rfl, rfl, by decide +kernel, rfl, by decide +kernel, by decide +kernel⟩

abbrev s_Lhold : Stmt := top 50
theorem sc_Lhold : FnScope ["h", "version"] ["h", "version"] (defScope s_Lhold) := ⟨rfl, rfl, rfl, by decide +kernel, rfl, by decide +kernel, by decide +kernel⟩

abbrev s_Lnewer : Stmt := top 51
theorem sc_Lnewer : FnScope ["h", "version"] ["h", "version"] (defScope s_Lnewer) := ⟨rfl, rfl, rfl, by decide +kernel, rfl, by decide +kernel, by decide +kernel⟩

abbrev s_Llets : Stmt := top 52
theorem sc_Llets : FnScope ["h", "one", "guard", "version"] ["h", "one"] (defScope s_Llets) := ⟨rfl, rfl, rfl, by decide +kernel, rfl, by decide +kernel, by decide +kernel⟩

abbrev s_Lwrite : Stmt := top 53
theorem sc_Lwrite : FnScope ["h", "one", "word", "steps", "guard", "other", "good"] ["h", "one", "word"] (defScope s_Lwrite) := ⟨rfl, rfl, rfl, by decide +kernel, rfl, by decide +kernel, by decide +kernel⟩

abbrev s_Lread : Stmt := top 54
theorem sc_Lread : FnScope ["h", "one", "word"] ["h", "one", "word"] (defScope s_Lread) := ⟨rfl, rfl, rfl, by decide +kernel, rfl, by decide +kernel, by decide +kernel⟩

abbrev s_Ldo : Stmt := top 55
theorem sc_Ldo : FnScope ["h", "event", "word", "number", "kind", "one"] ["h", "event"] (defScope s_Ldo) := ⟨rfl, rfl, rfl, by decide +kernel, rfl, by decide +kernel, by decide +kernel⟩

abbrev s_Lrun : Stmt := top 56
theorem sc_Lrun : FnScope ["design", "world", "events", "h", "event"] ["design", "world", "events"] (defScope s_Lrun) := ⟨rfl, rfl, rfl, by decide +kernel, rfl, by decide +kernel, by decide +kernel⟩

abbrev s_Lwalk : Stmt := top 57
theorem sc_Lwalk : FnScope ["row", "design", "world", "most", "h", "turn", "some", "going", "event"] ["row", "design", "world", "most"] (defScope s_Lwalk) := ⟨rfl, rfl, rfl, by decide +kernel, rfl, by decide +kernel, by decide +kernel⟩

abbrev s_Lbehind : Stmt := top 58
theorem sc_Lbehind : FnScope ["h"] ["h"] (defScope s_Lbehind) := ⟨rfl, rfl, rfl, by decide +kernel, rfl, by decide +kernel, by decide +kernel⟩

abbrev s_Lbefore : Stmt := top 59
theorem sc_Lbefore : FnScope ["h", "one", "kind", "found", "other"] ["h", "one", "kind"] (defScope s_Lbefore) := ⟨rfl, rfl, rfl, by decide +kernel, rfl, by decide +kernel, by decide +kernel⟩

abbrev s_Lwas_quiet : Stmt := top 60
theorem sc_Lwas_quiet : FnScope ["h", "one", "writes", "other"] ["h", "one"] (defScope s_Lwas_quiet) := ⟨rfl, rfl, rfl, by decide +kernel, rfl, by decide +kernel, by decide +kernel⟩

abbrev s_Lordered : Stmt := top 61
theorem sc_Lordered : FnScope ["left", "version", "at", "one", "others", "late", "other"] ["left", "version"] (defScope s_Lordered) := ⟨rfl, rfl, rfl, by decide +kernel, rfl, by decide +kernel, by decide +kernel⟩

abbrev s_Lin_order : Stmt := top 62
theorem sc_Lin_order : FnScope ["h", "reads", "told", "writes", "plain", "one"] ["h"] (defScope s_Lin_order) := ⟨rfl, rfl, rfl, by decide +kernel, rfl, by decide +kernel, by decide +kernel⟩

abbrev s_Lalone : Stmt := top 63
theorem sc_Lalone : FnScope ["h", "first", "after", "number", "one", "turn", "word"] ["h", "first"] (defScope s_Lalone) := ⟨rfl, rfl, rfl, by decide +kernel, rfl, by decide +kernel, by decide +kernel⟩

abbrev s_Lat_rest : Stmt := top 64
theorem sc_Lat_rest : FnScope ["h", "promise", "after", "one"] ["h", "promise"] (defScope s_Lat_rest) := ⟨rfl, rfl, rfl, by decide +kernel, rfl, by decide +kernel, by decide +kernel⟩

abbrev s_Lbroken : Stmt := top 65
theorem sc_Lbroken : FnScope ["h", "promise", "going", "last", "one"] ["h", "promise"] (defScope s_Lbroken) := ⟨rfl, rfl, rfl, by decide +kernel, rfl, by decide +kernel, by decide +kernel⟩

abbrev s_Lpromises : Stmt := top 66
theorem sc_Lpromises : FnScope [] [] (defScope s_Lpromises) := ⟨rfl, rfl, rfl, by decide +kernel, rfl, by decide +kernel, by decide +kernel⟩

abbrev s_Ldesigns : Stmt := top 67
theorem sc_Ldesigns : FnScope ["found", "path", "guard"] [] (defScope s_Ldesigns) := ⟨rfl, rfl, rfl, by decide +kernel, rfl, by decide +kernel, by decide +kernel⟩

abbrev s_Lworlds : Stmt := top 68
theorem sc_Lworlds : FnScope ["found", "source", "evictions"] [] (defScope s_Lworlds) := ⟨rfl, rfl, rfl, by decide +kernel, rfl, by decide +kernel, by decide +kernel⟩

abbrev s_Lkey : Stmt := top 69
theorem sc_Lkey : FnScope ["h", "some", "one", "floors"] ["h"] (defScope s_Lkey) := ⟨rfl, rfl, rfl, by decide +kernel, rfl, by decide +kernel, by decide +kernel⟩

abbrev s_law : Stmt := top 70
theorem sc_law : FnScope ["script", "row", "design", "world", "kept", "layer", "met", "count", "turn", "later", "events", "h", "event", "kind", "many", "after", "short", "one"] ["script"] (defScope s_law) := ⟨rfl, rfl, rfl, by decide +kernel, rfl, by decide +kernel, by decide +kernel⟩

theorem us_n0 {M : List PySem.Value → Prop} (h : M []) : ∀ us : List PySem.Value, us.length = 0 → M us := fun us hl => match us, hl with | [], _ => h
theorem us_n1 {M : List PySem.Value → Prop} (h : ∀ a : PySem.Value, M [a]) : ∀ us : List PySem.Value, us.length = 1 → M us := fun us hl => match us, hl with | [a], _ => h a
theorem us_n2 {M : List PySem.Value → Prop} (h : ∀ a b : PySem.Value, M [a, b]) : ∀ us : List PySem.Value, us.length = 2 → M us := fun us hl => match us, hl with | [a, b], _ => h a b
theorem us_n3 {M : List PySem.Value → Prop} (h : ∀ a b c : PySem.Value, M [a, b, c]) : ∀ us : List PySem.Value, us.length = 3 → M us := fun us hl => match us, hl with | [a, b, c], _ => h a b c
theorem us_n4 {M : List PySem.Value → Prop} (h : ∀ a b c d : PySem.Value, M [a, b, c, d]) : ∀ us : List PySem.Value, us.length = 4 → M us := fun us hl => match us, hl with | [a, b, c, d], _ => h a b c d
theorem us_n5 {M : List PySem.Value → Prop} (h : ∀ a b c d e : PySem.Value, M [a, b, c, d, e]) : ∀ us : List PySem.Value, us.length = 5 → M us := fun us hl => match us, hl with | [a, b, c, d, e], _ => h a b c d e
set_option genInjectivity false in
set_option genSizeOf false in
structure Txt (K : PySem.W.Frag) (mg : Str → Option Value) where
  f_is_design : Addr
  fd_is_design : FuncData
  F_is_design : Fun K "is_design" "is_design" s_is_design f_is_design fd_is_design
  m_is_design : mg "is_design" = some (.ref f_is_design)
  f_is_world : Addr
  fd_is_world : FuncData
  F_is_world : Fun K "is_world" "is_world" s_is_world f_is_world fd_is_world
  m_is_world : mg "is_world" = some (.ref f_is_world)
  f_is_triple : Addr
  fd_is_triple : FuncData
  F_is_triple : Fun K "is_triple" "is_triple" s_is_triple f_is_triple fd_is_triple
  m_is_triple : mg "is_triple" = some (.ref f_is_triple)
  f_check_design : Addr
  fd_check_design : FuncData
  F_check_design : Fun K "check_design" "check_design" s_check_design f_check_design fd_check_design
  m_check_design : mg "check_design" = some (.ref f_check_design)
  f_check_world : Addr
  fd_check_world : FuncData
  F_check_world : Fun K "check_world" "check_world" s_check_world f_check_world fd_check_world
  m_check_world : mg "check_world" = some (.ref f_check_world)
  f_check_question : Addr
  fd_check_question : FuncData
  F_check_question : Fun K "check_question" "check_question" s_check_question f_check_question fd_check_question
  m_check_question : mg "check_question" = some (.ref f_check_question)
  f_check_promise : Addr
  fd_check_promise : FuncData
  F_check_promise : Fun K "check_promise" "check_promise" s_check_promise f_check_promise fd_check_promise
  m_check_promise : mg "check_promise" = some (.ref f_check_promise)
  f_holds : Addr
  fd_holds : FuncData
  F_holds : Fun K "holds" "holds" s_holds f_holds fd_holds
  m_holds : mg "holds" = some (.ref f_holds)
  f_passes_by : Addr
  fd_passes_by : FuncData
  F_passes_by : Fun K "passes_by" "passes_by" s_passes_by f_passes_by fd_passes_by
  m_passes_by : mg "passes_by" = some (.ref f_passes_by)
  f_climbs : Addr
  fd_climbs : FuncData
  F_climbs : Fun K "climbs" "climbs" s_climbs f_climbs fd_climbs
  m_climbs : mg "climbs" = some (.ref f_climbs)
  f_guards : Addr
  fd_guards : FuncData
  F_guards : Fun K "guards" "guards" s_guards f_guards fd_guards
  m_guards : mg "guards" = some (.ref f_guards)
  f_is_alone : Addr
  fd_is_alone : FuncData
  F_is_alone : Fun K "is_alone" "is_alone" s_is_alone f_is_alone fd_is_alone
  m_is_alone : mg "is_alone" = some (.ref f_is_alone)
  f_is_primary : Addr
  fd_is_primary : FuncData
  F_is_primary : Fun K "is_primary" "is_primary" s_is_primary f_is_primary fd_is_primary
  m_is_primary : mg "is_primary" = some (.ref f_is_primary)
  f_keeps : Addr
  fd_keeps : FuncData
  F_keeps : Fun K "keeps" "keeps" s_keeps f_keeps fd_keeps
  m_keeps : mg "keeps" = some (.ref f_keeps)
  f_finishes : Addr
  fd_finishes : FuncData
  F_finishes : Fun K "finishes" "finishes" s_finishes f_finishes fd_finishes
  m_finishes : mg "finishes" = some (.ref f_finishes)
  f_holds_ending : Addr
  fd_holds_ending : FuncData
  F_holds_ending : Fun K "holds_ending" "holds_ending" s_holds_ending f_holds_ending fd_holds_ending
  m_holds_ending : mg "holds_ending" = some (.ref f_holds_ending)
  f_holds_filled : Addr
  fd_holds_filled : FuncData
  F_holds_filled : Fun K "holds_filled" "holds_filled" s_holds_filled f_holds_filled fd_holds_filled
  m_holds_filled : mg "holds_filled" = some (.ref f_holds_filled)
  f_holds_forward : Addr
  fd_holds_forward : FuncData
  F_holds_forward : Fun K "holds_forward" "holds_forward" s_holds_forward f_holds_forward fd_holds_forward
  m_holds_forward : mg "holds_forward" = some (.ref f_holds_forward)
  f_holds_fresh : Addr
  fd_holds_fresh : FuncData
  F_holds_fresh : Fun K "holds_fresh" "holds_fresh" s_holds_fresh f_holds_fresh fd_holds_fresh
  m_holds_fresh : mg "holds_fresh" = some (.ref f_holds_fresh)
  f_holds_linear : Addr
  fd_holds_linear : FuncData
  F_holds_linear : Fun K "holds_linear" "holds_linear" s_holds_linear f_holds_linear fd_holds_linear
  m_holds_linear : mg "holds_linear" = some (.ref f_holds_linear)
  f_holds_mended : Addr
  fd_holds_mended : FuncData
  F_holds_mended : Fun K "holds_mended" "holds_mended" s_holds_mended f_holds_mended fd_holds_mended
  m_holds_mended : mg "holds_mended" = some (.ref f_holds_mended)
  f_holds_moving : Addr
  fd_holds_moving : FuncData
  F_holds_moving : Fun K "holds_moving" "holds_moving" s_holds_moving f_holds_moving fd_holds_moving
  m_holds_moving : mg "holds_moving" = some (.ref f_holds_moving)
  f_holds_quiet : Addr
  fd_holds_quiet : FuncData
  F_holds_quiet : Fun K "holds_quiet" "holds_quiet" s_holds_quiet f_holds_quiet fd_holds_quiet
  m_holds_quiet : mg "holds_quiet" = some (.ref f_holds_quiet)
  f_holds_rest : Addr
  fd_holds_rest : FuncData
  F_holds_rest : Fun K "holds_rest" "holds_rest" s_holds_rest f_holds_rest fd_holds_rest
  m_holds_rest : mg "holds_rest" = some (.ref f_holds_rest)
  f_holds_single : Addr
  fd_holds_single : FuncData
  F_holds_single : Fun K "holds_single" "holds_single" s_holds_single f_holds_single fd_holds_single
  m_holds_single : mg "holds_single" = some (.ref f_holds_single)
  f_Ltaken : Addr
  fd_Ltaken : FuncData
  F_Ltaken : Fun K "_law_taken" "_law_taken" s_Ltaken f_Ltaken fd_Ltaken
  m_Ltaken : mg "_law_taken" = some (.ref f_Ltaken)
  f_Lpick : Addr
  fd_Lpick : FuncData
  F_Lpick : Fun K "_law_pick" "_law_pick" s_Lpick f_Lpick fd_Lpick
  m_Lpick : mg "_law_pick" = some (.ref f_Lpick)
  f_Lpaths : Addr
  fd_Lpaths : FuncData
  F_Lpaths : Fun K "_law_paths" "_law_paths" s_Lpaths f_Lpaths fd_Lpaths
  m_Lpaths : mg "_law_paths" = some (.ref f_Lpaths)
  f_Lbegin : Addr
  fd_Lbegin : FuncData
  F_Lbegin : Fun K "_law_begin" "_law_begin" s_Lbegin f_Lbegin fd_Lbegin
  m_Lbegin : mg "_law_begin" = some (.ref f_Lbegin)
  f_Lgoing : Addr
  fd_Lgoing : FuncData
  F_Lgoing : Fun K "_law_going" "_law_going" s_Lgoing f_Lgoing fd_Lgoing
  m_Lgoing : mg "_law_going" = some (.ref f_Lgoing)
  f_Lnext : Addr
  fd_Lnext : FuncData
  F_Lnext : Fun K "_law_next" "_law_next" s_Lnext f_Lnext fd_Lnext
  m_Lnext : mg "_law_next" = some (.ref f_Lnext)
  f_Levents : Addr
  fd_Levents : FuncData
  F_Levents : Fun K "_law_events" "_law_events" s_Levents f_Levents fd_Levents
  m_Levents : mg "_law_events" = some (.ref f_Levents)
  f_Lend : Addr
  fd_Lend : FuncData
  F_Lend : Fun K "_law_end" "_law_end" s_Lend f_Lend fd_Lend
  m_Lend : mg "_law_end" = some (.ref f_Lend)
  f_Lhold : Addr
  fd_Lhold : FuncData
  F_Lhold : Fun K "_law_hold" "_law_hold" s_Lhold f_Lhold fd_Lhold
  m_Lhold : mg "_law_hold" = some (.ref f_Lhold)
  f_Lnewer : Addr
  fd_Lnewer : FuncData
  F_Lnewer : Fun K "_law_newer" "_law_newer" s_Lnewer f_Lnewer fd_Lnewer
  m_Lnewer : mg "_law_newer" = some (.ref f_Lnewer)
  f_Llets : Addr
  fd_Llets : FuncData
  F_Llets : Fun K "_law_lets" "_law_lets" s_Llets f_Llets fd_Llets
  m_Llets : mg "_law_lets" = some (.ref f_Llets)
  f_Lwrite : Addr
  fd_Lwrite : FuncData
  F_Lwrite : Fun K "_law_write" "_law_write" s_Lwrite f_Lwrite fd_Lwrite
  m_Lwrite : mg "_law_write" = some (.ref f_Lwrite)
  f_Lread : Addr
  fd_Lread : FuncData
  F_Lread : Fun K "_law_read" "_law_read" s_Lread f_Lread fd_Lread
  m_Lread : mg "_law_read" = some (.ref f_Lread)
  f_Ldo : Addr
  fd_Ldo : FuncData
  F_Ldo : Fun K "_law_do" "_law_do" s_Ldo f_Ldo fd_Ldo
  m_Ldo : mg "_law_do" = some (.ref f_Ldo)
  f_Lrun : Addr
  fd_Lrun : FuncData
  F_Lrun : Fun K "_law_run" "_law_run" s_Lrun f_Lrun fd_Lrun
  m_Lrun : mg "_law_run" = some (.ref f_Lrun)
  f_Lwalk : Addr
  fd_Lwalk : FuncData
  F_Lwalk : Fun K "_law_walk" "_law_walk" s_Lwalk f_Lwalk fd_Lwalk
  m_Lwalk : mg "_law_walk" = some (.ref f_Lwalk)
  f_Lbehind : Addr
  fd_Lbehind : FuncData
  F_Lbehind : Fun K "_law_behind" "_law_behind" s_Lbehind f_Lbehind fd_Lbehind
  m_Lbehind : mg "_law_behind" = some (.ref f_Lbehind)
  f_Lbefore : Addr
  fd_Lbefore : FuncData
  F_Lbefore : Fun K "_law_before" "_law_before" s_Lbefore f_Lbefore fd_Lbefore
  m_Lbefore : mg "_law_before" = some (.ref f_Lbefore)
  f_Lwas_quiet : Addr
  fd_Lwas_quiet : FuncData
  F_Lwas_quiet : Fun K "_law_was_quiet" "_law_was_quiet" s_Lwas_quiet f_Lwas_quiet fd_Lwas_quiet
  m_Lwas_quiet : mg "_law_was_quiet" = some (.ref f_Lwas_quiet)
  f_Lordered : Addr
  fd_Lordered : FuncData
  F_Lordered : Fun K "_law_ordered" "_law_ordered" s_Lordered f_Lordered fd_Lordered
  m_Lordered : mg "_law_ordered" = some (.ref f_Lordered)
  f_Lin_order : Addr
  fd_Lin_order : FuncData
  F_Lin_order : Fun K "_law_in_order" "_law_in_order" s_Lin_order f_Lin_order fd_Lin_order
  m_Lin_order : mg "_law_in_order" = some (.ref f_Lin_order)
  f_Lalone : Addr
  fd_Lalone : FuncData
  F_Lalone : Fun K "_law_alone" "_law_alone" s_Lalone f_Lalone fd_Lalone
  m_Lalone : mg "_law_alone" = some (.ref f_Lalone)
  f_Lat_rest : Addr
  fd_Lat_rest : FuncData
  F_Lat_rest : Fun K "_law_at_rest" "_law_at_rest" s_Lat_rest f_Lat_rest fd_Lat_rest
  m_Lat_rest : mg "_law_at_rest" = some (.ref f_Lat_rest)
  f_Lbroken : Addr
  fd_Lbroken : FuncData
  F_Lbroken : Fun K "_law_broken" "_law_broken" s_Lbroken f_Lbroken fd_Lbroken
  m_Lbroken : mg "_law_broken" = some (.ref f_Lbroken)
  f_Lpromises : Addr
  fd_Lpromises : FuncData
  F_Lpromises : Fun K "_law_promises" "_law_promises" s_Lpromises f_Lpromises fd_Lpromises
  m_Lpromises : mg "_law_promises" = some (.ref f_Lpromises)
  f_Ldesigns : Addr
  fd_Ldesigns : FuncData
  F_Ldesigns : Fun K "_law_designs" "_law_designs" s_Ldesigns f_Ldesigns fd_Ldesigns
  m_Ldesigns : mg "_law_designs" = some (.ref f_Ldesigns)
  f_Lworlds : Addr
  fd_Lworlds : FuncData
  F_Lworlds : Fun K "_law_worlds" "_law_worlds" s_Lworlds f_Lworlds fd_Lworlds
  m_Lworlds : mg "_law_worlds" = some (.ref f_Lworlds)
  f_Lkey : Addr
  fd_Lkey : FuncData
  F_Lkey : Fun K "_law_key" "_law_key" s_Lkey f_Lkey fd_Lkey
  m_Lkey : mg "_law_key" = some (.ref f_Lkey)
  f_law : Addr
  fd_law : FuncData
  F_law : Fun K "law" "law" s_law f_law fd_law
  m_law : mg "law" = some (.ref f_law)
  n_len : mg "len" = none
  n_isinstance : mg "isinstance" = none
  n_max : mg "max" = none
  n_min : mg "min" = none
  n_any : mg "any" = none
  n_all : mg "all" = none
  n_sorted : mg "sorted" = none
  n_range : mg "range" = none
  n_enumerate : mg "enumerate" = none
  n_int : mg "int" = none
  n_str : mg "str" = none
  n_bool : mg "bool" = none
  n_tuple : mg "tuple" = none
  n_list : mg "list" = none
  n_dict : mg "dict" = none

theorem b_is_design {K : PySem.W.Frag} {mg : Str → Option Value} (T : Txt K mg) : Binds K T.fd_is_design ["value"] [] := T.F_is_design.binds (ps := ["value"]) fun _ _ _ _ _ _ us hl => us_n1 (M := fun us => bindArgs _ ⟨us, []⟩ = pure (List.zip _ us)) (fun _ => rfl) us hl

theorem b_is_world {K : PySem.W.Frag} {mg : Str → Option Value} (T : Txt K mg) : Binds K T.fd_is_world ["value"] [] := T.F_is_world.binds (ps := ["value"]) fun _ _ _ _ _ _ us hl => us_n1 (M := fun us => bindArgs _ ⟨us, []⟩ = pure (List.zip _ us)) (fun _ => rfl) us hl

theorem b_is_triple {K : PySem.W.Frag} {mg : Str → Option Value} (T : Txt K mg) : Binds K T.fd_is_triple ["value", "firsts", "seconds", "thirds"] [] := T.F_is_triple.binds (ps := ["value", "firsts", "seconds", "thirds"]) fun _ _ _ _ _ _ us hl => us_n4 (M := fun us => bindArgs _ ⟨us, []⟩ = pure (List.zip _ us)) (fun _ _ _ _ => rfl) us hl

theorem b_check_design {K : PySem.W.Frag} {mg : Str → Option Value} (T : Txt K mg) : Binds K T.fd_check_design ["value"] [] := T.F_check_design.binds (ps := ["value"]) fun _ _ _ _ _ _ us hl => us_n1 (M := fun us => bindArgs _ ⟨us, []⟩ = pure (List.zip _ us)) (fun _ => rfl) us hl

theorem b_check_world {K : PySem.W.Frag} {mg : Str → Option Value} (T : Txt K mg) : Binds K T.fd_check_world ["value"] [] := T.F_check_world.binds (ps := ["value"]) fun _ _ _ _ _ _ us hl => us_n1 (M := fun us => bindArgs _ ⟨us, []⟩ = pure (List.zip _ us)) (fun _ => rfl) us hl

theorem b_check_question {K : PySem.W.Frag} {mg : Str → Option Value} (T : Txt K mg) : Binds K T.fd_check_question ["design", "world", "promise"] [] := T.F_check_question.binds (ps := ["design", "world", "promise"]) fun _ _ _ _ _ _ us hl => us_n3 (M := fun us => bindArgs _ ⟨us, []⟩ = pure (List.zip _ us)) (fun _ _ _ => rfl) us hl

theorem b_check_promise {K : PySem.W.Frag} {mg : Str → Option Value} (T : Txt K mg) : Binds K T.fd_check_promise ["value"] [] := T.F_check_promise.binds (ps := ["value"]) fun _ _ _ _ _ _ us hl => us_n1 (M := fun us => bindArgs _ ⟨us, []⟩ = pure (List.zip _ us)) (fun _ => rfl) us hl

theorem b_holds {K : PySem.W.Frag} {mg : Str → Option Value} (T : Txt K mg) : Binds K T.fd_holds ["design", "world", "promise"] [] := T.F_holds.binds (ps := ["design", "world", "promise"]) fun _ _ _ _ _ _ us hl => us_n3 (M := fun us => bindArgs _ ⟨us, []⟩ = pure (List.zip _ us)) (fun _ _ _ => rfl) us hl

theorem b_passes_by {K : PySem.W.Frag} {mg : Str → Option Value} (T : Txt K mg) : Binds K T.fd_passes_by ["design"] [] := T.F_passes_by.binds (ps := ["design"]) fun _ _ _ _ _ _ us hl => us_n1 (M := fun us => bindArgs _ ⟨us, []⟩ = pure (List.zip _ us)) (fun _ => rfl) us hl

theorem b_climbs {K : PySem.W.Frag} {mg : Str → Option Value} (T : Txt K mg) : Binds K T.fd_climbs ["design", "world"] [] := T.F_climbs.binds (ps := ["design", "world"]) fun _ _ _ _ _ _ us hl => us_n2 (M := fun us => bindArgs _ ⟨us, []⟩ = pure (List.zip _ us)) (fun _ _ => rfl) us hl

theorem b_guards {K : PySem.W.Frag} {mg : Str → Option Value} (T : Txt K mg) : Binds K T.fd_guards ["design", "world"] [] := T.F_guards.binds (ps := ["design", "world"]) fun _ _ _ _ _ _ us hl => us_n2 (M := fun us => bindArgs _ ⟨us, []⟩ = pure (List.zip _ us)) (fun _ _ => rfl) us hl

theorem b_is_alone {K : PySem.W.Frag} {mg : Str → Option Value} (T : Txt K mg) : Binds K T.fd_is_alone ["design"] [] := T.F_is_alone.binds (ps := ["design"]) fun _ _ _ _ _ _ us hl => us_n1 (M := fun us => bindArgs _ ⟨us, []⟩ = pure (List.zip _ us)) (fun _ => rfl) us hl

theorem b_is_primary {K : PySem.W.Frag} {mg : Str → Option Value} (T : Txt K mg) : Binds K T.fd_is_primary ["world"] [] := T.F_is_primary.binds (ps := ["world"]) fun _ _ _ _ _ _ us hl => us_n1 (M := fun us => bindArgs _ ⟨us, []⟩ = pure (List.zip _ us)) (fun _ => rfl) us hl

theorem b_keeps {K : PySem.W.Frag} {mg : Str → Option Value} (T : Txt K mg) : Binds K T.fd_keeps ["world"] [] := T.F_keeps.binds (ps := ["world"]) fun _ _ _ _ _ _ us hl => us_n1 (M := fun us => bindArgs _ ⟨us, []⟩ = pure (List.zip _ us)) (fun _ => rfl) us hl

theorem b_finishes {K : PySem.W.Frag} {mg : Str → Option Value} (T : Txt K mg) : Binds K T.fd_finishes ["world"] [] := T.F_finishes.binds (ps := ["world"]) fun _ _ _ _ _ _ us hl => us_n1 (M := fun us => bindArgs _ ⟨us, []⟩ = pure (List.zip _ us)) (fun _ => rfl) us hl

theorem b_holds_ending {K : PySem.W.Frag} {mg : Str → Option Value} (T : Txt K mg) : Binds K T.fd_holds_ending ["design", "world"] [] := T.F_holds_ending.binds (ps := ["design", "world"]) fun _ _ _ _ _ _ us hl => us_n2 (M := fun us => bindArgs _ ⟨us, []⟩ = pure (List.zip _ us)) (fun _ _ => rfl) us hl

theorem b_holds_filled {K : PySem.W.Frag} {mg : Str → Option Value} (T : Txt K mg) : Binds K T.fd_holds_filled ["design", "world"] [] := T.F_holds_filled.binds (ps := ["design", "world"]) fun _ _ _ _ _ _ us hl => us_n2 (M := fun us => bindArgs _ ⟨us, []⟩ = pure (List.zip _ us)) (fun _ _ => rfl) us hl

theorem b_holds_forward {K : PySem.W.Frag} {mg : Str → Option Value} (T : Txt K mg) : Binds K T.fd_holds_forward ["design", "world"] [] := T.F_holds_forward.binds (ps := ["design", "world"]) fun _ _ _ _ _ _ us hl => us_n2 (M := fun us => bindArgs _ ⟨us, []⟩ = pure (List.zip _ us)) (fun _ _ => rfl) us hl

theorem b_holds_fresh {K : PySem.W.Frag} {mg : Str → Option Value} (T : Txt K mg) : Binds K T.fd_holds_fresh ["design", "world"] [] := T.F_holds_fresh.binds (ps := ["design", "world"]) fun _ _ _ _ _ _ us hl => us_n2 (M := fun us => bindArgs _ ⟨us, []⟩ = pure (List.zip _ us)) (fun _ _ => rfl) us hl

theorem b_holds_linear {K : PySem.W.Frag} {mg : Str → Option Value} (T : Txt K mg) : Binds K T.fd_holds_linear ["design", "world"] [] := T.F_holds_linear.binds (ps := ["design", "world"]) fun _ _ _ _ _ _ us hl => us_n2 (M := fun us => bindArgs _ ⟨us, []⟩ = pure (List.zip _ us)) (fun _ _ => rfl) us hl

theorem b_holds_mended {K : PySem.W.Frag} {mg : Str → Option Value} (T : Txt K mg) : Binds K T.fd_holds_mended ["design", "world"] [] := T.F_holds_mended.binds (ps := ["design", "world"]) fun _ _ _ _ _ _ us hl => us_n2 (M := fun us => bindArgs _ ⟨us, []⟩ = pure (List.zip _ us)) (fun _ _ => rfl) us hl

theorem b_holds_moving {K : PySem.W.Frag} {mg : Str → Option Value} (T : Txt K mg) : Binds K T.fd_holds_moving ["design", "world"] [] := T.F_holds_moving.binds (ps := ["design", "world"]) fun _ _ _ _ _ _ us hl => us_n2 (M := fun us => bindArgs _ ⟨us, []⟩ = pure (List.zip _ us)) (fun _ _ => rfl) us hl

theorem b_holds_quiet {K : PySem.W.Frag} {mg : Str → Option Value} (T : Txt K mg) : Binds K T.fd_holds_quiet ["design", "world"] [] := T.F_holds_quiet.binds (ps := ["design", "world"]) fun _ _ _ _ _ _ us hl => us_n2 (M := fun us => bindArgs _ ⟨us, []⟩ = pure (List.zip _ us)) (fun _ _ => rfl) us hl

theorem b_holds_rest {K : PySem.W.Frag} {mg : Str → Option Value} (T : Txt K mg) : Binds K T.fd_holds_rest ["design", "world"] [] := T.F_holds_rest.binds (ps := ["design", "world"]) fun _ _ _ _ _ _ us hl => us_n2 (M := fun us => bindArgs _ ⟨us, []⟩ = pure (List.zip _ us)) (fun _ _ => rfl) us hl

theorem b_holds_single {K : PySem.W.Frag} {mg : Str → Option Value} (T : Txt K mg) : Binds K T.fd_holds_single ["design", "world"] [] := T.F_holds_single.binds (ps := ["design", "world"]) fun _ _ _ _ _ _ us hl => us_n2 (M := fun us => bindArgs _ ⟨us, []⟩ = pure (List.zip _ us)) (fun _ _ => rfl) us hl

theorem b_Ltaken {K : PySem.W.Frag} {mg : Str → Option Value} (T : Txt K mg) : Binds K T.fd_Ltaken ["row", "many"] [] := T.F_Ltaken.binds (ps := ["row", "many"]) fun _ _ _ _ _ _ us hl => us_n2 (M := fun us => bindArgs _ ⟨us, []⟩ = pure (List.zip _ us)) (fun _ _ => rfl) us hl

theorem b_Lpick {K : PySem.W.Frag} {mg : Str → Option Value} (T : Txt K mg) : Binds K T.fd_Lpick ["row", "kinds"] [] := T.F_Lpick.binds (ps := ["row", "kinds"]) fun _ _ _ _ _ _ us hl => us_n2 (M := fun us => bindArgs _ ⟨us, []⟩ = pure (List.zip _ us)) (fun _ _ => rfl) us hl

theorem b_Lpaths {K : PySem.W.Frag} {mg : Str → Option Value} (T : Txt K mg) : Binds K T.fd_Lpaths [] [] := T.F_Lpaths.binds (ps := []) fun _ _ _ _ _ _ us hl => us_n0 (M := fun us => bindArgs _ ⟨us, []⟩ = pure (List.zip _ us)) rfl us hl

theorem b_Lbegin {K : PySem.W.Frag} {mg : Str → Option Value} (T : Txt K mg) : Binds K T.fd_Lbegin ["design", "world"] [] := T.F_Lbegin.binds (ps := ["design", "world"]) fun _ _ _ _ _ _ us hl => us_n2 (M := fun us => bindArgs _ ⟨us, []⟩ = pure (List.zip _ us)) (fun _ _ => rfl) us hl

theorem b_Lgoing {K : PySem.W.Frag} {mg : Str → Option Value} (T : Txt K mg) : Binds K T.fd_Lgoing ["h"] [] := T.F_Lgoing.binds (ps := ["h"]) fun _ _ _ _ _ _ us hl => us_n1 (M := fun us => bindArgs _ ⟨us, []⟩ = pure (List.zip _ us)) (fun _ => rfl) us hl

theorem b_Lnext {K : PySem.W.Frag} {mg : Str → Option Value} (T : Txt K mg) : Binds K T.fd_Lnext ["h", "one"] [] := T.F_Lnext.binds (ps := ["h", "one"]) fun _ _ _ _ _ _ us hl => us_n2 (M := fun us => bindArgs _ ⟨us, []⟩ = pure (List.zip _ us)) (fun _ _ => rfl) us hl

theorem b_Levents {K : PySem.W.Frag} {mg : Str → Option Value} (T : Txt K mg) : Binds K T.fd_Levents ["h"] [] := T.F_Levents.binds (ps := ["h"]) fun _ _ _ _ _ _ us hl => us_n1 (M := fun us => bindArgs _ ⟨us, []⟩ = pure (List.zip _ us)) (fun _ => rfl) us hl

theorem b_Lend {K : PySem.W.Frag} {mg : Str → Option Value} (T : Txt K mg) : Binds K T.fd_Lend ["h", "one", "stage"] [] := T.F_Lend.binds (ps := ["h", "one", "stage"]) fun _ _ _ _ _ _ us hl => us_n3 (M := fun us => bindArgs _ ⟨us, []⟩ = pure (List.zip _ us)) (fun _ _ _ => rfl) us hl

theorem b_Lhold {K : PySem.W.Frag} {mg : Str → Option Value} (T : Txt K mg) : Binds K T.fd_Lhold ["h", "version"] [] := T.F_Lhold.binds (ps := ["h", "version"]) fun _ _ _ _ _ _ us hl => us_n2 (M := fun us => bindArgs _ ⟨us, []⟩ = pure (List.zip _ us)) (fun _ _ => rfl) us hl

theorem b_Lnewer {K : PySem.W.Frag} {mg : Str → Option Value} (T : Txt K mg) : Binds K T.fd_Lnewer ["h", "version"] [] := T.F_Lnewer.binds (ps := ["h", "version"]) fun _ _ _ _ _ _ us hl => us_n2 (M := fun us => bindArgs _ ⟨us, []⟩ = pure (List.zip _ us)) (fun _ _ => rfl) us hl

theorem b_Llets {K : PySem.W.Frag} {mg : Str → Option Value} (T : Txt K mg) : Binds K T.fd_Llets ["h", "one"] [] := T.F_Llets.binds (ps := ["h", "one"]) fun _ _ _ _ _ _ us hl => us_n2 (M := fun us => bindArgs _ ⟨us, []⟩ = pure (List.zip _ us)) (fun _ _ => rfl) us hl

theorem b_Lwrite {K : PySem.W.Frag} {mg : Str → Option Value} (T : Txt K mg) : Binds K T.fd_Lwrite ["h", "one", "word"] [] := T.F_Lwrite.binds (ps := ["h", "one", "word"]) fun _ _ _ _ _ _ us hl => us_n3 (M := fun us => bindArgs _ ⟨us, []⟩ = pure (List.zip _ us)) (fun _ _ _ => rfl) us hl

theorem b_Lread {K : PySem.W.Frag} {mg : Str → Option Value} (T : Txt K mg) : Binds K T.fd_Lread ["h", "one", "word"] [] := T.F_Lread.binds (ps := ["h", "one", "word"]) fun _ _ _ _ _ _ us hl => us_n3 (M := fun us => bindArgs _ ⟨us, []⟩ = pure (List.zip _ us)) (fun _ _ _ => rfl) us hl

theorem b_Ldo {K : PySem.W.Frag} {mg : Str → Option Value} (T : Txt K mg) : Binds K T.fd_Ldo ["h", "event"] [] := T.F_Ldo.binds (ps := ["h", "event"]) fun _ _ _ _ _ _ us hl => us_n2 (M := fun us => bindArgs _ ⟨us, []⟩ = pure (List.zip _ us)) (fun _ _ => rfl) us hl

theorem b_Lrun {K : PySem.W.Frag} {mg : Str → Option Value} (T : Txt K mg) : Binds K T.fd_Lrun ["design", "world", "events"] [] := T.F_Lrun.binds (ps := ["design", "world", "events"]) fun _ _ _ _ _ _ us hl => us_n3 (M := fun us => bindArgs _ ⟨us, []⟩ = pure (List.zip _ us)) (fun _ _ _ => rfl) us hl

theorem b_Lwalk {K : PySem.W.Frag} {mg : Str → Option Value} (T : Txt K mg) : Binds K T.fd_Lwalk ["row", "design", "world", "most"] [] := T.F_Lwalk.binds (ps := ["row", "design", "world", "most"]) fun _ _ _ _ _ _ us hl => us_n4 (M := fun us => bindArgs _ ⟨us, []⟩ = pure (List.zip _ us)) (fun _ _ _ _ => rfl) us hl

theorem b_Lbehind {K : PySem.W.Frag} {mg : Str → Option Value} (T : Txt K mg) : Binds K T.fd_Lbehind ["h"] [] := T.F_Lbehind.binds (ps := ["h"]) fun _ _ _ _ _ _ us hl => us_n1 (M := fun us => bindArgs _ ⟨us, []⟩ = pure (List.zip _ us)) (fun _ => rfl) us hl

theorem b_Lbefore {K : PySem.W.Frag} {mg : Str → Option Value} (T : Txt K mg) : Binds K T.fd_Lbefore ["h", "one", "kind"] [] := T.F_Lbefore.binds (ps := ["h", "one", "kind"]) fun _ _ _ _ _ _ us hl => us_n3 (M := fun us => bindArgs _ ⟨us, []⟩ = pure (List.zip _ us)) (fun _ _ _ => rfl) us hl

theorem b_Lwas_quiet {K : PySem.W.Frag} {mg : Str → Option Value} (T : Txt K mg) : Binds K T.fd_Lwas_quiet ["h", "one"] [] := T.F_Lwas_quiet.binds (ps := ["h", "one"]) fun _ _ _ _ _ _ us hl => us_n2 (M := fun us => bindArgs _ ⟨us, []⟩ = pure (List.zip _ us)) (fun _ _ => rfl) us hl

theorem b_Lordered {K : PySem.W.Frag} {mg : Str → Option Value} (T : Txt K mg) : Binds K T.fd_Lordered ["left", "version"] [] := T.F_Lordered.binds (ps := ["left", "version"]) fun _ _ _ _ _ _ us hl => us_n2 (M := fun us => bindArgs _ ⟨us, []⟩ = pure (List.zip _ us)) (fun _ _ => rfl) us hl

theorem b_Lin_order {K : PySem.W.Frag} {mg : Str → Option Value} (T : Txt K mg) : Binds K T.fd_Lin_order ["h"] [] := T.F_Lin_order.binds (ps := ["h"]) fun _ _ _ _ _ _ us hl => us_n1 (M := fun us => bindArgs _ ⟨us, []⟩ = pure (List.zip _ us)) (fun _ => rfl) us hl

theorem b_Lalone {K : PySem.W.Frag} {mg : Str → Option Value} (T : Txt K mg) : Binds K T.fd_Lalone ["h", "first"] [] := T.F_Lalone.binds (ps := ["h", "first"]) fun _ _ _ _ _ _ us hl => us_n2 (M := fun us => bindArgs _ ⟨us, []⟩ = pure (List.zip _ us)) (fun _ _ => rfl) us hl

theorem b_Lat_rest {K : PySem.W.Frag} {mg : Str → Option Value} (T : Txt K mg) : Binds K T.fd_Lat_rest ["h", "promise"] [] := T.F_Lat_rest.binds (ps := ["h", "promise"]) fun _ _ _ _ _ _ us hl => us_n2 (M := fun us => bindArgs _ ⟨us, []⟩ = pure (List.zip _ us)) (fun _ _ => rfl) us hl

theorem b_Lbroken {K : PySem.W.Frag} {mg : Str → Option Value} (T : Txt K mg) : Binds K T.fd_Lbroken ["h", "promise"] [] := T.F_Lbroken.binds (ps := ["h", "promise"]) fun _ _ _ _ _ _ us hl => us_n2 (M := fun us => bindArgs _ ⟨us, []⟩ = pure (List.zip _ us)) (fun _ _ => rfl) us hl

theorem b_Lpromises {K : PySem.W.Frag} {mg : Str → Option Value} (T : Txt K mg) : Binds K T.fd_Lpromises [] [] := T.F_Lpromises.binds (ps := []) fun _ _ _ _ _ _ us hl => us_n0 (M := fun us => bindArgs _ ⟨us, []⟩ = pure (List.zip _ us)) rfl us hl

theorem b_Ldesigns {K : PySem.W.Frag} {mg : Str → Option Value} (T : Txt K mg) : Binds K T.fd_Ldesigns [] [] := T.F_Ldesigns.binds (ps := []) fun _ _ _ _ _ _ us hl => us_n0 (M := fun us => bindArgs _ ⟨us, []⟩ = pure (List.zip _ us)) rfl us hl

theorem b_Lworlds {K : PySem.W.Frag} {mg : Str → Option Value} (T : Txt K mg) : Binds K T.fd_Lworlds [] [] := T.F_Lworlds.binds (ps := []) fun _ _ _ _ _ _ us hl => us_n0 (M := fun us => bindArgs _ ⟨us, []⟩ = pure (List.zip _ us)) rfl us hl

theorem b_Lkey {K : PySem.W.Frag} {mg : Str → Option Value} (T : Txt K mg) : Binds K T.fd_Lkey ["h"] [] := T.F_Lkey.binds (ps := ["h"]) fun _ _ _ _ _ _ us hl => us_n1 (M := fun us => bindArgs _ ⟨us, []⟩ = pure (List.zip _ us)) (fun _ => rfl) us hl

/-! ### helpers -/
/-! rules whose reading names the written part: with that part outside, for a comprehension's block -/
section
variable {X : Cx} {K : PySem.W.Frag}
theorem op_inK (h : X.K = K) : OpR X (compareOp .In) (rIn K false) := h ▸ op_in_seq
theorem op_notInK (h : X.K = K) : OpR X (compareOp .NotIn) (rIn K true) := h ▸ op_notIn_seq
theorem ix_listK (h : X.K = K) : IxR X (rIxL K) := h ▸ ix_list
theorem ix_tupK (h : X.K = K) : IxR X (rIxT K) := h ▸ ix_tup
def lenK (K : PySem.W.Frag) : List V → Hp → VK → Prop := fun xs H Q => ∃ p ys, xs = [.ref p] ∧ (SqL K H p ys ∨ SqT K H p ys) ∧ Q (.int ys.length) H
theorem len_seqK (h : X.K = K) : CallR X (.builtin "len") (lenK K) := h ▸ call_len_seq
end
theorem dget {H : Hp} {a : Addr} {kvs : List (Key × V)} {x : Str} {v : V} (h : H a = some (.dK kvs)) (e : valV kvs (Sum.inr x) = some v) : DGet H a (.str x) (some v) := by
  rw [← e]
  exact DGet.k (k := Sum.inr x) h
theorem same_new {H : Hp} {p : Addr} {o : HO} (n : H p = none) : Same H (upd H p o) := fun b u e => by
  rw [upd_ne (ne_of_none e n)]
  exact e
theorem sN {H H1 : Hp} {p : Addr} {o : HO} (a : Same H H1) (n : H1 p = none) : Same H (upd H1 p o) := a.trans (same_new n)
theorem pget {α β : Type} {R : α → β → Prop} : ∀ {a : List α} {b : List β} {i : Nat} {x : α}, Paired R a b → a[i]? = some x → ∃ y, b[i]? = some y ∧ R x y
  | _, _, _, _, .nil, h => by simp at h
  | _, _, 0, _, .cons r _, h => by
    simp at h
    subst h
    exact ⟨_, rfl, r⟩
  | _, _, i + 1, _, .cons _ t, h => by
    obtain ⟨y, a, b⟩ := pget (i := i) t (by simpa using h)
    exact ⟨y, by simpa using a, b⟩
theorem small9 {n : Nat} (h : n ≤ 100 := by decide) : n < sizeLine := Nat.lt_of_le_of_lt h (by decide)
/-- what is not in F stands -/
def Keep (F : Addr → Prop) (H H' : Hp) : Prop := ∀ b o, H b = some o → ¬ F b → H' b = some o
theorem Keep.refl {F : Addr → Prop} {H : Hp} : Keep F H H := fun _ _ e _ => e
theorem Keep.trans {F : Addr → Prop} {H H1 H2 : Hp} (a : Keep F H H1) (b : Keep F H1 H2) : Keep F H H2 := fun c o e n => b c o (a c o e n) n
theorem Keep.new {F : Addr → Prop} {H H1 : Hp} {p : Addr} {o : HO} (a : Keep F H H1) (h : H1 p = none) : Keep F H (upd H1 p o) := fun c u e n => by
  have q := a c u e n
  rw [upd_ne (ne_of_none q h)]
  exact q
theorem Keep.put {F : Addr → Prop} {H H1 : Hp} {p : Addr} {o : HO} (a : Keep F H H1) (h : F p) : Keep F H (upd H1 p o) := fun c u e n => by
  have q := a c u e n
  rw [upd_ne (fun z => n (by rw [z]; exact h))]
  exact q
theorem Keep.mono {F G : Addr → Prop} {H H1 : Hp} (a : Keep F H H1) (h : ∀ b, F b → G b) : Keep G H H1 := fun c u e n => a c u e fun f => n (h c f)
theorem Keep.free {F : Addr → Prop} {H H1 : Hp} (a : Keep F H H1) {p : Addr} (h : H1 p = none) (n : ¬ F p) : H p = none := by
  cases q : H p with
  | none => rfl
  | some o =>
    rw [a p o q n] at h
    cases h
theorem Keep.same {F : Addr → Prop} {H0 H H1 : Hp} (a : Keep F H H1) (s : Same H0 H) (h : ∀ b, F b → H0 b = none) : Same H0 H1 := fun b o e => a b o (s b o e) fun f => by
  rw [h b f] at e
  cases e
end Ca

set_option Elab.async false
set_option linter.all false
set_option maxRecDepth 100000
set_option maxHeartbeats 4000000
namespace Ca
open PySem L2
/-! ### the row of draws: [script, place, mix, rest] -/
/-- what stands at a row: the script's list at a -/
def RowO (a : Addr) (o : HO) : Prop := ∃ i x y : Int, o = .lst [.ref a, .int i, .int x, .int y] ∧ 0 ≤ i ∧ 0 ≤ x ∧ x < 2147483647
/-- the row stands at r; ahead of it stood H0, the script at a in it -/
structure RowAt (K : PySem.W.Frag) (H0 : Hp) (a r : Addr) (H : Hp) : Prop where
  ex : ∃ ns : List Int, SqL K H0 a (ns.map V.int)
  no : H0 r = none
  sm : Same H0 H
  at_ : ∃ o, H r = some o ∧ RowO a o
theorem RowAt.put {K : PySem.W.Frag} {H0 H : Hp} {a r : Addr} {o : HO} (R : RowAt K H0 a r H) (h : RowO a o) : RowAt K H0 a r (upd H r o) := by
  refine ⟨R.ex, R.no, fun b u e => ?_, o, upd_same, h⟩
  rw [upd_ne (fun z => by rw [z, R.no] at e; cases e)]
  exact R.sm b u e
theorem RowAt.keep {K : PySem.W.Frag} {H0 H H' : Hp} {a r : Addr} {F : Addr → Prop} (R : RowAt K H0 a r H) (k : Keep F H H') (h : ∀ b, F b → H0 b = none) (hr : ¬ F r) : RowAt K H0 a r H' := by
  obtain ⟨o, e, q⟩ := R.at_
  exact ⟨R.ex, R.no, k.same R.sm h, o, k _ _ e hr, q⟩
/-- a draw below many: some number, the row turned, nothing else -/
@[irreducible] def spTaken (K : PySem.W.Frag) : Sp := fun vs H Q _ => ∃ (H0 : Hp) (a r : Addr) (m : Int), vs = [.ref r, .int m] ∧ RowAt K H0 a r H ∧ 0 < m ∧ m ≤ 1000 ∧ ∀ (k : Int) (o : HO), 0 ≤ k → k < m → RowO a o → Q (.int k) (upd H r o)
/-- a draw of one of some things -/
@[irreducible] def spPick (K : PySem.W.Frag) : Sp := fun vs H Q _ => ∃ (H0 : Hp) (a r l : Addr) (xs : List V), vs = [.ref r, .ref l] ∧ RowAt K H0 a r H ∧ H l = some (.lst xs) ∧ l ≠ r ∧ xs ≠ [] ∧ xs.length ≤ 1000 ∧ ∀ (x : V) (o : HO), x ∈ xs → RowO a o → Q x (upd H r o)
@[irreducible] def spPaths : Sp := fun vs H Q _ => vs = [] ∧ ∀ p, H p = none → Q (.ref p) (upd H p (.lst [.str "drop store", .str "drop store drop", .str "store", .str "store drop", .str "store set"]))
theorem taken_i {K : PySem.W.Frag} {H0 H : Hp} {a r : Addr} {m : Int} {Q : VK} {E : XK} (R : RowAt K H0 a r H) (m0 : 0 < m) (m1 : m ≤ 1000) (k : ∀ (k : Int) H', 0 ≤ k → k < m → RowAt K H0 a r H' → Keep (fun b => b = r) H H' → (∀ b, b ≠ r → H' b = H b) → Q (.int k) H') : spTaken K [.ref r, .int m] H Q E := by
  unfold spTaken
  exact ⟨H0, a, r, m, rfl, R, m0, m1, fun j o j0 j1 ro => k j _ j0 j1 (R.put ro) (Keep.refl.put rfl) fun b h => upd_ne h⟩
theorem pick_i {K : PySem.W.Frag} {H0 H : Hp} {a r l : Addr} {Q : VK} {E : XK} (xs : List V) (R : RowAt K H0 a r H) (hl : H l = some (.lst xs)) (n : l ≠ r) (h0 : xs ≠ []) (h1 : xs.length ≤ 1000) (k : ∀ x H', x ∈ xs → RowAt K H0 a r H' → Keep (fun b => b = r) H H' → Q x H') :
    spPick K [.ref r, .ref l] H Q E := by
  unfold spPick
  exact ⟨H0, a, r, l, xs, rfl, R, hl, n, h0, h1, fun x o m ro => k x _ m (R.put ro) (Keep.refl.put rfl)⟩
theorem paths_i {H : Hp} {Q : VK} {E : XK} (k : ∀ p, H p = none → Q (.ref p) (upd H p (.lst [.str "drop store", .str "drop store drop", .str "store", .str "store drop", .str "store set"]))) : spPaths [] H Q E := by
  unfold spPaths
  exact ⟨rfl, k⟩
section
variable {P : Program} {w : World} {K : PySem.W.Frag} {mg : Str → Option Value} {base : Heap}
theorem ok_Ltaken (T : Txt K mg) : FnOk P w K mg base CX0 1 T.f_Ltaken T.fd_Ltaken ["row", "many"] (spTaken K) := by
  refine T.F_Ltaken.ok sc_Ltaken (fun vs H Q E h => ?_) (fun cdv A outer s H vs Q E hr h => ?_)
  · unfold spTaken at h
    obtain ⟨H0, a, r, m, rfl, _⟩ := h
    rfl
  · unfold spTaken at h
    obtain ⟨H0, a, r, m, rfl, R, m0, m1, k⟩ := h
    have hu := hu_of hr
    obtain ⟨o, ho, i, x, y, rfl, i0, x0, x1⟩ := id R.at_
    refine ⟨_, (pss_cons (ps_if (pt_cmpR op_gt (pe_ix ix_list (pv 0) pe_int (fun _ _ => rfl)) pe_int (nomark _)) (pss_cons (ps_set (i := 2) sc_Ltaken.nd rfl (Or.inl rfl) (pe_op op_modN (pe_callTy call_int1 (by rfl) T.n_int (by decide +kernel) (pa_cons (pe_ix ix_list (pv 0) pe_int (fun _ _ => rfl)) pa_nil)) (pv 1)))
      (pss_cons (ps_asg (pe_op op_fdivN (pe_ix ix_list (pv 0) pe_int (fun _ _ => rfl)) (pv 1)) (pg_sub (pv 0) pe_int set_list))
      (pss_one (ps_ret (pv 2))))) pss_nil)
      (pss_cons (ps_asg (pe_op op_add (pe_ix ix_list (pv 0) pe_int (fun _ _ => rfl)) pe_int) (pg_sub (pv 0) pe_int set_list))
      (pss_cons (ps_if (pt_cmpR op_gt (pe_ix ix_list (pv 0) pe_int (fun _ _ => rfl)) (pe_callB call_len_seq (by rfl) T.n_len (by decide +kernel) (pa_cons (pe_ix ix_list (pv 0) pe_int (fun _ _ => rfl)) pa_nil)) (nomark _)) (pss_cons (ps_asg (pe_op op_modN (pe_callTy call_int1 (by rfl) T.n_int (by decide +kernel) (pa_cons (pe_op op_add (pe_op op_mul (pe_ix ix_list (pv 0) pe_int (fun _ _ => rfl)) pe_int) pe_int) pa_nil)) pe_int) (pg_sub (pv 0) pe_int set_list))
      (pss_one (ps_ret (pe_op op_modN (pe_callTy call_int1 (by rfl) T.n_int (by decide +kernel) (pa_cons (pe_op op_fdivN (pe_ix ix_list (pv 0) pe_int (fun _ _ => rfl)) pe_int) pa_nil)) (pv 1))))) pss_nil)
      (pss_cons (ps_set (i := 3) sc_Ltaken.nd rfl (Or.inl rfl) (pe_ix ix_list (pe_ix ix_list (pv 0) pe_int (fun _ _ => rfl)) (pe_op op_sub (pe_ix ix_list (pv 0) pe_int (fun _ _ => rfl)) pe_int) (fun _ _ => rfl)))
      (pss_cons (ps_asg (pe_op op_modN (pe_callTy call_int1 (by rfl) T.n_int (by decide +kernel) (pa_cons (pe_op op_add (pe_op op_add (pe_op op_mul (pe_ix ix_list (pv 0) pe_int (fun _ _ => rfl)) pe_int) (pv 3)) pe_int) pa_nil)) pe_int) (pg_sub (pv 0) pe_int set_list))
      (pss_cons (ps_if (pt_cmpR op_ge (pv 3) (pe_op op_pow pe_int pe_int) (nomark _)) (pss_one (ps_asg (pe_op op_fdivN (pv 3) (pv 1)) (pg_sub (pv 0) pe_int set_list))) pss_nil)
      (pss_one (ps_ret (pe_op op_modN (pe_callTy call_int1 (by rfl) T.n_int (by decide +kernel) (pa_cons (pv 3) pa_nil)) (pv 1)))))))))), ?_⟩
    refine ⟨_, rfl, _, _, _, _, rfl, rfl, SqL.of (ho), rfl, _, _, rfl, rfl, _, rfl, ?_⟩
    refine ite2 (fun hy => ?_) (fun hy => ?_)
    · have hy := of_decide_eq_true hy
      refine ⟨_, rfl, _, _, _, _, rfl, rfl, SqL.of (ho), rfl, .inl ⟨_, rfl, _, rfl, _, _, rfl, rfl, (by omega), ?_⟩⟩
      refine ⟨_, rfl, _, _, _, _, rfl, rfl, SqL.of (ho), rfl, _, rfl, _, _, rfl, rfl, ⟨by omega, by omega⟩, _, rfl, _, _, _, _, rfl, rfl, ho, rfl, ?_⟩
      refine ⟨_, rfl, ?_⟩
      exact k _ _ (Int.fmod_nonneg_of_pos _ m0) (Int.fmod_lt_of_pos _ m0) ⟨_, _, _, rfl, i0, x0, x1⟩
    · refine ⟨_, rfl, _, _, _, _, rfl, rfl, SqL.of (ho), rfl, _, _, rfl, rfl, _, rfl, _, _, _, _, rfl, rfl, ho, rfl, ?_⟩
      have h1 := upd_same (H := H) (a := r) (o := .lst [.ref a, .int (i + 1), .int x, .int y])
      have R1 : RowAt K H0 a r (upd H r (.lst [.ref a, .int (i + 1), .int x, .int y])) := R.put ⟨_, _, _, rfl, by omega, x0, x1⟩
      obtain ⟨ns, hs⟩ := R.ex
      have hS := R1.sm.seq hs
      refine ⟨_, rfl, _, _, _, _, rfl, rfl, SqL.of (h1), rfl, _, rfl, _, _, _, _, rfl, rfl, SqL.of (h1), rfl, a, ns.map V.int, rfl, .inl hS, _, _, rfl, rfl, _, rfl, ?_⟩
      refine ite2 (fun hi => ?_) (fun hi => ?_)
      · refine ⟨_, rfl, _, _, _, _, rfl, rfl, SqL.of (h1), rfl, _, _, rfl, rfl, .inl ⟨by omega, by omega⟩, _, _, rfl, rfl, .inl ⟨_, rfl, ?_⟩⟩
        refine ⟨_, _, rfl, rfl, (by show (2147483647 : Int) ≠ 0; decide), _, rfl, _, _, _, _, rfl, rfl, h1, rfl, ?_⟩
        have h2 := upd_same (H := upd H r (.lst [.ref a, .int (i + 1), .int x, .int y])) (a := r) (o := .lst [.ref a, .int (i + 1), .int ((x * 48271 + 11).fmod 2147483647), .int y])
        refine ⟨_, rfl, _, _, _, _, rfl, rfl, SqL.of (h2), rfl, _, _, rfl, rfl, ⟨by decide, by decide⟩, .inl ⟨_, rfl, _, rfl, _, _, rfl, rfl, (by omega), ?_⟩⟩
        rw [upd_upd]
        exact k _ _ (Int.fmod_nonneg_of_pos _ m0) (Int.fmod_lt_of_pos _ m0) ⟨_, _, _, rfl, by omega, Int.fmod_nonneg_of_pos _ (by decide), Int.fmod_lt_of_pos _ (by decide)⟩
      · have hi : ¬ ((ns.map V.int).length : Int) < i + 1 := of_decide_eq_false (by simpa using hi)
        have hlt : i.toNat < ns.length := by
          rw [List.length_map] at hi
          omega
        have hget : (ns.map V.int)[i.toNat]? = some (V.int (ns[i.toNat]'hlt)) := by
          rw [List.getElem?_map, List.getElem?_eq_getElem hlt]
          rfl
        refine ⟨_, rfl, _, _, _, _, rfl, rfl, SqL.of (h1), rfl, _, rfl, _, _, _, _, rfl, rfl, SqL.of (h1), rfl, _, _, rfl, rfl, a, ns.map V.int, _, _, rfl, rfl, hS, at_of (j := i.toNat) (by omega) hget, ?_⟩
        generalize ns[i.toNat]'hlt = c
        refine ⟨_, rfl, _, _, _, _, rfl, rfl, SqL.of (h1), rfl, _, _, rfl, rfl, .inl ⟨by omega, by omega⟩, _, rfl, _, _, rfl, rfl, _, _, rfl, rfl, .inl ⟨_, rfl, ?_⟩⟩
        refine ⟨_, _, rfl, rfl, (by show (2147483647 : Int) ≠ 0; decide), _, rfl, _, _, _, _, rfl, rfl, h1, rfl, ?_⟩
        refine ⟨_, rfl, _, _, rfl, rfl, ⟨by decide, by decide, by decide⟩, _, _, rfl, rfl, _, rfl, ?_⟩
        refine ite2 (fun hc => ?_) (fun hc => ?_)
        · refine ⟨_, rfl, _, rfl, _, _, rfl, rfl, ⟨by omega, by omega⟩, _, rfl, _, _, _, _, rfl, rfl, upd_same, rfl, ?_⟩
          refine ⟨_, rfl, .inl ⟨_, rfl, _, rfl, _, _, rfl, rfl, (by omega), ?_⟩⟩
          rw [upd_upd, upd_upd]
          exact k _ _ (Int.fmod_nonneg_of_pos _ m0) (Int.fmod_lt_of_pos _ m0) ⟨_, _, _, rfl, by omega, Int.fmod_nonneg_of_pos _ (by decide), Int.fmod_lt_of_pos _ (by decide)⟩
        · refine ⟨_, rfl, .inl ⟨_, rfl, _, rfl, _, _, rfl, rfl, (by omega), ?_⟩⟩
          rw [upd_upd]
          exact k _ _ (Int.fmod_nonneg_of_pos _ m0) (Int.fmod_lt_of_pos _ m0) ⟨_, _, _, rfl, by omega, Int.fmod_nonneg_of_pos _ (by decide), Int.fmod_lt_of_pos _ (by decide)⟩
theorem ok_Lpick (T : Txt K mg) : FnOk P w K mg base CX0 2 T.f_Lpick T.fd_Lpick ["row", "kinds"] (spPick K) := by
  refine T.F_Lpick.ok sc_Lpick (fun vs H Q E h => ?_) (fun cdv A outer s H vs Q E hr h => ?_)
  · unfold spPick at h
    obtain ⟨H0, a, r, l, xs, rfl, _⟩ := h
    rfl
  · unfold spPick at h
    obtain ⟨H0, a, r, l, xs, rfl, R, hl, nlr, ne, hn, k⟩ := h
    refine ⟨_, (pss_one (ps_ret (pe_ix ix_list (pv 1) (pe_call (ok_Ltaken T) (hr.mono (by decide)) rfl T.m_Ltaken T.F_Ltaken.kp (b_Ltaken T) .nil pass0 (pa_cons (pv 0) (pa_cons (pe_callB call_len_seq (by rfl) T.n_len (by decide +kernel) (pa_cons (pv 1) pa_nil)) pa_nil))) (fun _ _ => rfl)))), ?_⟩
    have hp : 0 < xs.length := List.length_pos_iff.mpr ne
    refine ⟨_, rfl, _, rfl, _, rfl, l, xs, rfl, .inl (SqL.of hl), ?_⟩
    have ht : ∀ Q' E', (∀ (j : Int) (o : HO), 0 ≤ j → j < (xs.length : Int) → RowO a o → Q' (.int j) (upd H r o)) → spTaken K [.ref r, .int (xs.length : Int)] H Q' E' := fun Q' E' k' => by
      unfold spTaken
      exact ⟨H0, a, r, _, rfl, R, by omega, by omega, k'⟩
    refine ht _ _ fun j o j0 j1 ro => ?_
    have hlt : j.toNat < xs.length := by omega
    have h2 : (upd H r o) l = some (.lst xs) := by rw [upd_ne nlr]; exact hl
    refine ⟨l, xs, j, xs[j.toNat], rfl, rfl, SqL.of h2, at_of (j := j.toNat) (by omega) (List.getElem?_eq_getElem hlt), ?_⟩
    exact k _ _ (List.getElem_mem hlt) ro
theorem ok_Lpaths (T : Txt K mg) : FnOk P w K mg base CX0 1 T.f_Lpaths T.fd_Lpaths [] (spPaths) := by
  refine T.F_Lpaths.ok sc_Lpaths (fun vs H Q E h => ?_) (fun cdv A outer s H vs Q E hr h => ?_)
  · unfold spPaths at h
    obtain ⟨rfl, _⟩ := h
    rfl
  · unfold spPaths at h
    obtain ⟨rfl, k⟩ := h
    refine ⟨_, (pss_one (ps_ret (pe_lst (pa_cons pe_str (pa_cons pe_str (pa_cons pe_str (pa_cons pe_str (pa_cons pe_str pa_nil)))))))), ?_⟩
    exact ⟨by show 5 ≤ sizeLine; decide, fun p hp => k p hp⟩
end
def pathsL : List Str := ["drop store", "drop store drop", "store", "store drop", "store set"]
def guardsL : List Str := ["always", "empty", "mark", "never", "newer", "token"]
def flightsL : List Str := ["alone", "shared"]
/-- a design's three words, a world's three -/
structure Conf where
  path : Str
  guard : Str
  flight : Str
  source : Str
  evict : Str
  stop : Str
structure Conf.Ok (c : Conf) : Prop where
  p : c.path ∈ pathsL
  g : c.guard ∈ guardsL
  f : c.flight ∈ flightsL
  s : c.source = "primary" ∨ c.source = "replica"
  e : c.evict = "evicts" ∨ c.evict = "keeps"
  t : c.stop = "finishes" ∨ c.stop = "stops"
section
variable {P : Program} {w : World} {K : PySem.W.Frag} {mg : Str → Option Value} {base : Heap}
theorem RowAt.ne {H0 H : Hp} {a r p : Addr} (R : RowAt K H0 a r H) (h : H p = none) : p ≠ r := fun z => by
  obtain ⟨o, e, _⟩ := R.at_
  rw [← z, h] at e
  cases e
end
abbrev dT (c : Conf) : HO := .tup [.str c.path, .str c.guard, .str c.flight]
abbrev wT (c : Conf) : HO := .tup [.str c.source, .str c.evict, .str c.stop]
end Ca

set_option Elab.async false
set_option linter.all false
set_option maxRecDepth 100000
set_option maxHeartbeats 4000000
namespace Ca
open PySem L2
/-! ### the law's own cache as plain data -/
def on : Option Nat → V
  | none => .non
  | some k => .int (k : Int)
structure OpS where
  number : Nat
  kind : Str
  stage : Str
  version : Option Nat
  begun : Nat
  over : Option Nat
  step : Nat
  clean : Bool
  leader : Option Nat
structure HS where
  db : Nat
  rep : Nat
  cache : Option Nat
  mark : Nat
  opn : Option Nat
  ops : List OpS
  past : List Ev
def HS.begin : HS := ⟨0, 0, none, 0, none, [], []⟩
def Conf.steps (c : Conf) : List Str := Txt.split c.path " "
def endedB (o : OpS) : Bool := decide (o.stage = "ended") || decide (o.stage = "stopped")
def going (s : HS) : List OpS := s.ops.filter fun o => !endedB o
def nextOf (s : HS) (o : OpS) : Option Str :=
  if o.stage = "waits" then (match o.leader with
    | some l => (match s.ops[l]? with
      | some q => if q.stage = "ended" then some "take" else none
      | none => none)
    | none => none)
  else some o.stage
def firstW (c : Conf) : Str := c.steps.getD 0 ""
def evA (c : Conf) (s : HS) : List Ev := [("look", some (s.ops.length : Int)), (firstW c, some (s.ops.length : Int))]
def evB (s : HS) : List Ev := (going s).filterMap fun o => (nextOf s o).map fun w => (w, some (o.number : Int))
def evC (c : Conf) (s : HS) : List Ev := if c.stop = "stops" then (going s).map fun o => ("stop", some (o.number : Int)) else []
def canEvict (c : Conf) (s : HS) : Bool := decide (c.evict = "evicts") && (s.cache.isSome || decide (0 < s.mark))
def canCopy (c : Conf) (s : HS) : Bool := decide (c.source = "replica") && decide (s.rep < s.db)
def evD (c : Conf) (s : HS) : List Ev := if canEvict c s then [("evict", none)] else []
def evE (c : Conf) (s : HS) : List Ev := if canCopy c s then [("copy", none)] else []
def evList (c : Conf) (s : HS) : List Ev := evA c s ++ evB s ++ evC c s ++ evD c s ++ evE c s
def HS.put (s : HS) (k : Nat) (o : OpS) : HS := { s with ops := s.ops.set k o }
/-- an operation ends or stops -/
def endH (s : HS) (k : Nat) (o : OpS) (st : Str) : HS :=
  let s1 := s.put k { o with stage := st, over := some s.past.length }
  if st = "ended" ∧ s.opn = some o.number then { s1 with opn := none } else s1
def holdH (c : Conf) (s : HS) (v : Nat) : HS :=
  if c.guard = "mark" then { s with cache := some v, mark := max s.mark v } else { s with cache := some v }
def newerB (s : HS) (v : Nat) : Bool := match s.cache with
  | none => true
  | some x => decide (x < v)
def letsB (c : Conf) (s : HS) (o : OpS) (v : Nat) : Bool :=
  if c.guard = "token" then o.clean else if c.guard = "mark" then decide (s.mark ≤ v)
  else decide (c.guard = "always") || (if c.guard = "newer" then newerB s v else s.cache.isNone)
def setsB (c : Conf) (s : HS) (v : Nat) : Bool := if c.guard = "mark" then decide (s.mark ≤ v) else !decide (c.guard = "newer") || newerB s v
/-! one dict after the other, as it stands in the heap -/
def hK (d w : Addr) (s : HS) (lo lp : Addr) : List (Key × V) :=
  [(.inr "design", .ref d), (.inr "world", .ref w), (.inr "db", .int (s.db : Int)), (.inr "rep", .int (s.rep : Int)), (.inr "cache", on s.cache), (.inr "mark", .int (s.mark : Int)), (.inr "open", on s.opn), (.inr "ops", .ref lo), (.inr "past", .ref lp)]
def oK (o : OpS) : List (Key × V) :=
  [(.inr "number", .int (o.number : Int)), (.inr "kind", .str o.kind), (.inr "stage", .str o.stage), (.inr "version", on o.version), (.inr "begun", .int (o.begun : Int)), (.inr "over", on o.over), (.inr "step", .int (o.step : Int)), (.inr "clean", .bl o.clean), (.inr "leader", on o.leader)]
structure LA where
  d : Addr
  w : Addr
  lo : Addr
  lp : Addr
  oas : List Addr
  eas : List Addr
def Fp (h : Addr) (A : LA) : Addr → Prop := fun b => b = h ∨ b = A.lo ∨ b = A.lp ∨ b ∈ A.oas
structure LawAt (c : Conf) (H : Hp) (h : Addr) (A : LA) (s : HS) : Prop where
  hd : H h = some (.dK (hK A.d A.w s A.lo A.lp))
  dd : H A.d = some (.tup [.str c.path, .str c.guard, .str c.flight])
  ww : H A.w = some (.tup [.str c.source, .str c.evict, .str c.stop])
  lo : H A.lo = some (.lst (A.oas.map V.ref))
  lp : H A.lp = some (.lst (A.eas.map V.ref))
  ol : A.oas.length = s.ops.length
  og : ∀ (k : Nat) a o, A.oas[k]? = some a → s.ops[k]? = some o → H a = some (.dK (oK o))
  el : A.eas.length = s.past.length
  eg : ∀ (i : Nat) a e, A.eas[i]? = some a → s.past[i]? = some e → H a = some (.tup (evV e))
  nd : A.oas.Nodup
  nl : A.lo ≠ A.lp
section
variable {c : Conf} {H H' : Hp} {h : Addr} {A : LA} {s : HS}
theorem LawAt.same (L : LawAt c H h A s) (e : Same H H') : LawAt c H' h A s :=
  ⟨e _ _ L.hd, e _ _ L.dd, e _ _ L.ww, e _ _ L.lo, e _ _ L.lp, L.ol, fun k a o p q => e _ _ (L.og k a o p q), L.el, fun i a v p q => e _ _ (L.eg i a v p q), L.nd, L.nl⟩
theorem LawAt.new {p : Addr} {o : HO} (L : LawAt c H h A s) (n : H p = none) : LawAt c (upd H p o) h A s := L.same (same_new n)
theorem LawAt.get (L : LawAt c H h A s) {k : Nat} {o : OpS} (e : s.ops[k]? = some o) : ∃ a, A.oas[k]? = some a ∧ H a = some (.dK (oK o)) := by
  have hlt : k < A.oas.length := by
    rw [L.ol]
    exact (List.getElem?_eq_some_iff.mp e).1
  exact ⟨A.oas[k], List.getElem?_eq_getElem hlt, L.og k _ o (List.getElem?_eq_getElem hlt) e⟩
theorem LawAt.ofAt (L : LawAt c H h A s) {k : Nat} {a : Addr} (e : A.oas[k]? = some a) : ∃ o, s.ops[k]? = some o ∧ H a = some (.dK (oK o)) := by
  have hlt : k < s.ops.length := by
    rw [← L.ol]
    exact (List.getElem?_eq_some_iff.mp e).1
  exact ⟨s.ops[k], List.getElem?_eq_getElem hlt, L.og k a _ e (List.getElem?_eq_getElem hlt)⟩
theorem hK_ne_oK {d w lo lp : Addr} {s : HS} {o : OpS} : hK d w s lo lp ≠ oK o := fun z => by
  have z1 := congrArg (fun l => l.map (·.1)) z
  revert z1
  show ¬ ([.inr "design", .inr "world", .inr "db", .inr "rep", .inr "cache", .inr "mark", .inr "open", .inr "ops", .inr "past"] : List Key) = [.inr "number", .inr "kind", .inr "stage", .inr "version", .inr "begun", .inr "over", .inr "step", .inr "clean", .inr "leader"]
  decide +kernel
theorem LawAt.ne_op (L : LawAt c H h A s) {k : Nat} {a : Addr} (e : A.oas[k]? = some a) : a ≠ h := by
  obtain ⟨o, _, q⟩ := L.ofAt e
  exact ne_of q L.hd fun z => hK_ne_oK (HO.dK.inj z).symm
/-- h's own ints and versions are stored -/
theorem LawAt.hput (L : LawAt c H h A s) {s' : HS} (eo : s'.ops = s.ops) (ep : s'.past = s.past) : LawAt c (upd H h (.dK (hK A.d A.w s' A.lo A.lp))) h A s' := by
  have n : ∀ {b : Addr} {o : HO}, H b = some o → (∀ kvs, o ≠ .dK kvs) → b ≠ h := fun {b o} e q z => by
    rw [z, L.hd] at e
    exact q _ (Option.some.inj e).symm
  refine ⟨upd_same, ?_, ?_, ?_, ?_, by rw [eo]; exact L.ol, fun k a o p q => ?_, by rw [ep]; exact L.el, fun i a v p q => ?_, L.nd, L.nl⟩
  · rw [upd_ne (n L.dd (by intro _ z; cases z))]; exact L.dd
  · rw [upd_ne (n L.ww (by intro _ z; cases z))]; exact L.ww
  · rw [upd_ne (n L.lo (by intro _ z; cases z))]; exact L.lo
  · rw [upd_ne (n L.lp (by intro _ z; cases z))]; exact L.lp
  · rw [upd_ne (L.ne_op p)]
    rw [eo] at q
    exact L.og k a o p q
  · rw [ep] at q
    have w := L.eg i a v p q
    rw [upd_ne (n w (by intro _ z; cases z))]
    exact w
theorem LawAt.oput (L : LawAt c H h A s) {k : Nat} {a : Addr} {o' : OpS} (e : A.oas[k]? = some a) : LawAt c (upd H a (.dK (oK o'))) h A (s.put k o') := by
  obtain ⟨o, eo, ha⟩ := L.ofAt e
  have n : ∀ {b : Addr} {u : HO}, H b = some u → (∀ kvs, u ≠ .dK kvs) → b ≠ a := fun {b u} e q z => by
    rw [z, ha] at e
    exact q _ (Option.some.inj e).symm
  refine ⟨?_, ?_, ?_, ?_, ?_, ?_, fun j b u p q => ?_, L.el, fun i b v p q => ?_, L.nd, L.nl⟩
  · rw [upd_ne (L.ne_op e).symm]; exact L.hd
  · rw [upd_ne (n L.dd (by intro _ z; cases z))]; exact L.dd
  · rw [upd_ne (n L.ww (by intro _ z; cases z))]; exact L.ww
  · rw [upd_ne (n L.lo (by intro _ z; cases z))]; exact L.lo
  · rw [upd_ne (n L.lp (by intro _ z; cases z))]; exact L.lp
  · show A.oas.length = (s.ops.set k o').length
    rw [List.length_set]
    exact L.ol
  · by_cases hj : j = k
    · subst hj
      rw [e] at p
      cases p
      have hlt : j < s.ops.length := (List.getElem?_eq_some_iff.mp eo).1
      have q' : (s.ops.set j o')[j]? = some u := q
      rw [List.getElem?_set_self hlt] at q'
      cases q'
      exact upd_same
    · have q' : (s.ops.set k o')[j]? = some u := q
      rw [List.getElem?_set_ne (Ne.symm hj)] at q'
      have nb : b ≠ a := fun z => by
        subst z
        exact hj (nd_ix L.nd p e)
      rw [upd_ne nb]
      exact L.og j b u p q'
  · have w := L.eg i b v p q
    rw [upd_ne (n w (by intro _ z; cases z))]
    exact w
/-- a new operation's dict at p is appended -/
theorem LawAt.opush (L : LawAt c H h A s) {p : Addr} {o : OpS} (np : ¬ p ∈ A.oas) (hp : H p = some (.dK (oK o))) : LawAt c (upd H A.lo (.lst (A.oas.map V.ref ++ [.ref p]))) h { A with oas := A.oas ++ [p] } { s with ops := s.ops ++ [o] } := by
  have n : ∀ {b : Addr} {u : HO}, H b = some u → (∀ kvs, u ≠ .lst kvs) → b ≠ A.lo := fun {b u} e q z => by
    rw [z, L.lo] at e
    exact q _ (Option.some.inj e).symm
  refine ⟨?_, ?_, ?_, ?_, ?_, ?_, fun j b u q1 q2 => ?_, L.el, fun i b v q1 q2 => ?_, ?_, L.nl⟩
  · rw [upd_ne (n L.hd (by intro _ z; cases z))]; exact L.hd
  · rw [upd_ne (n L.dd (by intro _ z; cases z))]; exact L.dd
  · rw [upd_ne (n L.ww (by intro _ z; cases z))]; exact L.ww
  · show upd H A.lo _ A.lo = some (.lst ((A.oas ++ [p]).map V.ref))
    rw [upd_same, List.map_append]
    rfl
  · rw [upd_ne L.nl.symm]; exact L.lp
  · show (A.oas ++ [p]).length = (s.ops ++ [o]).length
    rw [List.length_append, List.length_append, L.ol]
    rfl
  · have q1' : (A.oas ++ [p])[j]? = some b := q1
    have q2' : (s.ops ++ [o])[j]? = some u := q2
    by_cases hj : j < A.oas.length
    · rw [List.getElem?_append_left hj] at q1'
      rw [List.getElem?_append_left (by rw [← L.ol]; exact hj)] at q2'
      have z := L.og j b u q1' q2'
      rw [upd_ne (n z (by intro _ z; cases z))]
      exact z
    · rw [List.getElem?_append_right (by omega)] at q1'
      rw [List.getElem?_append_right (by rw [← L.ol]; omega)] at q2'
      have e0 : j - A.oas.length = 0 := by
        have := (List.getElem?_eq_some_iff.mp q1').1
        simp at this
        omega
      rw [e0] at q1'
      rw [← L.ol, e0] at q2'
      cases q1'
      cases q2'
      rw [upd_ne (n hp (by intro _ z; cases z))]
      exact hp
  · have w := L.eg i b v q1 q2
    rw [upd_ne (n w (by intro _ z; cases z))]
    exact w
  · show (A.oas ++ [p]).Nodup
    rw [List.nodup_append]
    refine ⟨L.nd, by simp, fun x hx y hy => ?_⟩
    simp at hy
    subst hy
    exact fun z => np (by rw [← z]; exact hx)
/-- an event is noted -/
theorem LawAt.epush (L : LawAt c H h A s) {p : Addr} {e : Ev} (hp : H p = some (.tup (evV e))) : LawAt c (upd H A.lp (.lst (A.eas.map V.ref ++ [.ref p]))) h { A with eas := A.eas ++ [p] } { s with past := s.past ++ [e] } := by
  have n : ∀ {b : Addr} {u : HO}, H b = some u → (∀ kvs, u ≠ .lst kvs) → b ≠ A.lp := fun {b u} e q z => by
    rw [z, L.lp] at e
    exact q _ (Option.some.inj e).symm
  refine ⟨?_, ?_, ?_, ?_, ?_, L.ol, fun j b u q1 q2 => ?_, ?_, fun i b v q1 q2 => ?_, L.nd, L.nl⟩
  · rw [upd_ne (n L.hd (by intro _ z; cases z))]; exact L.hd
  · rw [upd_ne (n L.dd (by intro _ z; cases z))]; exact L.dd
  · rw [upd_ne (n L.ww (by intro _ z; cases z))]; exact L.ww
  · rw [upd_ne L.nl]; exact L.lo
  · show upd H A.lp _ A.lp = some (.lst ((A.eas ++ [p]).map V.ref))
    rw [upd_same, List.map_append]
    rfl
  · have w := L.og j b u q1 q2
    rw [upd_ne (n w (by intro _ z; cases z))]
    exact w
  · show (A.eas ++ [p]).length = (s.past ++ [e]).length
    rw [List.length_append, List.length_append, L.el]
    rfl
  · have q1' : (A.eas ++ [p])[i]? = some b := q1
    have q2' : (s.past ++ [e])[i]? = some v := q2
    by_cases hj : i < A.eas.length
    · rw [List.getElem?_append_left hj] at q1'
      rw [List.getElem?_append_left (by rw [← L.el]; exact hj)] at q2'
      have z := L.eg i b v q1' q2'
      rw [upd_ne (n z (by intro _ z; cases z))]
      exact z
    · rw [List.getElem?_append_right (by omega)] at q1'
      rw [List.getElem?_append_right (by rw [← L.el]; omega)] at q2'
      have e0 : i - A.eas.length = 0 := by
        have := (List.getElem?_eq_some_iff.mp q1').1
        simp at this
        omega
      rw [e0] at q1'
      rw [← L.el, e0] at q2'
      cases q1'
      cases q2'
      rw [upd_ne (n hp (by intro _ z; cases z))]
      exact hp
end
/-! ### lists of events in the heap -/
def evOf (H : Hp) : V → Ev
  | .ref t => match H t with
    | some (.tup [.str w]) => (w, none)
    | some (.tup [.str w, .int k]) => (w, some k)
    | _ => ("", none)
  | _ => ("", none)
theorem evOf_eq {H : Hp} {t : Addr} {e : Ev} (h : H t = some (.tup (evV e))) : evOf H (.ref t) = e := by
  obtain ⟨w, k⟩ := e
  cases k <;> simp [evOf, h, evV]
abbrev EvsAt (H : Hp) (xs : List V) (es : List Ev) : Prop := Paired (fun x e => ∃ t, x = V.ref t ∧ H t = some (.tup (evV e))) xs es
theorem EvsAt.same {H H' : Hp} {xs : List V} {es : List Ev} (x : EvsAt H xs es) (s : Same H H') : EvsAt H' xs es := Paired.mapP x fun _ _ ⟨t, a, b⟩ => ⟨t, a, s _ _ b⟩
theorem EvsAt.map : ∀ {H : Hp} {xs : List V} {es : List Ev}, EvsAt H xs es → es = xs.map (evOf H)
  | _, _, _, .nil => rfl
  | H, _, _, .cons ⟨t, a, b⟩ r => by
    subst a
    rw [List.map_cons, evOf_eq b, ← EvsAt.map r]
theorem EvsAt.all : ∀ {H : Hp} {xs : List V} {es : List Ev}, EvsAt H xs es → ∀ x ∈ xs, ∃ t, x = V.ref t ∧ H t = some (.tup (evV (evOf H x)))
  | _, _, _, .nil, x, h => absurd h (by simp)
  | H, _, _, .cons ⟨t, a, b⟩ r, x, h => by
    rcases List.mem_cons.mp h with z | z
    · subst z
      subst a
      exact ⟨t, rfl, by rw [evOf_eq b]; exact b⟩
    · exact EvsAt.all r x z
theorem EvsAt.of_all {H : Hp} : ∀ {xs : List V}, (∀ x ∈ xs, ∃ t, x = V.ref t ∧ H t = some (.tup (evV (evOf H x)))) → EvsAt H xs (xs.map (evOf H))
  | [], _ => .nil
  | x :: xs, h => .cons (h x (List.mem_cons_self ..)) (EvsAt.of_all fun y hy => h y (List.mem_cons_of_mem _ hy))
theorem Paired.app {α β : Type} {R : α → β → Prop} : ∀ {a b : List α} {c d : List β}, Paired R a c → Paired R b d → Paired R (a ++ b) (c ++ d)
  | _, _, _, _, .nil, y => y
  | _, _, _, _, .cons x r, y => .cons x (Paired.app r y)
theorem EvsAt.get : ∀ {H : Hp} {xs : List V} {es : List Ev} {x : V}, EvsAt H xs es → x ∈ xs → ∃ t e, x = V.ref t ∧ H t = some (.tup (evV e)) ∧ e ∈ es
  | _, _, _, _, .nil, h => absurd h (by simp)
  | H, _, _, x, .cons ⟨t, a, b⟩ r, h => by
    rcases List.mem_cons.mp h with z | z
    · subst z
      exact ⟨t, _, a, b, List.mem_cons_self ..⟩
    · obtain ⟨t, e, a, b, c⟩ := EvsAt.get r z
      exact ⟨t, e, a, b, List.mem_cons_of_mem _ c⟩
/-- what sorted makes of such a list -/
theorem EvsAt.sorted {H : Hp} {xs ys : List V} {es : List Ev} (x : EvsAt H xs es) (s : SrtO.Srtd (fun a b => evLt (evOf H a) (evOf H b)) ys) (p : ys.Perm xs) : EvsAt H ys (ys.map (evOf H)) ∧ Srt (ys.map (evOf H)) ∧ (ys.map (evOf H)).Perm es := by
  refine ⟨EvsAt.of_all fun y hy => x.all y (p.mem_iff.mp hy), List.pairwise_map.mpr s, ?_⟩
  rw [x.map]
  exact p.map _
end Ca

set_option Elab.async false
set_option linter.all false
set_option maxRecDepth 100000
set_option maxHeartbeats 4000000
namespace Ca
open PySem L2
/-! ### tests on written words and on versions -/
theorem dput {H : Hp} {a : Addr} {kvs kvs' : List (Key × V)} {x : Str} {v : V} (h : H a = some (.dK kvs)) (e : putK kvs (Sum.inr x) v = kvs') (hl : kvs.length < sizeLine := by first | exact small9 (by show (9 : Nat) ≤ 100; decide) | exact small9 (by show (6 : Nat) ≤ 100; decide)) : DPut H a (.str x) v (upd H a (.dK kvs')) := by
  rw [← e]
  exact DPut.k (k := Sum.inr x) h hl
theorem iteS {a b : Str} {A B : Prop} (h1 : a = b → A) (h2 : ¬ a = b → B) : if decide (V.str a = V.str b) = true then A else B := by
  by_cases h : a = b
  · rw [if_pos (decide_eq_true (by rw [h]))]
    exact h1 h
  · rw [if_neg (by rw [decide_eq_false (fun z => h (V.str.inj z))]; decide)]
    exact h2 h
theorem iteSn {a b : Str} {A B : Prop} (h1 : ¬ a = b → A) (h2 : a = b → B) : if (!decide (V.str a = V.str b)) = true then A else B := by
  by_cases h : a = b
  · rw [decide_eq_true (show V.str a = V.str b by rw [h])]
    exact h2 h
  · rw [decide_eq_false (fun z => h (V.str.inj z))]
    exact h1 h
theorem on_inj {x y : Option Nat} (h : on x = on y) : x = y := by
  cases x <;> cases y <;> simp [on] at h ⊢
  omega
theorem iteO {x y : Option Nat} {A B : Prop} (h1 : x = y → A) (h2 : ¬ x = y → B) : if decide (on x = on y) = true then A else B := by
  by_cases h : x = y
  · rw [if_pos (decide_eq_true (by rw [h]))]
    exact h1 h
  · rw [if_neg (by rw [decide_eq_false (fun z => h (on_inj z))]; decide)]
    exact h2 h
theorem iteNo {x : Option Nat} {A B : Prop} (h1 : x = none → A) (h2 : ∀ v, x = some v → B) : if decide (on x = V.non) = true then A else B := by
  cases x with
  | none => exact h1 rfl
  | some v => exact h2 v rfl
theorem iteNn {x : Option Nat} {A B : Prop} (h1 : ∀ v, x = some v → A) (h2 : x = none → B) : if (!decide (on x = V.non)) = true then A else B := by
  cases x with
  | none => exact h2 rfl
  | some v => exact h1 v rfl
theorem iteI {a b : Nat} {A B : Prop} (h1 : a = b → A) (h2 : ¬ a = b → B) : if decide (V.int (a : Int) = V.int (b : Int)) = true then A else B := by
  by_cases h : a = b
  · rw [if_pos (decide_eq_true (by rw [h]))]
    exact h1 h
  · rw [if_neg (by rw [decide_eq_false (fun z => h (by have := V.int.inj z; omega))]; decide)]
    exact h2 h
theorem scal_on (x y : Option Nat) : scal (on x) (on y) = true := by cases x <;> cases y <;> rfl
theorem max_nat (a b : Nat) : (if (b : Int) > (a : Int) then (b : Int) else (a : Int)) = ((max a b : Nat) : Int) := by
  split <;> omega
/-- a change of h's things alone: what is promised of each -/
def Done (c : Conf) (h : Addr) (A : LA) (H : Hp) (s' : HS) (Q : VK) : Prop := ∀ H', LawAt c H' h A s' → Keep (Fp h A) H H' → Q .non H'
@[irreducible] def spEnd : Sp := fun vs H Q _ => ∃ (c : Conf) (h a : Addr) (A : LA) (s : HS) (k : Nat) (o : OpS) (st : Str), vs = [.ref h, .ref a, .str st] ∧ LawAt c H h A s ∧ A.oas[k]? = some a ∧ s.ops[k]? = some o ∧ Done c h A H (endH s k o st) Q
@[irreducible] def spHold : Sp := fun vs H Q _ => ∃ (c : Conf) (h : Addr) (A : LA) (s : HS) (v : Nat), vs = [.ref h, .int (v : Int)] ∧ LawAt c H h A s ∧ Done c h A H (holdH c s v) Q
@[irreducible] def spNewer : Sp := fun vs H Q _ => ∃ (c : Conf) (h : Addr) (A : LA) (s : HS) (v : Nat), vs = [.ref h, .int (v : Int)] ∧ LawAt c H h A s ∧ Q (.bl (newerB s v)) H
@[irreducible] def spLets : Sp := fun vs H Q _ => ∃ (c : Conf) (h a : Addr) (A : LA) (s : HS) (k : Nat) (o : OpS) (v : Nat), vs = [.ref h, .ref a] ∧ LawAt c H h A s ∧ A.oas[k]? = some a ∧ s.ops[k]? = some o ∧ o.version = some v ∧ Q (.bl (letsB c s o v)) H
section
variable {c : Conf} {h a : Addr} {A : LA} {s : HS} {k : Nat} {o : OpS} {st : Str} {v : Nat} {H H' : Hp} {Q : VK} {E : XK}
theorem end_i (L : LawAt c H h A s) (e : A.oas[k]? = some a) (e' : s.ops[k]? = some o) (d : Done c h A H (endH s k o st) Q) : spEnd [.ref h, .ref a, .str st] H Q E := by
  unfold spEnd
  exact ⟨c, h, a, A, s, k, o, st, rfl, L, e, e', d⟩
theorem hold_i (L : LawAt c H h A s) (d : Done c h A H (holdH c s v) Q) : spHold [.ref h, .int (v : Int)] H Q E := by
  unfold spHold
  exact ⟨c, h, A, s, v, rfl, L, d⟩
theorem newer_i (L : LawAt c H h A s) (d : Q (.bl (newerB s v)) H) : spNewer [.ref h, .int (v : Int)] H Q E := by
  unfold spNewer
  exact ⟨c, h, A, s, v, rfl, L, d⟩
theorem lets_i (L : LawAt c H h A s) (e : A.oas[k]? = some a) (e' : s.ops[k]? = some o) (ev : o.version = some v) (d : Q (.bl (letsB c s o v)) H) : spLets [.ref h, .ref a] H Q E := by
  unfold spLets
  exact ⟨c, h, a, A, s, k, o, v, rfl, L, e, e', ev, d⟩
theorem fp_op (e : A.oas[k]? = some a) : Fp h A a := .inr (.inr (.inr (List.mem_of_getElem? e)))
theorem fp_h : Fp h A h := .inl rfl
theorem put_put (s : HS) (k : Nat) (o o' : OpS) : (s.put k o).put k o' = s.put k o' := by
  unfold HS.put
  simp [List.set_set]
theorem put_get {s : HS} {k : Nat} {o o' : OpS} (e : s.ops[k]? = some o) : (s.put k o').ops[k]? = some o' := List.getElem?_set_self (List.getElem?_eq_some_iff.mp e).1
end
section
variable {P : Program} {w : World} {K : PySem.W.Frag} {mg : Str → Option Value} {base : Heap}
theorem ok_Lend (T : Txt K mg) : FnOk P w K mg base CX0 1 T.f_Lend T.fd_Lend ["h", "one", "stage"] spEnd := by
  refine T.F_Lend.ok sc_Lend (fun vs H Q E h => ?_) (fun cdv A outer s H vs Q E hr h => ?_)
  · unfold spEnd at h
    obtain ⟨c, h, a, A, s, k, o, st, rfl, _⟩ := h
    rfl
  · unfold spEnd at h
    obtain ⟨c, h, a, A, s, k, o, st, rfl, L, e, e', d⟩ := h
    have hu := hu_of hr
    refine ⟨_, (pss_cons (ps_asg (pe_tup (pa_cons (pv 2) (pa_cons (pe_callB call_len_seq (by rfl) T.n_len (by decide +kernel) (pa_cons (pe_dget hu (pv 0) pe_str (fun _ _ => rfl)) pa_nil)) pa_nil))) (pg_tup rfl (pgs_cons (pg_sub (pv 1) pe_str (set_dict hu)) (pgs_cons (pg_sub (pv 1) pe_str (set_dict hu)) pgs_nil))))
      (pss_one (ps_if (PW.pt (pw_and (pt_cmpR op_eq (pv 2) pe_str (nomark _)) (pw_and1 (pt_cmpR op_eq (pe_dget hu (pv 0) pe_str (fun _ _ => rfl)) (pe_dget hu (pv 1) pe_str (fun _ _ => rfl)) (nomark _))))) (pss_one (ps_dput hu (pv 0) pe_str pe_non rfl)) pss_nil))), ?_⟩
    refine ⟨_, rfl, _, rfl, _, _, rfl, dget (L.hd) rfl, _, _, rfl, .inl (SqL.of L.lp), (by show 2 ≤ sizeLine; decide), fun p np => ?_⟩
    have L1 := L.new (o := .tup [.str st, .int ((A.eas.map V.ref).length : Int)]) np
    have K1 := (Keep.refl (F := Fp h A) (H := H)).new (o := .tup [.str st, .int ((A.eas.map V.ref).length : Int)]) np
    have hT : (upd H p (.tup [.str st, .int ((A.eas.map V.ref).length : Int)])) p = some (.tup [.str st, .int ((A.eas.map V.ref).length : Int)]) := upd_same
    have eL : ((A.eas.map V.ref).length : Int) = (s.past.length : Int) := by rw [List.length_map, L.el]
    rw [eL] at L1 K1 hT ⊢
    generalize upd H p (.tup [.str st, .int (s.past.length : Int)]) = H1 at L1 K1 hT
    refine ⟨_, _, rfl, SqT.of hT, rfl, _, _, rfl, _, rfl, _, _, rfl, dput (kvs' := oK { o with stage := st }) (L1.og k a o e e') rfl, ?_⟩
    have L2 := L1.oput (o' := { o with stage := st }) e
    have g2 := put_get (o' := { o with stage := st }) e'
    refine ⟨_, _, rfl, _, rfl, _, _, rfl, dput (kvs' := oK { o with stage := st, over := some s.past.length }) (L2.og k a _ e g2) rfl, rfl, ?_⟩
    have L3 := L2.oput (o' := { o with stage := st, over := some s.past.length }) e
    rw [put_put] at L3
    have g3 := put_get (o' := { o with stage := st, over := some s.past.length }) e'
    have K3 := (K1.put (o := .dK (oK { o with stage := st })) (fp_op e)).put (o := .dK (oK { o with stage := st, over := some s.past.length })) (fp_op e)
    generalize upd (upd H1 a _) a _ = H3 at L3 K3
    refine ⟨_, rfl, rfl, _, rfl, ?_⟩
    refine iteS (fun q => ?_) (fun q => ?_)
    · refine ⟨_, rfl, _, _, rfl, dget (L3.hd) rfl, _, rfl, _, _, rfl, dget (L3.og k a _ e g3) rfl, scal_on _ (some o.number), _, rfl, ?_⟩
      refine iteO (y := some o.number) (fun q2 => ?_) (fun q2 => ?_)
      · refine ⟨_, rfl, _, _, rfl, dput (kvs' := hK A.d A.w { s.put k { o with stage := st, over := some s.past.length } with opn := none } A.lo A.lp) L3.hd rfl, ?_⟩
        refine d _ ?_ (K3.put fp_h)
        have z : endH s k o st = { s.put k { o with stage := st, over := some s.past.length } with opn := none } := if_pos ⟨q, q2⟩
        rw [z]
        exact L3.hput rfl rfl
      · refine d _ ?_ K3
        have z : endH s k o st = s.put k { o with stage := st, over := some s.past.length } := if_neg fun y => q2 y.2
        rw [z]
        exact L3
    · refine d _ ?_ K3
      have z : endH s k o st = s.put k { o with stage := st, over := some s.past.length } := if_neg fun y => q y.1
      rw [z]
      exact L3
theorem ok_Lhold (T : Txt K mg) : FnOk P w K mg base CX0 1 T.f_Lhold T.fd_Lhold ["h", "version"] spHold := by
  refine T.F_Lhold.ok sc_Lhold (fun vs H Q E h => ?_) (fun cdv A outer s H vs Q E hr h => ?_)
  · unfold spHold at h
    obtain ⟨c, h, A, s, v, rfl, _⟩ := h
    rfl
  · unfold spHold at h
    obtain ⟨c, h, A, s, v, rfl, L, d⟩ := h
    have hu := hu_of hr
    refine ⟨_, (pss_cons (ps_dput hu (pv 0) pe_str (pv 1) rfl)
      (pss_one (ps_if (pt_cmpR op_eq (pe_ix ix_tup (pe_dget hu (pv 0) pe_str (fun _ _ => rfl)) pe_int (fun _ _ => rfl)) pe_str (nomark _)) (pss_one (ps_dput hu (pv 0) pe_str (pe_callB (call_max2 rfl) (by rfl) T.n_max (by decide +kernel) (pa_cons (pe_dget hu (pv 0) pe_str (fun _ _ => rfl)) (pa_cons (pv 1) pa_nil))) rfl)) pss_nil))), ?_⟩
    refine ⟨_, rfl, _, rfl, _, _, rfl, dput (kvs' := hK A.d A.w { s with cache := some v } A.lo A.lp) L.hd rfl, ?_⟩
    have L1 := L.hput (s' := { s with cache := some v }) rfl rfl
    have K1 := (Keep.refl (F := Fp h A) (H := H)).put (o := .dK (hK A.d A.w { s with cache := some v } A.lo A.lp)) (p := h) fp_h
    generalize upd H h _ = H1 at L1 K1
    refine ⟨_, rfl, _, _, rfl, dget (L1.hd) rfl, _, _, _, _, rfl, rfl, SqT.of (L1.dd), rfl, rfl, _, rfl, ?_⟩
    refine iteS (fun q => ?_) (fun q => ?_)
    · refine ⟨_, rfl, _, _, rfl, dget (L1.hd) rfl, _, rfl, _, _, rfl, _, rfl, _, _, rfl, dput (kvs' := hK A.d A.w { s with cache := some v, mark := max s.mark v } A.lo A.lp) L1.hd (by
        show putK _ _ (V.int (if (v : Int) > (s.mark : Int) then (v : Int) else (s.mark : Int))) = _
        rw [max_nat]
        rfl), ?_⟩
      refine d _ ?_ (K1.put fp_h)
      have z : holdH c s v = { s with cache := some v, mark := max s.mark v } := if_pos q
      rw [z]
      exact L1.hput rfl rfl
    · refine d _ ?_ K1
      have z : holdH c s v = { s with cache := some v } := if_neg q
      rw [z]
      exact L1
theorem ok_Lnewer (T : Txt K mg) : FnOk P w K mg base CX0 1 T.f_Lnewer T.fd_Lnewer ["h", "version"] spNewer := by
  refine T.F_Lnewer.ok sc_Lnewer (fun vs H Q E h => ?_) (fun cdv A outer s H vs Q E hr h => ?_)
  · unfold spNewer at h
    obtain ⟨c, h, A, s, v, rfl, _⟩ := h
    rfl
  · unfold spNewer at h
    obtain ⟨c, h, A, s, v, rfl, L, d⟩ := h
    have hu := hu_of hr
    refine ⟨_, (pss_one (ps_ret (pe_or (pe_cmpR op_isN (pe_dget hu (pv 0) pe_str (fun _ _ => rfl)) pe_non (nomark _)) (pe_one (pe_cmpR op_lt (pe_dget hu (pv 0) pe_str (fun _ _ => rfl)) (pv 1) (nomark _)))))), ?_⟩
    refine ⟨_, rfl, _, _, rfl, dget (L.hd) rfl, rfl, _, rfl, ?_⟩
    refine iteNo (fun q => ?_) (fun x q => ?_)
    · have z : newerB s v = true := by unfold newerB; rw [q]
      rw [z] at d
      exact d
    · have z : newerB s v = decide (x < v) := by unfold newerB; rw [q]
      rw [z] at d
      refine ⟨_, rfl, _, _, rfl, dget (L.hd) rfl, _, rfl, (x : Int), (v : Int), (by rw [q]; rfl), rfl, ?_⟩
      have e : decide ((x : Int) < (v : Int)) = decide (x < v) := by simp
      show Q (.bl (decide ((x : Int) < (v : Int)))) H
      rw [e]
      exact d
theorem ok_Llets (T : Txt K mg) : FnOk P w K mg base CX0 2 T.f_Llets T.fd_Llets ["h", "one"] spLets := by
  refine T.F_Llets.ok sc_Llets (fun vs H Q E h => ?_) (fun cdv A outer s H vs Q E hr h => ?_)
  · unfold spLets at h
    obtain ⟨c, h, a, A, s, k, o, v, rfl, _⟩ := h
    rfl
  · unfold spLets at h
    obtain ⟨c, h, a, A, s, k, o, v, rfl, L, e, e', ev, d⟩ := h
    have hu := hu_of hr
    refine ⟨_, (pss_cons (ps_par (i := 2) (j := 3) rfl sc_Llets.nd rfl rfl (by decide) rfl rfl (pa_cons (pe_ix ix_tup (pe_dget hu (pv 0) pe_str (fun _ _ => rfl)) pe_int (fun _ _ => rfl)) (pa_cons (pe_dget hu (pv 1) pe_str (fun _ _ => rfl)) pa_nil)) (by rfl))
      (pss_cons (ps_if (pt_cmpR op_eq (pv 2) pe_str (nomark _)) (pss_one (ps_ret (pe_dget hu (pv 1) pe_str (fun _ _ => rfl)))) pss_nil)
      (pss_cons (ps_if (pt_cmpR op_eq (pv 2) pe_str (nomark _)) (pss_one (ps_ret (pe_cmpR op_ge (pv 3) (pe_dget hu (pv 0) pe_str (fun _ _ => rfl)) (nomark _)))) pss_nil)
      (pss_one (ps_ret (pe_or (pe_cmpR op_eq (pv 2) pe_str (nomark _)) (pe_one (pe_ifExp (pt_cmpR op_eq (pv 2) pe_str (nomark _)) (pe_call (ok_Lnewer T) (hr.mono (by decide)) rfl T.m_Lnewer T.F_Lnewer.kp (b_Lnewer T) .nil pass0 (pa_cons (pv 0) (pa_cons (pv 3) pa_nil))) (pe_cmpR op_isN (pe_dget hu (pv 0) pe_str (fun _ _ => rfl)) pe_non (nomark _)))))))))), ?_⟩
    refine ⟨_, rfl, _, _, rfl, dget (L.hd) rfl, _, _, _, _, rfl, rfl, SqT.of (L.dd), rfl, _, rfl, _, _, rfl, dget (L.og k a o e e') rfl, _, _, rfl, ?_⟩
    have d1 := d
    have L1 := L
    unfold letsB at d1
    refine ⟨_, rfl, rfl, _, rfl, ?_⟩
    refine iteS (fun q => ?_) (fun q => ?_)
    · rw [if_pos q] at d1
      exact ⟨_, rfl, _, _, rfl, dget (L1.og k a o e e') rfl, d1⟩
    rw [if_neg q] at d1
    refine ⟨_, rfl, rfl, _, rfl, ?_⟩
    refine iteS (fun q2 => ?_) (fun q2 => ?_)
    · rw [if_pos q2] at d1
      refine ⟨_, rfl, _, rfl, _, _, rfl, dget (L1.hd) rfl, (v : Int), (s.mark : Int), (by rw [ev]; rfl), rfl, ?_⟩
      have z : decide ((s.mark : Int) ≤ (v : Int)) = decide (s.mark ≤ v) := by simp
      show Q (.bl (decide ((s.mark : Int) ≤ (v : Int)))) H
      rw [z]
      exact d1
    rw [if_neg q2] at d1
    refine ⟨_, rfl, rfl, _, rfl, ?_⟩
    refine iteS (fun q3 => ?_) (fun q3 => ?_)
    · rw [decide_eq_true q3, Bool.true_or] at d1
      exact d1
    rw [decide_eq_false q3, Bool.false_or] at d1
    refine ⟨_, rfl, rfl, _, rfl, ?_⟩
    refine iteS (fun q4 => ?_) (fun q4 => ?_)
    · rw [if_pos q4] at d1
      refine ⟨_, rfl, _, rfl, ?_⟩
      rw [ev]
      exact newer_i L1 d1
    · rw [if_neg q4] at d1
      refine ⟨_, rfl, _, _, rfl, dget (L1.hd) rfl, rfl, ?_⟩
      cases q5 : s.cache with
      | none =>
        rw [q5] at d1
        exact d1
      | some x =>
        rw [q5] at d1
        exact d1
end
end Ca

set_option Elab.async false
set_option linter.all false
set_option maxRecDepth 100000
set_option maxHeartbeats 4000000
namespace Ca
open PySem L2
/-! ### a step of a write, a step of a read -/
def cf (o : OpS) : OpS := { o with clean := false }
def wr1 (s : HS) (k : Nat) (o : OpS) (w : Str) : HS := if w = "store" then { s with db := s.db + 1, ops := s.ops.set k { o with version := some (s.db + 1) } } else { s with ops := s.ops.map cf }
def wo1 (s : HS) (o : OpS) (w : Str) : OpS := if w = "store" then { o with version := some (s.db + 1) } else cf o
def wr2 (c : Conf) (s : HS) (o : OpS) (w : Str) : HS := if w = "drop" then (if c.guard = "mark" ∧ o.version.isSome then { s with cache := none, mark := max s.mark (o.version.getD 0) } else { s with cache := none }) else s
def wr3 (c : Conf) (s : HS) (o : OpS) (w : Str) : HS := if w = "set" then (if setsB c s (o.version.getD 0) then holdH c s (o.version.getD 0) else s) else s
def wr4 (c : Conf) (s : HS) (k : Nat) (o : OpS) : HS :=
  if o.step + 1 = c.steps.length then endH (s.put k { o with step := o.step + 1 }) k { o with step := o.step + 1 } "ended"
  else s.put k { o with step := o.step + 1, stage := c.steps.getD (o.step + 1) "" }
def writeH (c : Conf) (s : HS) (k : Nat) (o : OpS) (w : Str) : HS := wr4 c (wr3 c (wr2 c (wr1 s k o w) (wo1 s o w) w) (wo1 s o w) w) k (wo1 s o w)
def leadV (s : HS) (o : OpS) : Option Nat := match o.leader with
  | some l => (match s.ops[l]? with
    | some q => q.version
    | none => none)
  | none => none
def readH (c : Conf) (s : HS) (k : Nat) (o : OpS) (w : Str) : HS :=
  if w = "look" ∧ s.cache.isSome then endH (s.put k { o with version := s.cache }) k { o with version := s.cache } "ended"
  else if w = "look" ∧ s.opn.isSome then s.put k { o with stage := "waits", leader := s.opn }
  else if w = "look" then { s.put k { o with stage := "fetch" } with opn := if c.flight = "shared" then some o.number else none }
  else if w = "fetch" then (if c.guard = "never" then endH (s.put k { o with version := some (if c.source = "replica" then s.rep else s.db), stage := "fill" }) k { o with version := some (if c.source = "replica" then s.rep else s.db), stage := "fill" } "ended"
    else s.put k { o with version := some (if c.source = "replica" then s.rep else s.db), stage := "fill" })
  else if w = "take" then endH (s.put k { o with version := leadV s o }) k { o with version := leadV s o } "ended"
  else endH (if letsB c s o (o.version.getD 0) then holdH c s (o.version.getD 0) else s) k o "ended"
theorem hold_ops {c : Conf} {s : HS} {v : Nat} : (holdH c s v).ops = s.ops := by
  unfold holdH
  split <;> rfl
theorem Conf.Ok.plen {c : Conf} (O : c.Ok) : c.path.length + 2 ≤ sizeLine := by
  have := O.p
  simp only [pathsL, List.mem_cons, List.not_mem_nil, or_false] at this
  rcases this with e | e | e | e | e <;> rw [e] <;> decide +kernel
theorem Conf.Ok.slen {c : Conf} (O : c.Ok) : 0 < c.steps.length ∧ c.steps.length ≤ 3 := by
  have := O.p
  simp only [pathsL, List.mem_cons, List.not_mem_nil, or_false] at this
  unfold Conf.steps
  rcases this with e | e | e | e | e <;> rw [e] <;> decide +kernel
theorem cl_step {l : List OpS} {i : Nat} {o : OpS} (e : l[i]? = some o) : ((l.take i).map cf ++ l.drop i).set i (cf o) = (l.take (i + 1)).map cf ++ l.drop (i + 1) := by
  have hlt := (List.getElem?_eq_some_iff.mp e).1
  have h1 : ((l.take i).map cf).length = i := by rw [List.length_map, List.length_take]; omega
  have h2 : l.drop i = o :: l.drop (i + 1) := by
    rw [List.drop_eq_getElem_cons hlt]
    have := (List.getElem?_eq_some_iff.mp e).2
    rw [this]
  have h3 : l.take (i + 1) = l.take i ++ [o] := by
    rw [List.take_succ, e]
    rfl
  rw [List.set_append_right _ _ (by omega), h1, Nat.sub_self, h2, List.set_cons_zero, h3, List.map_append, List.append_assoc]
  rfl
theorem cl_get {l : List OpS} {i : Nat} : ((l.take i).map cf ++ l.drop i)[i]? = l[i]? := by
  by_cases hlt : i < l.length
  · have h1 : ((l.take i).map cf).length = i := by rw [List.length_map, List.length_take]; omega
    rw [List.getElem?_append_right (by omega), h1, Nat.sub_self, List.getElem?_drop]
    rfl
  · rw [List.getElem?_eq_none (l := l) (by omega), List.getElem?_eq_none]
    rw [List.length_append, List.length_map, List.length_take, List.length_drop]
    omega
@[irreducible] def spWrite : Sp := fun vs H Q _ => ∃ (c : Conf) (h a : Addr) (A : LA) (s : HS) (k : Nat) (o : OpS) (w : Str), vs = [.ref h, .ref a, .str w] ∧ c.Ok ∧ LawAt c H h A s ∧ A.oas[k]? = some a ∧ s.ops[k]? = some o ∧ o.step < c.steps.length ∧ (w = "set" → o.version.isSome = true) ∧ Done c h A H (writeH c s k o w) Q
@[irreducible] def spRead : Sp := fun vs H Q _ => ∃ (c : Conf) (h a : Addr) (A : LA) (s : HS) (k : Nat) (o : OpS) (w : Str), vs = [.ref h, .ref a, .str w] ∧ c.Ok ∧ LawAt c H h A s ∧ A.oas[k]? = some a ∧ s.ops[k]? = some o ∧
  (w = "take" → ∃ l q, o.leader = some l ∧ s.ops[l]? = some q) ∧ (w = "look" ∨ w = "fetch" ∨ w = "take" ∨ o.version.isSome = true) ∧ Done c h A H (readH c s k o w) Q
section
variable {c : Conf} {h a : Addr} {A : LA} {s : HS} {k : Nat} {o : OpS} {w : Str} {H H' : Hp} {Q : VK} {E : XK}
theorem write_i (O : c.Ok) (L : LawAt c H h A s) (e : A.oas[k]? = some a) (e' : s.ops[k]? = some o) (h1 : o.step < c.steps.length) (h2 : w = "set" → o.version.isSome = true) (d : Done c h A H (writeH c s k o w) Q) : spWrite [.ref h, .ref a, .str w] H Q E := by
  unfold spWrite
  exact ⟨c, h, a, A, s, k, o, w, rfl, O, L, e, e', h1, h2, d⟩
theorem read_i (O : c.Ok) (L : LawAt c H h A s) (e : A.oas[k]? = some a) (e' : s.ops[k]? = some o) (h1 : w = "take" → ∃ l q, o.leader = some l ∧ s.ops[l]? = some q) (h2 : w = "look" ∨ w = "fetch" ∨ w = "take" ∨ o.version.isSome = true)
    (d : Done c h A H (readH c s k o w) Q) : spRead [.ref h, .ref a, .str w] H Q E := by
  unfold spRead
  exact ⟨c, h, a, A, s, k, o, w, rfl, O, L, e, e', h1, h2, d⟩
theorem offF {F : Addr → Prop} {H : Hp} {p x : Addr} {o u : HO} (n : ¬ F p) (f : F x) (h : H p = some u) : upd H x o p = some u := by
  rw [upd_ne (fun z => n (by rw [z]; exact f))]
  exact h
theorem LawAt.nfp (L : LawAt c H h A s) {p : Addr} (n : H p = none) : ¬ Fp h A p := by
  rintro (z | z | z | z)
  · rw [z, L.hd] at n; cases n
  · rw [z, L.lo] at n; cases n
  · rw [z, L.lp] at n; cases n
  · obtain ⟨k, hk, e⟩ := List.getElem_of_mem z
    obtain ⟨o, _, q⟩ := L.ofAt (k := k) (a := p) (by rw [List.getElem?_eq_getElem hk, e])
    rw [q] at n; cases n
end
section
variable {P : Program} {w : World} {K : PySem.W.Frag} {mg : Str → Option Value} {base : Heap}
theorem ok_Lwrite (T : Txt K mg) : FnOk P w K mg base CX0 2 T.f_Lwrite T.fd_Lwrite ["h", "one", "word"] spWrite := by
  refine T.F_Lwrite.ok sc_Lwrite (fun vs H Q E h => ?_) (fun cdv A outer s H vs Q E hr h => ?_)
  · unfold spWrite at h
    obtain ⟨c, h, a, A, s, k, o, w, rfl, _⟩ := h
    rfl
  · unfold spWrite at h
    obtain ⟨c, h, a, A, s, k, o, w, rfl, O, L, e, e', hst, hv, d⟩ := h
    have hu := hu_of hr
    refine ⟨_, (pss_cons (ps_par (i := 3) (j := 4) rfl sc_Lwrite.nd rfl rfl (by decide) rfl rfl (pa_cons (pe_split (pe_ix ix_tup (pe_dget hu (pv 0) pe_str (fun _ _ => rfl)) pe_int (fun _ _ => rfl)) pe_str) (pa_cons (pe_ix ix_tup (pe_dget hu (pv 0) pe_str (fun _ _ => rfl)) pe_int (fun _ _ => rfl)) pa_nil)) (by rfl))
      (Evl.pss_cut (ps_if (pt_cmpR op_eq (pv 2) pe_str (nomark _)) (pss_cons (ps_dput hu (pv 0) pe_str (pe_op op_add (pe_dget hu (pv 0) pe_str (fun _ _ => rfl)) pe_int) rfl)
      (pss_one (ps_dput hu (pv 1) pe_str (pe_dget hu (pv 0) pe_str (fun _ _ => rfl)) rfl))) (pss_one (ps_for PassesOwn.never rfl (pi_list (pe_dget hu (pv 0) pe_str (fun _ _ => rfl))) (pg_name (i := 5) sc_Lwrite.nd rfl (Or.inl rfl)) (pss_one (ps_dput hu (pv 5) pe_str pe_bl rfl)))))
      (Evl.pss_cut (ps_if (pt_cmpR op_eq (pv 2) pe_str (nomark _)) (pss_cons (ps_dput hu (pv 0) pe_str pe_non rfl)
      (pss_one (ps_if (PW.pt (pw_and (pt_cmpR op_eq (pv 4) pe_str (nomark _)) (pw_and1 (pt_cmpR op_notN (pe_dget hu (pv 1) pe_str (fun _ _ => rfl)) pe_non (nomark _))))) (pss_one (ps_dput hu (pv 0) pe_str (pe_callB (call_max2 rfl) (by rfl) T.n_max (by decide +kernel) (pa_cons (pe_dget hu (pv 0) pe_str (fun _ _ => rfl)) (pa_cons (pe_dget hu (pv 1) pe_str (fun _ _ => rfl)) pa_nil))) rfl)) pss_nil))) pss_nil)
      (Evl.pss_cut (ps_if (pt_cmpR op_eq (pv 2) pe_str (nomark _)) (Evl.pss_cut (ps_set (i := 6) sc_Lwrite.nd rfl (Or.inl rfl) (pe_ifExp (pt_cmpR op_eq (pv 4) pe_str (nomark _)) (pe_cmpR op_ge (pe_dget hu (pv 1) pe_str (fun _ _ => rfl)) (pe_dget hu (pv 0) pe_str (fun _ _ => rfl)) (nomark _)) (pe_or (pe_cmpR op_ne (pv 4) pe_str (nomark _)) (pe_one (pe_call (ok_Lnewer T) (hr.mono (by decide)) rfl T.m_Lnewer T.F_Lnewer.kp (b_Lnewer T) .nil pass0 (pa_cons (pv 0) (pa_cons (pe_dget hu (pv 1) pe_str (fun _ _ => rfl)) pa_nil)))))))
      (pss_one (ps_if (pt_val (pv 6)) (pss_one (ps_expr (pe_call (ok_Lhold T) (hr.mono (by decide)) rfl T.m_Lhold T.F_Lhold.kp (b_Lhold T) .nil pass0 (pa_cons (pv 0) (pa_cons (pe_dget hu (pv 1) pe_str (fun _ _ => rfl)) pa_nil))))) pss_nil))) pss_nil)
      (pss_cons (ps_dput hu (pv 1) pe_str (pe_op op_add (pe_dget hu (pv 1) pe_str (fun _ _ => rfl)) pe_int) rfl)
      (pss_one (ps_if (pt_cmpR op_eq (pe_dget hu (pv 1) pe_str (fun _ _ => rfl)) (pe_callB call_len_seq (by rfl) T.n_len (by decide +kernel) (pa_cons (pv 3) pa_nil)) (nomark _)) (pss_one (ps_expr (pe_call (ok_Lend T) (hr.mono (by decide)) rfl T.m_Lend T.F_Lend.kp (b_Lend T) .nil pass0 (pa_cons (pv 0) (pa_cons (pv 1) (pa_cons pe_str pa_nil)))))) (pss_one (ps_dput hu (pv 1) pe_str (pe_ix ix_list (pv 3) (pe_dget hu (pv 1) pe_str (fun _ _ => rfl)) (fun _ _ => rfl)) rfl))))))))), ?_⟩
    refine ⟨_, rfl, _, _, rfl, dget (L.hd) rfl, _, _, _, _, rfl, rfl, SqT.of (L.dd), rfl, ⟨_, rfl⟩, _, _, rfl, rfl, rfl, O.plen, fun p np => ?_⟩
    have L1 := L.new (o := .lst ((Txt.split c.path " ").map V.str)) np
    have K1 := (Keep.refl (F := Fp h A) (H := H)).new (o := .lst ((Txt.split c.path " ").map V.str)) np
    have hp : (upd H p (.lst ((Txt.split c.path " ").map V.str))) p = some (.lst (c.steps.map V.str)) := upd_same
    have fp := L.nfp np
    generalize upd H p (.lst ((Txt.split c.path " ").map V.str)) = H1 at L1 K1 hp ⊢
    refine ⟨_, rfl, _, _, rfl, dget (L1.hd) rfl, _, _, _, _, rfl, rfl, SqT.of (L1.dd), rfl, _, _, rfl, ?_⟩
    refine ⟨fun σ' H' => ∃ x, σ' = [some (.ref h), some (.ref a), some (.str w), some (.ref p), some (.str c.guard), x, none] ∧ LawAt c H' h A (wr1 s k o w) ∧ (wr1 s k o w).ops[k]? = some (wo1 s o w) ∧ Keep (Fp h A) H H' ∧ H' p = some (.lst (c.steps.map V.str)), ?_, ?_⟩
    · refine ⟨_, rfl, rfl, _, rfl, ?_⟩
      refine iteS (fun q => ?_) (fun q => ?_)
      · refine ⟨_, rfl, _, _, rfl, dget (L1.hd) rfl, _, _, rfl, rfl, _, rfl, _, _, rfl, dput (kvs' := hK A.d A.w { s with db := s.db + 1 } A.lo A.lp) L1.hd (by show putK _ _ (V.int ((s.db : Int) + 1)) = hK _ _ _ _ _; rfl), ?_⟩
        have L2 := L1.hput (s' := { s with db := s.db + 1 }) rfl rfl
        have K2 := K1.put (o := .dK (hK A.d A.w { s with db := s.db + 1 } A.lo A.lp)) (fp_h (A := A))
        have hp2 : upd H1 h (.dK (hK A.d A.w { s with db := s.db + 1 } A.lo A.lp)) p = some (.lst (c.steps.map V.str)) := offF fp (fp_h) hp
        generalize upd H1 h _ = H2 at L2 K2 hp2
        refine ⟨_, rfl, _, _, rfl, dget (L2.hd) rfl, _, rfl, _, _, rfl, dput (kvs' := oK { o with version := some (s.db + 1) }) (L2.og k a o e e') rfl, ?_⟩
        have z1 : wr1 s k o w = { s with db := s.db + 1, ops := s.ops.set k { o with version := some (s.db + 1) } } := if_pos q
        have z2 : wo1 s o w = { o with version := some (s.db + 1) } := if_pos q
        rw [z1, z2]
        exact ⟨none, rfl, L2.oput e, put_get e', K2.put (fp_op e), offF fp (fp_op e) hp2⟩
      · have z1 : wr1 s k o w = { s with ops := s.ops.map cf } := if_neg q
        have z2 : wo1 s o w = cf o := if_neg q
        rw [z1, z2]
        refine ⟨_, rfl, _, _, rfl, dget (L1.hd) rfl, A.lo, rfl, ⟨_, SqL.of L1.lo⟩, for_list (K := K) (a := A.lo) (xs := A.oas.map V.ref) (fun i σ' H' => ∃ x, σ' = [some (.ref h), some (.ref a), some (.str w), some (.ref p), some (.str c.guard), x, none] ∧ LawAt c H' h A { s with ops := (s.ops.take i).map cf ++ s.ops.drop i } ∧ Keep (Fp h A) H H' ∧ H' p = some (.lst (c.steps.map V.str)))
          ⟨none, rfl, L1, K1, hp⟩ (fun i σ' H' _ ⟨_, _, L2, _⟩ => SqL.of L2.lo) ?_ ?_⟩
        · rintro i y σ' H' hi ⟨x, rfl, L2, K2, hp2⟩
          rw [List.getElem?_map] at hi
          obtain ⟨b, eb, rfl⟩ : ∃ b, A.oas[i]? = some b ∧ V.ref b = y := by
            cases ez : A.oas[i]? with
            | none => rw [ez] at hi; cases hi
            | some b => rw [ez] at hi; exact ⟨b, rfl, Option.some.inj hi⟩
          obtain ⟨o2, eo2, ho2⟩ := L2.ofAt eb
          have eo2' : s.ops[i]? = some o2 := by
            rw [← cl_get (l := s.ops)]
            exact eo2
          refine ⟨_, rfl, _, _, rfl, dput (kvs' := oK (cf o2)) ho2 rfl, ?_⟩
          have L3 := L2.oput (o' := cf o2) eb
          have z3 : ({ s with ops := (s.ops.take i).map cf ++ s.ops.drop i } : HS).put i (cf o2) = { s with ops := (s.ops.take (i + 1)).map cf ++ s.ops.drop (i + 1) } := by
            unfold HS.put
            rw [cl_step eo2']
          rw [z3] at L3
          exact ⟨_, rfl, L3, K2.put (fp_op eb), offF fp (fp_op eb) hp2⟩
        · rintro σ' H' ⟨x, rfl, L2, K2, hp2⟩
          have z3 : (s.ops.take (A.oas.map V.ref).length).map cf ++ s.ops.drop (A.oas.map V.ref).length = s.ops.map cf := by
            rw [List.length_map, L.ol, List.take_length, List.drop_length, List.append_nil]
          rw [z3] at L2
          exact ⟨x, rfl, L2, by show (s.ops.map cf)[k]? = _; rw [List.getElem?_map, e']; rfl, K2, hp2⟩
    · rintro σ' H' ⟨x, rfl, L2, e2, K2, hp2⟩
      unfold writeH at d
      have hv1 : w = "set" → (wo1 s o w).version.isSome = true := fun q => by
        unfold wo1
        split
        · rfl
        · exact hv q
      have hs1 : (wo1 s o w).step = o.step := by
        unfold wo1
        split <;> rfl
      rw [← hs1] at hst
      generalize wr1 s k o w = s1 at L2 e2 d
      generalize wo1 s o w = o1 at e2 hv1 hst d
      refine ⟨fun σ' H' => ∃ x, σ' = [some (.ref h), some (.ref a), some (.str w), some (.ref p), some (.str c.guard), x, none] ∧ LawAt c H' h A (wr2 c s1 o1 w) ∧ (wr2 c s1 o1 w).ops[k]? = some o1 ∧ Keep (Fp h A) H H' ∧ H' p = some (.lst (c.steps.map V.str)), ?_, ?_⟩
      · refine ⟨_, rfl, rfl, _, rfl, ?_⟩
        unfold wr2
        refine iteS (fun q => ?_) (fun q => ?_)
        · rw [if_pos q]
          refine ⟨_, rfl, _, _, rfl, dput (kvs' := hK A.d A.w { s1 with cache := none } A.lo A.lp) L2.hd rfl, ?_⟩
          have L3 := L2.hput (s' := { s1 with cache := none }) rfl rfl
          have K3 := K2.put (o := .dK (hK A.d A.w { s1 with cache := none } A.lo A.lp)) (fp_h (A := A))
          have hp3 : upd H' h (.dK (hK A.d A.w { s1 with cache := none } A.lo A.lp)) p = some (.lst (c.steps.map V.str)) := offF fp (fp_h) hp2
          generalize upd H' h _ = H3 at L3 K3 hp3
          refine ⟨_, rfl, rfl, _, rfl, ?_⟩
          refine iteS (fun q2 => ?_) (fun q2 => ?_)
          · refine ⟨_, rfl, _, _, rfl, dget (L3.og k a o1 e e2) rfl, rfl, _, rfl, ?_⟩
            refine iteNn (fun v q3 => ?_) (fun q3 => ?_)
            · rw [if_pos ⟨q2, by rw [q3]; rfl⟩, q3]
              refine ⟨_, rfl, _, _, rfl, dget (L3.hd) rfl, _, rfl, _, _, rfl, dget (L3.og k a o1 e e2) rfl, (s1.mark : Int), (v : Int), (by rw [q3]; rfl), _, rfl, _, _, rfl, dput (kvs' := hK A.d A.w { s1 with cache := none, mark := max s1.mark v } A.lo A.lp) L3.hd (by
                show putK _ _ (V.int (if (v : Int) > (s1.mark : Int) then (v : Int) else (s1.mark : Int))) = _
                rw [max_nat]
                rfl), ?_⟩
              exact ⟨x, rfl, L3.hput rfl rfl, e2, K3.put fp_h, offF fp (fp_h) hp3⟩
            · rw [if_neg (fun z => by rw [q3] at z; exact absurd z.2 (by decide))]
              exact ⟨x, rfl, L3, e2, K3, hp3⟩
          · rw [if_neg (fun z => q2 z.1)]
            exact ⟨x, rfl, L3, e2, K3, hp3⟩
        · rw [if_neg q]
          exact ⟨x, rfl, L2, e2, K2, hp2⟩
      · rintro σ' H' ⟨x, rfl, L2, e2, K2, hp2⟩
        generalize wr2 c s1 o1 w = s2 at L2 e2 d
        refine ⟨fun σ' H' => ∃ x y, σ' = [some (.ref h), some (.ref a), some (.str w), some (.ref p), some (.str c.guard), x, y] ∧ LawAt c H' h A (wr3 c s2 o1 w) ∧ (wr3 c s2 o1 w).ops[k]? = some o1 ∧ Keep (Fp h A) H H' ∧ H' p = some (.lst (c.steps.map V.str)), ?_, ?_⟩
        · refine ⟨_, rfl, rfl, _, rfl, ?_⟩
          unfold wr3
          refine iteS (fun q => ?_) (fun q => ?_)
          · rw [if_pos q]
            obtain ⟨v, ev⟩ := Option.isSome_iff_exists.mp (hv1 q)
            rw [ev, Option.getD_some]
            refine ⟨fun σ2 H2 => σ2 = [some (.ref h), some (.ref a), some (.str w), some (.ref p), some (.str c.guard), x, some (.bl (setsB c s2 v))] ∧ H2 = H', ?_, ?_⟩
            · refine ⟨_, rfl, rfl, _, rfl, ?_⟩
              refine iteS (fun q2 => ?_) (fun q2 => ?_)
              · refine ⟨_, rfl, _, _, rfl, dget (L2.og k a o1 e e2) rfl, _, rfl, _, _, rfl, dget (L2.hd) rfl, (v : Int), (s2.mark : Int), (by rw [ev]; rfl), rfl, ?_⟩
                have z : setsB c s2 v = decide ((s2.mark : Int) ≤ (v : Int)) := by unfold setsB; rw [if_pos q2]; simp
                rw [z]
                exact ⟨rfl, rfl⟩
              · refine ⟨_, rfl, rfl, _, rfl, ?_⟩
                refine iteSn (fun q3 => ?_) (fun q3 => ?_)
                · have z : setsB c s2 v = true := by unfold setsB; rw [if_neg q2, decide_eq_false q3]; rfl
                  rw [z]
                  exact ⟨rfl, rfl⟩
                · have z : setsB c s2 v = newerB s2 v := by unfold setsB; rw [if_neg q2, decide_eq_true q3]; rfl
                  rw [z]
                  refine ⟨_, rfl, _, rfl, _, _, rfl, dget (L2.og k a o1 e e2) rfl, ?_⟩
                  rw [ev]
                  exact newer_i L2 ⟨rfl, rfl⟩
            · rintro σ2 H2 ⟨rfl, rfl⟩
              refine ⟨_, rfl, _, rfl, ?_⟩
              cases setsB c s2 v with
              | true =>
                refine iteT ?_
                refine ⟨_, rfl, _, rfl, _, _, rfl, dget (L2.og k a o1 e e2) rfl, ?_⟩
                rw [ev]
                refine hold_i L2 fun H3 L3 K3 => ?_
                exact ⟨x, _, rfl, L3, by show (holdH c s2 v).ops[k]? = _; rw [hold_ops]; exact e2, K2.trans K3, K3 p _ hp2 fp⟩
              | false =>
                refine iteF ?_
                exact ⟨x, _, rfl, L2, e2, K2, hp2⟩
          · rw [if_neg q]
            exact ⟨x, none, rfl, L2, e2, K2, hp2⟩
        · rintro σ' H' ⟨x, y, rfl, L2, e2, K2, hp2⟩
          generalize wr3 c s2 o1 w = s3 at L2 e2 d
          unfold wr4 at d
          refine ⟨_, rfl, _, _, rfl, dget (L2.og k a o1 e e2) rfl, _, _, rfl, rfl, _, rfl, _, _, rfl, dput (kvs' := oK { o1 with step := o1.step + 1 }) (L2.og k a o1 e e2) (by show putK _ _ (V.int ((o1.step : Int) + 1)) = oK _; rfl), ?_⟩
          have L3 := L2.oput (o' := { o1 with step := o1.step + 1 }) e
          have e3 := put_get (o' := { o1 with step := o1.step + 1 }) e2
          have K3 := K2.put (o := .dK (oK { o1 with step := o1.step + 1 })) (fp_op e)
          have hp3 : upd H' a (.dK (oK { o1 with step := o1.step + 1 })) p = some (.lst (c.steps.map V.str)) := offF fp (fp_op e) hp2
          generalize upd H' a _ = H3 at L3 K3 hp3
          refine ⟨_, rfl, _, _, rfl, dget (L3.og k a _ e e3) rfl, _, rfl, _, _, rfl, .inl (SqL.of hp3), rfl, _, rfl, ?_⟩
          rw [List.length_map]
          refine iteI (a := o1.step + 1) (fun q => ?_) (fun q => ?_)
          · rw [if_pos q] at d
            refine ⟨_, rfl, _, rfl, ?_⟩
            exact end_i L3 e e3 fun H4 L4 K4 => d H4 L4 (K3.trans K4)
          · rw [if_neg q] at d
            have hlt : o1.step + 1 < c.steps.length := by omega
            have hget : (c.steps.map V.str)[o1.step + 1]? = some (.str (c.steps.getD (o1.step + 1) "")) := by
              rw [List.getElem?_map, List.getD_eq_getElem?_getD, List.getElem?_eq_getElem hlt]
              rfl
            refine ⟨_, rfl, _, rfl, _, _, rfl, dget (L3.og k a _ e e3) rfl, p, _, _, _, rfl, rfl, SqL.of hp3, at_of (j := o1.step + 1) rfl hget, _, rfl, _, _, rfl, dput (kvs' := oK { o1 with step := o1.step + 1, stage := c.steps.getD (o1.step + 1) "" }) (L3.og k a _ e e3) rfl, ?_⟩
            have L4 := L3.oput (o' := { o1 with step := o1.step + 1, stage := c.steps.getD (o1.step + 1) "" }) e
            rw [put_put] at L4
            exact d _ L4 (K3.put (fp_op e))
end
end Ca

set_option Elab.async false
set_option linter.all false
set_option maxRecDepth 100000
set_option maxHeartbeats 4000000
namespace Ca
open PySem L2
/-! ### events as data, their tuples compared -/
def evD' (e : Ev) : PyData := .tuple (match e.2 with
  | none => [.str e.1]
  | some k => [.str e.1, .int k])
theorem beq_eq_decide (a b : Str) : (a == b) = decide (a = b) := by
  by_cases h : a = b <;> simp [h]
theorem evD_eqv (e f : Ev) : PyData.eqv (evD' e) (evD' f) = decide (e = f) := by
  obtain ⟨w, k⟩ := e
  obtain ⟨v, j⟩ := f
  cases k <;> cases j <;> simp [evD', PyData.eqv, PyData.eqvAll, Prod.ext_iff]
  · exact beq_eq_decide w v
  · rename_i a b
    rw [beq_eq_decide w v]
    by_cases h : w = v <;> by_cases g : a = b <;> simp [h, g]
theorem evD_shaped {e : Ev} (h : PyData.strOk e.1 = true) : SeqAt.shaped (evD' e) = true := by
  obtain ⟨w, k⟩ := e
  have h : PyData.strOk w = true := h
  cases k <;> simp [evD', SeqAt.shaped, PyData.canLay0, PyData.canLayAll0, PyData.depth, PyData.depthAll, h]
theorem evD_dp {K : PySem.W.Frag} {H : Hp} {t : Addr} {e : Ev} (h : H t = some (.tup (evV e))) : Dp K H (.ref t) (evD' e) := by
  obtain ⟨w, k⟩ := e
  cases k with
  | none => exact .tup (SqT.of h) (.cons (.str _) .nil)
  | some k => exact .tup (SqT.of h) (.cons (.str _) (.cons (.int _) .nil))
theorem iteE {e f : Ev} {A B : Prop} (h1 : e = f → A) (h2 : ¬ e = f → B) : if PyData.eqv (evD' e) (evD' f) = true then A else B := by
  rw [evD_eqv]
  by_cases h : e = f
  · rw [if_pos (decide_eq_true h)]
    exact h1 h
  · rw [if_neg (by rw [decide_eq_false h]; decide)]
    exact h2 h
/-! ### one event -/
def evictE : Ev := (Str.ofString "evict", none)
def copyE : Ev := (Str.ofString "copy", none)
def newOp (s : HS) (w : Str) : OpS := ⟨s.ops.length, if w = "look" then "read" else "write", w, none, s.past.length, none, 0, true, none⟩
def preH (s : HS) (w : Str) (k : Nat) : HS := if k = s.ops.length then { s with ops := s.ops ++ [newOp s w] } else s
def doOp (c : Conf) (s : HS) (k : Nat) (o : OpS) (w : Str) : HS := if w = "stop" then endH s k o "stopped" else if o.kind = "write" then writeH c s k o w else readH c s k o w
def doE (c : Conf) (s : HS) (e : Ev) : HS :=
  if e = evictE then { s with cache := none, mark := 0 } else if e = copyE then { s with rep := s.rep + 1 }
  else match e.2 with
    | some n => (match (preH s e.1 n.toNat).ops[n.toNat]? with
      | some o => doOp c (preH s e.1 n.toNat) n.toNat o e.1
      | none => s)
    | none => s
def doH (c : Conf) (s : HS) (e : Ev) : HS := { doE c s e with past := s.past ++ [e] }
def OpOk (c : Conf) (s : HS) (o : OpS) (w : Str) : Prop := w = "stop" ∨ (o.kind = "write" ∧ o.step < c.steps.length ∧ (w = "set" → o.version.isSome = true)) ∨
  (¬ o.kind = "write" ∧ (w = "take" → ∃ l q, o.leader = some l ∧ s.ops[l]? = some q) ∧ (w = "look" ∨ w = "fetch" ∨ w = "take" ∨ o.version.isSome = true))
def EvOk (c : Conf) (s : HS) (e : Ev) : Prop := e = evictE ∨ e = copyE ∨ ∃ (k : Nat) (w : Str), e = (w, some (k : Int)) ∧ k ≤ s.ops.length ∧ ∀ o, (preH s w k).ops[k]? = some o → OpOk c (preH s w k) o w
theorem end_past {s : HS} {k : Nat} {o : OpS} {st : Str} : (endH s k o st).past = s.past := by
  simp only [endH]
  split <;> rfl
theorem hold_past {c : Conf} {s : HS} {v : Nat} : (holdH c s v).past = s.past := by unfold holdH; split <;> rfl
theorem write_past {c : Conf} {s : HS} {k : Nat} {o : OpS} {w : Str} : (writeH c s k o w).past = s.past := by
  have h1 : (wr1 s k o w).past = s.past := by unfold wr1; split <;> rfl
  have h2 : ∀ (s : HS) (o : OpS), (wr2 c s o w).past = s.past := fun s o => by
    unfold wr2
    split
    · split <;> rfl
    · rfl
  have h3 : ∀ (s : HS) (o : OpS), (wr3 c s o w).past = s.past := fun s o => by
    unfold wr3
    split
    · split
      · rw [hold_past]
      · rfl
    · rfl
  have h4 : ∀ (s : HS) (o : OpS), (wr4 c s k o).past = s.past := fun s o => by
    unfold wr4
    split
    · rw [end_past]
      rfl
    · rfl
  unfold writeH
  rw [h4, h3, h2, h1]
theorem read_past {c : Conf} {s : HS} {k : Nat} {o : OpS} {w : Str} : (readH c s k o w).past = s.past := by
  unfold readH
  split
  · rw [end_past]
    rfl
  split
  · rfl
  split
  · rfl
  split
  · split
    · rw [end_past]
      rfl
    · rfl
  split
  · rw [end_past]
    rfl
  · rw [end_past]
    split
    · exact hold_past
    · rfl
theorem doE_past {c : Conf} {s : HS} {e : Ev} : (doE c s e).past = s.past := by
  have h0 : ∀ w k, (preH s w k).past = s.past := fun w k => by unfold preH; split <;> rfl
  unfold doE
  split
  · rfl
  split
  · rfl
  split
  · split
    · unfold doOp
      split
      · rw [end_past, h0]
      split
      · rw [write_past, h0]
      · rw [read_past, h0]
    · rfl
  · rfl
/-- the event is done, noted, its operation maybe begun -/
@[irreducible] def spDo : Sp := fun vs H Q _ => ∃ (c : Conf) (h t : Addr) (A : LA) (s : HS) (e : Ev), vs = [.ref h, .ref t] ∧ c.Ok ∧ LawAt c H h A s ∧ H t = some (.tup (evV e)) ∧ PyData.strOk e.1 = true ∧ EvOk c s e ∧ s.ops.length ≤ 100 ∧ s.past.length ≤ 100 ∧
  ∀ H' A', LawAt c H' h A' (doH c s e) → A'.d = A.d → A'.w = A.w → A'.lo = A.lo → A'.lp = A.lp → ((∀ b, b ∈ A'.oas → b ∈ A.oas ∨ H b = none) ∧ A.oas <+: A'.oas) → Keep (Fp h A) H H' → Q .non H'
theorem do_i {c : Conf} {h t : Addr} {A : LA} {s : HS} {e : Ev} {H : Hp} {Q : VK} {E : XK} (O : c.Ok) (L : LawAt c H h A s) (ht : H t = some (.tup (evV e))) (ok : PyData.strOk e.1 = true) (k : EvOk c s e) (h1 : s.ops.length ≤ 100) (h2 : s.past.length ≤ 100)
    (d : ∀ H' A', LawAt c H' h A' (doH c s e) → A'.d = A.d → A'.w = A.w → A'.lo = A.lo → A'.lp = A.lp → ((∀ b, b ∈ A'.oas → b ∈ A.oas ∨ H b = none) ∧ A.oas <+: A'.oas) → Keep (Fp h A) H H' → Q .non H') : spDo [.ref h, .ref t] H Q E := by
  unfold spDo
  exact ⟨c, h, t, A, s, e, rfl, O, L, ht, ok, k, h1, h2, d⟩
section
variable {P : Program} {w : World} {K : PySem.W.Frag} {mg : Str → Option Value} {base : Heap}
theorem ok_Lread (T : Txt K mg) : FnOk P w K mg base CX0 3 T.f_Lread T.fd_Lread ["h", "one", "word"] spRead := by
  refine T.F_Lread.ok sc_Lread (fun vs H Q E h => ?_) (fun cdv A outer s H vs Q E hr h => ?_)
  · unfold spRead at h
    obtain ⟨c, h, a, A, s, k, o, w, rfl, _⟩ := h
    rfl
  · unfold spRead at h
    obtain ⟨c, h, a, A, s, k, o, w, rfl, O, L, e, e', hl, hv, d⟩ := h
    have hu := hu_of hr
    have Ho := L.og k a o e e'
    have endd : ∀ (H1 : Hp) (s1 : HS) (o1 : OpS) (st : Str), LawAt c H1 h A s1 → s1.ops[k]? = some o1 → Keep (Fp h A) H H1 → readH c s k o w = endH s1 k o1 st → ∀ (E : XK), spEnd [.ref h, .ref a, .str st] H1 (fun v H' => Q .non H') E := fun H1 s1 o1 st L1 e1 K1 z E => by
      refine end_i L1 e e1 fun H2 L2 K2 => d H2 ?_ (K1.trans K2)
      rw [z]
      exact L2
    refine ⟨_, (pss_one (ps_if (PW.pt (pw_and (pt_cmpR op_eq (pv 2) pe_str (nomark _)) (pw_and1 (pt_cmpR op_notN (pe_dget hu (pv 0) pe_str (fun _ _ => rfl)) pe_non (nomark _))))) (pss_cons (ps_dput hu (pv 1) pe_str (pe_dget hu (pv 0) pe_str (fun _ _ => rfl)) rfl)
      (pss_one (ps_expr (pe_call (ok_Lend T) (hr.mono (by decide)) rfl T.m_Lend T.F_Lend.kp (b_Lend T) .nil pass0 (pa_cons (pv 0) (pa_cons (pv 1) (pa_cons pe_str pa_nil))))))) (pss_one (ps_if (PW.pt (pw_and (pt_cmpR op_eq (pv 2) pe_str (nomark _)) (pw_and1 (pt_cmpR op_notN (pe_dget hu (pv 0) pe_str (fun _ _ => rfl)) pe_non (nomark _))))) (pss_one (ps_asg (pe_tup (pa_cons pe_str (pa_cons (pe_dget hu (pv 0) pe_str (fun _ _ => rfl)) pa_nil))) (pg_tup rfl (pgs_cons (pg_sub (pv 1) pe_str (set_dict hu)) (pgs_cons (pg_sub (pv 1) pe_str (set_dict hu)) pgs_nil))))) (pss_one (ps_if (pt_cmpR op_eq (pv 2) pe_str (nomark _)) (pss_cons (ps_dput hu (pv 1) pe_str pe_str rfl)
      (pss_one (ps_dput hu (pv 0) pe_str (pe_ifExp (pt_cmpR op_eq (pe_ix ix_tup (pe_dget hu (pv 0) pe_str (fun _ _ => rfl)) pe_int (fun _ _ => rfl)) pe_str (nomark _)) (pe_dget hu (pv 1) pe_str (fun _ _ => rfl)) pe_non) rfl))) (pss_one (ps_if (pt_cmpR op_eq (pv 2) pe_str (nomark _)) (Evl.pss_cut (ps_dput hu (pv 1) pe_str (pe_ifExp (pt_cmpR op_eq (pe_ix ix_tup (pe_dget hu (pv 0) pe_str (fun _ _ => rfl)) pe_int (fun _ _ => rfl)) pe_str (nomark _)) (pe_dget hu (pv 0) pe_str (fun _ _ => rfl)) (pe_dget hu (pv 0) pe_str (fun _ _ => rfl))) rfl)
      (pss_cons (ps_dput hu (pv 1) pe_str pe_str rfl)
      (pss_one (ps_if (pt_cmpR op_eq (pe_ix ix_tup (pe_dget hu (pv 0) pe_str (fun _ _ => rfl)) pe_int (fun _ _ => rfl)) pe_str (nomark _)) (pss_one (ps_expr (pe_call (ok_Lend T) (hr.mono (by decide)) rfl T.m_Lend T.F_Lend.kp (b_Lend T) .nil pass0 (pa_cons (pv 0) (pa_cons (pv 1) (pa_cons pe_str pa_nil)))))) pss_nil)))) (pss_one (ps_if (pt_cmpR op_eq (pv 2) pe_str (nomark _)) (pss_cons (ps_dput hu (pv 1) pe_str (pe_dget hu (pe_ix ix_list (pe_dget hu (pv 0) pe_str (fun _ _ => rfl)) (pe_dget hu (pv 1) pe_str (fun _ _ => rfl)) (fun _ _ => rfl)) pe_str (fun _ _ => rfl)) rfl)
      (pss_one (ps_expr (pe_call (ok_Lend T) (hr.mono (by decide)) rfl T.m_Lend T.F_Lend.kp (b_Lend T) .nil pass0 (pa_cons (pv 0) (pa_cons (pv 1) (pa_cons pe_str pa_nil))))))) (pss_cons (ps_if (pt_val (pe_call (ok_Llets T) (hr.mono (by decide)) rfl T.m_Llets T.F_Llets.kp (b_Llets T) .nil pass0 (pa_cons (pv 0) (pa_cons (pv 1) pa_nil)))) (pss_one (ps_expr (pe_call (ok_Lhold T) (hr.mono (by decide)) rfl T.m_Lhold T.F_Lhold.kp (b_Lhold T) .nil pass0 (pa_cons (pv 0) (pa_cons (pe_dget hu (pv 1) pe_str (fun _ _ => rfl)) pa_nil))))) pss_nil)
      (pss_one (ps_expr (pe_call (ok_Lend T) (hr.mono (by decide)) rfl T.m_Lend T.F_Lend.kp (b_Lend T) .nil pass0 (pa_cons (pv 0) (pa_cons (pv 1) (pa_cons pe_str pa_nil))))))))))))))))), ?_⟩
    have fetchD : ∀ H1, LawAt c H1 h A s → True := fun _ _ => trivial
    unfold readH at d endd
    refine ⟨_, rfl, rfl, _, rfl, ?_⟩
    refine iteS (fun q => ?_) (fun q => ?_)
    · -- look
      refine ⟨_, rfl, _, _, rfl, dget (L.hd) rfl, rfl, _, rfl, ?_⟩
      refine iteNn (fun v q2 => ?_) (fun q2 => ?_)
      · refine ⟨_, rfl, _, _, rfl, dget (L.hd) rfl, _, rfl, _, _, rfl, dput (kvs' := oK { o with version := s.cache }) Ho rfl, ?_⟩
        refine ⟨_, rfl, _, rfl, ?_⟩
        exact endd _ _ _ _ (L.oput e) (put_get e') (Keep.refl.put (fp_op e)) (if_pos ⟨q, by rw [q2]; rfl⟩) _
      · have z0 : ¬ (w = "look" ∧ s.cache.isSome = true) := fun z => by rw [q2] at z; exact absurd z.2 (by decide)
        rw [if_neg z0] at d
        refine ⟨_, rfl, rfl, _, rfl, ?_⟩
        refine iteS (fun _ => ?_) (fun n => (n q).elim)
        refine ⟨_, rfl, _, _, rfl, dget (L.hd) rfl, rfl, _, rfl, ?_⟩
        refine iteNn (fun v q3 => ?_) (fun q3 => ?_)
        · rw [if_pos ⟨q, by rw [q3]; rfl⟩] at d
          refine ⟨_, rfl, _, _, rfl, dget (L.hd) rfl, (by show 2 ≤ sizeLine; decide), fun p np => ?_⟩
          have L1 := L.new (o := .tup [.str "waits", on s.opn]) np
          have K1 := (Keep.refl (F := Fp h A) (H := H)).new (o := .tup [.str "waits", on s.opn]) np
          have hT : (upd H p (.tup [.str "waits", on s.opn])) p = some (.tup [.str "waits", on s.opn]) := upd_same
          generalize upd H p (.tup [.str "waits", on s.opn]) = H1 at L1 K1 hT
          refine ⟨_, _, rfl, SqT.of hT, rfl, _, _, rfl, _, rfl, _, _, rfl, dput (kvs' := oK { o with stage := "waits" }) (L1.og k a o e e') rfl, ?_⟩
          have L2 := L1.oput (o' := { o with stage := "waits" }) e
          refine ⟨_, _, rfl, _, rfl, _, _, rfl, dput (kvs' := oK { o with stage := "waits", leader := s.opn }) (L2.og k a _ e (put_get e')) rfl, rfl, ?_⟩
          have L3 := L2.oput (o' := { o with stage := "waits", leader := s.opn }) e
          rw [put_put] at L3
          exact d _ L3 ((K1.put (fp_op e)).put (fp_op e))
        · have z1 : ¬ (w = "look" ∧ s.opn.isSome = true) := fun z => by rw [q3] at z; exact absurd z.2 (by decide)
          rw [if_neg z1, if_pos q] at d
          refine ⟨_, rfl, rfl, _, rfl, ?_⟩
          refine iteS (fun _ => ?_) (fun n => (n q).elim)
          refine ⟨_, rfl, _, _, rfl, dput (kvs' := oK { o with stage := "fetch" }) Ho rfl, ?_⟩
          have L1 := L.oput (o' := { o with stage := "fetch" }) e
          have e1 := put_get (o' := { o with stage := "fetch" }) e'
          have K1 := (Keep.refl (F := Fp h A) (H := H)).put (o := .dK (oK { o with stage := "fetch" })) (fp_op e)
          generalize upd H a (.dK (oK { o with stage := "fetch" })) = H1 at L1 K1
          refine ⟨_, rfl, _, _, rfl, dget (L1.hd) rfl, _, _, _, _, rfl, rfl, SqT.of (L1.dd), rfl, rfl, _, rfl, ?_⟩
          refine iteS (fun q4 => ?_) (fun q4 => ?_)
          · rw [if_pos q4] at d
            refine ⟨_, rfl, _, _, rfl, dget (L1.og k a _ e e1) rfl, _, rfl, _, _, rfl, dput (kvs' := hK A.d A.w { s.put k { o with stage := "fetch" } with opn := some o.number } A.lo A.lp) L1.hd rfl, ?_⟩
            exact d _ (L1.hput rfl rfl) (K1.put fp_h)
          · rw [if_neg q4] at d
            refine ⟨_, rfl, _, _, rfl, dput (kvs' := hK A.d A.w { s.put k { o with stage := "fetch" } with opn := none } A.lo A.lp) L1.hd rfl, ?_⟩
            exact d _ (L1.hput rfl rfl) (K1.put fp_h)
    · have n1 : ∀ P : Prop, ¬ (w = "look" ∧ P) := fun P z => q z.1
      rw [if_neg (n1 _), if_neg (n1 _), if_neg q] at d
      refine ⟨_, rfl, rfl, _, rfl, ?_⟩
      refine iteS (fun n => (q n).elim) (fun _ => ?_)
      refine ⟨_, rfl, rfl, _, rfl, ?_⟩
      refine iteS (fun n => (q n).elim) (fun _ => ?_)
      refine ⟨_, rfl, rfl, _, rfl, ?_⟩
      refine iteS (fun q2 => ?_) (fun q2 => ?_)
      · -- fetch
        rw [if_pos q2] at d
        refine ⟨fun σ' H' => ∃ x y, σ' = [some (.ref h), some (.ref a), some (.str w)] ∧ x = { o with version := some (if c.source = "replica" then s.rep else s.db) } ∧ y = oK x ∧ H' = upd H a (.dK y), ?_, ?_⟩
        · refine ⟨_, rfl, _, _, rfl, dget (L.hd) rfl, _, _, _, _, rfl, rfl, SqT.of (L.ww), rfl, rfl, _, rfl, ?_⟩
          refine iteS (fun q3 => ?_) (fun q3 => ?_)
          · rw [if_pos q3]
            exact ⟨_, rfl, _, _, rfl, dget (L.hd) rfl, _, rfl, _, _, rfl, dput (kvs' := oK { o with version := some s.rep }) Ho rfl, _, _, rfl, rfl, rfl, rfl⟩
          · rw [if_neg q3]
            exact ⟨_, rfl, _, _, rfl, dget (L.hd) rfl, _, rfl, _, _, rfl, dput (kvs' := oK { o with version := some s.db }) Ho rfl, _, _, rfl, rfl, rfl, rfl⟩
        · rintro σ' H' ⟨x, y, rfl, rfl, rfl, rfl⟩
          generalize (if c.source = "replica" then s.rep else s.db) = v at d
          have L1 := L.oput (o' := { o with version := some v }) e
          have e1 := put_get (o' := { o with version := some v }) e'
          have K1 := (Keep.refl (F := Fp h A) (H := H)).put (o := .dK (oK { o with version := some v })) (fp_op e)
          generalize upd H a (.dK (oK { o with version := some v })) = H1 at L1 K1
          refine ⟨_, rfl, _, _, rfl, dput (kvs' := oK { o with version := some v, stage := "fill" }) (L1.og k a _ e e1) rfl, ?_⟩
          have L2 := L1.oput (o' := { o with version := some v, stage := "fill" }) e
          rw [put_put] at L2
          have e2 := put_get (o' := { o with version := some v, stage := "fill" }) e'
          have K2 := K1.put (o := .dK (oK { o with version := some v, stage := "fill" })) (fp_op e)
          generalize upd H1 a (.dK (oK { o with version := some v, stage := "fill" })) = H2 at L2 K2
          refine ⟨_, rfl, _, _, rfl, dget (L2.hd) rfl, _, _, _, _, rfl, rfl, SqT.of (L2.dd), rfl, rfl, _, rfl, ?_⟩
          refine iteS (fun q4 => ?_) (fun q4 => ?_)
          · rw [if_pos q4] at d
            refine ⟨_, rfl, _, rfl, ?_⟩
            exact end_i L2 e e2 fun H3 L3 K3 => d H3 L3 (K2.trans K3)
          · rw [if_neg q4] at d
            exact d _ L2 K2
      rw [if_neg q2] at d
      refine ⟨_, rfl, rfl, _, rfl, ?_⟩
      refine iteS (fun q3 => ?_) (fun q3 => ?_)
      · -- take
        rw [if_pos q3] at d
        obtain ⟨l, qo, el, eq⟩ := hl q3
        obtain ⟨b, eb, hb⟩ := L.get eq
        have z : leadV s o = qo.version := by unfold leadV; rw [el]; show (match s.ops[l]? with | some q => q.version | none => none) = _; rw [eq]
        rw [z] at d
        have hbr : (A.oas.map V.ref)[l]? = some (.ref b) := by rw [List.getElem?_map, eb]; rfl
        refine ⟨_, rfl, _, _, rfl, dget (L.hd) rfl, _, rfl, _, _, rfl, dget (Ho) rfl, _, _, (l : Int), _, rfl, (by rw [el]; rfl), SqL.of L.lo, at_of rfl hbr, _, _, rfl, dget (hb) rfl, _, rfl, _, _, rfl, dput (kvs' := oK { o with version := qo.version }) Ho rfl, ?_⟩
        have L1 := L.oput (o' := { o with version := qo.version }) e
        refine ⟨_, rfl, _, rfl, ?_⟩
        exact end_i L1 e (put_get e') fun H3 L3 K3 => d H3 L3 ((Keep.refl.put (fp_op e)).trans K3)
      · rw [if_neg q3] at d
        have hv : o.version.isSome = true := by
          rcases hv with z | z | z | z
          · exact (q z).elim
          · exact (q2 z).elim
          · exact (q3 z).elim
          · exact z
        obtain ⟨v, ev⟩ := Option.isSome_iff_exists.mp hv
        rw [ev, Option.getD_some] at d
        refine ⟨_, rfl, _, rfl, ?_⟩
        refine lets_i L e e' ev ⟨_, rfl, ?_⟩
        cases hb : letsB c s o v with
        | true =>
          rw [hb, if_pos rfl] at d
          refine iteT ?_
          refine ⟨_, rfl, _, rfl, _, _, rfl, dget (Ho) rfl, ?_⟩
          rw [ev]
          refine hold_i L fun H1 L1 K1 => ?_
          refine ⟨_, rfl, _, rfl, ?_⟩
          exact end_i L1 e (by rw [hold_ops]; exact e') fun H3 L3 K3 => d H3 L3 (K1.trans K3)
        | false =>
          rw [hb, if_neg (by decide)] at d
          refine iteF ?_
          refine ⟨_, rfl, _, rfl, ?_⟩
          exact end_i L e e' fun H3 L3 K3 => d H3 L3 K3
end
end Ca

set_option Elab.async false
set_option linter.all false
set_option maxRecDepth 100000
set_option maxHeartbeats 4000000
namespace Ca
open PySem L2
def oneK (s : HS) (k : Nat) (w : Str) (kd : Str) : List (Key × V) :=
  [(.inr "number", .int (k : Int)), (.inr "kind", .str kd), (.inr "stage", .str w), (.inr "version", .non), (.inr "begun", .int (s.past.length : Int)), (.inr "over", .non)]
def restK : List (Key × V) := [(.inr "step", .int 0), (.inr "clean", .bl true), (.inr "leader", .non)]
theorem one_all {s : HS} {w : Str} : mergeK [] (oneK s s.ops.length w (newOp s w).kind ++ restK) = oK (newOp s w) := by rfl
section
variable {P : Program} {w : World} {K : PySem.W.Frag} {mg : Str → Option Value} {base : Heap}
/-- the state in the middle of a do: the addresses but the operations' are as they were -/
structure Mid (c : Conf) (h : Addr) (A : LA) (H : Hp) (s : HS) (A' : LA) (H' : Hp) : Prop where
  L : LawAt c H' h A' s
  d : A'.d = A.d
  w : A'.w = A.w
  lo : A'.lo = A.lo
  lp : A'.lp = A.lp
  oa : (∀ b, b ∈ A'.oas → b ∈ A.oas ∨ H b = none) ∧ A.oas <+: A'.oas
  k : Keep (Fp h A) H H'
theorem ok_Ldo (T : Txt K mg) : FnOk P w K mg base CX0 4 T.f_Ldo T.fd_Ldo ["h", "event"] spDo := by
  refine T.F_Ldo.ok sc_Ldo (fun vs H Q E h => ?_) (fun cdv A outer s H vs Q E hr h => ?_)
  · unfold spDo at h
    obtain ⟨c, h, t, A, s, e, rfl, _⟩ := h
    rfl
  · unfold spDo at h
    obtain ⟨c, h, t, A, s, e, rfl, O, L, ht, ok, hk, l1, l2, d⟩ := h
    have hu := hu_of hr
    refine ⟨_, (Evl.pss_cut (ps_if (pt_cmpR (op_eqD hr.units) (pv 1) (pe_tup (pa_cons pe_str pa_nil)) (nomark _)) (pss_one (ps_asg (pe_tup (pa_cons pe_non (pa_cons pe_int pa_nil))) (pg_tup rfl (pgs_cons (pg_sub (pv 0) pe_str (set_dict hu)) (pgs_cons (pg_sub (pv 0) pe_str (set_dict hu)) pgs_nil))))) (pss_one (ps_if (pt_cmpR (op_eqD hr.units) (pv 1) (pe_tup (pa_cons pe_str pa_nil)) (nomark _)) (pss_one (ps_dput hu (pv 0) pe_str (pe_op op_add (pe_dget hu (pv 0) pe_str (fun _ _ => rfl)) pe_int) rfl)) (pss_cons (ps_asg (pv 1) (pg_tup rfl (pgs_cons (pg_name (i := 2) sc_Ldo.nd rfl (Or.inl rfl)) (pgs_cons (pg_name (i := 3) sc_Ldo.nd rfl (Or.inl rfl)) pgs_nil))))
      (Evl.pss_cut (ps_if (pt_cmpR op_eq (pv 3) (pe_callB call_len_seq (by rfl) T.n_len (by decide +kernel) (pa_cons (pe_dget hu (pv 0) pe_str (fun _ _ => rfl)) pa_nil)) (nomark _)) (Evl.pss_cut (ps_set (i := 4) sc_Ldo.nd rfl (Or.inl rfl) (pe_ifExp (pt_cmpR op_eq (pv 2) pe_str (nomark _)) pe_str pe_str))
      (pss_cons (ps_set (i := 5) sc_Ldo.nd rfl (Or.inl rfl) (pe_disp (pps_cons pe_str (pv 3) (pps_cons pe_str (pv 4) (pps_cons pe_str (pv 2) (pps_cons pe_str pe_non (pps_cons pe_str (pe_callB call_len_seq (by rfl) T.n_len (by decide +kernel) (pa_cons (pe_dget hu (pv 0) pe_str (fun _ _ => rfl)) pa_nil)) (pps_cons pe_str pe_non pps_nil)))))) rfl rfl (by simp) (by decide)))
      (pss_one (ps_expr (pe_bm PySem.F.plainAttrs_list PySem.F.slot_list_append PySem.F.type_list_append mt_append (pe_dget hu (pv 0) pe_str (fun _ _ => rfl)) (pa_cons (pe_callTy (call_dictP rfl) (by rfl) T.n_dict (by decide +kernel) (pa_cons (pe_op op_cat (LiI.pe_listItems rfl (pv 5) (by rfl) T.n_list (by decide +kernel)) (pe_lst (pa_cons (pe_tup (pa_cons pe_str (pa_cons pe_int pa_nil))) (pa_cons (pe_tup (pa_cons pe_str (pa_cons pe_bl pa_nil))) (pa_cons (pe_tup (pa_cons pe_str (pa_cons pe_non pa_nil))) pa_nil))))) pa_nil)) pa_nil)))))) pss_nil)
      (pss_cons (ps_set (i := 5) sc_Ldo.nd rfl (Or.inl rfl) (pe_ix ix_list (pe_dget hu (pv 0) pe_str (fun _ _ => rfl)) (pv 3) (fun _ _ => rfl)))
      (pss_one (ps_if (pt_cmpR op_eq (pv 2) pe_str (nomark _)) (pss_one (ps_expr (pe_call (ok_Lend T) (hr.mono (by decide)) rfl T.m_Lend T.F_Lend.kp (b_Lend T) .nil pass0 (pa_cons (pv 0) (pa_cons (pv 5) (pa_cons pe_str pa_nil)))))) (pss_one (ps_if (pt_cmpR op_eq (pe_dget hu (pv 5) pe_str (fun _ _ => rfl)) pe_str (nomark _)) (pss_one (ps_expr (pe_call (ok_Lwrite T) (hr.mono (by decide)) rfl T.m_Lwrite T.F_Lwrite.kp (b_Lwrite T) .nil pass0 (pa_cons (pv 0) (pa_cons (pv 5) (pa_cons (pv 2) pa_nil)))))) (pss_one (ps_expr (pe_call (ok_Lread T) (hr.mono (by decide)) rfl T.m_Lread T.F_Lread.kp (b_Lread T) .nil pass0 (pa_cons (pv 0) (pa_cons (pv 5) (pa_cons (pv 2) pa_nil))))))))))))))))
      (pss_one (ps_expr (pe_bm PySem.F.plainAttrs_list PySem.F.slot_list_append PySem.F.type_list_append mt_append (pe_dget hu (pv 0) pe_str (fun _ _ => rfl)) (pa_cons (pv 1) pa_nil))))), ?_⟩
    refine ⟨fun σ' H' => ∃ x2 x3 x4 x5 A', σ' = [some (.ref h), some (.ref t), x2, x3, x4, x5] ∧ Mid c h A H (doE c s e) A' H', ?_, ?_⟩
    · refine ⟨_, rfl, (by show 1 ≤ sizeLine; decide), fun p np => ?_⟩
      have L1 := L.new (o := .tup [.str "evict"]) np
      have K1 := (Keep.refl (F := Fp h A) (H := H)).new (o := .tup [.str "evict"]) np
      have hp : (upd H p (.tup [.str "evict"])) p = some (.tup (evV evictE)) := upd_same
      have ht1 := same_new (o := .tup [.str "evict"]) np _ _ ht
      generalize upd H p (.tup [.str "evict"]) = H1 at L1 K1 hp ht1
      refine ⟨_, _, evD_dp ht1, evD_dp hp, evD_shaped ok, evD_shaped (by decide +kernel), _, rfl, ?_⟩
      unfold doE
      refine iteE (fun q => ?_) (fun q => ?_)
      · rw [if_pos q]
        refine ⟨(by show 2 ≤ sizeLine; decide), fun p2 np2 => ?_⟩
        have L2 := L1.new (o := .tup [.non, .int 0]) np2
        have K2 := K1.new (o := .tup [.non, .int 0]) np2
        have hp2 : (upd H1 p2 (.tup [.non, .int 0])) p2 = some (.tup [.non, .int 0]) := upd_same
        generalize upd H1 p2 (.tup [.non, .int 0]) = H2 at L2 K2 hp2
        refine ⟨_, _, rfl, SqT.of hp2, rfl, _, _, rfl, _, rfl, _, _, rfl, dput (kvs' := hK A.d A.w { s with cache := none } A.lo A.lp) L2.hd rfl, ?_⟩
        have L3 := L2.hput (s' := { s with cache := none }) rfl rfl
        refine ⟨_, _, rfl, _, rfl, _, _, rfl, dput (kvs' := hK A.d A.w { s with cache := none, mark := 0 } A.lo A.lp) L3.hd rfl, rfl, ?_⟩
        exact ⟨_, _, _, _, A, rfl, L3.hput rfl rfl, rfl, rfl, rfl, rfl, ⟨fun b hb => .inl hb, List.prefix_refl _⟩, (K2.put fp_h).put fp_h⟩
      rw [if_neg q]
      refine ⟨_, rfl, (by show 1 ≤ sizeLine; decide), fun p2 np2 => ?_⟩
      have L2 := L1.new (o := .tup [.str "copy"]) np2
      have K2 := K1.new (o := .tup [.str "copy"]) np2
      have hp2 : (upd H1 p2 (.tup [.str "copy"])) p2 = some (.tup (evV copyE)) := upd_same
      have ht2 := same_new (o := .tup [.str "copy"]) np2 _ _ ht1
      generalize upd H1 p2 (.tup [.str "copy"]) = H2 at L2 K2 hp2 ht2
      refine ⟨_, _, evD_dp ht2, evD_dp hp2, evD_shaped ok, evD_shaped (by decide +kernel), _, rfl, ?_⟩
      refine iteE (fun q2 => ?_) (fun q2 => ?_)
      · rw [if_pos q2]
        refine ⟨_, rfl, _, _, rfl, dget (L2.hd) rfl, _, _, rfl, rfl, _, rfl, _, _, rfl, dput (kvs' := hK A.d A.w { s with rep := s.rep + 1 } A.lo A.lp) L2.hd (by show putK _ _ (V.int ((s.rep : Int) + 1)) = hK _ _ _ _ _; rfl), ?_⟩
        exact ⟨_, _, _, _, A, rfl, L2.hput rfl rfl, rfl, rfl, rfl, rfl, ⟨fun b hb => .inl hb, List.prefix_refl _⟩, K2.put fp_h⟩
      rw [if_neg q2]
      rcases hk with z | z | ⟨k, w, rfl, hle, hop⟩
      · exact (q z).elim
      · exact (q2 z).elim
      refine ⟨_, rfl, _, _, rfl, SqT.of ht2, rfl, _, _, rfl, _, _, rfl, rfl, ?_⟩
      show _
      have ek : (k : Int).toNat = k := Int.toNat_natCast k
      simp only [ek]
      refine ⟨fun σ' H' => ∃ x4 x5 A', σ' = [some (.ref h), some (.ref t), some (.str w), some (.int (k : Int)), x4, x5] ∧ Mid c h A H (preH s w k) A' H', ?_, ?_⟩
      · refine ⟨_, rfl, _, rfl, _, _, rfl, dget (L2.hd) rfl, _, _, rfl, .inl (SqL.of L2.lo), rfl, _, rfl, ?_⟩
        rw [List.length_map, L2.ol]
        unfold preH
        refine iteI (fun q3 => ?_) (fun q3 => ?_)
        · rw [if_pos q3]
          refine ⟨fun σ' H' => σ' = [some (.ref h), some (.ref t), some (.str w), some (.int (k : Int)), some (.str (newOp s w).kind), none] ∧ H' = H2, ?_, ?_⟩
          · refine ⟨_, rfl, rfl, _, rfl, ?_⟩
            refine iteS (fun q4 => ?_) (fun q4 => ?_)
            · have z : (newOp s w).kind = "read" := if_pos q4
              rw [z]
              exact ⟨rfl, rfl⟩
            · have z : (newOp s w).kind = "write" := if_neg q4
              rw [z]
              exact ⟨rfl, rfl⟩
          rintro σ' H' ⟨rfl, rfl⟩
          subst q3
          intro p3 np3
          have L3 := L2.new (o := .dK []) np3
          refine ⟨_, rfl, _, rfl, _, rfl, _, rfl, _, _, rfl, dget (L3.hd) rfl, _, _, rfl, .inl (SqL.of L3.lp), upd_same, oneK s s.ops.length w (newOp s w).kind, ?_, (by show 6 ≤ 15; decide), ?_⟩
          · rw [List.length_map, L3.el]
            rfl
          have e6 : mergeK [] (oneK s s.ops.length w (newOp s w).kind) = oneK s s.ops.length w (newOp s w).kind := by rfl
          rw [e6, upd_upd]
          have L4 := L2.new (o := .dK (oneK s s.ops.length w (newOp s w).kind)) np3
          have K4 := K2.new (o := .dK (oneK s s.ops.length w (newOp s w).kind)) np3
          have h4 : (upd H' p3 (.dK (oneK s s.ops.length w (newOp s w).kind))) p3 = some (.dK (oneK s s.ops.length w (newOp s w).kind)) := upd_same
          generalize upd H' p3 (.dK (oneK s s.ops.length w (newOp s w).kind)) = H4 at L4 K4 h4
          refine ⟨_, rfl, _, _, rfl, dget (L4.hd) rfl, .inl ⟨rfl, _, SqL.of L4.lo⟩, _, rfl, p3, _, rfl, h4, fun H5 l ts s5 nl nts nlt hl hts => ?_⟩
          have L5 := L4.same s5
          have K5 : Keep (Fp h A) H H5 := K4.trans fun b o e _ => s5 b o e
          refine ⟨(by show 2 ≤ sizeLine; decide), fun t1 n1 => ⟨(by show 2 ≤ sizeLine; decide), fun t2 n2 => ⟨(by show 2 ≤ sizeLine; decide), fun t3 n3 => ⟨(by show 3 ≤ sizeLine; decide), fun l3 nl3 => ?_⟩⟩⟩⟩
          have g1 : Same H5 (upd (upd (upd (upd H5 t1 (.tup [.str "step", .int 0])) t2 (.tup [.str "clean", .bl true])) t3 (.tup [.str "leader", .non])) l3 (.lst [.ref t1, .ref t2, .ref t3])) := sN (sN (sN (same_new n1) n2) n3) nl3
          have f1 : (upd (upd (upd (upd H5 t1 (.tup [.str "step", .int 0])) t2 (.tup [.str "clean", .bl true])) t3 (.tup [.str "leader", .non])) l3 (.lst [.ref t1, .ref t2, .ref t3])) t1 = some (.tup [.str "step", .int 0]) :=
            sN (sN (sN (Same.refl _) n2) n3) nl3 _ _ upd_same
          have f2 : (upd (upd (upd (upd H5 t1 (.tup [.str "step", .int 0])) t2 (.tup [.str "clean", .bl true])) t3 (.tup [.str "leader", .non])) l3 (.lst [.ref t1, .ref t2, .ref t3])) t2 = some (.tup [.str "clean", .bl true]) :=
            sN (sN (Same.refl _) n3) nl3 _ _ upd_same
          have f3 : (upd (upd (upd (upd H5 t1 (.tup [.str "step", .int 0])) t2 (.tup [.str "clean", .bl true])) t3 (.tup [.str "leader", .non])) l3 (.lst [.ref t1, .ref t2, .ref t3])) t3 = some (.tup [.str "leader", .non]) :=
            sN (Same.refl _) nl3 _ _ upd_same
          have f4 : (upd (upd (upd (upd H5 t1 (.tup [.str "step", .int 0])) t2 (.tup [.str "clean", .bl true])) t3 (.tup [.str "leader", .non])) l3 (.lst [.ref t1, .ref t2, .ref t3])) l3 = some (.lst [.ref t1, .ref t2, .ref t3]) := upd_same
          generalize upd (upd (upd (upd H5 t1 (.tup [.str "step", .int 0])) t2 (.tup [.str "clean", .bl true])) t3 (.tup [.str "leader", .non])) l3 (.lst [.ref t1, .ref t2, .ref t3]) = H6 at g1 f1 f2 f3 f4 ⊢
          have L6 := L5.same g1
          have K6 : Keep (Fp h A) H H6 := K5.trans fun b o e _ => g1 b o e
          have tl : ts.length = 6 := hts.length
          refine ⟨_, _, _, _, rfl, rfl, g1 _ _ hl, f4, (by rw [List.length_map, tl]; show 9 ≤ sizeLine; decide), fun l7 n7 => ?_⟩
          have L7 := L6.new (o := .lst (ts.map V.ref ++ [.ref t1, .ref t2, .ref t3])) n7
          have K7 := K6.new (o := .lst (ts.map V.ref ++ [.ref t1, .ref t2, .ref t3])) n7
          have s67 := same_new (o := .lst (ts.map V.ref ++ [.ref t1, .ref t2, .ref t3])) n7
          have h7 : (upd H6 l7 (.lst (ts.map V.ref ++ [.ref t1, .ref t2, .ref t3]))) l7 = some (.lst ((ts ++ [t1, t2, t3]).map V.ref)) := by
            rw [upd_same, List.map_append]
            rfl
          generalize upd H6 l7 (.lst (ts.map V.ref ++ [.ref t1, .ref t2, .ref t3])) = H7 at L7 K7 s67 h7
          refine ⟨l7, ts ++ [t1, t2, t3], oneK s s.ops.length w (newOp s w).kind ++ restK, rfl, SqL.of h7, ?_, fun p8 n8 => ?_⟩
          · refine Paired.app (Paired.mapP hts fun a b q => SqT.of (s67 _ _ (g1 _ _ q))) ?_
            exact .cons (SqT.of (s67 _ _ f1)) (.cons (SqT.of (s67 _ _ f2)) (.cons (SqT.of (s67 _ _ f3)) .nil))
          rw [one_all]
          have L8 := L7.new (o := .dK (oK (newOp s w))) n8
          have K8 := K7.new (o := .dK (oK (newOp s w))) n8
          have h8 : (upd H7 p8 (.dK (oK (newOp s w)))) p8 = some (.dK (oK (newOp s w))) := upd_same
          have nf8 : ¬ Fp h A p8 := L7.nfp n8
          have n8' : H p8 = none := K7.free n8 nf8
          generalize upd H7 p8 (.dK (oK (newOp s w))) = H8 at L8 K8 h8
          refine ⟨A.lo, _, _, rfl, rfl, L8.lo, (by rw [List.length_map, L8.ol]; exact small9 l1), ?_⟩
          refine ⟨_, _, _, rfl, L8.opush (fun z => nf8 (.inr (.inr (.inr z)))) h8, rfl, rfl, rfl, rfl, ⟨fun b hb => ?_, List.prefix_append _ _⟩, K8.put (.inr (.inl rfl))⟩
          rcases List.mem_append.mp hb with z | z
          · exact .inl z
          · rw [List.mem_singleton.mp z]
            exact .inr n8'
        · rw [if_neg q3]
          exact ⟨_, _, A, rfl, L2, rfl, rfl, rfl, rfl, ⟨fun b hb => .inl hb, List.prefix_refl _⟩, K2⟩
      · rintro σ' H' ⟨x4, x5, A', rfl, M⟩
        have hlt : k < (preH s w k).ops.length := by
          unfold preH
          split
          · rename_i z
            rw [z]
            simp
          · show k < s.ops.length
            omega
        obtain ⟨o, eo⟩ : ∃ o, (preH s w k).ops[k]? = some o := ⟨_, List.getElem?_eq_getElem hlt⟩
        obtain ⟨a, ea, ha⟩ := M.L.get eo
        have hop := hop o eo
        have har : (A'.oas.map V.ref)[k]? = some (.ref a) := by rw [List.getElem?_map, ea]; rfl
        refine ⟨_, rfl, _, _, rfl, dget (M.L.hd) rfl, _, rfl, A'.lo, _, (k : Int), _, rfl, rfl, SqL.of M.L.lo, at_of rfl har, ?_⟩
        simp only [eo]
        have fin : ∀ (s' : HS) (H'' : Hp), LawAt c H'' h A' s' → Keep (Fp h A') H' H'' → Mid c h A H s' A' H'' := fun s' H'' L' K' => by
          refine ⟨L', M.d, M.w, M.lo, M.lp, M.oa, fun b u eb nb => K' b u (M.k b u eb nb) fun z => ?_⟩
          rcases z with z | z | z | z
          · exact nb (.inl z)
          · exact nb (.inr (.inl (by rw [← M.lo]; exact z)))
          · exact nb (.inr (.inr (.inl (by rw [← M.lp]; exact z))))
          · rcases M.oa.1 b z with y | y
            · exact nb (.inr (.inr (.inr y)))
            · rw [y] at eb; cases eb
        unfold doOp
        refine ⟨_, rfl, rfl, _, rfl, ?_⟩
        refine iteS (fun q4 => ?_) (fun q4 => ?_)
        · rw [if_pos q4]
          refine ⟨_, rfl, _, rfl, ?_⟩
          exact end_i M.L ea eo fun H2 L2 K2 => ⟨_, _, _, _, A', rfl, fin _ _ L2 K2⟩
        · rw [if_neg q4]
          refine ⟨_, rfl, _, _, rfl, dget (ha) rfl, rfl, _, rfl, ?_⟩
          refine iteS (fun q5 => ?_) (fun q5 => ?_)
          · rw [if_pos q5]
            refine ⟨_, rfl, _, rfl, _, rfl, ?_⟩
            rcases hop with z | ⟨_, z1, z2⟩ | ⟨z, _⟩
            · exact (q4 z).elim
            · exact write_i O M.L ea eo z1 z2 fun H2 L2 K2 => ⟨_, _, _, _, A', rfl, fin _ _ L2 K2⟩
            · exact (z q5).elim
          · rw [if_neg q5]
            refine ⟨_, rfl, _, rfl, _, rfl, ?_⟩
            rcases hop with z | ⟨z, _⟩ | ⟨_, z1, z2⟩
            · exact (q4 z).elim
            · exact (q5 z).elim
            · exact read_i O M.L ea eo z1 z2 fun H2 L2 K2 => ⟨_, _, _, _, A', rfl, fin _ _ L2 K2⟩
    · rintro σ' H' ⟨x2, x3, x4, x5, A', rfl, M⟩
      refine ⟨_, rfl, _, _, rfl, dget (M.L.hd) rfl, .inl ⟨rfl, _, SqL.of M.L.lp⟩, _, rfl, A'.lp, _, _, rfl, rfl, M.L.lp, (by rw [List.length_map, M.L.el, doE_past]; exact small9 l2), ?_⟩
      have L5 := M.L.epush (M.k t _ ht (fun z => ?_))
      · have zE : ({ doE c s e with past := (doE c s e).past ++ [e] } : HS) = doH c s e := by unfold doH; rw [doE_past]
        rw [zE] at L5
        refine d _ { A' with eas := A'.eas ++ [t] } L5 M.d M.w M.lo M.lp M.oa (M.k.put ?_)
        right; right; left
        exact M.lp
      · rcases z with z | z | z | z
        · rw [z, L.hd] at ht; cases ht
        · rw [z, L.lo] at ht; cases ht
        · rw [z, L.lp] at ht; cases ht
        · obtain ⟨j, hj, ej⟩ := List.getElem_of_mem z
          obtain ⟨o, _, q⟩ := L.ofAt (k := j) (a := t) (by rw [List.getElem?_eq_getElem hj, ej])
          rw [q] at ht; cases ht
end
end Ca

set_option Elab.async false
set_option linter.all false
set_option maxRecDepth 100000
set_option maxHeartbeats 4000000
namespace Ca
open PySem L2
/-! ### what the law's own cache tells: who is under way, what can come -/
def sv : Option Str → V
  | none => .non
  | some w => .str w
/-- a list of operations' dicts -/
abbrev OpRefs (A : LA) (s : HS) (xs : List V) (os : List OpS) : Prop := Paired (fun (x : V) (o : OpS) => ∃ (k : Nat) (a : Addr), x = .ref a ∧ A.oas[k]? = some a ∧ s.ops[k]? = some o) xs os
def WaitOk (s : HS) (o : OpS) : Prop := o.stage = "waits" → ∃ l q, o.leader = some l ∧ s.ops[l]? = some q
@[irreducible] def spBegin : Sp := fun vs H Q _ => ∃ (c : Conf) (d w : Addr), vs = [.ref d, .ref w] ∧ H d = some (.tup [.str c.path, .str c.guard, .str c.flight]) ∧ H w = some (.tup [.str c.source, .str c.evict, .str c.stop]) ∧
  ∀ h lo lp H', Same H H' → H h = none → H lo = none → H lp = none → LawAt c H' h ⟨d, w, lo, lp, [], []⟩ HS.begin → Q (.ref h) H'
@[irreducible] def spNext : Sp := fun vs H Q _ => ∃ (c : Conf) (h a : Addr) (A : LA) (s : HS) (k : Nat) (o : OpS), vs = [.ref h, .ref a] ∧ LawAt c H h A s ∧ A.oas[k]? = some a ∧ s.ops[k]? = some o ∧ WaitOk s o ∧ Q (sv (nextOf s o)) H
@[irreducible] def spGoing : Sp := fun vs H Q _ => ∃ (c : Conf) (h : Addr) (A : LA) (s : HS), vs = [.ref h] ∧ LawAt c H h A s ∧ s.ops.length ≤ 100 ∧ ∀ p xs H', Same H H' → H p = none → H' p = some (.lst xs) → OpRefs A s xs (going s) → Q (.ref p) H'
@[irreducible] def spEvents : Sp := fun vs H Q _ => ∃ (c : Conf) (h : Addr) (A : LA) (s : HS), vs = [.ref h] ∧ c.Ok ∧ LawAt c H h A s ∧ s.ops.length ≤ 100 ∧ (∀ o ∈ s.ops, WaitOk s o) ∧
  ∀ p xs es H', Same H H' → H p = none → H' p = some (.lst xs) → EvsAt H' xs es → Srt es → es.Perm (evList c s) → Q (.ref p) H'
section
variable {c : Conf} {h a d w : Addr} {A : LA} {s : HS} {k : Nat} {o : OpS} {H : Hp} {Q : VK} {E : XK}
theorem begin_i (h1 : H d = some (.tup [.str c.path, .str c.guard, .str c.flight])) (h2 : H w = some (.tup [.str c.source, .str c.evict, .str c.stop]))
    (q : ∀ h lo lp H', Same H H' → H h = none → H lo = none → H lp = none → LawAt c H' h ⟨d, w, lo, lp, [], []⟩ HS.begin → Q (.ref h) H') : spBegin [.ref d, .ref w] H Q E := by
  unfold spBegin
  exact ⟨c, d, w, rfl, h1, h2, q⟩
theorem next_i (L : LawAt c H h A s) (e : A.oas[k]? = some a) (e' : s.ops[k]? = some o) (wt : WaitOk s o) (q : Q (sv (nextOf s o)) H) : spNext [.ref h, .ref a] H Q E := by
  unfold spNext
  exact ⟨c, h, a, A, s, k, o, rfl, L, e, e', wt, q⟩
theorem going_i (L : LawAt c H h A s) (l : s.ops.length ≤ 100) (q : ∀ p xs H', Same H H' → H p = none → H' p = some (.lst xs) → OpRefs A s xs (going s) → Q (.ref p) H') : spGoing [.ref h] H Q E := by
  unfold spGoing
  exact ⟨c, h, A, s, rfl, L, l, q⟩
theorem events_i (O : c.Ok) (L : LawAt c H h A s) (l : s.ops.length ≤ 100) (wt : ∀ o ∈ s.ops, WaitOk s o) (q : ∀ p xs es H', Same H H' → H p = none → H' p = some (.lst xs) → EvsAt H' xs es → Srt es → es.Perm (evList c s) → Q (.ref p) H') : spEvents [.ref h] H Q E := by
  unfold spEvents
  exact ⟨c, h, A, s, rfl, O, L, l, wt, q⟩
end
theorem sN' {H H1 : Hp} {p : Addr} {o : HO} (a : Same H H1) (n : H p = none) : Same H (upd H1 p o) := fun b u e => by
  rw [upd_ne (ne_of_none e n)]
  exact a b u e
theorem iteB {b : Bool} {A B : Prop} (h1 : b = true → A) (h2 : b = false → B) : if b = true then A else B := by
  cases b with
  | true => exact h1 rfl
  | false => exact h2 rfl
section
variable {P : Program} {w : World} {K : PySem.W.Frag} {mg : Str → Option Value} {base : Heap}
theorem ok_Lbegin (T : Txt K mg) : FnOk P w K mg base CX0 1 T.f_Lbegin T.fd_Lbegin ["design", "world"] spBegin := by
  refine T.F_Lbegin.ok sc_Lbegin (fun vs H Q E h => ?_) (fun cdv A outer s H vs Q E hr h => ?_)
  · unfold spBegin at h
    obtain ⟨c, d, w, rfl, _⟩ := h
    rfl
  · unfold spBegin at h
    obtain ⟨c, d, w, rfl, h1, h2, q⟩ := h
    refine ⟨_, (pss_one (ps_ret (pe_disp (pps_cons pe_str (pv 0) (pps_cons pe_str (pv 1) (pps_cons pe_str pe_int (pps_cons pe_str pe_int (pps_cons pe_str pe_non (pps_cons pe_str pe_int (pps_cons pe_str pe_non (pps_cons pe_str (pe_lst pa_nil) (pps_cons pe_str (pe_lst pa_nil) pps_nil))))))))) rfl rfl (by simp) (by decide)))), ?_⟩
    intro p np
    refine ⟨_, rfl, _, rfl, Nat.zero_le _, fun lo nlo => ⟨Nat.zero_le _, fun lp nlp => ?_⟩⟩
    have nlo' : H lo = none := (same_new np).free nlo
    have nlp1 : (upd H p (.dK [])) lp = none := (same_new nlo).free nlp
    have nlp' : H lp = none := (same_new np).free nlp1
    have ep : (upd (upd (upd H p (.dK [])) lo (.lst [])) lp (.lst [])) p = some (.dK []) := same_new nlp _ _ (same_new nlo _ _ upd_same)
    refine ⟨ep, [(.inr "design", .ref d), (.inr "world", .ref w), (.inr "db", .int 0), (.inr "rep", .int 0), (.inr "cache", .non), (.inr "mark", .int 0), (.inr "open", .non), (.inr "ops", .ref lo), (.inr "past", .ref lp)], rfl, (by show 9 ≤ 15; decide), ?_⟩
    have em : mergeK [] [(.inr "design", .ref d), (.inr "world", .ref w), (.inr "db", .int 0), (.inr "rep", .int 0), (.inr "cache", .non), (.inr "mark", .int 0), (.inr "open", .non), (.inr "ops", .ref lo), (.inr "past", .ref lp)] = hK d w HS.begin lo lp := by rfl
    rw [em]
    have npo : p ≠ lo := ne_of_none upd_same nlo
    have npl : p ≠ lp := ne_of_none (same_new nlo _ _ upd_same) nlp
    have nll : lo ≠ lp := ne_of_none upd_same nlp
    have S : Same H (upd (upd (upd (upd H p (.dK [])) lo (.lst [])) lp (.lst [])) p (.dK (hK d w HS.begin lo lp))) := sN' (sN' (sN' (same_new np) nlo') nlp') np
    refine q p lo lp _ S np nlo' nlp' ⟨upd_same, S _ _ h1, S _ _ h2, ?_, ?_, rfl, fun k a o e => by simp at e, rfl, fun i a e z => by simp at z, List.nodup_nil, nll⟩
    · rw [upd_ne npo.symm, upd_ne nll, upd_same]
      rfl
    · rw [upd_ne npl.symm, upd_same]
      rfl
theorem ok_Lnext (T : Txt K mg) : FnOk P w K mg base CX0 1 T.f_Lnext T.fd_Lnext ["h", "one"] spNext := by
  refine T.F_Lnext.ok sc_Lnext (fun vs H Q E h => ?_) (fun cdv A outer s H vs Q E hr h => ?_)
  · unfold spNext at h
    obtain ⟨c, h, a, A, s, k, o, rfl, _⟩ := h
    rfl
  · unfold spNext at h
    obtain ⟨c, h, a, A, s, k, o, rfl, L, e, e', wt, q⟩ := h
    have hu := hu_of hr
    have Ho := L.og k a o e e'
    refine ⟨_, (pss_cons (ps_if (pt_cmpR op_ne (pe_dget hu (pv 1) pe_str (fun _ _ => rfl)) pe_str (nomark _)) (pss_one (ps_ret (pe_dget hu (pv 1) pe_str (fun _ _ => rfl)))) pss_nil)
      (pss_one (ps_ret (pe_ifExp (pt_cmpR op_eq (pe_dget hu (pe_ix ix_list (pe_dget hu (pv 0) pe_str (fun _ _ => rfl)) (pe_dget hu (pv 1) pe_str (fun _ _ => rfl)) (fun _ _ => rfl)) pe_str (fun _ _ => rfl)) pe_str (nomark _)) pe_str pe_non)))), ?_⟩
    unfold nextOf at q
    refine ⟨_, rfl, _, _, rfl, dget (Ho) rfl, rfl, _, rfl, ?_⟩
    refine iteSn (fun n => ?_) (fun n => ?_)
    · rw [if_neg n] at q
      exact ⟨_, rfl, _, _, rfl, dget (Ho) rfl, q⟩
    · rw [if_pos n] at q
      obtain ⟨l, qo, el, eq⟩ := wt n
      obtain ⟨b, eb, hb⟩ := L.get eq
      have hbr : (A.oas.map V.ref)[l]? = some (.ref b) := by rw [List.getElem?_map, eb]; rfl
      rw [el] at q
      simp only [eq] at q
      refine ⟨_, rfl, _, _, rfl, dget (L.hd) rfl, _, rfl, _, _, rfl, dget (Ho) rfl, _, _, (l : Int), _, rfl, (by rw [el]; rfl), SqL.of L.lo, at_of rfl hbr, _, _, rfl, dget (hb) rfl, rfl, _, rfl, ?_⟩
      refine iteS (fun n2 => ?_) (fun n2 => ?_)
      · rw [if_pos n2] at q
        exact q
      · rw [if_neg n2] at q
        exact q
theorem ended_in (st : Str) : inV (.str st) [.str "ended", .str "stopped"] = (decide (st = "ended") || decide (st = "stopped")) := by
  have e1 : ∀ a b : Str, eqV (.str a) (.str b) = decide (b = a) := fun a b => by
    by_cases h : a = b
    · subst h; simp [eqV]
    · simp [eqV, h, Ne.symm h]
      try exact fun z => h z.symm
  unfold inV
  simp only [List.any_cons, List.any_nil, e1, Bool.or_false]
theorem ok_Lgoing (T : Txt K mg) : FnOk P w K mg base CX0 1 T.f_Lgoing T.fd_Lgoing ["h"] spGoing := by
  refine T.F_Lgoing.ok sc_Lgoing (fun vs H Q E h => ?_) (fun cdv A outer s H vs Q E hr h => ?_)
  · unfold spGoing at h
    obtain ⟨c, h, A, s, rfl, _⟩ := h
    rfl
  · unfold spGoing at h
    obtain ⟨c, h, A, s, rfl, L, l, q⟩ := h
    have hu := hu_of hr
    refine ⟨_, (pss_one (ps_ret (pe_lc (own := [("one", 1)]) rfl sc_Lgoing.nd (pi_list (pe_dget hu (pv 0) pe_str (fun _ _ => rfl))) (blkOk_by (N := ["h", "one"]) (sc := defScope s_Lgoing) (by decide +kernel)) (fun _ _ _ _ _ => (pg_name (i := 1) sc_Lgoing.nd rfl (Or.inl rfl))) (fun _ _ _ _ _ => (pts_one (pt_cmpR (op_notInK (K := K) rfl) (pe_dget hu (pv 1) pe_str (fun _ _ => rfl)) (pe_lst (pa_cons pe_str (pa_cons pe_str pa_nil))) (by rfl)))) (fun _ _ _ _ _ => (pv 1))))), ?_⟩
    refine ⟨_, rfl, _, _, rfl, dget (L.hd) rfl, A.lo, rfl, ⟨_, SqL.of L.lo⟩, fun D nD => ?_⟩
    refine lc_list (xs := A.oas.map V.ref) (fun i H' => ∃ acc, Same H H' ∧ H' D = some (.lst acc) ∧ OpRefs A s acc ((s.ops.take i).filter fun o => !endedB o)) ⟨[], same_new nD, upd_same, .nil⟩ (fun i H' _ ⟨_, S, _⟩ => SqL.of (L.same S).lo) ?_ ?_
    · rintro i y H' hi ⟨acc, S, hD, R⟩
      rw [List.getElem?_map] at hi
      obtain ⟨b, eb, rfl⟩ : ∃ b, A.oas[i]? = some b ∧ V.ref b = y := by
        cases ez : A.oas[i]? with
        | none => rw [ez] at hi; cases hi
        | some b => rw [ez] at hi; exact ⟨b, rfl, Option.some.inj hi⟩
      have L1 := L.same S
      obtain ⟨o, eo, ho⟩ := L1.ofAt eb
      have h3 : s.ops.take (i + 1) = s.ops.take i ++ [o] := by
        rw [List.take_succ, eo]
        rfl
      have al : acc.length ≤ 100 := by
        rw [R.length]
        refine Nat.le_trans (List.length_filter_le _ _) ?_
        rw [List.length_take]
        omega
      refine ⟨rfl, _, rfl, _, _, rfl, dget (ho) rfl, (by show 2 ≤ sizeLine; decide), fun p np => ?_⟩
      have S2 := sN S (o := .lst [.str "ended", .str "stopped"]) np
      have hp : (upd H' p (.lst [.str "ended", .str "stopped"])) p = some (.lst [.str "ended", .str "stopped"]) := upd_same
      have hD2 := same_new (o := .lst [.str "ended", .str "stopped"]) np _ _ hD
      generalize upd H' p (.lst [.str "ended", .str "stopped"]) = H2 at S2 hp hD2
      refine ⟨p, _, rfl, .inl (SqL.of hp), rfl, rfl, _, rfl, ?_⟩
      have z : (if true = true then !inV (.str o.stage) [.str "ended", .str "stopped"] else inV (.str o.stage) [.str "ended", .str "stopped"]) = !endedB o := by
        rw [if_pos rfl, ended_in]
        rfl
      rw [z]
      refine iteB (fun n => ?_) (fun n => ?_)
      · refine ⟨_, rfl, acc, hD2, small9 al, acc ++ [.ref b], sN' S2 nD, upd_same, ?_⟩
        rw [h3, List.filter_append, List.filter_cons, if_pos n]
        exact Paired.app R (.cons ⟨i, b, rfl, eb, eo⟩ .nil)
      · refine ⟨acc, S2, hD2, ?_⟩
        rw [h3, List.filter_append, List.filter_cons, if_neg (by rw [n]; decide)]
        simpa using R
    · rintro H' ⟨acc, S, hD, R⟩
      rw [List.length_map, L.ol, List.take_length] at R
      exact q D acc H' S nD hD R
end
end Ca

set_option Elab.async false
set_option linter.all false
set_option maxRecDepth 100000
set_option maxHeartbeats 4000000
namespace Ca
open PySem L2
theorem EvsAt.upd {H : Hp} {xs zs : List V} {es : List Ev} {f : Addr} {o : HO} (x : EvsAt H xs es) (h : H f = some (.lst zs)) : EvsAt (upd H f o) xs es := Paired.mapP x fun _ _ ⟨t, a, b⟩ => ⟨t, a, by
  rw [upd_ne (ne_of b h (by intro z; cases z))]
  exact b⟩
theorem take_snoc {α : Type} {l : List α} {i : Nat} {o : α} (e : l[i]? = some o) : l.take (i + 1) = l.take i ++ [o] := by
  rw [List.take_succ, e]
  rfl
theorem take_len {α : Type} (l : List α) (i : Nat) : (l.take i).length ≤ l.length := by rw [List.length_take]; omega
theorem going_len (s : HS) : (going s).length ≤ s.ops.length := List.length_filter_le _ _
section
variable {P : Program} {w : World} {K : PySem.W.Frag} {mg : Str → Option Value} {base : Heap}
def evBf (s : HS) (o : OpS) : Option Ev := (nextOf s o).map fun w => (w, some (o.number : Int))
theorem ok_Levents (T : Txt K mg) : FnOk P w K mg base CX0 2 T.f_Levents T.fd_Levents ["h"] spEvents := by
  refine T.F_Levents.ok sc_Levents (fun vs H Q E h => ?_) (fun cdv A outer s H vs Q E hr h => ?_)
  · unfold spEvents at h
    obtain ⟨c, h, A, s, rfl, _⟩ := h
    rfl
  · unfold spEvents at h
    obtain ⟨c, h, A, s, rfl, O, L, ln, wt, q⟩ := h
    have hu := hu_of hr
    refine ⟨_, (pss_cons (ps_par (i := 1) (j := 2) rfl sc_Levents.nd rfl rfl (by decide) rfl rfl (pa_cons (pe_callB call_len_seq (by rfl) T.n_len (by decide +kernel) (pa_cons (pe_dget hu (pv 0) pe_str (fun _ _ => rfl)) pa_nil)) (pa_cons (pe_call (ok_Lgoing T) (hr.mono (by decide)) rfl T.m_Lgoing T.F_Lgoing.kp (b_Lgoing T) .nil pass0 (pa_cons (pv 0) pa_nil)) pa_nil)) (by rfl))
      (pss_cons (ps_set (i := 3) sc_Levents.nd rfl (Or.inl rfl) (pe_lst (pa_cons (pe_tup (pa_cons pe_str (pa_cons (pv 1) pa_nil))) (pa_cons (pe_tup (pa_cons (pe_ix ix_list (pe_split (pe_ix ix_tup (pe_dget hu (pv 0) pe_str (fun _ _ => rfl)) pe_int (fun _ _ => rfl)) pe_str) pe_int (fun _ _ => rfl)) (pa_cons (pv 1) pa_nil))) pa_nil))))
      (pss_cons (ps_set (i := 3) sc_Levents.nd rfl (Or.inl rfl) (pe_op op_cat (pv 3) (pe_lc (own := [("one", 4)]) rfl sc_Levents.nd (pi_list (pv 2)) (blkOk_by (N := ["h", "many", "going", "found", "one"]) (sc := defScope s_Levents) (by decide +kernel)) (fun _ _ _ _ _ => (pg_name (i := 4) sc_Levents.nd rfl (Or.inl rfl))) (fun _ _ _ _ _ => (pts_one (pt_cmpR op_notN (pe_call (ok_Lnext T) (hr.mono (by decide)) rfl T.m_Lnext T.F_Lnext.kp (b_Lnext T) .nil pass0 (pa_cons (pv 0) (pa_cons (pv 4) pa_nil))) pe_non (nomark _)))) (fun _ _ _ _ _ => (pe_tup (pa_cons (pe_call (ok_Lnext T) (hr.mono (by decide)) rfl T.m_Lnext T.F_Lnext.kp (b_Lnext T) .nil pass0 (pa_cons (pv 0) (pa_cons (pv 4) pa_nil))) (pa_cons (pe_dget hu (pv 4) pe_str (fun _ _ => rfl)) pa_nil)))))))
      (Evl.pss_cut (ps_if (pt_cmpR op_eq (pe_ix ix_tup (pe_dget hu (pv 0) pe_str (fun _ _ => rfl)) pe_int (fun _ _ => rfl)) pe_str (nomark _)) (pss_one (ps_set (i := 3) sc_Levents.nd rfl (Or.inl rfl) (pe_op op_cat (pv 3) (pe_lc (own := [("one", 4)]) rfl sc_Levents.nd (pi_list (pv 2)) (blkOk_by (N := ["h", "many", "going", "found", "one"]) (sc := defScope s_Levents) (by decide +kernel)) (fun _ _ _ _ _ => (pg_name (i := 4) sc_Levents.nd rfl (Or.inl rfl))) (fun _ _ _ _ _ => pts_nil) (fun _ _ _ _ _ => (pe_tup (pa_cons pe_str (pa_cons (pe_dget hu (pv 4) pe_str (fun _ _ => rfl)) pa_nil)))))))) pss_nil)
      (Evl.pss_cut (ps_if (PW.pt (pw_and (pt_cmpR op_eq (pe_ix ix_tup (pe_dget hu (pv 0) pe_str (fun _ _ => rfl)) pe_int (fun _ _ => rfl)) pe_str (nomark _)) (pw_and1 (PW.pt (pw_or (pt_cmpR op_notN (pe_dget hu (pv 0) pe_str (fun _ _ => rfl)) pe_non (nomark _)) (pw_or1 (pt_cmpR op_gt (pe_dget hu (pv 0) pe_str (fun _ _ => rfl)) pe_int (nomark _)))))))) (pss_one (ps_expr (pe_bm PySem.F.plainAttrs_list PySem.F.slot_list_append PySem.F.type_list_append mt_append (pv 3) (pa_cons (pe_tup (pa_cons pe_str pa_nil)) pa_nil)))) pss_nil)
      (Evl.pss_cut (ps_if (PW.pt (pw_and (pt_cmpR op_eq (pe_ix ix_tup (pe_dget hu (pv 0) pe_str (fun _ _ => rfl)) pe_int (fun _ _ => rfl)) pe_str (nomark _)) (pw_and1 (pt_cmpR op_lt (pe_dget hu (pv 0) pe_str (fun _ _ => rfl)) (pe_dget hu (pv 0) pe_str (fun _ _ => rfl)) (nomark _))))) (pss_one (ps_expr (pe_bm PySem.F.plainAttrs_list PySem.F.slot_list_append PySem.F.type_list_append mt_append (pv 3) (pa_cons (pe_tup (pa_cons pe_str pa_nil)) pa_nil)))) pss_nil)
      (pss_one (ps_ret (pe_callB cr_sortedE (by rfl) T.n_sorted (by decide +kernel) (pa_cons (pv 3) pa_nil)))))))))), ?_⟩
    refine ⟨_, rfl, _, _, rfl, dget (L.hd) rfl, _, _, rfl, .inl (SqL.of L.lo), _, rfl, ?_⟩
    rw [List.length_map, L.ol]
    refine going_i L ln fun g gs H1 S1 ng hg R => ?_
    have L1 := L.same S1
    refine ⟨_, _, rfl, _, rfl, (by show 2 ≤ sizeLine; decide), fun t1 n1 => ?_⟩
    have L2 := L1.new (o := .tup [.str "look", .int (s.ops.length : Int)]) n1
    have S2 := sN S1 (o := .tup [.str "look", .int (s.ops.length : Int)]) n1
    have hg2 := same_new (o := .tup [.str "look", .int (s.ops.length : Int)]) n1 _ _ hg
    have h21 : (upd H1 t1 (.tup [.str "look", .int (s.ops.length : Int)])) t1 = some (.tup (evV ("look", some (s.ops.length : Int)))) := upd_same
    generalize upd H1 t1 (.tup [.str "look", .int (s.ops.length : Int)]) = H2 at L2 S2 hg2 h21
    refine ⟨_, rfl, _, _, rfl, dget (L2.hd) rfl, _, _, _, _, rfl, rfl, SqT.of (L2.dd), rfl, ⟨_, rfl⟩, _, _, rfl, rfl, rfl, O.plen, fun p3 np3 => ?_⟩
    have hp3 : (upd H2 p3 (.lst ((Txt.split c.path " ").map V.str))) p3 = some (.lst (c.steps.map V.str)) := upd_same
    have L3 := L2.new (o := .lst ((Txt.split c.path " ").map V.str)) np3
    have S3 := sN S2 (o := .lst ((Txt.split c.path " ").map V.str)) np3
    have S23 := same_new (o := .lst ((Txt.split c.path " ").map V.str)) np3
    generalize upd H2 p3 (.lst ((Txt.split c.path " ").map V.str)) = H3 at hp3 L3 S3 S23
    have hfw : (c.steps.map V.str)[0]? = some (.str (firstW c)) := by
      rw [List.getElem?_map]
      unfold firstW
      rw [List.getD_eq_getElem?_getD, List.getElem?_eq_getElem O.slen.1]
      rfl
    refine ⟨p3, _, _, _, rfl, rfl, SqL.of hp3, at_of (j := 0) rfl hfw, _, rfl, (by show 2 ≤ sizeLine; decide), fun t2 n2 => ⟨(by show 2 ≤ sizeLine; decide), fun f nf => ?_⟩⟩
    have S4 : Same H3 (upd (upd H3 t2 (.tup [.str (firstW c), .int (s.ops.length : Int)])) f (.lst [.ref t1, .ref t2])) := sN (same_new n2) nf
    have hf : (upd (upd H3 t2 (.tup [.str (firstW c), .int (s.ops.length : Int)])) f (.lst [.ref t1, .ref t2])) f = some (.lst [.ref t1, .ref t2]) := upd_same
    have hx : EvsAt (upd (upd H3 t2 (.tup [.str (firstW c), .int (s.ops.length : Int)])) f (.lst [.ref t1, .ref t2])) [.ref t1, .ref t2] (evA c s) := by
      refine .cons ⟨t1, rfl, S4 _ _ (S23 _ _ h21)⟩ (.cons ⟨t2, rfl, same_new nf _ _ upd_same⟩ .nil)
    generalize upd (upd H3 t2 (.tup [.str (firstW c), .int (s.ops.length : Int)])) f (.lst [.ref t1, .ref t2]) = H4 at S4 hf hx
    have S5 := S3.trans S4
    have L5 := L.same S5
    have hg5 := S4 _ _ (S23 _ _ hg2)
    -- the steps that can be done
    refine ⟨_, rfl, _, rfl, g, rfl, ⟨_, SqL.of hg5⟩, fun D nD => ?_⟩
    refine lc_list (xs := gs) (fun i H' => ∃ acc, Same H4 H' ∧ H' D = some (.lst acc) ∧ EvsAt H' acc (((going s).take i).filterMap (evBf s))) ⟨[], same_new nD, upd_same, .nil⟩ (fun i H' _ ⟨_, S, _⟩ => SqL.of (S _ _ hg5)) ?_ ?_
    · rintro i y H' hi ⟨acc, S, hD, X⟩
      obtain ⟨o, eo, k, a, rfl, ea, ek⟩ := pget R hi
      have L6 := L5.same S
      have ho := L6.og k a o ea ek
      have wo := wt o (List.mem_of_getElem? ek)
      have al : acc.length ≤ 100 := by
        rw [X.length]
        exact Nat.le_trans (List.length_filterMap_le _ _) (Nat.le_trans (take_len _ _) (Nat.le_trans (going_len s) ln))
      rw [take_snoc eo, List.filterMap_append]
      refine ⟨rfl, _, rfl, _, rfl, ?_⟩
      refine next_i L6 ea ek wo ⟨rfl, _, rfl, ?_⟩
      cases en : nextOf s o with
      | none =>
        refine iteF ⟨acc, S, hD, ?_⟩
        have z : List.filterMap (evBf s) [o] = [] := by simp [evBf, en]
        rw [z, List.append_nil]
        exact X
      | some nw =>
        refine iteT ?_
        refine ⟨_, rfl, _, rfl, ?_⟩
        refine next_i L6 ea ek wo ?_
        rw [en]
        refine ⟨_, rfl, _, _, rfl, dget (ho) rfl, (by show 2 ≤ sizeLine; decide), fun t nt => ?_⟩
        have z : List.filterMap (evBf s) [o] = [(nw, some (o.number : Int))] := by simp [evBf, en]
        rw [z]
        have X7 := X.same (same_new (o := .tup [sv (some nw), .int (o.number : Int)]) nt)
        have ht : (upd H' t (.tup [sv (some nw), .int (o.number : Int)])) t = some (.tup (evV (nw, some (o.number : Int)))) := upd_same
        have hD7 := same_new (o := .tup [sv (some nw), .int (o.number : Int)]) nt _ _ hD
        have S7 := sN S (o := .tup [sv (some nw), .int (o.number : Int)]) nt
        generalize upd H' t (.tup [sv (some nw), .int (o.number : Int)]) = H7 at X7 ht hD7 S7
        refine ⟨acc, hD7, small9 al, acc ++ [.ref t], sN' S7 nD, upd_same, ?_⟩
        exact EvsAt.upd (Paired.app X7 (.cons ⟨t, rfl, ht⟩ .nil)) hD7
    rintro H' ⟨acc, S, hD, X⟩
    have eg : gs.length = (going s).length := R.length
    rw [eg, List.take_length] at X
    have al : acc.length ≤ 100 := by
      rw [X.length]
      exact Nat.le_trans (List.length_filterMap_le _ _) (Nat.le_trans (going_len s) ln)
    have S6 := S5.trans S
    have hg6 := S _ _ hg5
    have hf6 := S _ _ hf
    have hx6 := hx.same S
    refine ⟨f, D, _, _, rfl, rfl, hf6, hD, (Nat.le_trans (show 2 + acc.length ≤ 300 by omega) (by decide)), fun f2 nf2 => ?_⟩
    have S8 := sN S6 (o := .lst ([.ref t1, .ref t2] ++ acc)) nf2
    have hg8 := same_new (o := .lst ([.ref t1, .ref t2] ++ acc)) nf2 _ _ hg6
    have hf8 : (upd H' f2 (.lst ([.ref t1, .ref t2] ++ acc))) f2 = some (.lst ([.ref t1, .ref t2] ++ acc)) := upd_same
    have X8 : EvsAt (upd H' f2 (.lst ([.ref t1, .ref t2] ++ acc))) ([.ref t1, .ref t2] ++ acc) (evA c s ++ evB s) := EvsAt.same (Paired.app hx6 X) (same_new nf2)
    have nf8 : H f2 = none := S6.free nf2
    have ll : ([.ref t1, .ref t2] ++ acc : List V).length ≤ 200 := by
      rw [List.length_append]
      show 2 + acc.length ≤ 200
      omega
    generalize ([.ref t1, .ref t2] ++ acc : List V) = xs at S8 hg8 hf8 X8 ll
    generalize upd H' f2 (.lst xs) = H8 at S8 hg8 hf8 X8
    clear X al hx6 hf6 hg6 S6 S hD hx hf hg5 S5 S4 L5 S23 L3 S3 hp3 hg2 S2 L2 L1 h21
    -- stops
    refine ⟨fun σ' H' => ∃ f xs, σ' = [some (.ref h), some (.int (s.ops.length : Int)), some (.ref g), some (.ref f), none] ∧ Same H H' ∧ H f = none ∧ H' f = some (.lst xs) ∧ EvsAt H' xs (evA c s ++ evB s ++ evC c s) ∧ xs.length ≤ 400, ?_, ?_⟩
    · have L8 := L.same S8
      refine ⟨_, rfl, _, _, rfl, dget (L8.hd) rfl, _, _, _, _, rfl, rfl, SqT.of (L8.ww), rfl, rfl, _, rfl, ?_⟩
      unfold evC
      refine iteS (fun n => ?_) (fun n => ?_)
      · rw [if_pos n]
        refine ⟨_, rfl, _, rfl, g, rfl, ⟨_, SqL.of hg8⟩, fun D nD => ?_⟩
        refine lc_list (xs := gs) (fun i H' => ∃ acc, Same H8 H' ∧ H' D = some (.lst acc) ∧ EvsAt H' acc (((going s).take i).map fun o => ("stop", some (o.number : Int)))) ⟨[], same_new nD, upd_same, .nil⟩ (fun i H' _ ⟨_, S, _⟩ => SqL.of (S _ _ hg8)) ?_ ?_
        · rintro i y H' hi ⟨acc, S, hD, X⟩
          obtain ⟨o, eo, k, a, rfl, ea, ek⟩ := pget R hi
          have L6 := L8.same S
          have ho := L6.og k a o ea ek
          have al : acc.length ≤ 100 := by
            rw [X.length, List.length_map]
            exact Nat.le_trans (take_len _ _) (Nat.le_trans (going_len s) ln)
          rw [take_snoc eo, List.map_append]
          refine ⟨rfl, ?_⟩
          simp only [tYes, reduceIte]
          refine ⟨_, rfl, _, _, rfl, dget (ho) rfl, (by show 2 ≤ sizeLine; decide), fun t nt => ?_⟩
          have X7 := X.same (same_new (o := .tup [.str "stop", .int (o.number : Int)]) nt)
          have ht : (upd H' t (.tup [.str "stop", .int (o.number : Int)])) t = some (.tup (evV ("stop", some (o.number : Int)))) := upd_same
          have hD7 := same_new (o := .tup [.str "stop", .int (o.number : Int)]) nt _ _ hD
          have S7 := sN S (o := .tup [.str "stop", .int (o.number : Int)]) nt
          generalize upd H' t (.tup [.str "stop", .int (o.number : Int)]) = H7 at X7 ht hD7 S7
          refine ⟨acc, hD7, small9 al, acc ++ [.ref t], sN' S7 nD, upd_same, ?_⟩
          exact EvsAt.upd (Paired.app X7 (.cons ⟨t, rfl, ht⟩ .nil)) hD7
        · rintro H' ⟨acc, S, hD, X⟩
          have eg : gs.length = (going s).length := R.length
          rw [eg, List.take_length] at X
          have al : acc.length ≤ 100 := by
            rw [X.length, List.length_map]
            exact Nat.le_trans (going_len s) ln
          refine ⟨f2, D, _, _, rfl, rfl, S _ _ hf8, hD, (Nat.le_trans (show xs.length + acc.length ≤ 300 by omega) (by decide)), fun f3 nf3 => ?_⟩
          refine ⟨f3, _, rfl, sN (S8.trans S) nf3, (S8.trans S).free nf3, upd_same, ?_, by rw [List.length_append]; omega⟩
          exact EvsAt.same (Paired.app (X8.same S) X) (same_new nf3)
      · rw [if_neg n, List.append_nil]
        exact ⟨f2, xs, rfl, S8, nf8, hf8, X8, by omega⟩
    · rintro σ' H' ⟨f3, ys, rfl, S9, nf3, hf9, X9, l9⟩
      clear X8 hf8 nf8 hg8 S8 ll
      refine ⟨fun σ' H' => ∃ f xs, σ' = [some (.ref h), some (.int (s.ops.length : Int)), some (.ref g), some (.ref f), none] ∧ Same H H' ∧ H f = none ∧ H' f = some (.lst xs) ∧ EvsAt H' xs (evA c s ++ evB s ++ evC c s ++ evD c s) ∧ xs.length ≤ 401, ?_, ?_⟩
      · have L9 := L.same S9
        have push : canEvict c s = true → ∀ t, H' t = none → ∃ f xs, [some (V.ref h), some (V.int (s.ops.length : Int)), some (V.ref g), some (V.ref f3), none] = [some (V.ref h), some (V.int (s.ops.length : Int)), some (V.ref g), some (V.ref f), none] ∧ Same H (upd (upd H' t (.tup [.str "evict"])) f3 (.lst (ys ++ [.ref t]))) ∧ H f = none ∧ (upd (upd H' t (.tup [.str "evict"])) f3 (.lst (ys ++ [.ref t]))) f = some (.lst xs) ∧ EvsAt (upd (upd H' t (.tup [.str "evict"])) f3 (.lst (ys ++ [.ref t]))) xs (evA c s ++ evB s ++ evC c s ++ evD c s) ∧ xs.length ≤ 401 := fun ce t nt => by
          refine ⟨f3, ys ++ [.ref t], rfl, sN' (sN S9 nt) nf3, nf3, upd_same, ?_, by rw [List.length_append, List.length_singleton]; omega⟩
          unfold evD
          rw [if_pos ce]
          refine EvsAt.upd (zs := ys) (Paired.app (X9.same (same_new nt)) (.cons ⟨t, rfl, upd_same⟩ .nil)) (same_new nt _ _ hf9)
        have skip : canEvict c s = false → ∃ f xs, [some (V.ref h), some (V.int (s.ops.length : Int)), some (V.ref g), some (V.ref f3), none] = [some (V.ref h), some (V.int (s.ops.length : Int)), some (V.ref g), some (V.ref f), none] ∧ Same H H' ∧ H f = none ∧ H' f = some (.lst xs) ∧ EvsAt H' xs (evA c s ++ evB s ++ evC c s ++ evD c s) ∧ xs.length ≤ 401 := fun ce => by
          refine ⟨f3, ys, rfl, S9, nf3, hf9, ?_, by omega⟩
          unfold evD
          rw [if_neg (by rw [ce]; decide), List.append_nil]
          exact X9
        unfold canEvict at push skip
        refine ⟨_, rfl, _, _, rfl, dget (L9.hd) rfl, _, _, _, _, rfl, rfl, SqT.of (L9.ww), rfl, rfl, _, rfl, ?_⟩
        refine iteS (fun n => ?_) (fun n => ?_)
        · rw [decide_eq_true n, Bool.true_and] at push skip
          refine ⟨_, rfl, _, _, rfl, dget (L9.hd) rfl, rfl, _, rfl, ?_⟩
          refine iteNn (fun v n2 => ?_) (fun n2 => ?_)
          · rw [n2] at push
            refine ⟨_, rfl, .inl ⟨rfl, _, SqL.of hf9⟩, (by show 1 ≤ sizeLine; decide), fun t nt => ⟨f3, ys, _, rfl, rfl, same_new nt _ _ hf9, Nat.lt_of_le_of_lt l9 (by decide), ?_⟩⟩
            exact push rfl t nt
          · rw [n2] at push skip
            refine ⟨_, rfl, _, _, rfl, dget (L9.hd) rfl, (s.mark : Int), 0, rfl, rfl, _, rfl, ?_⟩
            refine iteB (fun n3 => ?_) (fun n3 => ?_)
            · have n3 : 0 < s.mark := by have := of_decide_eq_true n3; omega
              refine ⟨_, rfl, .inl ⟨rfl, _, SqL.of hf9⟩, (by show 1 ≤ sizeLine; decide), fun t nt => ⟨f3, ys, _, rfl, rfl, same_new nt _ _ hf9, Nat.lt_of_le_of_lt l9 (by decide), ?_⟩⟩
              exact push (by simpa using n3) t nt
            · have n3 : ¬ 0 < s.mark := by have := of_decide_eq_false n3; omega
              exact skip (by simpa using n3)
        · rw [decide_eq_false n, Bool.false_and] at skip
          exact skip rfl
      · rintro σ' H'' ⟨f4, zs, rfl, S10, nf4, hf10, X10, l10⟩
        clear X9 hf9 nf3 S9 l9
        refine ⟨fun σ' H' => ∃ f xs, σ' = [some (.ref h), some (.int (s.ops.length : Int)), some (.ref g), some (.ref f), none] ∧ Same H H' ∧ H f = none ∧ H' f = some (.lst xs) ∧ EvsAt H' xs (evList c s) ∧ xs.length ≤ 402, ?_, ?_⟩
        · have L10 := L.same S10
          have push : canCopy c s = true → ∀ t, H'' t = none → ∃ f xs, [some (V.ref h), some (V.int (s.ops.length : Int)), some (V.ref g), some (V.ref f4), none] = [some (V.ref h), some (V.int (s.ops.length : Int)), some (V.ref g), some (V.ref f), none] ∧ Same H (upd (upd H'' t (.tup [.str "copy"])) f4 (.lst (zs ++ [.ref t]))) ∧ H f = none ∧ (upd (upd H'' t (.tup [.str "copy"])) f4 (.lst (zs ++ [.ref t]))) f = some (.lst xs) ∧ EvsAt (upd (upd H'' t (.tup [.str "copy"])) f4 (.lst (zs ++ [.ref t]))) xs (evList c s) ∧ xs.length ≤ 402 := fun ce t nt => by
            refine ⟨f4, zs ++ [.ref t], rfl, sN' (sN S10 nt) nf4, nf4, upd_same, ?_, by rw [List.length_append, List.length_singleton]; omega⟩
            unfold evList evE
            rw [if_pos ce]
            refine EvsAt.upd (zs := zs) (Paired.app (X10.same (same_new nt)) (.cons ⟨t, rfl, upd_same⟩ .nil)) (same_new nt _ _ hf10)
          have skip : canCopy c s = false → ∃ f xs, [some (V.ref h), some (V.int (s.ops.length : Int)), some (V.ref g), some (V.ref f4), none] = [some (V.ref h), some (V.int (s.ops.length : Int)), some (V.ref g), some (V.ref f), none] ∧ Same H H'' ∧ H f = none ∧ H'' f = some (.lst xs) ∧ EvsAt H'' xs (evList c s) ∧ xs.length ≤ 402 := fun ce => by
            refine ⟨f4, zs, rfl, S10, nf4, hf10, ?_, by omega⟩
            unfold evList evE
            rw [if_neg (by rw [ce]; decide), List.append_nil]
            exact X10
          unfold canCopy at push skip
          refine ⟨_, rfl, _, _, rfl, dget (L10.hd) rfl, _, _, _, _, rfl, rfl, SqT.of (L10.ww), rfl, rfl, _, rfl, ?_⟩
          refine iteS (fun n => ?_) (fun n => ?_)
          · rw [decide_eq_true n, Bool.true_and] at push skip
            refine ⟨_, rfl, _, _, rfl, dget (L10.hd) rfl, _, rfl, _, _, rfl, dget (L10.hd) rfl, (s.rep : Int), (s.db : Int), rfl, rfl, _, rfl, ?_⟩
            refine iteB (fun n3 => ?_) (fun n3 => ?_)
            · have n3 : s.rep < s.db := by have := of_decide_eq_true n3; omega
              refine ⟨_, rfl, .inl ⟨rfl, _, SqL.of hf10⟩, (by show 1 ≤ sizeLine; decide), fun t nt => ⟨f4, zs, _, rfl, rfl, same_new nt _ _ hf10, Nat.lt_of_le_of_lt l10 (by decide), ?_⟩⟩
              exact push (by simpa using n3) t nt
            · have n3 : ¬ s.rep < s.db := by have := of_decide_eq_false n3; omega
              exact skip (by simpa using n3)
          · rw [decide_eq_false n, Bool.false_and] at skip
            exact skip rfl
        · rintro σ' H3 ⟨f5, us, rfl, S11, nf5, hf11, X11, l11⟩
          refine ⟨_, rfl, f5, us, evOf H3, rfl, SqL.of hf11, X11.all, fun vs p sr pm np => ?_⟩
          obtain ⟨x1, x2, x3⟩ := X11.sorted sr pm
          exact q p vs _ _ (sN S11 np) (S11.free np) upd_same (x1.same (same_new np)) x2 x3
end
end Ca

set_option Elab.async false
set_option linter.all false
set_option maxRecDepth 100000
set_option maxHeartbeats 4000000
namespace Ca
open PySem L2
/-! ### what holds of the law's own cache behind every run -/
structure OpWf (c : Conf) (n k : Nat) (o : OpS) : Prop where
  num : o.number = k
  kd : o.kind = "read" ∨ o.kind = "write"
  wr : o.kind = "write" → ¬ o.stage = "ended" → ¬ o.stage = "stopped" → o.step < c.steps.length ∧ o.stage = c.steps.getD o.step "" ∧ (o.stage = "set" → o.version.isSome = true)
  rd : o.kind = "read" → o.stage = "look" ∨ o.stage = "fetch" ∨ (o.stage = "fill" ∧ o.version.isSome = true) ∨ (o.stage = "waits" ∧ ∃ l, o.leader = some l ∧ l < n) ∨ o.stage = "ended" ∨ o.stage = "stopped"
  str : PyData.strOk o.stage = true
def WfL (c : Conf) (l : List OpS) : Prop := ∀ (k : Nat) o, l[k]? = some o → OpWf c l.length k o
structure Wf (c : Conf) (s : HS) : Prop where
  ops : WfL c s.ops
  opn : ∀ l, s.opn = some l → l < s.ops.length
structure PathOk (p : Str) : Prop where
  fst : (Txt.split p " ").getD 0 "" = "drop" ∨ (Txt.split p " ").getD 0 "" = "store"
  words : ∀ w ∈ Txt.split p " ", w = "drop" ∨ w = "store" ∨ w = "set"
  set : ∀ j, (Txt.split p " ").getD (j + 1) "" = "set" → (Txt.split p " ").getD j "" = "store"
theorem pathOk_of {p : Str} {a : List Str} (h : Txt.split p " " = a) (h1 : a.getD 0 "" = "drop" ∨ a.getD 0 "" = "store") (h2 : ∀ w ∈ a, w = "drop" ∨ w = "store" ∨ w = "set") (h3 : ∀ j, j < 3 → a.getD (j + 1) "" = "set" → a.getD j "" = "store") (h4 : a.length ≤ 3) : PathOk p := by
  refine ⟨by rw [h]; exact h1, by rw [h]; exact h2, fun j => ?_⟩
  rw [h]
  by_cases hj : j < 3
  · exact h3 j hj
  · intro e
    rw [List.getD_eq_getElem?_getD, List.getElem?_eq_none (by omega)] at e
    exact absurd e (by decide +kernel)
theorem Conf.Ok.path {c : Conf} (O : c.Ok) : PathOk c.path := by
  have := O.p
  simp only [pathsL, List.mem_cons, List.not_mem_nil, or_false] at this
  rcases this with e | e | e | e | e <;> rw [e]
  · exact pathOk_of (a := ["drop", "store"]) (by decide +kernel) (by decide +kernel) (by decide +kernel) (by decide +kernel) (by decide)
  · exact pathOk_of (a := ["drop", "store", "drop"]) (by decide +kernel) (by decide +kernel) (by decide +kernel) (by decide +kernel) (by decide)
  · exact pathOk_of (a := ["store"]) (by decide +kernel) (by decide +kernel) (by decide +kernel) (by decide +kernel) (by decide)
  · exact pathOk_of (a := ["store", "drop"]) (by decide +kernel) (by decide +kernel) (by decide +kernel) (by decide +kernel) (by decide)
  · exact pathOk_of (a := ["store", "set"]) (by decide +kernel) (by decide +kernel) (by decide +kernel) (by decide +kernel) (by decide)
theorem ne_words : (¬ ("drop" : Str) = "waits" ∧ ¬ ("store" : Str) = "waits" ∧ ¬ ("set" : Str) = "waits") ∧ (¬ ("drop" : Str) = "look" ∧ ¬ ("store" : Str) = "look" ∧ ¬ ("set" : Str) = "look") ∧ (¬ ("drop" : Str) = "set" ∧ ¬ ("store" : Str) = "set") ∧
    (¬ ("read" : Str) = "write") ∧ (¬ ("look" : Str) = "waits" ∧ ¬ ("fetch" : Str) = "waits" ∧ ¬ ("fill" : Str) = "waits") ∧ (¬ ("drop" : Str) = "ended" ∧ ¬ ("store" : Str) = "ended" ∧ ¬ ("set" : Str) = "ended") ∧ (¬ ("drop" : Str) = "stopped" ∧ ¬ ("store" : Str) = "stopped" ∧ ¬ ("set" : Str) = "stopped") ∧
    (¬ ("look" : Str) = "ended" ∧ ¬ ("look" : Str) = "stopped") := by decide +kernel
theorem step_word {c : Conf} (O : c.Ok) {j : Nat} (h : j < c.steps.length) : c.steps.getD j "" = "drop" ∨ c.steps.getD j "" = "store" ∨ c.steps.getD j "" = "set" := by
  rw [List.getD_eq_getElem?_getD, List.getElem?_eq_getElem h, Option.getD_some]
  exact O.path.words _ (List.getElem_mem h)
theorem word_str {w : Str} (h : w = "drop" ∨ w = "store" ∨ w = "set") : PyData.strOk w = true := by
  rcases h with e | e | e <;> rw [e] <;> decide +kernel
section
variable {c : Conf} {l : List OpS} {k n : Nat} {o o' : OpS} {s : HS}
theorem OpWf.mono {m : Nat} (h : OpWf c n k o) (e : n ≤ m) : OpWf c m k o := ⟨h.num, h.kd, h.wr, fun r => by
  rcases h.rd r with z | z | z | ⟨z, l, y, x⟩ | z | z
  · exact .inl z
  · exact .inr (.inl z)
  · exact .inr (.inr (.inl z))
  · exact .inr (.inr (.inr (.inl ⟨z, l, y, by omega⟩)))
  · exact .inr (.inr (.inr (.inr (.inl z))))
  · exact .inr (.inr (.inr (.inr (.inr z)))), h.str⟩
theorem WfL.set (h : WfL c l) (p : OpWf c l.length k o') : WfL c (l.set k o') := fun j u e => by
  rw [List.length_set]
  by_cases q : k = j
  · subst q
    by_cases hk : k < l.length
    · rw [List.getElem?_set_self hk] at e
      cases e
      exact p
    · rw [List.getElem?_eq_none (by rw [List.length_set]; omega)] at e
      cases e
  · rw [List.getElem?_set_ne q] at e
    exact h j u e
theorem WfL.snoc (h : WfL c l) (p : OpWf c (l.length + 1) l.length o') : WfL c (l ++ [o']) := fun j u e => by
  rw [List.length_append, List.length_singleton]
  by_cases hj : j < l.length
  · rw [List.getElem?_append_left hj] at e
    exact (h j u e).mono (by omega)
  · rw [List.getElem?_append_right (by omega)] at e
    have e0 : j - l.length = 0 := by
      have := (List.getElem?_eq_some_iff.mp e).1
      simp at this
      omega
    rw [e0] at e
    cases e
    have : j = l.length := by omega
    rw [this]
    exact p
theorem WfL.cf (h : WfL c l) : WfL c (l.map cf) := fun j u e => by
  rw [List.length_map]
  rw [List.getElem?_map] at e
  cases q : l[j]? with
  | none => rw [q] at e; cases e
  | some v =>
    rw [q] at e
    cases e
    have p := h j v q
    exact ⟨p.num, p.kd, p.wr, p.rd, p.str⟩
theorem end_ops {st : Str} : (endH s k o st).ops = s.ops.set k { o with stage := st, over := some s.past.length } := by
  simp only [endH]
  split <;> rfl
theorem end_opn {st : Str} : (endH s k o st).opn = s.opn ∨ (endH s k o st).opn = none := by
  simp only [endH]
  split
  · exact .inr rfl
  · exact .inl rfl
theorem set_set' (a b : OpS) : (l.set k a).set k b = l.set k b := by simp [List.set_set]
theorem OpWf.done (h : OpWf c n k o) {st : Str} (e : st = "ended" ∨ st = "stopped") {x : Option Nat} : OpWf c n k { o with stage := st, over := x } := by
  refine ⟨h.num, h.kd, fun _ a b => ?_, fun _ => ?_, ?_⟩
  · rcases e with e | e
    · exact (a e).elim
    · exact (b e).elim
  · rcases e with e | e
    · exact .inr (.inr (.inr (.inr (.inl e))))
    · exact .inr (.inr (.inr (.inr (.inr e))))
  · show PyData.strOk st = true
    rcases e with e | e <;> rw [e] <;> decide +kernel
theorem Wf.end' (W : Wf c s) (p : OpWf c s.ops.length k o) {st : Str} (e : st = "ended" ∨ st = "stopped") : Wf c (endH s k o st) := by
  refine ⟨?_, fun l h => ?_⟩
  · rw [end_ops]
    exact W.ops.set (p.done e)
  · rw [end_ops, List.length_set]
    rcases end_opn (s := s) (k := k) (o := o) (st := st) with z | z
    · rw [z] at h
      exact W.opn l h
    · rw [z] at h
      cases h
theorem Wf.put (W : Wf c s) (p : OpWf c s.ops.length k o') : Wf c (s.put k o') := ⟨W.ops.set p, fun l h => by
  show l < (s.ops.set k o').length
  rw [List.length_set]
  exact W.opn l h⟩
theorem put_len : (s.put k o').ops.length = s.ops.length := List.length_set ..
theorem Wf.of (W : Wf c s) {s' : HS} (h1 : s'.ops = s.ops) (h2 : s'.opn = s.opn) : Wf c s' := ⟨by rw [h1]; exact W.ops, by rw [h1, h2]; exact W.opn⟩
theorem hold_opn {v : Nat} : (holdH c s v).opn = s.opn := by
  unfold holdH
  split <;> rfl
theorem Wf.hold (W : Wf c s) {v : Nat} : Wf c (holdH c s v) := W.of hold_ops hold_opn
/-- the op has the step w ahead of it, or is to stop -/
def Ahead (s : HS) (o : OpS) (w : Str) : Prop := w = "stop" ∨ (¬ o.stage = "ended" ∧ ¬ o.stage = "stopped" ∧ nextOf s o = some w)
theorem ahead_stage {w : Str} (h1 : nextOf s o = some w) (h2 : ¬ o.stage = "waits") : o.stage = w := by
  unfold nextOf at h1
  rw [if_neg h2] at h1
  exact Option.some.inj h1
theorem ahead_take {w : Str} (h1 : nextOf s o = some w) (h2 : o.stage = "waits") : w = "take" := by
  unfold nextOf at h1
  rw [if_pos h2] at h1
  split at h1
  · split at h1
    · split at h1
      · exact (Option.some.inj h1).symm
      · cases h1
    · cases h1
  · cases h1
theorem OpWf.wait (h : OpWf c s.ops.length k o) (O : c.Ok) : WaitOk s o := fun e => by
  have nw := ne_words
  rcases h.kd with z | z
  · rcases h.rd z with y | y | ⟨y, _⟩ | ⟨_, l, y, x⟩ | y | y
    · rw [y] at e; exact (nw.2.2.2.2.1.1 e).elim
    · rw [y] at e; exact (nw.2.2.2.2.1.2.1 e).elim
    · rw [y] at e; exact (nw.2.2.2.2.1.2.2 e).elim
    · exact ⟨l, _, y, List.getElem?_eq_getElem x⟩
    · rw [y] at e; exact absurd e (by decide +kernel)
    · rw [y] at e; exact absurd e (by decide +kernel)
  · have n1 : ¬ o.stage = "ended" := fun y => by rw [y] at e; exact absurd e (by decide +kernel)
    have n2 : ¬ o.stage = "stopped" := fun y => by rw [y] at e; exact absurd e (by decide +kernel)
    obtain ⟨a, b, _⟩ := h.wr z n1 n2
    rw [e] at b
    rcases step_word O a with y | y | y <;> rw [y] at b
    · exact (nw.1.1 b.symm).elim
    · exact (nw.1.2.1 b.symm).elim
    · exact (nw.1.2.2 b.symm).elim
/-- a write under way: its step, its word -/
theorem OpWf.write (h : OpWf c s.ops.length k o) (O : c.Ok) {w : Str} (kd : o.kind = "write") (n1 : ¬ o.stage = "ended") (n2 : ¬ o.stage = "stopped") (hn : nextOf s o = some w) :
    o.step < c.steps.length ∧ w = c.steps.getD o.step "" ∧ o.stage = w ∧ (w = "set" → o.version.isSome = true) := by
  have nw := ne_words
  obtain ⟨a, b, d⟩ := h.wr kd n1 n2
  have e : o.stage = w := by
    refine ahead_stage hn fun z => ?_
    rw [b] at z
    rcases step_word O a with y | y | y <;> rw [y] at z
    · exact nw.1.1 z
    · exact nw.1.2.1 z
    · exact nw.1.2.2 z
  exact ⟨a, by rw [← e]; exact b, e, fun z => d (by rw [e]; exact z)⟩
theorem OpWf.read (h : OpWf c s.ops.length k o) (O : c.Ok) {w : Str} (kd : ¬ o.kind = "write") (n1 : ¬ o.stage = "ended") (n2 : ¬ o.stage = "stopped") (hn : nextOf s o = some w) :
    (w = "look" ∧ o.stage = "look") ∨ (w = "fetch" ∧ o.stage = "fetch") ∨ (w = "fill" ∧ o.stage = "fill" ∧ o.version.isSome = true) ∨ (w = "take" ∧ o.stage = "waits" ∧ ∃ l q, o.leader = some l ∧ s.ops[l]? = some q) := by
  have nw := ne_words
  have kr : o.kind = "read" := h.kd.resolve_right kd
  rcases h.rd kr with y | y | ⟨y, v⟩ | ⟨y, _⟩ | y | y
  · have e := ahead_stage hn (by rw [y]; exact nw.2.2.2.2.1.1)
    exact .inl ⟨by rw [← e]; exact y, y⟩
  · have e := ahead_stage hn (by rw [y]; exact nw.2.2.2.2.1.2.1)
    exact .inr (.inl ⟨by rw [← e]; exact y, y⟩)
  · have e := ahead_stage hn (by rw [y]; exact nw.2.2.2.2.1.2.2)
    exact .inr (.inr (.inl ⟨by rw [← e]; exact y, y, v⟩))
  · exact .inr (.inr (.inr ⟨ahead_take hn y, y, h.wait O y⟩))
  · exact (n1 y).elim
  · exact (n2 y).elim
theorem OpWf.opOk (h : OpWf c s.ops.length k o) (O : c.Ok) {w : Str} (a : Ahead s o w) : OpOk c s o w := by
  rcases a with z | ⟨n1, n2, hn⟩
  · exact .inl z
  by_cases kd : o.kind = "write"
  · obtain ⟨a, _, _, d⟩ := h.write O kd n1 n2 hn
    exact .inr (.inl ⟨kd, a, d⟩)
  · refine .inr (.inr ⟨kd, ?_⟩)
    rcases h.read O kd n1 n2 hn with ⟨z, _⟩ | ⟨z, _⟩ | ⟨z, _, v⟩ | ⟨z, _, y⟩
    · exact ⟨fun q => by rw [z] at q; exact absurd q (by decide +kernel), .inl z⟩
    · exact ⟨fun q => by rw [z] at q; exact absurd q (by decide +kernel), .inr (.inl z)⟩
    · exact ⟨fun q => by rw [z] at q; exact absurd q (by decide +kernel), .inr (.inr (.inr v))⟩
    · exact ⟨fun _ => y, .inr (.inr (.inl z))⟩
theorem wr1_ops {w : Str} : (wr1 s k o w).ops = (if w = "store" then s.ops.set k { o with version := some (s.db + 1) } else s.ops.map cf) ∧ (wr1 s k o w).opn = s.opn := by
  unfold wr1
  split <;> exact ⟨rfl, rfl⟩
theorem wr2_ops {w : Str} : (wr2 c s o w).ops = s.ops ∧ (wr2 c s o w).opn = s.opn := by
  unfold wr2
  split
  · split <;> exact ⟨rfl, rfl⟩
  · exact ⟨rfl, rfl⟩
theorem wr3_ops {w : Str} : (wr3 c s o w).ops = s.ops ∧ (wr3 c s o w).opn = s.opn := by
  unfold wr3
  split
  · split
    · exact ⟨hold_ops, hold_opn⟩
    · exact ⟨rfl, rfl⟩
  · exact ⟨rfl, rfl⟩
theorem Wf.write (W : Wf c s) (O : c.Ok) {w : Str} (eo : s.ops[k]? = some o) (kd : o.kind = "write") (n1 : ¬ o.stage = "ended") (n2 : ¬ o.stage = "stopped") (hn : nextOf s o = some w) : Wf c (writeH c s k o w) := by
  have p := W.ops k o eo
  obtain ⟨hst, hw, hse, hv⟩ := p.write O kd n1 n2 hn
  have hlt := (List.getElem?_eq_some_iff.mp eo).1
  have W1 : Wf c (wr1 s k o w) := by
    obtain ⟨e1, e2⟩ := wr1_ops (s := s) (k := k) (o := o) (w := w)
    refine ⟨?_, fun l h => ?_⟩
    · rw [e1]
      split
      · exact W.ops.set ⟨p.num, p.kd, fun a b d => ⟨hst, (p.wr kd n1 n2).2.1, fun _ => rfl⟩, fun r => by rw [kd] at r; exact (ne_words.2.2.2.1 r.symm).elim, p.str⟩
      · exact W.ops.cf
    · rw [e2] at h
      rw [e1]
      split
      · rw [List.length_set]; exact W.opn l h
      · rw [List.length_map]; exact W.opn l h
  have ln1 : (wr1 s k o w).ops.length = s.ops.length := by
    rw [wr1_ops.1]
    split
    · rw [List.length_set]
    · rw [List.length_map]
  have o1 : (wo1 s o w).number = o.number ∧ (wo1 s o w).kind = o.kind ∧ (wo1 s o w).step = o.step ∧ (wo1 s o w).leader = o.leader ∧ (w = "store" → (wo1 s o w).version.isSome = true) := by
    unfold wo1
    split
    · exact ⟨rfl, rfl, rfl, rfl, fun _ => rfl⟩
    · rename_i z
      exact ⟨rfl, rfl, rfl, rfl, fun y => (z y).elim⟩
  obtain ⟨q1, q2, q3, q4, q5⟩ := o1
  have W3 : Wf c (wr3 c (wr2 c (wr1 s k o w) (wo1 s o w) w) (wo1 s o w) w) := (W1.of (wr2_ops (w := w)).1 (wr2_ops (w := w)).2).of (wr3_ops (w := w)).1 (wr3_ops (w := w)).2
  have ln3 : (wr3 c (wr2 c (wr1 s k o w) (wo1 s o w) w) (wo1 s o w) w).ops.length = s.ops.length := by rw [wr3_ops.1, wr2_ops.1, ln1]
  unfold writeH
  generalize wr3 c (wr2 c (wr1 s k o w) (wo1 s o w) w) (wo1 s o w) w = s3 at W3 ln3
  generalize wo1 s o w = u at q1 q2 q3 q4 q5
  have nr : ¬ u.kind = "read" := fun z => by rw [q2, kd] at z; exact ne_words.2.2.2.1 z.symm
  have pe : ∀ (st : Str) (x : Option Nat), (st = "ended" ∨ st = "stopped") → OpWf c s.ops.length k { u with step := u.step + 1, stage := st, over := x } := fun st x e => by
    refine ⟨q1.trans p.num, .inr (q2.trans kd), fun _ a b => ?_, fun r => (nr r).elim, ?_⟩
    · rcases e with e | e
      · exact (a e).elim
      · exact (b e).elim
    · show PyData.strOk st = true
      rcases e with e | e <;> rw [e] <;> decide +kernel
  unfold wr4
  split
  · refine ⟨?_, fun l h => ?_⟩
    · rw [end_ops]
      show WfL c ((s3.ops.set k _).set k _)
      rw [set_set']
      exact W3.ops.set (by rw [ln3]; exact pe _ _ (.inl rfl))
    · rw [end_ops]
      show l < ((s3.ops.set k _).set k _).length
      rw [List.length_set, List.length_set]
      rcases end_opn (s := s3.put k { u with step := u.step + 1 }) (k := k) (o := { u with step := u.step + 1 }) (st := "ended") with z | z
      · rw [z] at h
        exact W3.opn l h
      · rw [z] at h
        cases h
  · rename_i hne
    have hlt2 : u.step + 1 < c.steps.length := by rw [q3] at hne ⊢; omega
    refine W3.put ?_
    rw [ln3]
    refine ⟨q1.trans p.num, .inr (q2.trans kd), fun _ a b => ⟨hlt2, rfl, fun z => ?_⟩, fun r => (nr r).elim, ?_⟩
    · have z : c.steps.getD (u.step + 1) "" = "set" := z
      refine q5 ?_
      rw [hw]
      rw [q3] at z
      exact O.path.set o.step z
    · exact word_str (step_word O hlt2)
theorem Wf.read (W : Wf c s) (O : c.Ok) {w : Str} (eo : s.ops[k]? = some o) (kd : ¬ o.kind = "write") (n1 : ¬ o.stage = "ended") (n2 : ¬ o.stage = "stopped") (hn : nextOf s o = some w) : Wf c (readH c s k o w) := by
  have p := W.ops k o eo
  have hlt := (List.getElem?_eq_some_iff.mp eo).1
  have ed : ∀ (s' : HS) (u : OpS), Wf c s' → s'.ops.length = s.ops.length → u.number = o.number → u.kind = o.kind → Wf c (endH s' k u "ended") := fun s' u W' e1 e2 e3 => by
    refine ⟨?_, fun l h => ?_⟩
    · rw [end_ops]
      refine W'.ops.set ?_
      rw [e1]
      refine ⟨e2.trans p.num, by rw [show ({ u with stage := "ended", over := some s'.past.length } : OpS).kind = o.kind from e3]; exact p.kd, fun _ a _ => (a rfl).elim, fun _ => .inr (.inr (.inr (.inr (.inl rfl)))), (by show PyData.strOk "ended" = true; decide +kernel)⟩
    · rw [end_ops, List.length_set]
      rcases end_opn (s := s') (k := k) (o := u) (st := "ended") with z | z
      · rw [z] at h
        exact W'.opn l h
      · rw [z] at h
        cases h
  have pk : ∀ (u : OpS), u.number = o.number → u.kind = o.kind → (u.stage = "look" ∨ u.stage = "fetch" ∨ (u.stage = "fill" ∧ u.version.isSome = true) ∨ (u.stage = "waits" ∧ ∃ l, u.leader = some l ∧ l < s.ops.length)) → OpWf c s.ops.length k u := fun u e1 e2 e3 => by
    refine ⟨e1.trans p.num, by rw [e2]; exact p.kd, fun z => by rw [e2] at z; exact (kd z).elim, fun _ => ?_, ?_⟩
    · rcases e3 with z | z | z | z
      · exact .inl z
      · exact .inr (.inl z)
      · exact .inr (.inr (.inl z))
      · exact .inr (.inr (.inr (.inl z)))
    · rcases e3 with z | z | ⟨z, _⟩ | ⟨z, _⟩ <;> rw [z] <;> decide +kernel
  have same : ∀ v, Wf c (s.put k { o with version := v }) → True := fun _ _ => trivial
  have raw : ∀ u : OpS, u.number = o.number → u.kind = o.kind → u.stage = o.stage → u.leader = o.leader → (u.stage = "fill" → u.version.isSome = true) → OpWf c s.ops.length k u := fun u e1 e2 e3 e4 e5 => by
    refine ⟨e1.trans p.num, by rw [e2]; exact p.kd, fun z => by rw [e2] at z; exact (kd z).elim, fun r => ?_, by rw [e3]; exact p.str⟩
    rw [e2] at r
    rcases p.rd r with z | z | ⟨z, _⟩ | ⟨z, l, y, x⟩ | z | z
    · exact .inl (e3.trans z)
    · exact .inr (.inl (e3.trans z))
    · exact .inr (.inr (.inl ⟨e3.trans z, e5 (e3.trans z)⟩))
    · exact .inr (.inr (.inr (.inl ⟨e3.trans z, l, e4.trans y, x⟩)))
    · exact .inr (.inr (.inr (.inr (.inl (e3.trans z)))))
    · exact .inr (.inr (.inr (.inr (.inr (e3.trans z)))))
  have cases_ := p.read O kd n1 n2 hn
  unfold readH
  split
  · rename_i z
    refine ed _ _ (W.put (raw _ rfl rfl rfl rfl fun y => ?_)) put_len rfl rfl
    exact z.2
  split
  · rename_i z
    refine W.put (pk _ rfl rfl (.inr (.inr (.inr ⟨rfl, ?_⟩))))
    obtain ⟨l, el⟩ := Option.isSome_iff_exists.mp z.2
    exact ⟨l, el, W.opn l el⟩
  split
  · refine ⟨W.ops.set (pk _ rfl rfl (.inr (.inl rfl))), fun l h => ?_⟩
    show l < (s.ops.set k _).length
    rw [List.length_set]
    have h : (if c.flight = "shared" then some o.number else none) = some l := h
    split at h
    · cases h
      rw [p.num]
      exact hlt
    · cases h
  split
  · have pf : OpWf c s.ops.length k { o with version := some (if c.source = "replica" then s.rep else s.db), stage := "fill" } := pk _ rfl rfl (.inr (.inr (.inl ⟨rfl, rfl⟩)))
    split
    · exact ed _ _ (W.put pf) put_len rfl rfl
    · exact W.put pf
  split
  · rename_i _ _ _ _ z
    refine ed _ _ (W.put (raw _ rfl rfl rfl rfl fun y => ?_)) put_len rfl rfl
    have y : o.stage = "fill" := y
    rcases cases_ with ⟨x, _⟩ | ⟨x, _⟩ | ⟨x, _⟩ | ⟨_, x, _⟩
    · rw [x] at z; exact absurd z (by decide +kernel)
    · rw [x] at z; exact absurd z (by decide +kernel)
    · rw [x] at z; exact absurd z (by decide +kernel)
    · rw [x] at y; exact absurd y (by decide +kernel)
  · split
    · exact ed _ _ W.hold (by rw [hold_ops]) rfl rfl
    · exact ed _ _ W rfl rfl rfl
theorem Wf.op (W : Wf c s) (O : c.Ok) {w : Str} (eo : s.ops[k]? = some o) (a : Ahead s o w) : Wf c (doOp c s k o w) := by
  unfold doOp
  split
  · exact W.end' (W.ops k o eo) (.inr rfl)
  · rename_i nz
    rcases a with z | ⟨n1, n2, hn⟩
    · exact (nz z).elim
    split
    · rename_i kd
      exact W.write O eo kd n1 n2 hn
    · rename_i kd
      exact W.read O eo kd n1 n2 hn
end
end Ca

set_option Elab.async false
set_option linter.all false
set_option maxRecDepth 100000
set_option maxHeartbeats 4000000
namespace Ca
open PySem L2
/-! ### an event that can come, done -/
/-- what an event that can come is -/
inductive EvCase (c : Conf) (s : HS) : Ev → Prop where
  | evict (h : canEvict c s = true) : EvCase c s evictE
  | copy (h : canCopy c s = true) : EvCase c s copyE
  | new (w : Str) (h : w = "look" ∨ w = firstW c) : EvCase c s (w, some (s.ops.length : Int))
  | step (k : Nat) (o : OpS) (w : Str) (e : s.ops[k]? = some o) (h1 : ¬ o.stage = "ended") (h2 : ¬ o.stage = "stopped") (h3 : nextOf s o = some w) : EvCase c s (w, some (k : Int))
  | stop (k : Nat) (o : OpS) (e : s.ops[k]? = some o) (h1 : ¬ o.stage = "ended") (h2 : ¬ o.stage = "stopped") (h3 : c.stop = "stops") : EvCase c s ("stop", some (k : Int))
theorem going_mem {c : Conf} {s : HS} {o : OpS} (W : Wf c s) (h : o ∈ going s) : s.ops[o.number]? = some o ∧ ¬ o.stage = "ended" ∧ ¬ o.stage = "stopped" := by
  obtain ⟨h1, h2⟩ := List.mem_filter.mp h
  obtain ⟨k, hk, e⟩ := List.getElem_of_mem h1
  have e' : s.ops[k]? = some o := by rw [List.getElem?_eq_getElem hk, e]
  have n := (W.ops k o e').num
  rw [n]
  refine ⟨e', ?_⟩
  unfold endedB at h2
  simp at h2
  exact h2
theorem ev_case {c : Conf} {s : HS} {e : Ev} (W : Wf c s) (h : e ∈ evList c s) : EvCase c s e := by
  unfold evList at h
  rcases List.mem_append.mp h with h | h
  · rcases List.mem_append.mp h with h | h
    · rcases List.mem_append.mp h with h | h
      · rcases List.mem_append.mp h with h | h
        · unfold evA at h
          simp only [List.mem_cons, List.not_mem_nil, or_false] at h
          rcases h with z | z <;> rw [z]
          · exact .new _ (.inl rfl)
          · exact .new _ (.inr rfl)
        · unfold evB at h
          obtain ⟨o, ho, eo⟩ := List.mem_filterMap.mp h
          cases en : nextOf s o with
          | none => rw [en] at eo; cases eo
          | some w =>
            rw [en] at eo
            cases eo
            obtain ⟨a, b, d⟩ := going_mem W ho
            exact .step o.number o w a b d en
      · unfold evC at h
        split at h
        · rename_i st
          obtain ⟨o, ho, eo⟩ := List.mem_map.mp h
          rw [← eo]
          obtain ⟨a, b, d⟩ := going_mem W ho
          exact .stop o.number o a b d st
        · cases h
    · unfold evD at h
      split at h
      · rename_i z
        simp at h
        rw [h]
        exact .evict z
      · cases h
  · unfold evE at h
    split at h
    · rename_i z
      simp at h
      rw [h]
      exact .copy z
    · cases h
theorem fst_ne {c : Conf} (O : c.Ok) : ¬ firstW c = "look" ∧ ¬ firstW c = "set" ∧ PyData.strOk (firstW c) = true ∧ ¬ firstW c = "waits" ∧ ¬ firstW c = "ended" ∧ ¬ firstW c = "stopped" ∧ ¬ firstW c = "stop" := by
  have h : firstW c = "drop" ∨ firstW c = "store" := O.path.fst
  rcases h with e | e <;> rw [e] <;> decide +kernel
theorem new_wf {c : Conf} {s : HS} {w : Str} (O : c.Ok) (h : w = "look" ∨ w = firstW c) : OpWf c (s.ops.length + 1) s.ops.length (newOp s w) := by
  rcases h with e | e
  · subst e
    have zk : (newOp s "look").kind = "read" := show (if ("look" : Str) = "look" then ("read" : Str) else "write") = "read" from if_pos rfl
    exact ⟨rfl, .inl zk, fun z => by rw [zk] at z; exact absurd z (by decide +kernel), fun _ => .inl rfl, by show PyData.strOk "look" = true; decide +kernel⟩
  · obtain ⟨n1, n2, n3, _⟩ := fst_ne O
    have z : (newOp s w).kind = "write" := by
      show (if w = "look" then ("read" : Str) else "write") = "write"
      rw [e]
      exact if_neg n1
    exact ⟨rfl, .inr z, fun _ _ _ => ⟨O.slen.1, e, fun y => by
      have y : w = "set" := y
      rw [e] at y
      exact (n2 y).elim⟩, fun y => by rw [z] at y; exact absurd y (by decide +kernel), by show PyData.strOk w = true; rw [e]; exact n3⟩
theorem pre_new {s : HS} {w : Str} : preH s w s.ops.length = { s with ops := s.ops ++ [newOp s w] } := if_pos rfl
theorem pre_old {s : HS} {w : Str} {k : Nat} {o : OpS} (e : s.ops[k]? = some o) : preH s w k = s := if_neg fun z => by
  have := (List.getElem?_eq_some_iff.mp e).1
  omega
theorem Wf.pre {c : Conf} {s : HS} {w : Str} (W : Wf c s) (O : c.Ok) (h : w = "look" ∨ w = firstW c) : Wf c (preH s w s.ops.length) := by
  rw [pre_new]
  exact ⟨W.ops.snoc (new_wf O h), fun l e => by
    show l < (s.ops ++ [newOp s w]).length
    rw [List.length_append]
    exact Nat.lt_of_lt_of_le (W.opn l e) (Nat.le_add_right _ _)⟩
theorem new_next {c : Conf} {s s' : HS} {w : Str} (O : c.Ok) (h : w = "look" ∨ w = firstW c) : ¬ (newOp s w).stage = "ended" ∧ ¬ (newOp s w).stage = "stopped" ∧ nextOf s' (newOp s w) = some w := by
  have n : ¬ w = "waits" ∧ ¬ w = "ended" ∧ ¬ w = "stopped" := by
    rcases h with e | e
    · rw [e]; decide +kernel
    · rw [e]
      obtain ⟨_, _, _, a, b, d, _⟩ := fst_ne O
      exact ⟨a, b, d⟩
  exact ⟨n.2.1, n.2.2, if_neg n.1⟩
theorem doE_at {c : Conf} {s : HS} {k : Nat} {w : Str} {o : OpS} (e : (preH s w k).ops[k]? = some o) : doE c s (w, some (k : Int)) = doOp c (preH s w k) k o w := by
  unfold doE
  rw [if_neg (fun z => by cases z), if_neg (fun z => by cases z)]
  show (match (preH s w (k : Int).toNat).ops[(k : Int).toNat]? with | some o => doOp c (preH s w (k : Int).toNat) (k : Int).toNat o w | none => s) = _
  rw [Int.toNat_natCast, e]
theorem op_len {c : Conf} {s : HS} {k : Nat} {o : OpS} {w : Str} : (doOp c s k o w).ops.length = s.ops.length := by
  have e1 : ∀ (s' : HS) (u : OpS) (st : Str), s'.ops.length = s.ops.length → (endH s' k u st).ops.length = s.ops.length := fun s' u st z => by rw [end_ops, List.length_set, z]
  unfold doOp
  split
  · exact e1 _ _ _ rfl
  split
  · have e2 : (wr3 c (wr2 c (wr1 s k o w) (wo1 s o w) w) (wo1 s o w) w).ops.length = s.ops.length := by
      rw [wr3_ops.1, wr2_ops.1, wr1_ops.1]
      split
      · rw [List.length_set]
      · rw [List.length_map]
    unfold writeH wr4
    split
    · exact e1 _ _ _ (by rw [put_len]; exact e2)
    · rw [put_len]; exact e2
  · unfold readH
    split
    · exact e1 _ _ _ put_len
    split
    · exact put_len
    split
    · exact put_len
    split
    · split
      · exact e1 _ _ _ put_len
      · exact put_len
    split
    · exact e1 _ _ _ put_len
    · split
      · exact e1 _ _ _ (by rw [hold_ops])
      · exact e1 _ _ _ rfl
structure DoneOk (c : Conf) (s : HS) (e : Ev) : Prop where
  ok : EvOk c s e
  str : PyData.strOk e.1 = true
  wf : Wf c (doH c s e)
  len : (doH c s e).ops.length ≤ s.ops.length + 1
theorem Wf.past {c : Conf} {s : HS} (W : Wf c s) (l : List Ev) : Wf c { s with past := l } := ⟨W.ops, W.opn⟩
theorem do_ok {c : Conf} {s : HS} {e : Ev} (W : Wf c s) (O : c.Ok) (h : e ∈ evList c s) : DoneOk c s e := by
  have hc := ev_case W h
  have key : ∀ (k : Nat) (w : Str) (o : OpS), (preH s w k).ops[k]? = some o → k ≤ s.ops.length → Wf c (preH s w k) → Ahead (preH s w k) o w → PyData.strOk w = true → DoneOk c s (w, some (k : Int)) := fun k w o eo hk W1 a st => by
    have W2 := W1.op O eo a
    refine ⟨.inr (.inr ⟨k, w, rfl, hk, fun o' eo' => ?_⟩), st, ?_, ?_⟩
    · rw [eo] at eo'
      cases eo'
      exact (W1.ops k o eo).opOk O a
    · unfold doH
      rw [doE_at eo]
      exact W2.past _
    · unfold doH
      show (doE c s (w, some (k : Int))).ops.length ≤ _
      rw [doE_at eo, op_len]
      unfold preH
      split
      · show (s.ops ++ [newOp s w]).length ≤ _
        rw [List.length_append]
        exact Nat.le_refl _
      · exact Nat.le_succ _
  cases hc with
  | evict z =>
    refine ⟨.inl rfl, by decide +kernel, ?_, ?_⟩
    · unfold doH doE
      rw [if_pos rfl]
      exact ⟨W.ops, W.opn⟩
    · unfold doH doE
      rw [if_pos rfl]
      exact Nat.le_succ _
  | copy z =>
    have n : ¬ copyE = evictE := by decide +kernel
    refine ⟨.inr (.inl rfl), by decide +kernel, ?_, ?_⟩
    · unfold doH doE
      rw [if_neg n, if_pos rfl]
      exact ⟨W.ops, W.opn⟩
    · unfold doH doE
      rw [if_neg n, if_pos rfl]
      exact Nat.le_succ _
  | new w hw =>
    refine key _ w (newOp s w) ?_ (Nat.le_refl _) (W.pre O hw) (.inr (new_next O hw)) ?_
    · rw [pre_new]
      show (s.ops ++ [newOp s w])[s.ops.length]? = _
      rw [List.getElem?_append_right (Nat.le_refl _), Nat.sub_self]
      rfl
    · rcases hw with z | z
      · rw [z]; decide +kernel
      · rw [z]; exact (fst_ne O).2.2.1
  | step k o w eo h1 h2 h3 =>
    have hlt := (List.getElem?_eq_some_iff.mp eo).1
    refine key k w o ?_ (Nat.le_of_lt hlt) ?_ ?_ ?_
    · rw [pre_old eo]; exact eo
    · rw [pre_old eo]; exact W
    · rw [pre_old eo]; exact .inr ⟨h1, h2, h3⟩
    · have p := W.ops k o eo
      by_cases hw : o.stage = "waits"
      · rw [ahead_take h3 hw]; decide +kernel
      · rw [← ahead_stage h3 hw]; exact p.str
  | stop k o eo h1 h2 h3 =>
    have hlt := (List.getElem?_eq_some_iff.mp eo).1
    refine key k "stop" o ?_ (Nat.le_of_lt hlt) ?_ ?_ (by decide +kernel)
    · rw [pre_old eo]; exact eo
    · rw [pre_old eo]; exact W
    · exact .inl rfl
inductive Reach (c : Conf) : HS → Prop where
  | begin : Reach c HS.begin
  | step {s : HS} {e : Ev} (r : Reach c s) (h : e ∈ evList c s) : Reach c (doH c s e)
theorem wf_begin (c : Conf) : Wf c HS.begin := ⟨fun k o e => by simp [HS.begin] at e, fun l e => by simp [HS.begin] at e⟩
theorem Reach.wf {c : Conf} {s : HS} (O : c.Ok) (r : Reach c s) : Wf c s ∧ s.ops.length ≤ s.past.length := by
  induction r with
  | begin => exact ⟨wf_begin c, Nat.le_refl _⟩
  | @step s e r h ih =>
    have d := do_ok ih.1 O h
    refine ⟨d.wf, ?_⟩
    have z : (doH c s e).past.length = s.past.length + 1 := by
      unfold doH
      show (s.past ++ [e]).length = _
      rw [List.length_append]
      rfl
    have := d.len
    omega
theorem do_past {c : Conf} {s : HS} {e : Ev} : (doH c s e).past = s.past ++ [e] := rfl
theorem wait_all {c : Conf} {s : HS} (W : Wf c s) (O : c.Ok) : ∀ o ∈ s.ops, WaitOk s o := fun o h => by
  obtain ⟨k, hk, e⟩ := List.getElem_of_mem h
  exact (W.ops k o (by rw [List.getElem?_eq_getElem hk, e])).wait O
end Ca

set_option Elab.async false
set_option linter.all false
set_option maxRecDepth 100000
set_option maxHeartbeats 4000000
namespace Ca
open PySem L2
/-! ### a drawn run -/
@[irreducible] def spWalk (K : PySem.W.Frag) : Sp := fun vs H Q _ => ∃ (c : Conf) (H0 : Hp) (a r d w : Addr) (m : Nat), vs = [.ref r, .ref d, .ref w, .int (m : Int)] ∧ c.Ok ∧ RowAt K H0 a r H ∧ m ≤ 60 ∧
  H d = some (.tup [.str c.path, .str c.guard, .str c.flight]) ∧ H w = some (.tup [.str c.source, .str c.evict, .str c.stop]) ∧
  ∀ h A s H', Reach c s → s.past.length ≤ m → LawAt c H' h A s → A.d = d → A.w = w → RowAt K H0 a r H' → Keep (fun b => b = r) H H' → (∀ b, Fp h A b → H b = none) → Q (.ref h) H'
theorem walk_i {K : PySem.W.Frag} {c : Conf} {H0 H : Hp} {a r d w : Addr} {m : Nat} {Q : VK} {E : XK} (O : c.Ok) (R : RowAt K H0 a r H) (hm : m ≤ 60) (h1 : H d = some (.tup [.str c.path, .str c.guard, .str c.flight])) (h2 : H w = some (.tup [.str c.source, .str c.evict, .str c.stop]))
    (q : ∀ h A s H', Reach c s → s.past.length ≤ m → LawAt c H' h A s → A.d = d → A.w = w → RowAt K H0 a r H' → Keep (fun b => b = r) H H' → (∀ b, Fp h A b → H b = none) → Q (.ref h) H') : spWalk K [.ref r, .ref d, .ref w, .int (m : Int)] H Q E := by
  unfold spWalk
  exact ⟨c, H0, a, r, d, w, m, rfl, O, R, hm, h1, h2, q⟩
theorem evs_dp {K : PySem.W.Frag} {H : Hp} : ∀ {xs : List V} {es : List Ev}, EvsAt H xs es → DpAll K H xs (es.map evD')
  | _, _, .nil => .nil
  | _, _, .cons ⟨t, e, h⟩ r => by
    subst e
    exact .cons (evD_dp h) (evs_dp r)
theorem evs_shaped : ∀ {es : List Ev}, (∀ e ∈ es, PyData.strOk e.1 = true) → PyData.canLayAll0 (es.map evD') = true ∧ PyData.depthAll (es.map evD') ≤ 1
  | [], _ => ⟨rfl, by simp [PyData.depthAll]⟩
  | e :: es, h => by
    obtain ⟨a, b⟩ := evs_shaped (es := es) fun u hu => h u (List.mem_cons_of_mem _ hu)
    have z := h e (List.mem_cons_self ..)
    obtain ⟨w, k⟩ := e
    have z : PyData.strOk w = true := z
    refine ⟨?_, ?_⟩
    · show (PyData.canLay0 (evD' (w, k)) && PyData.canLayAll0 (es.map evD')) = true
      rw [a, Bool.and_true]
      cases k <;> simp [evD', PyData.canLay0, PyData.canLayAll0, z]
    · show max (PyData.depth (evD' (w, k))) (PyData.depthAll (es.map evD')) ≤ 1
      have : PyData.depth (evD' (w, k)) ≤ 1 := by cases k <;> simp [evD', PyData.depth, PyData.depthAll]
      omega
theorem evs_list_shaped {es : List Ev} (h : ∀ e ∈ es, PyData.strOk e.1 = true) : SeqAt.shaped (.list (es.map evD')) = true := by
  obtain ⟨a, b⟩ := evs_shaped h
  unfold SeqAt.shaped
  have z1 : PyData.canLay0 (.list (es.map evD')) = true := a
  have z2 : PyData.depth (.list (es.map evD')) = PyData.depthAll (es.map evD') + 1 := rfl
  rw [z1, z2, Bool.true_and]
  exact decide_eq_true (by omega)
theorem evs_sub : ∀ {H : Hp} {xs : List V} {es : List Ev}, EvsAt H xs es → ∀ {ys : List V}, (∀ y ∈ ys, y ∈ xs) → ∃ fs, EvsAt H ys fs ∧ ∀ f ∈ fs, f ∈ es
  | _, _, _, _, [], _ => ⟨[], .nil, fun f h => by simp at h⟩
  | H, xs, es, X, y :: ys, h => by
    obtain ⟨fs, a, b⟩ := evs_sub X (ys := ys) fun z hz => h z (List.mem_cons_of_mem _ hz)
    obtain ⟨t, e, e1, e2, e3⟩ := X.get (h y (List.mem_cons_self ..))
    refine ⟨e :: fs, .cons ⟨t, e1, e2⟩ a, fun f hf => ?_⟩
    rcases List.mem_cons.mp hf with z | z
    · rw [z]; exact e3
    · exact b f z
theorem evList_len {c : Conf} {s : HS} : (evList c s).length ≤ 2 * s.ops.length + 4 := by
  have h1 : (evB s).length ≤ s.ops.length := Nat.le_trans (List.length_filterMap_le _ _) (going_len s)
  have h2 : (evC c s).length ≤ s.ops.length := by
    unfold evC
    split
    · rw [List.length_map]
      exact going_len s
    · exact Nat.zero_le _
  have h3 : (evD c s).length ≤ 1 := by
    unfold evD
    split
    · exact Nat.le_refl _
    · exact Nat.zero_le _
  have h4 : (evE c s).length ≤ 1 := by
    unfold evE
    split
    · exact Nat.le_refl _
    · exact Nat.zero_le _
  unfold evList
  simp only [List.length_append]
  have h0 : (evA c s).length = 2 := rfl
  omega
theorem RowAt.ne_tup {K : PySem.W.Frag} {H0 H : Hp} {a r t : Addr} {xs : List V} (R : RowAt K H0 a r H) (h : H t = some (.tup xs)) : t ≠ r := fun z => by
  obtain ⟨o, e, i, x, y, eo, _⟩ := R.at_
  rw [z, e, eo] at h
  cases h
theorem EvsAt.keepR {K : PySem.W.Frag} {H0 H H' : Hp} {a r : Addr} {xs : List V} {es : List Ev} (X : EvsAt H xs es) (R : RowAt K H0 a r H) (k : Keep (fun b => b = r) H H') : EvsAt H' xs es := Paired.mapP X fun _ _ ⟨t, e, h⟩ => ⟨t, e, k _ _ h (R.ne_tup h)⟩
theorem LawAt.keepR {K : PySem.W.Frag} {c : Conf} {H0 H H' : Hp} {a r h : Addr} {A : LA} {s : HS} (L : LawAt c H h A s) (R : RowAt K H0 a r H) (nf : ¬ Fp h A r) (k : Keep (fun b => b = r) H H') : LawAt c H' h A s :=
  ⟨k _ _ L.hd fun z => nf (.inl z.symm), k _ _ L.dd (R.ne_tup L.dd), k _ _ L.ww (R.ne_tup L.ww), k _ _ L.lo fun z => nf (.inr (.inl z.symm)), k _ _ L.lp fun z => nf (.inr (.inr (.inl z.symm))), L.ol,
    fun j b o p q => k _ _ (L.og j b o p q) fun z => nf (.inr (.inr (.inr (by rw [← z]; exact List.mem_of_getElem? p)))), L.el, fun i b e p q => k _ _ (L.eg i b e p q) (R.ne_tup (L.eg i b e p q)), L.nd, L.nl⟩
section
variable {P : Program} {w : World} {K : PySem.W.Frag} {mg : Str → Option Value} {base : Heap}
theorem RowAt.same {H0 H H' : Hp} {a r : Addr} (R : RowAt K H0 a r H) (S : Same H H') : RowAt K H0 a r H' := R.keep (F := fun _ => False) (fun b o e _ => S b o e) (fun _ z => z.elim) id
theorem ok_Lwalk (T : Txt K mg) : FnOk P w K mg base CX0 5 T.f_Lwalk T.fd_Lwalk ["row", "design", "world", "most"] (spWalk K) := by
  refine T.F_Lwalk.ok sc_Lwalk (fun vs H Q E h => ?_) (fun cdv A outer s H vs Q E hr h => ?_)
  · unfold spWalk at h
    obtain ⟨c, H0, a, r, d, w, m, rfl, _⟩ := h
    rfl
  · unfold spWalk at h
    obtain ⟨c, H0, a, r, d, w, m, rfl, O, R, hm, h1, h2, q⟩ := h
    have hu := hu_of hr
    refine ⟨_, (pss_cons (ps_set (i := 4) sc_Lwalk.nd rfl (Or.inr rfl) (pe_call (ok_Lbegin T) (hr.mono (by decide)) rfl T.m_Lbegin T.F_Lbegin.kp (b_Lbegin T) .nil pass0 (pa_cons (pv 1) (pa_cons (pv 2) pa_nil))))
      (pss_cons (ps_for PassesOwn.never rfl (pi_range1 rfl T.n_range (pa_cons (pe_call (ok_Ltaken T) (hr.mono (by decide)) rfl T.m_Ltaken T.F_Ltaken.kp (b_Ltaken T) .nil pass0 (pa_cons (pv 0) (pa_cons (pe_op op_add (pv 3) pe_int) pa_nil))) pa_nil)) (pg_name (i := 5) sc_Lwalk.nd rfl (Or.inl rfl)) (pss_cons (ps_set (i := 6) sc_Lwalk.nd rfl (Or.inl rfl) (pe_call (ok_Levents T) (hr.mono (by decide)) rfl T.m_Levents T.F_Levents.kp (b_Levents T) .nil pass0 (pa_cons (pv 4) pa_nil)))
      (pss_cons (ps_setLc (i := 7) (own := [("event", 8)]) rfl sc_Lwalk.nd rfl rfl (sw_true rfl rfl rfl (by decide +kernel)) (pi_list (pv 6)) (blkOk_by (N := ["row", "design", "world", "most", "h", "turn", "some", "going", "event"]) (sc := defScope s_Lwalk) (by decide +kernel)) (fun _ _ _ _ _ => (pg_name (i := 8) sc_Lwalk.nd rfl (Or.inl rfl))) (fun _ _ _ _ _ => (pts_one (PW.pt (pw_and (pt_cmpR op_eq (pe_callB (len_seqK (K := K) rfl) (by rfl) T.n_len (by decide +kernel) (pa_cons (pv 8) pa_nil)) pe_int (nomark _)) (pw_and (pt_cmpR op_lt (pe_ix (ix_tupK (K := K) rfl) (pv 8) pe_int (fun _ _ => rfl)) (pe_callB (len_seqK (K := K) rfl) (by rfl) T.n_len (by decide +kernel) (pa_cons (pe_dget hu (pv 4) pe_str (fun _ _ => rfl)) pa_nil)) (nomark _)) (pw_and1 (pt_cmpR op_ne (pe_ix (ix_tupK (K := K) rfl) (pv 8) pe_int (fun _ _ => rfl)) pe_str (nomark _)))))))) (fun _ _ _ _ _ => (pv 8)))
      (Evl.pss_cut (ps_set (i := 6) sc_Lwalk.nd rfl (Or.inl rfl) (pe_ifExp (PW.pt (pw_and (pt_cmpR (op_neD hr.units) (pv 7) (pe_lst pa_nil) (nomark _)) (pw_and1 (pt_cmpR op_gt (pe_call (ok_Ltaken T) (hr.mono (by decide)) rfl T.m_Ltaken T.F_Ltaken.kp (b_Ltaken T) .nil pass0 (pa_cons (pv 0) (pa_cons pe_int pa_nil))) pe_int (nomark _))))) (pv 7) (pv 6)))
      (pss_one (ps_expr (pe_call (ok_Ldo T) (hr.mono (by decide)) rfl T.m_Ldo T.F_Ldo.kp (b_Ldo T) .nil pass0 (pa_cons (pv 4) (pa_cons (pe_call (ok_Lpick T) (hr.mono (by decide)) rfl T.m_Lpick T.F_Lpick.kp (b_Lpick T) .nil pass0 (pa_cons (pv 0) (pa_cons (pv 6) pa_nil))) pa_nil)))))))))
      (pss_one (ps_ret (pv 4))))), ?_⟩
    refine ⟨_, rfl, _, rfl, ?_⟩
    refine begin_i h1 h2 fun h lo lp H1 S1 nh nlo nlp L1 => ?_
    have R1 := R.same S1
    refine ⟨_, rfl, _, rfl, _, _, rfl, rfl, ?_⟩
    refine taken_i R1 (by omega) (by omega) fun k H2 k0 k1 R2 K2 E2 => ?_
    have nr : ∀ b, H b = none → b ≠ r := fun b e => R.ne e
    have fr0 : ∀ b, Fp h ⟨d, w, lo, lp, [], []⟩ b → H b = none := by
      rintro b (z | z | z | z)
      · rw [z]; exact nh
      · rw [z]; exact nlo
      · rw [z]; exact nlp
      · cases z
    have L2 : LawAt c H2 h ⟨d, w, lo, lp, [], []⟩ HS.begin := L1.keepR R1 (fun z => R.ne (fr0 r z) rfl) K2
    refine ⟨k, rfl, by omega, by omega, for_range (lo := 0) (n := k.toNat) (fun i σ H' => ∃ A s x5 x6 x7, σ = [some (.ref r), some (.ref d), some (.ref w), some (.int (m : Int)), some (.ref h), x5, x6, x7, none] ∧ Reach c s ∧ s.past.length = i ∧ LawAt c H' h A s ∧ A.d = d ∧ A.w = w ∧ RowAt K H0 a r H' ∧ Keep (fun b => b = r) H H' ∧ ∀ b, Fp h A b → H b = none)
      ⟨_, _, none, none, none, rfl, .begin, rfl, L2, rfl, rfl, R2, ?_, fr0⟩ ?_ ?_⟩
    · exact (show Keep (fun b => b = r) H H1 from fun b o e _ => S1 b o e).trans K2
    · rintro i σ H3 hi ⟨A, s, x5, x6, x7, rfl, re, hp, L, ed, ew, R3, K3, fr⟩
      obtain ⟨W, hol⟩ := re.wf O
      have ol : s.ops.length ≤ 100 := by omega
      refine ⟨_, rfl, ?_⟩
      refine events_i O L ol (wait_all W O) fun f xs es H4 S4 nf hf X so pm => ?_
      have L4 := L.same S4
      have R4 := R3.same S4
      have stk : ∀ e ∈ es, PyData.strOk e.1 = true := fun e he => (do_ok W O (pm.mem_iff.mp he)).str
      have nfr : f ≠ r := R3.ne nf
      have xl : xs.length ≤ 1000 := by
        rw [X.length, pm.length_eq]
        have := evList_len (c := c) (s := s)
        omega
      -- going = [..]
      refine ⟨_, rfl, f, rfl, ⟨_, SqL.of hf⟩, fun D nD => ?_⟩
      refine lc_list (xs := xs) (fun j H' => ∃ acc, Same H4 H' ∧ H' D = some (.lst acc) ∧ acc.length ≤ j ∧ ∀ y ∈ acc, y ∈ xs) ⟨[], same_new nD, upd_same, Nat.le_refl _, fun y hy => by simp at hy⟩ (fun j H' _ ⟨_, S, _⟩ => SqL.of (S _ _ hf)) ?_ ?_
      · rintro j y H' hj ⟨acc, S, hD, al, sub⟩
        have hy : y ∈ xs := List.mem_of_getElem? hj
        obtain ⟨t, e, rfl, ht, he⟩ := X.get hy
        have ht' := S _ _ ht
        have L5 := L4.same S
        have jl : j < xs.length := (List.getElem?_eq_some_iff.mp hj).1
        have add : acc.length < sizeLine ∧ ∃ acc', Same H4 (upd H' D (.lst (acc ++ [.ref t]))) ∧ (upd H' D (.lst (acc ++ [.ref t]))) D = some (.lst acc') ∧ acc'.length ≤ j + 1 ∧ ∀ y ∈ acc', y ∈ xs := by
          refine ⟨Nat.lt_of_le_of_lt (show acc.length ≤ 1000 by omega) (by decide), acc ++ [.ref t], sN' S nD, upd_same, by rw [List.length_append, List.length_singleton]; omega, fun z hz => ?_⟩
          rcases List.mem_append.mp hz with z1 | z1
          · exact sub z z1
          · rw [List.mem_singleton.mp z1]; exact hy
        have skip : ∃ acc, Same H4 H' ∧ H' D = some (.lst acc) ∧ acc.length ≤ j + 1 ∧ ∀ y ∈ acc, y ∈ xs := ⟨acc, S, hD, by omega, sub⟩
        refine ⟨rfl, _, rfl, t, _, rfl, .inr (SqT.of ht'), rfl, _, rfl, ?_⟩
        obtain ⟨w', kk⟩ := e
        cases kk with
        | none =>
          refine (show _ → _ from fun x => x) ?_
          rw [if_neg (by show ¬ decide (V.int ((1 : Nat) : Int) = V.int 2) = true; decide)]
          exact skip
        | some kk =>
          rw [if_pos (by show decide (V.int ((2 : Nat) : Int) = V.int 2) = true; decide)]
          refine ⟨_, rfl, _, _, _, _, rfl, rfl, SqT.of (ht'), rfl, _, rfl, _, _, rfl, dget (L5.hd) rfl, _, _, rfl, .inl (SqL.of L5.lo), _, _, rfl, rfl, _, rfl, ?_⟩
          refine iteB (fun n1 => ?_) (fun n1 => ?_)
          · refine ⟨_, rfl, _, _, _, _, rfl, rfl, SqT.of (ht'), rfl, rfl, _, rfl, ?_⟩
            refine iteB (fun n2 => ?_) (fun n2 => ?_)
            · refine ⟨_, rfl, acc, hD, add⟩
            · exact skip
          · exact skip
      rintro H5 ⟨acc, S5, hD, al, sub⟩
      have L5 := L4.same S5
      have R5 := R4.same S5
      have nDr : D ≠ r := R4.ne nD
      have X5 := X.same S5
      have hf5 := S5 _ _ hf
      obtain ⟨fs, X5', sub'⟩ := evs_sub X5 sub
      have nfp : ¬ Fp h A r := fun z => R.ne (fr r z) rfl
      have xne : xs ≠ [] := fun z => by
        have e1 := pm.length_eq
        have e2 : xs.length = es.length := X.length
        rw [z] at e2
        have e3 : 2 ≤ (evList c s).length := by
          unfold evList evA
          simp only [List.length_append, List.length_cons]
          omega
        simp at e2
        omega
      refine ⟨fun σ' H' => ∃ l ys, σ' = [some (.ref r), some (.ref d), some (.ref w), some (.int (m : Int)), some (.ref h), some (.int (0 + (i : Int))), some (.ref l), some (.ref D), none] ∧ LawAt c H' h A s ∧ RowAt K H0 a r H' ∧ Keep (fun b => b = r) H3 H' ∧ H' l = some (.lst ys) ∧ l ≠ r ∧ ys ≠ [] ∧ ys.length ≤ 1000 ∧ ∃ fs, EvsAt H' ys fs ∧ ∀ f ∈ fs, f ∈ es, ?_, ?_⟩
      · have K5 : Keep (fun b => b = r) H3 H5 := fun b o e _ => S5 b o (S4 b o e)
        refine ⟨_, rfl, Nat.zero_le _, fun p np => ?_⟩
        have s6 := same_new (o := .lst []) np
        have L6 := L5.same s6
        have R6 := R5.same s6
        have K6 : Keep (fun b => b = r) H3 (upd H5 p (.lst [])) := K5.new np
        have hp : (upd H5 p (.lst [])) p = some (.lst []) := upd_same
        have hD6 := s6 _ _ hD
        have hf6 := s6 _ _ hf5
        have X6 := X5.same s6
        have X6' := X5'.same s6
        generalize upd H5 p (.lst []) = H6 at s6 L6 R6 K6 hp hD6 hf6 X6 X6'
        refine ⟨_, _, .lst (SqL.of hD6) (evs_dp X6'), .lst (SqL.of hp) .nil, evs_list_shaped fun e he => stk e (sub' e he), rfl, _, rfl, ?_⟩
        refine iteB (fun n => ?_) (fun n => ?_)
        · have ane : acc ≠ [] := fun z => by
            rw [z] at X6'
            cases X6'
            revert n
            show ¬ (!PyData.eqv (.list []) (.list [])) = true
            decide
          refine ⟨_, rfl, ?_⟩
          refine taken_i R6 (by decide) (by decide) fun k2 H7 _ _ R7 K7 _ => ?_
          have L7 := L6.keepR R6 nfp K7
          refine ⟨_, _, rfl, rfl, _, rfl, ?_⟩
          refine iteB (fun n2 => ?_) (fun n2 => ?_)
          · exact ⟨_, rfl, D, acc, rfl, L7, R7, K6.trans K7, K7 _ _ hD6 nDr, nDr, ane, by omega, fs, X6'.keepR R6 K7, sub'⟩
          · exact ⟨_, rfl, f, xs, rfl, L7, R7, K6.trans K7, K7 _ _ hf6 nfr, nfr, xne, xl, es, X6.keepR R6 K7, fun _ z => z⟩
        · exact ⟨_, rfl, f, xs, rfl, L6, R6, K6, hf6, nfr, xne, xl, es, X6, fun _ z => z⟩
      · rintro σ' H7 ⟨l, ys, rfl, L7, R7, K7, hl, nlr, yne, yl, gs, X7, sub7⟩
        refine ⟨_, rfl, _, rfl, _, rfl, ?_⟩
        refine pick_i ys R7 hl nlr yne yl fun x H8 hx R8 K8 => ?_
        have L8 := L7.keepR R7 nfp K8
        obtain ⟨t, e, rfl, ht, he⟩ := X7.get hx
        have ht8 : H8 t = some (.tup (evV e)) := K8 _ _ ht (R7.ne_tup ht)
        have hev := pm.mem_iff.mp (sub7 e he)
        have dk := do_ok W O hev
        refine do_i O L8 ht8 dk.str dk.ok ol (by omega) fun H9 A' L9 ed' ew' elo elp oa K9 => ?_
        have nF : ∀ b o, H b = some o → ¬ Fp h A b := fun b o e f => by rw [fr b f] at e; cases e
        have KK : Keep (fun b => b = r) H H8 := (K3.trans K7).trans K8
        refine ⟨A', _, _, _, _, rfl, .step re hev, by rw [do_past, List.length_append, hp]; rfl, L9, ed'.trans ed, ew'.trans ew, R8.keep K9 (fun b f => R.sm.free (fr b f)) nfp, fun b o e n => K9 b o (KK b o e n) (nF b o e), ?_⟩
        rintro b (z | z | z | z)
        · exact fr b (.inl z)
        · exact fr b (.inr (.inl (by rw [← elo]; exact z)))
        · exact fr b (.inr (.inr (.inl (by rw [← elp]; exact z))))
        · rcases oa.1 b z with y | y
          · exact fr b (.inr (.inr (.inr y)))
          · exact KK.free y (R8.ne y)
    · rintro σ H' ⟨A, s, x5, x6, x7, rfl, re, hp, L, ed, ew, R3, K3, fr⟩
      refine ⟨_, rfl, ?_⟩
      exact q h A s H' re (by omega) L ed ew R3 K3 fr
end
end Ca

set_option Elab.async false
set_option linter.all false
set_option maxRecDepth 100000
set_option maxHeartbeats 4000000
namespace Ca
open PySem L2
/-! ### a list, of anything, against the empty list -/
def rNil (K : PySem.W.Frag) (neg : Bool) : R2 := fun x y H Q => ∃ (a b : Addr) (xs : List V), x = .ref a ∧ y = .ref b ∧ SqL K H a xs ∧ SqL K H b [] ∧ Q (.bl (xs.isEmpty != neg)) H
theorem vals_nil {its : List Value} (r : Vals [] its) : its = [] := by
  cases r
  rfl
theorem vals_len : ∀ {xs : List V} {its : List Value}, Vals xs its → its.length = xs.length
  | _, _, .nil => rfl
  | _, _, .cons _ r => by rw [List.length_cons, List.length_cons, vals_len r]
section
variable {X : Cx}
theorem op_eqNil (hu : X.A.units < cLine) : OpR X (compareOp .Eq) (rNil X.K false) := by
  intro pins s σ H x y v u Q I rx ry h
  obtain ⟨a, b, xs, rfl, rfl, hx, hy, q⟩ := h
  obtain rfl : v = Value.ref a := rx
  obtain rfl : u = Value.ref b := ry
  obtain ⟨its, r1, ⟨o1, n1, e1, c1, _, d1⟩, _⟩ := I.list hx
  obtain ⟨its2, r2, ⟨o2, n2, e2, c2, _, d2⟩, _⟩ := I.list hy
  have z2 := vals_nil r2
  subst z2
  have l1 : s.heap.IsList a its.toArray := ⟨o1, e1, c1, n1, d1⟩
  have l2 : s.heap.IsList b ([] : List Value).toArray := ⟨o2, e2, c2, n2, d2⟩
  cases xs with
  | nil =>
    have z1 := vals_nil r1
    subst z1
    exact SeqAt.eq_listAt (e := fun _ => true) l1 l2 rfl hu (fun j h1 _ => absurd h1 (Nat.not_lt_zero _)) ⟨.bl true, H, I, rfl, q⟩
  | cons x xs =>
    have z1 := vals_len r1
    refine SeqAt.eq_list_lengthsAt l1 l2 ?_ hu ⟨.bl false, H, I, rfl, q⟩
    show (its.toArray.size != 0) = true
    rw [List.size_toArray, z1]
    rfl
theorem op_neNil (hu : X.A.units < cLine) : OpR X (compareOp .NotEq) (rNil X.K true) := by
  intro pins s σ H x y v u Q I rx ry h
  obtain ⟨a, b, xs, rfl, rfl, hx, hy, q⟩ := h
  obtain rfl : v = Value.ref a := rx
  obtain rfl : u = Value.ref b := ry
  obtain ⟨its, r1, ⟨o1, n1, e1, c1, _, d1⟩, _⟩ := I.list hx
  obtain ⟨its2, r2, ⟨o2, n2, e2, c2, _, d2⟩, _⟩ := I.list hy
  have z2 := vals_nil r2
  subst z2
  have l1 : s.heap.IsList a its.toArray := ⟨o1, e1, c1, n1, d1⟩
  have l2 : s.heap.IsList b ([] : List Value).toArray := ⟨o2, e2, c2, n2, d2⟩
  cases xs with
  | nil =>
    have z1 := vals_nil r1
    subst z1
    exact SeqAt.RcNeAt.lists (e := fun _ => true) l1 l2 rfl hu (fun j h1 _ => absurd h1 (Nat.not_lt_zero _)) _ _ _ _ ⟨.bl false, H, I, rfl, q⟩
  | cons x xs =>
    have z1 := vals_len r1
    refine SeqAt.RcNeAt.lists_lengths l1 l2 ?_ hu _ _ _ _ ⟨.bl true, H, I, rfl, q⟩
    show (its.toArray.size != 0) = true
    rw [List.size_toArray, z1]
    rfl
end
end Ca

set_option Elab.async false
set_option linter.all false
set_option maxRecDepth 100000
set_option maxHeartbeats 4000000
namespace Ca
open PySem L2
/-! ### comprehensions over the law's operations -/
theorem ev_dg {i : Nat} {σ : L2.St} {H : Hp} {a : Addr} {kvs : List (Key × V)} {x : Str} {v : V} (hs : σ[i]? = some (some (.ref a))) (h : H a = some (.dK kvs)) (e : valV kvs (Sum.inr x) = some v) : Evl.Ev (tDGet (tVar i) (tC (.str x))) σ H v := fun H1 x1 Q q =>
  ⟨_, hs, a, v, rfl, dget (x1 _ _ h) e, q H1 (Evl.Ex.refl H1)⟩
theorem all_refs {c : Conf} {H : Hp} {h : Addr} {A : LA} {s : HS} (L : LawAt c H h A s) : OpRefs A s (A.oas.map V.ref) s.ops := by
  have key : ∀ (as : List Addr) (os : List OpS), as.length = os.length → (∀ (j : Nat) a o, as[j]? = some a → os[j]? = some o → ∃ k : Nat, A.oas[k]? = some a ∧ s.ops[k]? = some o) → OpRefs A s (as.map V.ref) os := by
    intro as
    induction as with
    | nil =>
      intro os hl _
      cases os with
      | nil => exact .nil
      | cons _ _ => cases hl
    | cons a as ih =>
      intro os hl hg
      cases os with
      | nil => cases hl
      | cons o os =>
        obtain ⟨k, e1, e2⟩ := hg 0 a o rfl rfl
        exact .cons ⟨k, a, rfl, e1, e2⟩ (ih os (by simpa using hl) fun j x y p q => hg (j + 1) x y p q)
  exact key _ _ L.ol fun j a o e1 e2 => ⟨j, e1, e2⟩
section
variable {K : PySem.W.Frag} {a : Addr} {g : TG} {tt : TT} {te : TE} {vs : List Nat} {σ : St} {H : Hp} {D : Addr} {Qd : Hp → Prop} {j : Nat} {A : LA} {s : HS} {xs : List V} {os : List OpS}
/-- those of which a test says yes -/
theorem lcOps (p : OpS → Bool) (nD : H D = none) (hs : SqL K H a xs) (X : OpRefs A s xs os) (hl : xs.length ≤ 200) (hg : g = gName j) (hw : ∀ x, wipe ((wipe σ vs).set j (some x)) vs = wipe σ vs)
    (ht : ∀ (k : Nat) b o, A.oas[k]? = some b → s.ops[k]? = some o → o ∈ os → Evl.EvT tt ((wipe σ vs).set j (some (.ref b))) H (p o)) (he : ∀ b, Evl.Ev te ((wipe σ vs).set j (some (.ref b))) H (.ref b))
    (hq : ∀ H' acc, Evl.Ex H H' → H' D = some (.lst acc) → OpRefs A s acc (os.filter p) → Qd H') :
    ∃ W : Nat → Nat → Hp → Prop, (∃ m, W 0 m (upd H D (.lst []))) ∧ ∀ i m H', W i m H' →
      ((Itl K a).stop i H' ∧ Qd H') ∨ ((Itl K a).go i H' ∧ ∃ Nx : Hp → Prop, (∀ H', Nx H' → ∃ m', m' < m ∧ W (i + 1) m' H') ∧ ∀ x H'', (Itl K a).yld i H' x H'' → g x (wipe σ vs) H'' fun σ2 H2 => wipe σ2 vs = wipe σ vs ∧ tt σ2 H2 fun b H3 =>
        if b = true then te σ2 H3 fun y H4 => ∃ acc, H4 D = some (.lst acc) ∧ acc.length < sizeLine ∧ Nx (upd H4 D (.lst (acc ++ [y]))) else Nx H3) := by
  subst hg
  refine lc_list (xs := xs) (fun i H' => ∃ acc, Evl.Ex H H' ∧ H' D = some (.lst acc) ∧ OpRefs A s acc ((os.take i).filter p)) ⟨[], Evl.Ex.new nD, upd_same, .nil⟩ (fun i H' _ ⟨_, e, _⟩ => Evl.ex_l e hs) (fun i x H' hi ⟨acc, e, hD, R⟩ => ⟨?_, ?_⟩) fun H' ⟨acc, e, hD, R⟩ => ?_
  · exact hw x
  · obtain ⟨o, eo, k, b, rfl, ek, es⟩ := pget X hi
    have h3 : os.take (i + 1) = os.take i ++ [o] := by
      rw [List.take_succ, eo]
      rfl
    have al : acc.length ≤ 200 := by
      rw [R.length]
      refine Nat.le_trans (List.length_filter_le _ _) ?_
      rw [List.length_take, ← X.length]
      omega
    refine ht k b o ek es (List.mem_of_getElem? eo) H' e _ fun H2 e2 => ?_
    cases hp : p o with
    | true =>
      show te _ H2 _
      refine he b H2 (e.trans e2) _ fun H3 e3 => ⟨acc, e3 _ _ (e2 _ _ hD), Nat.lt_of_le_of_lt al (by decide), acc ++ [.ref b], Evl.Ex.mut ((e.trans e2).trans e3) nD, upd_same, ?_⟩
      rw [h3, List.filter_append, List.filter_cons, if_pos hp]
      exact Paired.app R (.cons ⟨k, b, rfl, ek, es⟩ .nil)
    | false =>
      show ∃ acc, _
      refine ⟨acc, e.trans e2, e2 _ _ hD, ?_⟩
      rw [h3, List.filter_append, List.filter_cons, if_neg (by rw [hp]; decide)]
      simpa using R
  · rw [X.length, List.take_length] at R
    exact hq H' acc e hD R
/-- what is told of those of which a test says yes -/
theorem lcOpsM (p : OpS → Bool) (f : OpS → V) (nD : H D = none) (hs : SqL K H a xs) (X : OpRefs A s xs os) (hl : xs.length ≤ 200) (hg : g = gName j) (hw : ∀ x, wipe ((wipe σ vs).set j (some x)) vs = wipe σ vs)
    (ht : ∀ (k : Nat) b o, A.oas[k]? = some b → s.ops[k]? = some o → o ∈ os → Evl.EvT tt ((wipe σ vs).set j (some (.ref b))) H (p o)) (he : ∀ (k : Nat) b o, A.oas[k]? = some b → s.ops[k]? = some o → o ∈ os → p o = true → Evl.Ev te ((wipe σ vs).set j (some (.ref b))) H (f o))
    (hq : ∀ H', Evl.Ex H H' → H' D = some (.lst ((os.filter p).map f)) → Qd H') :
    ∃ W : Nat → Nat → Hp → Prop, (∃ m, W 0 m (upd H D (.lst []))) ∧ ∀ i m H', W i m H' →
      ((Itl K a).stop i H' ∧ Qd H') ∨ ((Itl K a).go i H' ∧ ∃ Nx : Hp → Prop, (∀ H', Nx H' → ∃ m', m' < m ∧ W (i + 1) m' H') ∧ ∀ x H'', (Itl K a).yld i H' x H'' → g x (wipe σ vs) H'' fun σ2 H2 => wipe σ2 vs = wipe σ vs ∧ tt σ2 H2 fun b H3 =>
        if b = true then te σ2 H3 fun y H4 => ∃ acc, H4 D = some (.lst acc) ∧ acc.length < sizeLine ∧ Nx (upd H4 D (.lst (acc ++ [y]))) else Nx H3) := by
  subst hg
  refine lc_list (xs := xs) (fun i H' => Evl.Ex H H' ∧ H' D = some (.lst (((os.take i).filter p).map f))) ⟨Evl.Ex.new nD, upd_same⟩ (fun i H' _ ⟨e, _⟩ => Evl.ex_l e hs) (fun i x H' hi ⟨e, hD⟩ => ⟨?_, ?_⟩) fun H' ⟨e, hD⟩ => ?_
  · exact hw x
  · obtain ⟨o, eo, k, b, rfl, ek, es⟩ := pget X hi
    have h3 : os.take (i + 1) = os.take i ++ [o] := by
      rw [List.take_succ, eo]
      rfl
    have al : (((os.take i).filter p).map f).length ≤ 200 := by
      rw [List.length_map]
      refine Nat.le_trans (List.length_filter_le _ _) ?_
      rw [List.length_take, ← X.length]
      omega
    have mo := List.mem_of_getElem? eo
    refine ht k b o ek es mo H' e _ fun H2 e2 => ?_
    cases hp : p o with
    | true =>
      show te _ H2 _
      refine he k b o ek es mo hp H2 (e.trans e2) _ fun H3 e3 => ⟨_, e3 _ _ (e2 _ _ hD), Nat.lt_of_le_of_lt al (by decide), Evl.Ex.mut ((e.trans e2).trans e3) nD, ?_⟩
      rw [upd_same, h3, List.filter_append, List.filter_cons, if_pos hp, List.map_append]
      rfl
    | false =>
      refine ⟨e.trans e2, ?_⟩
      rw [h3, List.filter_append, List.filter_cons, if_neg (by rw [hp]; decide)]
      simpa using e2 _ _ hD
  · rw [X.length, List.take_length] at hD
    exact hq H' e hD
end
theorem fold_max : ∀ (l : List Nat) (m : Nat), (l.foldl max m = m ∨ l.foldl max m ∈ l) ∧ m ≤ l.foldl max m ∧ ∀ y ∈ l, y ≤ l.foldl max m
  | [], m => ⟨.inl rfl, Nat.le_refl _, fun _ h => by cases h⟩
  | x :: l, m => by
    obtain ⟨a, b, c⟩ := fold_max l (max m x)
    refine ⟨?_, Nat.le_trans (Nat.le_max_left _ _) b, fun y hy => ?_⟩
    · rcases a with a | a
      · rw [List.foldl_cons, a]
        rcases Nat.le_total m x with z | z
        · rw [Nat.max_eq_right z]; exact .inr (List.mem_cons_self ..)
        · rw [Nat.max_eq_left z]; exact .inl rfl
      · exact .inr (List.mem_cons_of_mem _ a)
    · rcases List.mem_cons.mp hy with z | z
      · rw [z]; exact Nat.le_trans (Nat.le_max_right _ _) b
      · exact c y z
theorem un1 {k : Nat} {A : Around} (hr : Room k A) : A.units < cLine := by
  have z := hr.units
  omega
theorem same_ex {H H' : Hp} (e : Evl.Ex H H') : Same H H' := fun b o h => e b o h
end Ca

set_option Elab.async false
set_option linter.all false
set_option maxRecDepth 100000
set_option maxHeartbeats 4000000
namespace Ca
open PySem L2
/-! ### what is asked of the law's own cache -/
def behindH (s : HS) : Bool := match s.cache with
  | none => false
  | some x => decide (x < s.db)
def beforeL (s : HS) (o : OpS) (kd : Str) : List OpS := (s.ops.filter fun u => decide (u.kind = kd) && decide (u.stage = ("ended" : Str))).filter fun u => decide (u.over.getD 0 < o.begun)
def beforeH (s : HS) (o : OpS) (kd : Str) : Nat := (beforeL s o kd).foldl (fun m u => max m (u.version.getD 0)) 0
def quietL (s : HS) (o : OpS) : List OpS := (s.ops.filter fun u => decide (u.kind = ("write" : Str)) && decide (u.begun < o.over.getD 0)).filter fun u => u.over.isNone || decide (o.begun < u.over.getD 0)
def wasQuiet (s : HS) (o : OpS) : Bool := (quietL s o).isEmpty
/-- what has ended has a version, and when it did is noted -/
def EndOk (s : HS) : Prop := ∀ o ∈ s.ops, o.stage = "ended" → ∃ v x, o.version = some v ∧ o.over = some x
@[irreducible] def spBehind : Sp := fun vs H Q _ => ∃ (c : Conf) (h : Addr) (A : LA) (s : HS), vs = [.ref h] ∧ LawAt c H h A s ∧ Q (.bl (behindH s)) H
@[irreducible] def spBefore : Sp := fun vs H Q _ => ∃ (c : Conf) (h a : Addr) (A : LA) (s : HS) (k : Nat) (o : OpS) (kd : Str), vs = [.ref h, .ref a, .str kd] ∧ LawAt c H h A s ∧ A.oas[k]? = some a ∧ s.ops[k]? = some o ∧ EndOk s ∧ s.ops.length ≤ 100 ∧ ∀ H', Evl.Ex H H' → Q (.int (beforeH s o kd : Int)) H'
@[irreducible] def spQuiet : Sp := fun vs H Q _ => ∃ (c : Conf) (h a : Addr) (A : LA) (s : HS) (k : Nat) (o : OpS), vs = [.ref h, .ref a] ∧ LawAt c H h A s ∧ A.oas[k]? = some a ∧ s.ops[k]? = some o ∧ o.over.isSome = true ∧ s.ops.length ≤ 100 ∧ ∀ H', Evl.Ex H H' → Q (.bl (wasQuiet s o)) H'
section
variable {c : Conf} {h a : Addr} {A : LA} {s : HS} {k : Nat} {o : OpS} {kd : Str} {H : Hp} {Q : VK} {E : XK}
theorem behind_i (L : LawAt c H h A s) (q : Q (.bl (behindH s)) H) : spBehind [.ref h] H Q E := by
  unfold spBehind
  exact ⟨c, h, A, s, rfl, L, q⟩
theorem before_i (L : LawAt c H h A s) (e : A.oas[k]? = some a) (e' : s.ops[k]? = some o) (x : EndOk s) (l : s.ops.length ≤ 100) (q : ∀ H', Evl.Ex H H' → Q (.int (beforeH s o kd : Int)) H') : spBefore [.ref h, .ref a, .str kd] H Q E := by
  unfold spBefore
  exact ⟨c, h, a, A, s, k, o, kd, rfl, L, e, e', x, l, q⟩
theorem quiet_i (L : LawAt c H h A s) (e : A.oas[k]? = some a) (e' : s.ops[k]? = some o) (x : o.over.isSome = true) (l : s.ops.length ≤ 100) (q : ∀ H', Evl.Ex H H' → Q (.bl (wasQuiet s o)) H') : spQuiet [.ref h, .ref a] H Q E := by
  unfold spQuiet
  exact ⟨c, h, a, A, s, k, o, rfl, L, e, e', x, l, q⟩
end
section
variable {P : Program} {w : World} {K : PySem.W.Frag} {mg : Str → Option Value} {base : Heap}
theorem ok_Lbehind (T : Txt K mg) : FnOk P w K mg base CX0 1 T.f_Lbehind T.fd_Lbehind ["h"] spBehind := by
  refine T.F_Lbehind.ok sc_Lbehind (fun vs H Q E h => ?_) (fun cdv A outer s H vs Q E hr h => ?_)
  · unfold spBehind at h
    obtain ⟨c, h, A, s, rfl, _⟩ := h
    rfl
  · unfold spBehind at h
    obtain ⟨c, h, A, s, rfl, L, q⟩ := h
    have hu := hu_of hr
    refine ⟨_, (pss_one (ps_ret (pe_and (pe_cmpR op_notN (pe_dget hu (pv 0) pe_str (fun _ _ => rfl)) pe_non (nomark _)) (pe_one (pe_cmpR op_lt (pe_dget hu (pv 0) pe_str (fun _ _ => rfl)) (pe_dget hu (pv 0) pe_str (fun _ _ => rfl)) (nomark _)))))), ?_⟩
    refine ⟨_, rfl, _, _, rfl, dget (L.hd) rfl, rfl, _, rfl, ?_⟩
    unfold behindH at q
    cases ec : s.cache with
    | none =>
      rw [ec] at q
      exact iteF q
    | some x =>
      rw [ec] at q
      refine iteT ?_
      have e2 : valV (hK A.d A.w s A.lo A.lp) (Sum.inr "cache") = some (.int (x : Int)) := by
        show some (on s.cache) = _
        rw [ec]
        rfl
      refine ⟨_, rfl, _, _, rfl, dget L.hd e2, _, rfl, _, _, rfl, dget (L.hd) rfl, _, _, rfl, rfl, ?_⟩
      show Q (.bl (decide ((x : Int) < (s.db : Int)))) H
      rw [show decide ((x : Int) < (s.db : Int)) = decide (x < s.db) from by simp]
      exact q
theorem ok_Lbefore (T : Txt K mg) : FnOk P w K mg base CX0 1 T.f_Lbefore T.fd_Lbefore ["h", "one", "kind"] spBefore := by
  refine T.F_Lbefore.ok sc_Lbefore (fun vs H Q E h => ?_) (fun cdv A outer s H vs Q E hr h => ?_)
  · unfold spBefore at h
    obtain ⟨c, h, a, A, s, k, o, kd, rfl, _⟩ := h
    rfl
  · unfold spBefore at h
    obtain ⟨c, h, a, A, s, k, o, kd, rfl, L, ea, eo, ex, ln, q⟩ := h
    have hu := hu_of hr
    refine ⟨_, (pss_cons (ps_setLc (i := 3) (own := [("other", 4)]) rfl sc_Lbefore.nd rfl rfl (sw_true rfl rfl rfl (by decide +kernel)) (pi_list (pe_dget hu (pv 0) pe_str (fun _ _ => rfl))) (blkOk_by (N := ["h", "one", "kind", "found", "other"]) (sc := defScope s_Lbefore) (by decide +kernel)) (fun _ _ _ _ _ => (pg_name (i := 4) sc_Lbefore.nd rfl (Or.inl rfl))) (fun _ _ _ _ _ => (pts_one (PW.pt (pw_and (pt_cmpR op_eq (pe_dget hu (pv 4) pe_str (fun _ _ => rfl)) (pv 2) (nomark _)) (pw_and1 (pt_cmpR op_eq (pe_dget hu (pv 4) pe_str (fun _ _ => rfl)) pe_str (nomark _))))))) (fun _ _ _ _ _ => (pv 4)))
      (pss_one (ps_ret (pe_callB (cr_max rfl) (by rfl) T.n_max (by decide +kernel) (pa_cons (pe_op op_cat (pe_lst (pa_cons pe_int pa_nil)) (pe_lc (own := [("other", 4)]) rfl sc_Lbefore.nd (pi_list (pv 3)) (blkOk_by (N := ["h", "one", "kind", "found", "other"]) (sc := defScope s_Lbefore) (by decide +kernel)) (fun _ _ _ _ _ => (pg_name (i := 4) sc_Lbefore.nd rfl (Or.inl rfl))) (fun _ _ _ _ _ => (pts_one (pt_cmpR op_lt (pe_dget hu (pv 4) pe_str (fun _ _ => rfl)) (pe_dget hu (pv 1) pe_str (fun _ _ => rfl)) (nomark _)))) (fun _ _ _ _ _ => (pe_dget hu (pv 4) pe_str (fun _ _ => rfl))))) pa_nil))))), ?_⟩
    have ol : (A.oas.map V.ref).length ≤ 200 := by
      rw [List.length_map, L.ol]
      omega
    refine ⟨_, rfl, _, _, rfl, dget (L.hd) rfl, A.lo, rfl, ⟨_, SqL.of L.lo⟩, fun D nD => lcOps (A := A) (s := s) (fun u => decide (u.kind = kd) && decide (u.stage = ("ended" : Str))) nD (SqL.of L.lo) (all_refs L) ol rfl (fun _ => rfl) (fun k' b u eb eu mu => ?_) (fun b => Evl.ev_var rfl) fun H1 acc e1 hD R => ?_⟩
    · have hb := L.og k' b u eb eu
      have z : (decide (u.kind = kd) && decide (u.stage = ("ended" : Str))) = (decide (V.str u.kind = V.str kd) && decide (V.str u.stage = V.str "ended")) := by simp
      rw [z]
      exact Evl.et_and (Evl.et_test (Evl.ev_op (ev_dg rfl hb rfl) (Evl.ev_var rfl) (Evl.rv_eq rfl))) (fun _ => Evl.et_test (Evl.ev_op (ev_dg rfl hb rfl) Evl.ev_c (Evl.rv_eq rfl)))
    have L1 := L.same (same_ex e1)
    obtain ⟨a1, ea1, ha1⟩ := L1.get eo
    rw [ea] at ea1
    cases ea1
    refine ⟨by show 1 ≤ sizeLine; decide, fun l0 nl0 => ?_⟩
    have e2 := Evl.Ex.new (o := .lst [.int 0]) nl0
    have h0 : (upd H1 l0 (.lst [.int 0])) l0 = some (.lst [.int 0]) := upd_same
    have L2 := L1.same (same_ex e2)
    have ha2 := e2 _ _ ha1
    have hD2 := e2 _ _ hD
    generalize upd H1 l0 (.lst [.int 0]) = H2 at e2 h0 L2 ha2 hD2
    have al : acc.length ≤ 200 := by
      rw [R.length]
      exact Nat.le_trans (List.length_filter_le _ _) (by omega)
    refine ⟨_, rfl, D, rfl, ⟨_, SqL.of hD2⟩, fun D2 nD2 => lcOpsM (A := A) (s := s) (fun u => decide (u.over.getD 0 < o.begun)) (fun u => .int ((u.version.getD 0 : Nat) : Int)) nD2 (SqL.of hD2) R al rfl (fun _ => rfl) (fun k' b u eb eu mu => ?_) (fun k' b u eb eu mu _ => ?_) fun H3 e3 hD3 => ?_⟩
    · have hb := L2.og k' b u eb eu
      have mu' := List.mem_filter.mp mu
      have ue : u.stage = ("ended" : Str) := by
        have z := mu'.2
        rw [Bool.and_eq_true, decide_eq_true_eq, decide_eq_true_eq] at z
        exact z.2
      obtain ⟨v, x, ev, exx⟩ := ex u mu'.1 ue
      have z : decide (u.over.getD 0 < o.begun) = decide ((x : Int) < (o.begun : Int)) := by
        rw [exx]
        simp
      rw [z]
      exact Evl.et_test (Evl.ev_op (ev_dg rfl hb (by show some (on u.over) = _; rw [exx]; rfl)) (ev_dg rfl ha2 rfl) Evl.rv_I0)
    · have hb := L2.og k' b u eb eu
      have mu' := List.mem_filter.mp mu
      have ue : u.stage = ("ended" : Str) := by
        have z := mu'.2
        rw [Bool.and_eq_true, decide_eq_true_eq, decide_eq_true_eq] at z
        exact z.2
      obtain ⟨v, x, ev, exx⟩ := ex u mu'.1 ue
      exact ev_dg rfl hb (by show some (on u.version) = _; rw [ev]; rfl)
    refine ⟨_, _, _, _, rfl, rfl, e3 _ _ h0, hD3, ?_, fun l4 nl4 => ?_⟩
    · have z : (((List.filter (fun u => decide (u.over.getD 0 < o.begun)) (List.filter (fun u => decide (u.kind = kd) && decide (u.stage = ("ended" : Str))) s.ops)).map (fun u => V.int ((u.version.getD 0 : Nat) : Int))).length) ≤ 100 := by
        rw [List.length_map]
        exact Nat.le_trans (List.length_filter_le _ _) (Nat.le_trans (List.length_filter_le _ _) ln)
      show 1 + _ ≤ sizeLine
      exact Nat.le_trans (Nat.add_le_add_left z 1) (by decide)
    · have ns : ([V.int 0] ++ ((beforeL s o kd).map (fun u => V.int ((u.version.getD 0 : Nat) : Int)))) = ((0 :: (beforeL s o kd).map (fun u => u.version.getD 0)).map (fun n : Nat => (n : Int))).map V.int := by
        simp [Function.comp_def]
      refine ⟨l4, ((0 :: (beforeL s o kd).map (fun u => u.version.getD 0)).map (fun n : Nat => (n : Int))), rfl, SqL.of (by rw [← ns]; exact upd_same), by simp, fun m mm mx => ?_⟩
      have fm := fold_max ((beforeL s o kd).map (fun u => u.version.getD 0)) 0
      have ef : beforeH s o kd = ((beforeL s o kd).map (fun u => u.version.getD 0)).foldl max 0 := by
        unfold beforeH
        rw [List.foldl_map]
      rw [← ef] at fm
      have em : m = (beforeH s o kd : Int) := by
        rw [List.mem_map] at mm
        obtain ⟨n, hn, rfl⟩ := mm
        have h1 : ((beforeH s o kd : Nat) : Int) ≤ (n : Int) := mx _ (List.mem_map.mpr ⟨_, by
          rcases fm.1 with z | z
          · rw [z]; exact List.mem_cons_self ..
          · exact List.mem_cons_of_mem _ z, rfl⟩)
        have h2 : n ≤ beforeH s o kd := by
          rcases List.mem_cons.mp hn with z | z
          · rw [z]; exact Nat.zero_le _
          · exact fm.2.2 n z
        omega
      rw [em]
      exact q _ (((e1.trans e2).trans e3).trans (Evl.Ex.new nl4))
theorem ok_Lwas_quiet (T : Txt K mg) : FnOk P w K mg base CX0 2 T.f_Lwas_quiet T.fd_Lwas_quiet ["h", "one"] spQuiet := by
  refine T.F_Lwas_quiet.ok sc_Lwas_quiet (fun vs H Q E h => ?_) (fun cdv A outer s H vs Q E hr h => ?_)
  · unfold spQuiet at h
    obtain ⟨c, h, a, A, s, k, o, rfl, _⟩ := h
    rfl
  · unfold spQuiet at h
    obtain ⟨c, h, a, A, s, k, o, rfl, L, ea, eo, eov, ln, q⟩ := h
    have hu := hu_of hr
    refine ⟨_, (pss_cons (ps_setLc (i := 2) (own := [("other", 3)]) rfl sc_Lwas_quiet.nd rfl rfl (sw_true rfl rfl rfl (by decide +kernel)) (pi_list (pe_dget hu (pv 0) pe_str (fun _ _ => rfl))) (blkOk_by (N := ["h", "one", "writes", "other"]) (sc := defScope s_Lwas_quiet) (by decide +kernel)) (fun _ _ _ _ _ => (pg_name (i := 3) sc_Lwas_quiet.nd rfl (Or.inl rfl))) (fun _ _ _ _ _ => (pts_one (PW.pt (pw_and (pt_cmpR op_eq (pe_dget hu (pv 3) pe_str (fun _ _ => rfl)) pe_str (nomark _)) (pw_and1 (pt_cmpR op_lt (pe_dget hu (pv 3) pe_str (fun _ _ => rfl)) (pe_dget hu (pv 1) pe_str (fun _ _ => rfl)) (nomark _))))))) (fun _ _ _ _ _ => (pv 3)))
      (pss_one (ps_ret (pe_cmpR (op_eqNil (un1 hr)) (pe_lc (own := [("other", 3)]) rfl sc_Lwas_quiet.nd (pi_list (pv 2)) (blkOk_by (N := ["h", "one", "writes", "other"]) (sc := defScope s_Lwas_quiet) (by decide +kernel)) (fun _ _ _ _ _ => (pg_name (i := 3) sc_Lwas_quiet.nd rfl (Or.inl rfl))) (fun _ _ _ _ _ => (pts_one (PW.pt (pw_or (pt_cmpR op_isN (pe_dget hu (pv 3) pe_str (fun _ _ => rfl)) pe_non (nomark _)) (pw_or1 (pt_cmpR op_gt (pe_dget hu (pv 3) pe_str (fun _ _ => rfl)) (pe_dget hu (pv 1) pe_str (fun _ _ => rfl)) (nomark _))))))) (fun _ _ _ _ _ => (pv 3))) (pe_lst pa_nil) (nomark _))))), ?_⟩
    have ol : (A.oas.map V.ref).length ≤ 200 := by
      rw [List.length_map, L.ol]
      omega
    have ha := L.og k a o ea eo
    obtain ⟨x, ex⟩ := Option.isSome_iff_exists.mp eov
    refine ⟨_, rfl, _, _, rfl, dget (L.hd) rfl, A.lo, rfl, ⟨_, SqL.of L.lo⟩, fun D nD => lcOps (A := A) (s := s) (fun u => decide (u.kind = ("write" : Str)) && decide (u.begun < o.over.getD 0)) nD (SqL.of L.lo) (all_refs L) ol rfl (fun _ => rfl) (fun k' b u eb eu mu => ?_) (fun b => Evl.ev_var rfl) fun H1 acc e1 hD R => ?_⟩
    · have hb := L.og k' b u eb eu
      have z : (decide (u.kind = ("write" : Str)) && decide (u.begun < o.over.getD 0)) = (decide (V.str u.kind = V.str "write") && decide ((u.begun : Int) < (x : Int))) := by
        rw [ex]
        simp
      rw [z]
      exact Evl.et_and (Evl.et_test (Evl.ev_op (ev_dg rfl hb rfl) Evl.ev_c (Evl.rv_eq rfl))) (fun _ => Evl.et_test (Evl.ev_op (ev_dg rfl hb rfl) (ev_dg rfl ha (by show some (on o.over) = _; rw [ex]; rfl)) Evl.rv_I0))
    have L1 := L.same (same_ex e1)
    have ha1 := e1 _ _ ha
    have al : acc.length ≤ 200 := by
      rw [R.length]
      exact Nat.le_trans (List.length_filter_le _ _) (by omega)
    refine ⟨_, rfl, D, rfl, ⟨_, SqL.of hD⟩, fun D2 nD2 => lcOps (A := A) (s := s) (fun u => u.over.isNone || decide (o.begun < u.over.getD 0)) nD2 (SqL.of hD) R al rfl (fun _ => rfl) (fun k' b u eb eu mu => ?_) (fun b => Evl.ev_var rfl) fun H2 acc2 e2 hD2 R2 => ?_⟩
    · have hb := L1.og k' b u eb eu
      cases eu2 : u.over with
      | none =>
        have z : ((none : Option Nat).isNone || decide (o.begun < (none : Option Nat).getD 0)) = (decide (V.non = V.non) || false) := rfl
        rw [z]
        refine Evl.et_or (Evl.et_test ?_) (fun hn => ?_)
        · intro H3 e3 Q3 q3
          exact ⟨_, rfl, _, _, rfl, dget (e3 _ _ hb) (by show some (on u.over) = _; rw [eu2]; rfl), rfl, q3 H3 (Evl.Ex.refl _)⟩
        · exact absurd hn (by decide)
      | some y =>
        have z : ((some y : Option Nat).isNone || decide (o.begun < (some y : Option Nat).getD 0)) = (decide (V.int (y : Int) = V.non) || decide ((y : Int) > (o.begun : Int))) := by
          have e1 : decide (V.int (y : Int) = V.non) = false := decide_eq_false (by intro z; cases z)
          rw [e1]
          simp
        rw [z]
        refine Evl.et_or (Evl.et_test ?_) (fun hn => ?_)
        · intro H3 e3 Q3 q3
          exact ⟨_, rfl, _, _, rfl, dget (e3 _ _ hb) (by show some (on u.over) = _; rw [eu2]; rfl), rfl, q3 H3 (Evl.Ex.refl _)⟩
        · exact Evl.et_test (Evl.ev_op (ev_dg rfl hb (by show some (on u.over) = _; rw [eu2]; rfl)) (ev_dg rfl ha1 rfl) Evl.rv_I0)
    refine ⟨by show 0 ≤ sizeLine; decide, fun l0 nl0 => ?_⟩
    have e3 := Evl.Ex.new (o := .lst []) nl0
    refine ⟨_, _, acc2, rfl, rfl, SqL.of (e3 _ _ hD2), SqL.of upd_same, ?_⟩
    have z : acc2.isEmpty = wasQuiet s o := by
      unfold wasQuiet quietL
      have hl := R2.length
      cases acc2 with
      | nil =>
        cases hf : List.filter (fun u : OpS => u.over.isNone || decide (o.begun < u.over.getD 0)) (List.filter (fun u : OpS => decide (u.kind = ("write" : Str)) && decide (u.begun < o.over.getD 0)) s.ops) with
        | nil => rfl
        | cons _ _ => rw [hf] at hl; cases hl
      | cons _ _ =>
        cases hf : List.filter (fun u : OpS => u.over.isNone || decide (o.begun < u.over.getD 0)) (List.filter (fun u : OpS => decide (u.kind = ("write" : Str)) && decide (u.begun < o.over.getD 0)) s.ops) with
        | nil => rw [hf] at hl; cases hl
        | cons _ _ => rfl
    show Q (.bl (acc2.isEmpty != false)) _
    rw [z, Bool.bne_false]
    exact q _ ((e1.trans e2).trans e3)
end
end Ca

set_option Elab.async false
set_option linter.all false
set_option maxRecDepth 100000
set_option maxHeartbeats 4000000
namespace Ca
open PySem L2
/-! ### runs of the law's own cache, from the beginning -/
def runH (c : Conf) (es : List Ev) : HS := es.foldl (doH c) HS.begin
theorem runH_snoc {c : Conf} {es : List Ev} {i : Nat} {e : Ev} (h : es[i]? = some e) : runH c (es.take (i + 1)) = doH c (runH c (es.take i)) e := by
  unfold runH
  rw [List.take_succ, h, List.foldl_append]
  rfl
theorem runH_end {c : Conf} {es : List Ev} {e : Ev} : runH c (es ++ [e]) = doH c (runH c es) e := by
  unfold runH
  rw [List.foldl_append]
  rfl
/-- each event can come behind those ahead of it -/
structure ChainH (c : Conf) (es : List Ev) : Prop where
  step : ∀ i e, es[i]? = some e → e ∈ evList c (runH c (es.take i))
theorem Reach.run {c : Conf} {s : HS} (r : Reach c s) : runH c s.past = s ∧ ChainH c s.past := by
  induction r with
  | begin => exact ⟨rfl, ⟨fun i e h => by simp [HS.begin] at h⟩⟩
  | @step s e r h ih =>
    have ep : (doH c s e).past = s.past ++ [e] := rfl
    rw [ep]
    refine ⟨by rw [runH_end, ih.1], ⟨fun i f hf => ?_⟩⟩
    by_cases hi : i < s.past.length
    · rw [List.getElem?_append_left hi] at hf
      rw [List.take_append_of_le_length (by omega)]
      exact ih.2.step i f hf
    · have hl := (List.getElem?_eq_some_iff.mp hf).1
      rw [List.length_append] at hl
      have hl : i < s.past.length + 1 := hl
      have e0 : i = s.past.length := by omega
      subst e0
      rw [List.getElem?_append_right (Nat.le_refl _), Nat.sub_self] at hf
      cases hf
      rw [List.take_append_of_le_length (Nat.le_refl _), List.take_length, ih.1]
      exact h
theorem ChainH.reach {c : Conf} {es : List Ev} (C : ChainH c es) : ∀ i, i ≤ es.length → Reach c (runH c (es.take i)) ∧ (runH c (es.take i)).past = es.take i
  | 0, _ => by
    rw [List.take_zero]
    exact ⟨.begin, rfl⟩
  | i + 1, hi => by
    obtain ⟨r, p⟩ := C.reach i (by omega)
    have e := List.getElem?_eq_getElem (l := es) (i := i) (by omega)
    rw [runH_snoc e]
    refine ⟨.step r (C.step i _ e), ?_⟩
    show (runH c (es.take i)).past ++ [_] = _
    rw [p, List.take_succ, e]
    rfl
theorem ChainH.all {c : Conf} {es : List Ev} (C : ChainH c es) : Reach c (runH c es) ∧ (runH c es).past = es := by
  have h := C.reach es.length (Nat.le_refl _)
  rw [List.take_length] at h
  exact h
theorem ChainH.take {c : Conf} {es : List Ev} (C : ChainH c es) (n : Nat) : ChainH c (es.take n) := ⟨fun i e h => by
  by_cases hi : i < n
  · rw [List.getElem?_take_of_lt hi] at h
    rw [List.take_take, Nat.min_eq_left (by omega)]
    exact C.step i e h
  · rw [List.getElem?_take_eq_none (by omega)] at h
    cases h⟩
/-- events that can come -/
theorem new_mem {c : Conf} {s : HS} {w : Str} (h : w = "look" ∨ w = firstW c) : (w, some (s.ops.length : Int)) ∈ evList c s := by
  unfold evList
  refine List.mem_append_left _ (List.mem_append_left _ (List.mem_append_left _ (List.mem_append_left _ ?_)))
  unfold evA
  rcases h with e | e
  · rw [e]; exact List.mem_cons_self ..
  · rw [e]; exact List.mem_cons_of_mem _ (List.mem_cons_self ..)
theorem step_mem {c : Conf} {s : HS} {k : Nat} {o : OpS} {w : Str} (W : Wf c s) (eo : s.ops[k]? = some o) (h : endedB o = false) (hn : nextOf s o = some w) : (w, some (k : Int)) ∈ evList c s := by
  have hg : o ∈ going s := by
    unfold going
    rw [List.mem_filter]
    exact ⟨List.mem_of_getElem? eo, by rw [h]; rfl⟩
  unfold evList
  refine List.mem_append_left _ (List.mem_append_left _ (List.mem_append_left _ (List.mem_append_right _ ?_)))
  unfold evB
  rw [List.mem_filterMap]
  refine ⟨o, hg, ?_⟩
  rw [hn, (W.ops k o eo).num]
  rfl
/-! ### what has ended has a version, and when it did is noted -/
structure IO (c : Conf) (o : OpS) : Prop where
  wv : o.kind = "write" → (∃ j, j < o.step ∧ c.steps.getD j "" = "store") → o.version.isSome = true
  we : o.kind = "write" → o.stage = "ended" → o.step = c.steps.length
  re : o.kind = "read" → o.stage = "ended" → o.version.isSome = true
  ov : o.stage = "ended" → o.over.isSome = true
theorem has_store {c : Conf} (O : c.Ok) : ∃ j, j < c.steps.length ∧ c.steps.getD j "" = "store" := by
  have hp := O.p
  unfold Conf.steps
  simp only [pathsL, List.mem_cons, List.not_mem_nil, or_false] at hp
  rcases hp with e | e | e | e | e <;> rw [e]
  · exact ⟨1, by decide +kernel⟩
  · exact ⟨1, by decide +kernel⟩
  · exact ⟨0, by decide +kernel⟩
  · exact ⟨0, by decide +kernel⟩
  · exact ⟨0, by decide +kernel⟩
theorem IO.ended {c : Conf} {o : OpS} (h : IO c o) (O : c.Ok) (kd : o.kind = "read" ∨ o.kind = "write") (e : o.stage = "ended") : o.version.isSome = true := by
  rcases kd with k | k
  · exact h.re k e
  · refine h.wv k ?_
    rw [h.we k e]
    exact has_store O
theorem IO.cf {c : Conf} {o : OpS} (h : IO c o) : IO c (cf o) := ⟨h.wv, h.we, h.re, h.ov⟩
def IOL (c : Conf) (l : List OpS) : Prop := ∀ o ∈ l, IO c o
theorem IOL.cf {c : Conf} {l : List OpS} (h : IOL c l) : IOL c (l.map Ca.cf) := fun o ho => by
  obtain ⟨u, hu, rfl⟩ := List.mem_map.mp ho
  exact (h u hu).cf
theorem IOL.set {c : Conf} {l : List OpS} {k : Nat} {o : OpS} (h : IOL c l) (p : IO c o) : IOL c (l.set k o) := fun u hu => by
  rcases List.mem_or_eq_of_mem_set hu with z | z
  · exact h u z
  · rw [z]; exact p
theorem IO.stop {c : Conf} {o : OpS} {x : Option Nat} (h : IO c o) : IO c { o with stage := "stopped", over := x } :=
  ⟨h.wv, fun _ e => absurd e (by show ¬ ("stopped" : Str) = "ended"; decide +kernel), fun _ e => absurd e (by show ¬ ("stopped" : Str) = "ended"; decide +kernel), fun e => absurd e (by show ¬ ("stopped" : Str) = "ended"; decide +kernel)⟩
/-- a read: only its end matters -/
theorem IO.read {c : Conf} {o : OpS} (kd : o.kind = "read") (h : o.stage = "ended" → o.version.isSome = true ∧ o.over.isSome = true) : IO c o :=
  ⟨fun k => absurd (kd.symm.trans k) (by decide +kernel), fun k => absurd (kd.symm.trans k) (by decide +kernel), fun _ e => (h e).1, fun e => (h e).2⟩
theorem stage_ne {c : Conf} (O : c.Ok) {j : Nat} (h : j < c.steps.length) : ¬ c.steps.getD j "" = "ended" := by
  rcases step_word O h with e | e | e <;> rw [e] <;> decide +kernel
theorem wr4_ops {c : Conf} {s : HS} {k : Nat} {o : OpS} : (wr4 c s k o).ops = s.ops.set k (if o.step + 1 = c.steps.length then { o with step := o.step + 1, stage := "ended", over := some s.past.length } else { o with step := o.step + 1, stage := c.steps.getD (o.step + 1) "" }) := by
  unfold wr4
  split
  · rw [end_ops]
    show (s.ops.set k _).set k _ = _
    rw [List.set_set]
    rfl
  · rfl
theorem io_op {c : Conf} {s : HS} {k : Nat} {o : OpS} {wd : Str} (O : c.Ok) (W : Wf c s) (h : IOL c s.ops) (eo : s.ops[k]? = some o) (a : Ahead s o wd) : IOL c (doOp c s k o wd).ops := by
  have ho := h o (List.mem_of_getElem? eo)
  have p := W.ops k o eo
  unfold doOp
  split
  · rw [end_ops]
    exact h.set ho.stop
  rename_i ns
  rcases a with a | ⟨n1, n2, hn⟩
  · exact absurd a ns
  split
  · rename_i kd
    obtain ⟨hs, ew, _, _⟩ := p.write O kd n1 n2 hn
    have hk : (wo1 s o wd).kind = "write" := by unfold wo1; split <;> exact kd
    have hst : (wo1 s o wd).step = o.step := by unfold wo1; split <;> rfl
    unfold writeH
    rw [wr4_ops]
    have h3 : IOL c (wr3 c (wr2 c (wr1 s k o wd) (wo1 s o wd) wd) (wo1 s o wd) wd).ops ∨ wd = "store" := by
      rw [wr3_ops.1, wr2_ops.1, wr1_ops.1]
      split
      · rename_i z; exact .inr z
      · exact .inl h.cf
    have hv : (∃ j, j < o.step + 1 ∧ c.steps.getD j "" = "store") → (wo1 s o wd).version.isSome = true := by
      rintro ⟨j, hj, ej⟩
      unfold wo1
      split
      · rfl
      · rename_i nst
        have : j < o.step := by
          rcases Nat.lt_or_ge j o.step with z | z
          · exact z
          · have e : j = o.step := by omega
            rw [e, ← ew] at ej
            exact absurd ej nst
        exact ho.wv kd ⟨j, this, ej⟩
    have nw : IO c (if (wo1 s o wd).step + 1 = c.steps.length then { wo1 s o wd with step := (wo1 s o wd).step + 1, stage := "ended", over := some (wr3 c (wr2 c (wr1 s k o wd) (wo1 s o wd) wd) (wo1 s o wd) wd).past.length } else { wo1 s o wd with step := (wo1 s o wd).step + 1, stage := c.steps.getD ((wo1 s o wd).step + 1) "" }) := by
      rw [hst]
      split
      · rename_i el
        exact ⟨fun _ => hv, fun _ _ => el, fun k => absurd (hk.symm.trans k) (by decide +kernel), fun _ => rfl⟩
      · rename_i nl
        have lt : o.step + 1 < c.steps.length := by omega
        exact ⟨fun _ => hv, fun _ e => absurd e (stage_ne O lt), fun k => absurd (hk.symm.trans k) (by decide +kernel), fun e => absurd e (stage_ne O lt)⟩
    intro u hu
    rcases List.mem_or_eq_of_mem_set hu with z | z
    · rw [wr3_ops.1, wr2_ops.1, wr1_ops.1] at z
      split at z
      · rename_i est
        have hu2 : (s.ops.set k { o with version := some (s.db + 1) }).set k (if (wo1 s o wd).step + 1 = c.steps.length then { wo1 s o wd with step := (wo1 s o wd).step + 1, stage := "ended", over := some (wr3 c (wr2 c (wr1 s k o wd) (wo1 s o wd) wd) (wo1 s o wd) wd).past.length } else { wo1 s o wd with step := (wo1 s o wd).step + 1, stage := c.steps.getD ((wo1 s o wd).step + 1) "" }) = s.ops.set k _ := List.set_set ..
        rw [wr3_ops.1, wr2_ops.1, wr1_ops.1, if_pos est, hu2] at hu
        exact h.set nw u hu
      · exact h.cf u z
    · rw [z]; exact nw
  · rename_i kd
    have kr : o.kind = "read" := p.kd.resolve_right kd
    have rd := p.read O kd n1 n2 hn
    have ne : ∀ {st : Str} {P : Prop}, ¬ st = "ended" → st = "ended" → P := fun a b => absurd b a
    unfold readH
    split
    · rename_i z
      rw [end_ops]
      show IOL c ((s.ops.set k _).set k _)
      rw [List.set_set]
      exact h.set (.read kr fun _ => ⟨z.2, rfl⟩)
    split
    · exact h.set (.read kr fun e => ne (by decide +kernel) (show ("waits" : Str) = "ended" from e))
    split
    · exact h.set (.read kr fun e => ne (by decide +kernel) (show ("fetch" : Str) = "ended" from e))
    split
    · split
      · rw [end_ops]
        show IOL c ((s.ops.set k _).set k _)
        rw [List.set_set]
        exact h.set (.read kr fun _ => ⟨rfl, rfl⟩)
      · exact h.set (.read kr fun e => ne (by decide +kernel) (show ("fill" : Str) = "ended" from e))
    split
    · rename_i q1 q2 q3 q4 q5
      rw [end_ops]
      show IOL c ((s.ops.set k _).set k _)
      rw [List.set_set]
      refine h.set (.read kr fun _ => ⟨?_, rfl⟩)
      rcases rd with ⟨e, _⟩ | ⟨e, _⟩ | ⟨e, _⟩ | ⟨_, ew, l, q, el, eq⟩
      · exact absurd e q3
      · exact absurd e q4
      · rw [e] at q5; exact absurd q5 (by decide +kernel)
      · have es : q.stage = "ended" := by
          unfold nextOf at hn
          rw [if_pos ew, el] at hn
          simp only [eq] at hn
          split at hn
          · assumption
          · cases hn
        show (leadV s o).isSome = true
        have : leadV s o = q.version := by
          unfold leadV
          rw [el]
          simp only [eq]
        rw [this]
        exact (h q (List.mem_of_getElem? eq)).ended O (W.ops l q eq).kd es
    · rename_i q1 q2 q3 q4 q5
      have hv : o.version.isSome = true := by
        rcases rd with ⟨e, _⟩ | ⟨e, _⟩ | ⟨_, _, v⟩ | ⟨e, _⟩
        · exact absurd e q3
        · exact absurd e q4
        · exact v
        · exact absurd e q5
      rw [end_ops]
      split
      · rw [hold_ops]
        exact h.set (.read kr fun _ => ⟨hv, rfl⟩)
      · exact h.set (.read kr fun _ => ⟨hv, rfl⟩)
theorem io_new {c : Conf} {s : HS} {w : Str} (O : c.Ok) (h : w = "look" ∨ w = firstW c) : IO c (newOp s w) := by
  have n := (new_next (s := s) (s' := s) O h).1
  refine ⟨fun _ ⟨j, hj, _⟩ => absurd hj (Nat.not_lt_zero _), fun _ e => absurd e n, fun _ e => absurd e n, fun e => absurd e n⟩
theorem Reach.io {c : Conf} {s : HS} (O : c.Ok) (r : Reach c s) : IOL c s.ops := by
  induction r with
  | begin => intro o h; cases h
  | @step s e r h ih =>
    have W := (r.wf O).1
    show IOL c (doE c s e).ops
    cases ev_case W h with
    | evict z =>
      have zL : doE c s evictE = { s with cache := none, mark := 0 } := if_pos rfl
      rw [zL]
      exact ih
    | copy z =>
      have zL : doE c s copyE = { s with rep := s.rep + 1 } := by
        unfold doE
        rw [if_neg (by decide +kernel), if_pos rfl]
      rw [zL]
      exact ih
    | new w hw =>
      have eo : (preH s w s.ops.length).ops[s.ops.length]? = some (newOp s w) := by
        rw [pre_new]
        show (s.ops ++ [newOp s w])[s.ops.length]? = _
        rw [List.getElem?_append_right (Nat.le_refl _), Nat.sub_self]
        rfl
      rw [doE_at eo]
      obtain ⟨a, b, d⟩ := new_next (s := s) (s' := preH s w s.ops.length) O hw
      refine io_op O (W.pre O hw) ?_ eo (.inr ⟨a, b, d⟩)
      rw [pre_new]
      intro u hu
      rcases List.mem_append.mp hu with z | z
      · exact ih u z
      · simp at z
        rw [z]
        exact io_new O hw
    | step k o w eo h1 h2 h3 =>
      rw [doE_at (by rw [pre_old eo]; exact eo), pre_old eo]
      exact io_op O W ih eo (.inr ⟨h1, h2, h3⟩)
    | stop k o eo h1 h2 h3 =>
      rw [doE_at (by rw [pre_old eo]; exact eo), pre_old eo]
      exact io_op O W ih eo (.inl rfl)
end Ca

set_option Elab.async false
set_option linter.all false
set_option maxRecDepth 100000
set_option maxHeartbeats 4000000
namespace Ca
open PySem L2
@[irreducible] def spRun : Sp := fun vs H Q _ => ∃ (c : Conf) (d w r : Addr) (xs : List V) (es : List Ev), vs = [.ref d, .ref w, .ref r] ∧ H d = some (dT c) ∧ H w = some (wT c) ∧ c.Ok ∧ (H r = some (.lst xs) ∨ H r = some (.tup xs)) ∧ EvsAt H xs es ∧ ChainH c es ∧ es.length ≤ 70 ∧
  ∀ h A H', Evl.Ex H H' → LawAt c H' h A (runH c es) → A.d = d → A.w = w → (∀ b, Fp h A b → H b = none) → Q (.ref h) H'
theorem run_i {c : Conf} {d w r : Addr} {xs : List V} {es : List Ev} {H : Hp} {Q : VK} {E : XK} (hd : H d = some (dT c)) (hw : H w = some (wT c)) (O : c.Ok) (hr : H r = some (.lst xs) ∨ H r = some (.tup xs)) (X : EvsAt H xs es) (C : ChainH c es) (l : es.length ≤ 70)
    (q : ∀ h A H', Evl.Ex H H' → LawAt c H' h A (runH c es) → A.d = d → A.w = w → (∀ b, Fp h A b → H b = none) → Q (.ref h) H') : spRun [.ref d, .ref w, .ref r] H Q E := by
  unfold spRun
  exact ⟨c, d, w, r, xs, es, rfl, hd, hw, O, hr, X, C, l, q⟩
/-- what a law's cache of its own does leaves what stood -/
theorem ex_keep {h : Addr} {A : LA} {H0 H H' : Hp} (e : Evl.Ex H0 H) (fr : ∀ b, Fp h A b → H0 b = none) (k : Keep (Fp h A) H H') : Evl.Ex H0 H' := fun b o hb => k b o (e b o hb) fun f => by
  rw [fr b f] at hb
  cases hb
theorem fp_do {h : Addr} {A A' : LA} {H0 H : Hp} (e : Evl.Ex H0 H) (fr : ∀ b, Fp h A b → H0 b = none) (elo : A'.lo = A.lo) (elp : A'.lp = A.lp) (oa : ∀ b, b ∈ A'.oas → b ∈ A.oas ∨ H b = none) : ∀ b, Fp h A' b → H0 b = none := by
  rintro b (z | z | z | z)
  · exact fr b (.inl z)
  · exact fr b (.inr (.inl (by rw [← elo]; exact z)))
  · exact fr b (.inr (.inr (.inl (by rw [← elp]; exact z))))
  · rcases oa b z with y | y
    · exact fr b (.inr (.inr (.inr y)))
    · exact Evl.fresh_back e y
section
variable {P : Program} {w : World} {K : PySem.W.Frag} {mg : Str → Option Value} {base : Heap}
theorem ok_Lrun (T : Txt K mg) : FnOk P w K mg base CX0 5 T.f_Lrun T.fd_Lrun ["design", "world", "events"] spRun := by
  refine T.F_Lrun.ok sc_Lrun (fun vs H Q E h => ?_) (fun cdv A outer s H vs Q E hr h => ?_)
  · unfold spRun at h
    obtain ⟨c, d, w, r, xs, es, rfl, _⟩ := h
    rfl
  · unfold spRun at h
    obtain ⟨c, d, u, r, xs, es, rfl, hd, hw, O, hs, X, C, l, q⟩ := h
    have turn : ∀ (G : Hp) (i : Nat) (x : V) (h : Addr) (A : LA) (H' : Hp) (N : Hp → Addr → LA → Prop), Evl.Ex H H' → LawAt c H' h A (runH c (es.take i)) → A.d = d → A.w = u → (∀ b, Fp h A b → H b = none) → xs[i]? = some x →
        (∀ A' H2, Evl.Ex H H2 → LawAt c H2 h A' (runH c (es.take (i + 1))) → A'.d = d → A'.w = u → (∀ b, Fp h A' b → H b = none) → N H2 h A') → spDo [.ref h, x] H' (fun _ H2 => ∃ A', N H2 h A') E0 := fun G i x h A H' N e L ed ew fr hx k => by
      obtain ⟨ev, ee, t, rfl, ht⟩ := pget X hx
      have il : i < es.length := (List.getElem?_eq_some_iff.mp ee).1
      obtain ⟨re, rp⟩ := C.reach i (Nat.le_of_lt il)
      obtain ⟨W, hol⟩ := re.wf O
      have pl : (runH c (es.take i)).past.length ≤ 70 := by
        rw [rp, List.length_take]
        omega
      have dk := do_ok W O (C.step i ev ee)
      refine do_i O L (e _ _ ht) dk.str dk.ok (by omega) (by omega) fun H2 A' L2 ed' ew' elo elp oa K2 => ⟨A', ?_⟩
      rw [← runH_snoc ee] at L2
      exact k A' H2 (ex_keep e fr K2) L2 (ed'.trans ed) (ew'.trans ew) (fp_do e fr elo elp oa.1)
    have last : ∀ (h : Addr) (A : LA) (H' : Hp), Evl.Ex H H' → LawAt c H' h A (runH c (es.take xs.length)) → A.d = d → A.w = u → (∀ b, Fp h A b → H b = none) → Q (.ref h) H' := fun h A H' e L ed ew fr => by
      rw [X.length, List.take_length] at L
      exact q h A H' e L ed ew fr
    rcases hs with hs | hs
    · refine ⟨_, (pss_cons (ps_set (i := 3) sc_Lrun.nd rfl (Or.inl rfl) (pe_call (ok_Lbegin T) (hr.mono (by decide)) rfl T.m_Lbegin T.F_Lbegin.kp (b_Lbegin T) .nil pass0 (pa_cons (pv 0) (pa_cons (pv 1) pa_nil))))
      (pss_cons (ps_for PassesOwn.never rfl (pi_list (pv 2)) (pg_name (i := 4) sc_Lrun.nd rfl (Or.inl rfl)) (pss_one (ps_expr (pe_call (ok_Ldo T) (hr.mono (by decide)) rfl T.m_Ldo T.F_Ldo.kp (b_Ldo T) .nil pass0 (pa_cons (pv 3) (pa_cons (pv 4) pa_nil))))))
      (pss_one (ps_ret (pv 3))))), ?_⟩
      refine ⟨_, rfl, _, rfl, ?_⟩
      refine begin_i hd hw fun h lo lp H1 S1 nh nlo nlp L1 => ?_
      have fr0 : ∀ b, Fp h ⟨d, u, lo, lp, [], []⟩ b → H b = none := by
        rintro b (z | z | z | z)
        · rw [z]; exact nh
        · rw [z]; exact nlo
        · rw [z]; exact nlp
        · cases z
      refine ⟨_, rfl, r, rfl, ⟨_, SqL.of (S1 _ _ hs)⟩, for_list (xs := xs) (fun i σ' H' => ∃ A x4, σ' = [some (.ref d), some (.ref u), some (.ref r), some (.ref h), x4] ∧ Evl.Ex H H' ∧ LawAt c H' h A (runH c (es.take i)) ∧ A.d = d ∧ A.w = u ∧ ∀ b, Fp h A b → H b = none) ⟨⟨d, u, lo, lp, [], []⟩, none, rfl, fun b o e => S1 b o e, L1, rfl, rfl, fr0⟩ (fun i σ' H' _ ⟨_, _, _, e, _⟩ => SqL.of (e _ _ hs)) ?_ ?_⟩
      · rintro i x σ' H' hi ⟨A, x4, rfl, e, L, ed, ew, fr⟩
        refine ⟨_, rfl, _, rfl, ?_⟩
        have z := turn H i x h A H' (fun H2 h' A' => ∃ x4, ([some (.ref d), some (.ref u), some (.ref r), some (.ref h), some x] : List (Option V)) = [some (.ref d), some (.ref u), some (.ref r), some (.ref h), x4] ∧ Evl.Ex H H2 ∧ LawAt c H2 h A' (runH c (es.take (i + 1))) ∧ A'.d = d ∧ A'.w = u ∧ ∀ b, Fp h A' b → H b = none) e L ed ew fr hi fun A' H2 a b c d f => ⟨some x, rfl, a, b, c, d, f⟩
        exact z
      · rintro σ' H' ⟨A, x4, rfl, e, L, ed, ew, fr⟩
        exact ⟨_, rfl, last h A H' e L ed ew fr⟩
    · refine ⟨_, (pss_cons (ps_set (i := 3) sc_Lrun.nd rfl (Or.inl rfl) (pe_call (ok_Lbegin T) (hr.mono (by decide)) rfl T.m_Lbegin T.F_Lbegin.kp (b_Lbegin T) .nil pass0 (pa_cons (pv 0) (pa_cons (pv 1) pa_nil))))
      (pss_cons (ps_for PassesOwn.never rfl (pi_tup (pv 2)) (pg_name (i := 4) sc_Lrun.nd rfl (Or.inl rfl)) (pss_one (ps_expr (pe_call (ok_Ldo T) (hr.mono (by decide)) rfl T.m_Ldo T.F_Ldo.kp (b_Ldo T) .nil pass0 (pa_cons (pv 3) (pa_cons (pv 4) pa_nil))))))
      (pss_one (ps_ret (pv 3))))), ?_⟩
      refine ⟨_, rfl, _, rfl, ?_⟩
      refine begin_i hd hw fun h lo lp H1 S1 nh nlo nlp L1 => ?_
      have fr0 : ∀ b, Fp h ⟨d, u, lo, lp, [], []⟩ b → H b = none := by
        rintro b (z | z | z | z)
        · rw [z]; exact nh
        · rw [z]; exact nlo
        · rw [z]; exact nlp
        · cases z
      refine ⟨_, rfl, r, rfl, ⟨_, SqT.of (S1 _ _ hs)⟩, for_tup (xs := xs) (fun i σ' H' => ∃ A x4, σ' = [some (.ref d), some (.ref u), some (.ref r), some (.ref h), x4] ∧ Evl.Ex H H' ∧ LawAt c H' h A (runH c (es.take i)) ∧ A.d = d ∧ A.w = u ∧ ∀ b, Fp h A b → H b = none) ⟨⟨d, u, lo, lp, [], []⟩, none, rfl, fun b o e => S1 b o e, L1, rfl, rfl, fr0⟩ (fun i σ' H' _ ⟨_, _, _, e, _⟩ => SqT.of (e _ _ hs)) ?_ ?_⟩
      · rintro i x σ' H' hi ⟨A, x4, rfl, e, L, ed, ew, fr⟩
        refine ⟨_, rfl, _, rfl, ?_⟩
        have z := turn H i x h A H' (fun H2 h' A' => ∃ x4, ([some (.ref d), some (.ref u), some (.ref r), some (.ref h), some x] : List (Option V)) = [some (.ref d), some (.ref u), some (.ref r), some (.ref h), x4] ∧ Evl.Ex H H2 ∧ LawAt c H2 h A' (runH c (es.take (i + 1))) ∧ A'.d = d ∧ A'.w = u ∧ ∀ b, Fp h A' b → H b = none) e L ed ew fr hi fun A' H2 a b c d f => ⟨some x, rfl, a, b, c, d, f⟩
        exact z
      · rintro σ' H' ⟨A, x4, rfl, e, L, ed, ew, fr⟩
        exact ⟨_, rfl, last h A H' e L ed ew fr⟩
end
end Ca

set_option Elab.async false
set_option linter.all false
set_option maxRecDepth 100000
set_option maxHeartbeats 4000000
namespace Ca
open PySem L2
/-! ### a new operation alone -/
def nextA (s : HS) (n : Nat) : Option Str := match s.ops[n]? with
  | some o => if endedB o then none else nextOf s o
  | none => none
def stepA (c : Conf) (n : Nat) (s : HS) : HS := match nextA s n with
  | some w => doH c s (w, some (n : Int))
  | none => s
def iterA (c : Conf) (n : Nat) : Nat → HS → HS
  | 0, s => s
  | i + 1, s => stepA c n (iterA c n i s)
def firstA (c : Conf) (s : HS) (w0 : Str) : HS := doH c s (w0, some (s.ops.length : Int))
def aloneH (c : Conf) (s : HS) (w0 : Str) : HS := iterA c s.ops.length 4 (firstA c s w0)
theorem first_len {c : Conf} {s : HS} {w0 : Str} (O : c.Ok) (h : w0 = "look" ∨ w0 = firstW c) : (firstA c s w0).ops.length = s.ops.length + 1 := by
  have eo : (preH s w0 s.ops.length).ops[s.ops.length]? = some (newOp s w0) := by
    rw [pre_new]
    show (s.ops ++ [newOp s w0])[s.ops.length]? = _
    rw [List.getElem?_append_right (Nat.le_refl _), Nat.sub_self]
    rfl
  show (doE c s (w0, some (s.ops.length : Int))).ops.length = _
  rw [doE_at eo, op_len, pre_new]
  show (s.ops ++ [newOp s w0]).length = _
  rw [List.length_append]
  rfl
theorem nextA_mem {c : Conf} {s : HS} {n : Nat} {w : Str} (W : Wf c s) (h : nextA s n = some w) : (w, some (n : Int)) ∈ evList c s ∧ ∃ o, s.ops[n]? = some o := by
  unfold nextA at h
  split at h
  · rename_i o eo
    split at h
    · cases h
    · rename_i nb
      exact ⟨step_mem W eo (by simpa using nb) h, o, eo⟩
  · cases h
theorem stepA_reach {c : Conf} {s : HS} {n : Nat} (O : c.Ok) (r : Reach c s) (hn : n < s.ops.length) : Reach c (stepA c n s) ∧ (stepA c n s).ops.length = s.ops.length ∧ (stepA c n s).past.length ≤ s.past.length + 1 := by
  unfold stepA
  split
  · rename_i w hw
    obtain ⟨m, o, eo⟩ := nextA_mem (r.wf O).1 hw
    refine ⟨.step r m, ?_, ?_⟩
    · show (doE c s (w, some (n : Int))).ops.length = _
      rw [doE_at (by rw [pre_old eo]; exact eo), pre_old eo, op_len]
    · show (s.past ++ [_]).length ≤ _
      rw [List.length_append]
      exact Nat.le_refl _
  · exact ⟨r, rfl, Nat.le_succ _⟩
theorem iterA_reach {c : Conf} {s : HS} {n : Nat} (O : c.Ok) (r : Reach c s) (hn : n < s.ops.length) : ∀ i, Reach c (iterA c n i s) ∧ (iterA c n i s).ops.length = s.ops.length ∧ (iterA c n i s).past.length ≤ s.past.length + i
  | 0 => ⟨r, rfl, Nat.le_refl _⟩
  | i + 1 => by
    obtain ⟨a, b, d⟩ := iterA_reach O r hn i
    obtain ⟨a', b', d'⟩ := stepA_reach (n := n) O a (by omega)
    exact ⟨a', b'.trans b, by show (stepA c n (iterA c n i s)).past.length ≤ _; omega⟩
@[irreducible] def spAlone : Sp := fun vs H Q _ => ∃ (c : Conf) (h : Addr) (A : LA) (s : HS) (w0 : Str), vs = [.ref h, .str w0] ∧ c.Ok ∧ LawAt c H h A s ∧ Reach c s ∧ s.past.length ≤ 62 ∧ (w0 = "look" ∨ w0 = firstW c) ∧
  ∀ (p h' a' : Addr) (A' : LA) (H' : Hp), Evl.Ex H H' → H' p = some (.tup [.ref h', .ref a']) → LawAt c H' h' A' (aloneH c s w0) → A'.oas[s.ops.length]? = some a' → Q (.ref p) H'
theorem alone_i {c : Conf} {h : Addr} {A : LA} {s : HS} {w0 : Str} {H : Hp} {Q : VK} {E : XK} (O : c.Ok) (L : LawAt c H h A s) (r : Reach c s) (l : s.past.length ≤ 62) (hw : w0 = "look" ∨ w0 = firstW c)
    (q : ∀ (p h' a' : Addr) (A' : LA) (H' : Hp), Evl.Ex H H' → H' p = some (.tup [.ref h', .ref a']) → LawAt c H' h' A' (aloneH c s w0) → A'.oas[s.ops.length]? = some a' → Q (.ref p) H') : spAlone [.ref h, .str w0] H Q E := by
  unfold spAlone
  exact ⟨c, h, A, s, w0, rfl, O, L, r, l, hw, q⟩
section
variable {P : Program} {w : World} {K : PySem.W.Frag} {mg : Str → Option Value} {base : Heap}
theorem past_evs {c : Conf} {H : Hp} {h : Addr} {A : LA} {s : HS} (L : LawAt c H h A s) : EvsAt H (A.eas.map V.ref) s.past := by
  have key : ∀ (as : List Addr) (es : List Ev), as.length = es.length → (∀ (i : Nat) (a : Addr) (e : Ev), as[i]? = some a → es[i]? = some e → H a = some (.tup (evV e))) → EvsAt H (as.map V.ref) es := by
    intro as
    induction as with
    | nil =>
      intro es hl _
      cases es with
      | nil => exact .nil
      | cons _ _ => cases hl
    | cons a as ih =>
      intro es hl hg
      cases es with
      | nil => cases hl
      | cons e es => exact .cons ⟨a, rfl, hg 0 a e rfl rfl⟩ (ih es (by simpa using hl) fun i x y p q => hg (i + 1) x y p q)
  exact key _ _ L.el L.eg
theorem ok_Lalone (T : Txt K mg) : FnOk P w K mg base CX0 6 T.f_Lalone T.fd_Lalone ["h", "first"] spAlone := by
  refine T.F_Lalone.ok sc_Lalone (fun vs H Q E h => ?_) (fun cdv A outer s H vs Q E hr h => ?_)
  · unfold spAlone at h
    obtain ⟨c, h, A, s, w0, rfl, _⟩ := h
    rfl
  · unfold spAlone at h
    obtain ⟨c, h0, A0, s, w0, rfl, O, L0, r, l, hw, q⟩ := h
    have hu := hu_of hr
    obtain ⟨W, hol⟩ := r.wf O
    refine ⟨_, (pss_cons (ps_set (i := 2) sc_Lalone.nd rfl (Or.inl rfl) (pe_call (ok_Lrun T) (hr.mono (by decide)) rfl T.m_Lrun T.F_Lrun.kp (b_Lrun T) .nil pass0 (pa_cons (pe_dget hu (pv 0) pe_str (fun _ _ => rfl)) (pa_cons (pe_dget hu (pv 0) pe_str (fun _ _ => rfl)) (pa_cons (pe_dget hu (pv 0) pe_str (fun _ _ => rfl)) pa_nil)))))
      (pss_cons (ps_set (i := 3) sc_Lalone.nd rfl (Or.inl rfl) (pe_callB call_len_seq (by rfl) T.n_len (by decide +kernel) (pa_cons (pe_dget hu (pv 2) pe_str (fun _ _ => rfl)) pa_nil)))
      (pss_cons (ps_expr (pe_call (ok_Ldo T) (hr.mono (by decide)) rfl T.m_Ldo T.F_Ldo.kp (b_Ldo T) .nil pass0 (pa_cons (pv 2) (pa_cons (pe_tup (pa_cons (pv 1) (pa_cons (pv 3) pa_nil))) pa_nil))))
      (pss_cons (ps_set (i := 4) sc_Lalone.nd rfl (Or.inl rfl) (pe_ix ix_list (pe_dget hu (pv 2) pe_str (fun _ _ => rfl)) (pv 3) (fun _ _ => rfl)))
      (pss_cons (ps_for PassesOwn.never rfl (pi_range1 rfl T.n_range (pa_cons pe_int pa_nil)) (pg_name (i := 5) sc_Lalone.nd rfl (Or.inl rfl)) (pss_cons (ps_set (i := 6) sc_Lalone.nd rfl (Or.inl rfl) (pe_ifExp (pt_cmpR op_notIn_seq (pe_dget hu (pv 4) pe_str (fun _ _ => rfl)) (pe_lst (pa_cons pe_str (pa_cons pe_str pa_nil))) (by rfl)) (pe_call (ok_Lnext T) (hr.mono (by decide)) rfl T.m_Lnext T.F_Lnext.kp (b_Lnext T) .nil pass0 (pa_cons (pv 2) (pa_cons (pv 4) pa_nil))) pe_non))
      (pss_one (ps_if (pt_cmpR op_notN (pv 6) pe_non (nomark _)) (pss_one (ps_expr (pe_call (ok_Ldo T) (hr.mono (by decide)) rfl T.m_Ldo T.F_Ldo.kp (b_Ldo T) .nil pass0 (pa_cons (pv 2) (pa_cons (pe_tup (pa_cons (pv 6) (pa_cons (pv 3) pa_nil))) pa_nil))))) pss_nil))))
      (pss_one (ps_ret (pe_tup (pa_cons (pv 2) (pa_cons (pv 4) pa_nil)))))))))), ?_⟩
    refine ⟨_, rfl, _, _, rfl, dget (L0.hd) rfl, _, rfl, _, _, rfl, dget (L0.hd) rfl, _, rfl, _, _, rfl, dget (L0.hd) rfl, ?_⟩
    refine run_i L0.dd L0.ww O (.inl L0.lp) (past_evs L0) r.run.2 (by omega) fun h A H1 e1 L ed ew fr => ?_
    rw [r.run.1] at L
    refine ⟨_, rfl, _, _, rfl, dget (L.hd) rfl, _, _, rfl, .inl (SqL.of L.lo), ?_⟩
    have eL : ((A.oas.map V.ref).length : Int) = (s.ops.length : Int) := by rw [List.length_map, L.ol]
    rw [eL]
    -- the first step
    refine ⟨_, rfl, _, rfl, _, rfl, by show 2 ≤ sizeLine; decide, fun t nt => ?_⟩
    have mem0 := new_mem (c := c) (s := s) hw
    have dk := do_ok W O mem0
    have e2 := e1.trans (Evl.Ex.new (o := .tup [.str w0, .int (s.ops.length : Int)]) nt)
    have L2 := L.new (o := .tup [.str w0, .int (s.ops.length : Int)]) nt
    have ht : (upd H1 t (.tup [.str w0, .int (s.ops.length : Int)])) t = some (.tup (evV (w0, some (s.ops.length : Int)))) := upd_same
    generalize upd H1 t (.tup [.str w0, .int (s.ops.length : Int)]) = H2 at e2 L2 ht
    refine do_i O L2 ht dk.str dk.ok (by omega) (by omega) fun H3 A3 L3 ed3 ew3 elo elp oa K3 => ?_
    have e3 := ex_keep e2 fr K3
    have fr3 := fp_do e2 fr elo elp oa.1
    have R1 : Reach c (firstA c s w0) := .step r mem0
    have L3 : LawAt c H3 h A3 (firstA c s w0) := L3
    have len1 := first_len (s := s) O hw
    have pl1 : (firstA c s w0).past.length ≤ 63 := by
      show (s.past ++ [_]).length ≤ 63
      rw [List.length_append]
      show s.past.length + 1 ≤ 63
      omega
    have hn : s.ops.length < A3.oas.length := by rw [L3.ol, len1]; omega
    obtain ⟨a', ea'⟩ : ∃ a', A3.oas[s.ops.length]? = some a' := ⟨_, List.getElem?_eq_getElem hn⟩
    refine ⟨_, rfl, _, _, rfl, dget (L3.hd) rfl, _, rfl, _, _, _, _, rfl, rfl, SqL.of L3.lo, at_of (j := s.ops.length) (by omega) (by rw [List.getElem?_map, ea']; rfl), ?_⟩
    clear L2 ht K3 elo elp oa fr e1 e2 dk
    refine ⟨4, rfl, by decide, by decide, for_range (lo := 0) (n := 4) (fun i σ' H' => ∃ A' x5 x6, σ' = [some (.ref h0), some (.str w0), some (.ref h), some (.int (s.ops.length : Int)), some (.ref a'), x5, x6] ∧ Evl.Ex H H' ∧ LawAt c H' h A' (iterA c s.ops.length i (firstA c s w0)) ∧ (∀ b, Fp h A' b → H b = none) ∧ A'.oas[s.ops.length]? = some a')
      ⟨A3, none, none, rfl, e3, L3, fr3, ea'⟩ ?_ ?_⟩
    · rintro i σ' H4 hi ⟨A4, x5, x6, rfl, e4, L4, fr4, ea4⟩
      obtain ⟨Ri, li, pi⟩ := iterA_reach (n := s.ops.length) O R1 (by omega) i
      obtain ⟨Wi, holi⟩ := Ri.wf O
      generalize es : iterA c s.ops.length i (firstA c s w0) = si at L4 Ri li pi Wi holi
      obtain ⟨o, eo, ho⟩ := L4.ofAt ea4
      have wt := wait_all Wi O o (List.mem_of_getElem? eo)
      have en : iterA c s.ops.length (i + 1) (firstA c s w0) = stepA c s.ops.length si := by
        rw [← es]
        rfl
      rw [en]
      -- the next word
      refine ⟨_, rfl, _, _, rfl, dget (ho) rfl, by show 2 ≤ sizeLine; decide, fun p np => ?_⟩
      have e5 := e4.trans (Evl.Ex.new (o := .lst [.str "ended", .str "stopped"]) np)
      have L5 := L4.new (o := .lst [.str "ended", .str "stopped"]) np
      have hp : (upd H4 p (.lst [.str "ended", .str "stopped"])) p = some (.lst [.str "ended", .str "stopped"]) := upd_same
      generalize upd H4 p (.lst [.str "ended", .str "stopped"]) = H5 at e5 L5 hp
      refine ⟨p, _, rfl, .inl (SqL.of hp), rfl, rfl, _, rfl, ?_⟩
      have z : (if true = true then !inV (.str o.stage) [.str "ended", .str "stopped"] else inV (.str o.stage) [.str "ended", .str "stopped"]) = !endedB o := by
        rw [if_pos rfl, ended_in]
        rfl
      rw [z]
      have stop : nextA si s.ops.length = none → stepA c s.ops.length si = si := fun h => by
        unfold stepA
        rw [h]
      refine iteB (fun n => ?_) (fun n => ?_)
      · have nb : endedB o = false := by simpa using n
        have zn : nextA si s.ops.length = nextOf si o := by
          unfold nextA
          simp only [eo]
          rw [nb]
          rfl
        refine ⟨_, rfl, _, rfl, ?_⟩
        refine next_i L5 ea4 eo wt ?_
        cases en2 : nextOf si o with
        | none =>
          refine ⟨_, rfl, rfl, _, rfl, ?_⟩
          refine iteF ?_
          rw [stop (by rw [zn, en2])]
          exact ⟨A4, _, _, rfl, e5, L5, fr4, ea4⟩
        | some wd =>
          refine ⟨_, rfl, rfl, _, rfl, ?_⟩
          refine iteT ?_
          have st : stepA c s.ops.length si = doH c si (wd, some (s.ops.length : Int)) := by
            unfold stepA
            rw [zn, en2]
          rw [st]
          have mem := step_mem Wi eo nb en2
          have dk := do_ok Wi O mem
          refine ⟨_, rfl, _, rfl, _, rfl, by show 2 ≤ sizeLine; decide, fun t nt => ?_⟩
          have e6 := e5.trans (Evl.Ex.new (o := .tup [sv (some wd), .int (s.ops.length : Int)]) nt)
          have L6 := L5.new (o := .tup [sv (some wd), .int (s.ops.length : Int)]) nt
          have ht : (upd H5 t (.tup [sv (some wd), .int (s.ops.length : Int)])) t = some (.tup (evV (wd, some (s.ops.length : Int)))) := upd_same
          generalize upd H5 t (.tup [sv (some wd), .int (s.ops.length : Int)]) = H6 at e6 L6 ht
          have ol : si.ops.length ≤ 100 := by omega
          refine do_i O L6 ht dk.str dk.ok ol (by omega) fun H7 A7 L7 ed7 ew7 elo elp oa K7 => ?_
          refine ⟨A7, _, _, rfl, ex_keep e6 fr4 K7, L7, fp_do e6 fr4 elo elp oa.1, ?_⟩
          obtain ⟨ext, ee⟩ := oa.2
          rw [← ee, List.getElem?_append_left (List.getElem?_eq_some_iff.mp ea4).1]
          exact ea4
      · have nb : endedB o = true := by simpa using n
        have zn : nextA si s.ops.length = none := by
          unfold nextA
          simp only [eo]
          rw [nb]
          rfl
        refine ⟨_, rfl, rfl, _, rfl, ?_⟩
        refine iteF ?_
        rw [stop zn]
        exact ⟨A4, _, _, rfl, e5, L5, fr4, ea4⟩
    · rintro σ' H4 ⟨A4, x5, x6, rfl, e4, L4, fr4, ea4⟩
      refine ⟨_, rfl, _, rfl, by show 2 ≤ sizeLine; decide, fun p np => ?_⟩
      exact q p h a' A4 _ (e4.trans (Evl.Ex.new np)) upd_same (L4.new np) ea4
end
end Ca

set_option Elab.async false
set_option linter.all false
set_option maxRecDepth 100000
set_option maxHeartbeats 4000000
namespace Ca
open PySem L2
/-! ### data at a bounded depth, tracked -/
def Dt (H : Hp) : Nat → V → PyData → Prop
  | n + 1, .ref a, .tuple ds => ∃ xs, H a = some (.tup xs) ∧ xs.length ≤ 1000 ∧ Paired (Dt H n) xs ds
  | n + 1, .ref a, .list ds => ∃ xs, H a = some (.lst xs) ∧ xs.length ≤ 1000 ∧ Paired (Dt H n) xs ds
  | _, .non, .none => True
  | _, .bl b, .bool c => b = c
  | _, .int i, .int j => i = j
  | _, .str x, .str y => x = y
  | _, _, _ => False
inductive DtC (H : Hp) : Nat → V → PyData → Prop where
  | non (n : Nat) : DtC H n .non .none
  | bl (n : Nat) (b : Bool) : DtC H n (.bl b) (.bool b)
  | int (n : Nat) (i : Int) : DtC H n (.int i) (.int i)
  | str (n : Nat) (x : Str) : DtC H n (.str x) (.str x)
  | tup (n : Nat) (a : Addr) (xs : List V) (ds : List PyData) (h : H a = some (.tup xs)) (l : xs.length ≤ 1000) (r : Paired (Dt H n) xs ds) : DtC H (n + 1) (.ref a) (.tuple ds)
  | lst (n : Nat) (a : Addr) (xs : List V) (ds : List PyData) (h : H a = some (.lst xs)) (l : xs.length ≤ 1000) (r : Paired (Dt H n) xs ds) : DtC H (n + 1) (.ref a) (.list ds)
def tyN : PyData → String
  | .none => "NoneType"
  | .bool _ => "bool"
  | .int _ => "int"
  | .str _ => "str"
  | .list _ => "list"
  | .tuple _ => "tuple"
  | .dict _ => "dict"
def isB (T : String) (d : PyData) : Bool := match d with
  | .none => false
  | .bool _ => T == "bool" || T == "int"
  | .int _ => T == "int"
  | .str _ => T == "str"
  | .list _ => T == "list"
  | .tuple _ => T == "tuple"
  | .dict _ => false
@[irreducible] def spAlike (n : Nat) : Sp := fun vs H Q _ => ∃ (x y : V) (d : PyData), vs = [x, y] ∧ Dt H n x d ∧ Dt H n y d ∧ ∀ H', Same H H' → Q (.bl true) H'
section
variable {P : Program} {w : World} {K : PySem.W.Frag} {mg : Str → Option Value} {base : Heap}
end
end Ca

set_option Elab.async false
set_option linter.all false
set_option maxRecDepth 100000
set_option maxHeartbeats 4000000
namespace Ca
open PySem L2
/-- the constants of the program's modules -/
structure TxtC (K : PySem.W.Frag) (mg : Str → Option Value) where
  v_PATHS : Addr
  m_PATHS : mg "PATHS" = some (.ref v_PATHS)
  s_PATHS : ∀ H, SqT K H v_PATHS (pathsL.map V.str)
  v_GUARDS : Addr
  m_GUARDS : mg "GUARDS" = some (.ref v_GUARDS)
  s_GUARDS : ∀ H, SqT K H v_GUARDS (guardsL.map V.str)
  v_FLIGHTS : Addr
  m_FLIGHTS : mg "FLIGHTS" = some (.ref v_FLIGHTS)
  s_FLIGHTS : ∀ H, SqT K H v_FLIGHTS (flightsL.map V.str)
  v_SOURCES : Addr
  m_SOURCES : mg "SOURCES" = some (.ref v_SOURCES)
  s_SOURCES : ∀ H, SqT K H v_SOURCES ((["primary", "replica"] : List Str).map V.str)
  v_EVICTIONS : Addr
  m_EVICTIONS : mg "EVICTIONS" = some (.ref v_EVICTIONS)
  s_EVICTIONS : ∀ H, SqT K H v_EVICTIONS ((["evicts", "keeps"] : List Str).map V.str)
  v_STOPS : Addr
  m_STOPS : mg "STOPS" = some (.ref v_STOPS)
  s_STOPS : ∀ H, SqT K H v_STOPS ((["finishes", "stops"] : List Str).map V.str)
  v_PROMISES : Addr
  m_PROMISES : mg "PROMISES" = some (.ref v_PROMISES)
  s_PROMISES : ∀ H, SqT K H v_PROMISES ((["ending", "filled", "forward", "fresh", "linear", "mended", "moving", "quiet", "rest", "single"] : List Str).map V.str)
theorem in_map {x : Str} {l : List Str} (h : x ∈ l) : inV (.str x) (l.map V.str) = true := by
  unfold inV
  rw [List.any_eq_true]
  exact ⟨.str x, List.mem_map_of_mem h, by simp [eqV]⟩
theorem flat_map (l : List Str) : (l.map V.str).all flatV = true := by
  rw [List.all_eq_true]
  intro y hy
  obtain ⟨x, _, rfl⟩ := List.mem_map.mp hy
  rfl
@[irreducible] def spTri (K : PySem.W.Frag) : Sp := fun vs H Q _ => ∃ (a f s t : Addr) (x y z : Str) (l1 l2 l3 : List Str), vs = [.ref a, .ref f, .ref s, .ref t] ∧ H a = some (.tup [.str x, .str y, .str z]) ∧ SqT K H f (l1.map V.str) ∧ SqT K H s (l2.map V.str) ∧ SqT K H t (l3.map V.str) ∧
  x ∈ l1 ∧ y ∈ l2 ∧ z ∈ l3 ∧ Q (.bl true) H
@[irreducible] def spIsD : Sp := fun vs H Q _ => ∃ (c : Conf) (d : Addr), vs = [.ref d] ∧ H d = some (dT c) ∧ c.Ok ∧ Q (.bl true) H
@[irreducible] def spIsW : Sp := fun vs H Q _ => ∃ (c : Conf) (w : Addr), vs = [.ref w] ∧ H w = some (wT c) ∧ c.Ok ∧ Q (.bl true) H
@[irreducible] def spChD : Sp := fun vs H Q _ => ∃ (c : Conf) (d : Addr), vs = [.ref d] ∧ H d = some (dT c) ∧ c.Ok ∧ Q .non H
@[irreducible] def spChW : Sp := fun vs H Q _ => ∃ (c : Conf) (w : Addr), vs = [.ref w] ∧ H w = some (wT c) ∧ c.Ok ∧ Q .non H
section
variable {K : PySem.W.Frag} {c : Conf} {d w a f s t : Addr} {H : Hp} {Q : VK} {E : XK}
theorem tri_i {x y z : Str} {l1 l2 l3 : List Str} (h : H a = some (.tup [.str x, .str y, .str z])) (h1 : SqT K H f (l1.map V.str)) (h2 : SqT K H s (l2.map V.str)) (h3 : SqT K H t (l3.map V.str)) (m1 : x ∈ l1) (m2 : y ∈ l2) (m3 : z ∈ l3) (q : Q (.bl true) H) :
    spTri K [.ref a, .ref f, .ref s, .ref t] H Q E := by
  unfold spTri
  exact ⟨a, f, s, t, x, y, z, l1, l2, l3, rfl, h, h1, h2, h3, m1, m2, m3, q⟩
theorem isd_i (h : H d = some (dT c)) (O : c.Ok) (q : Q (.bl true) H) : spIsD [.ref d] H Q E := by
  unfold spIsD
  exact ⟨c, d, rfl, h, O, q⟩
theorem isw_i (h : H w = some (wT c)) (O : c.Ok) (q : Q (.bl true) H) : spIsW [.ref w] H Q E := by
  unfold spIsW
  exact ⟨c, w, rfl, h, O, q⟩
theorem chd_i (h : H d = some (dT c)) (O : c.Ok) (q : Q .non H) : spChD [.ref d] H Q E := by
  unfold spChD
  exact ⟨c, d, rfl, h, O, q⟩
theorem chw_i (h : H w = some (wT c)) (O : c.Ok) (q : Q .non H) : spChW [.ref w] H Q E := by
  unfold spChW
  exact ⟨c, w, rfl, h, O, q⟩
end
section
variable {P : Program} {w : World} {K : PySem.W.Frag} {mg : Str → Option Value} {base : Heap}
theorem ok_is_triple (T : Txt K mg) : FnOk P w K mg base CX0 1 T.f_is_triple T.fd_is_triple ["value", "firsts", "seconds", "thirds"] (spTri K) := by
  refine T.F_is_triple.ok sc_is_triple (fun vs H Q E h => ?_) (fun cdv A outer s H vs Q E hr h => ?_)
  · unfold spTri at h
    obtain ⟨a, f, s, t, x, y, z, l1, l2, l3, rfl, _⟩ := h
    rfl
  · unfold spTri at h
    obtain ⟨a, f, s, t, x, y, z, l1, l2, l3, rfl, ha, h1, h2, h3, m1, m2, m3, q⟩ := h
    refine ⟨_, (pss_cons (ps_if (PW.pt (pw_or (pt_not (pt_val (pe_callB call_isi (by rfl) T.n_isinstance (by decide +kernel) (pa_cons (pv 0) (pa_cons (pe_bltn (v := .ty "tuple") (by rfl) T.n_tuple (by decide +kernel) rfl) pa_nil))))) (pw_or1 (pt_cmpR op_ne (pe_callB call_len_seq (by rfl) T.n_len (by decide +kernel) (pa_cons (pv 0) pa_nil)) pe_int (nomark _))))) (pss_one ps_never) pss_nil)
      (pss_one (ps_ret (pe_and (pe_cmpR op_in_seq (pe_ix ix_tup (pv 0) pe_int (fun _ _ => rfl)) (pv 1) (by rfl)) (pe_and (pe_cmpR op_in_seq (pe_ix ix_tup (pv 0) pe_int (fun _ _ => rfl)) (pv 2) (by rfl)) (pe_one (pe_cmpR op_in_seq (pe_ix ix_tup (pv 0) pe_int (fun _ _ => rfl)) (pv 3) (by rfl)))))))), ?_⟩
    refine ⟨_, rfl, _, _, _, _, true, rfl, .ty _, .base (.tup ha), kit_ty (by decide +kernel), _, rfl, ?_⟩
    refine iteF ?_
    refine ⟨_, rfl, _, _, rfl, .inr (SqT.of ha), rfl, _, rfl, iteF ?_⟩
    refine ⟨_, rfl, _, _, _, _, rfl, rfl, SqT.of (ha), rfl, _, rfl, _, _, rfl, .inr h1, rfl, flat_map l1, true, (by show V.bl (inV _ _) = _; rw [in_map m1]), iteT ?_⟩
    refine ⟨_, rfl, _, _, _, _, rfl, rfl, SqT.of (ha), rfl, _, rfl, _, _, rfl, .inr h2, rfl, flat_map l2, true, (by show V.bl (inV _ _) = _; rw [in_map m2]), iteT ?_⟩
    refine ⟨_, rfl, _, _, _, _, rfl, rfl, SqT.of (ha), rfl, _, rfl, _, _, rfl, .inr h3, rfl, flat_map l3, ?_⟩
    show Q (.bl (inV _ _)) H
    rw [in_map m3]
    exact q
theorem ok_is_design (T : Txt K mg) (U : TxtC K mg) : FnOk P w K mg base CX0 2 T.f_is_design T.fd_is_design ["value"] spIsD := by
  refine T.F_is_design.ok sc_is_design (fun vs H Q E h => ?_) (fun cdv A outer s H vs Q E hr h => ?_)
  · unfold spIsD at h
    obtain ⟨c, d, rfl, _⟩ := h
    rfl
  · unfold spIsD at h
    obtain ⟨c, d, rfl, hd, O, q⟩ := h
    refine ⟨_, (pss_one (ps_ret (pe_call (ok_is_triple T) (hr.mono (by decide)) rfl T.m_is_triple T.F_is_triple.kp (b_is_triple T) .nil pass0 (pa_cons (pv 0) (pa_cons (pe_glob (v := .ref U.v_PATHS) rfl U.m_PATHS rfl) (pa_cons (pe_glob (v := .ref U.v_GUARDS) rfl U.m_GUARDS rfl) (pa_cons (pe_glob (v := .ref U.v_FLIGHTS) rfl U.m_FLIGHTS rfl) pa_nil))))))), ?_⟩
    refine ⟨_, rfl, ?_⟩
    exact tri_i hd (U.s_PATHS H) (U.s_GUARDS H) (U.s_FLIGHTS H) O.p O.g O.f q
theorem ok_is_world (T : Txt K mg) (U : TxtC K mg) : FnOk P w K mg base CX0 2 T.f_is_world T.fd_is_world ["value"] spIsW := by
  refine T.F_is_world.ok sc_is_world (fun vs H Q E h => ?_) (fun cdv A outer s H vs Q E hr h => ?_)
  · unfold spIsW at h
    obtain ⟨c, d, rfl, _⟩ := h
    rfl
  · unfold spIsW at h
    obtain ⟨c, d, rfl, hd, O, q⟩ := h
    refine ⟨_, (pss_one (ps_ret (pe_call (ok_is_triple T) (hr.mono (by decide)) rfl T.m_is_triple T.F_is_triple.kp (b_is_triple T) .nil pass0 (pa_cons (pv 0) (pa_cons (pe_glob (v := .ref U.v_SOURCES) rfl U.m_SOURCES rfl) (pa_cons (pe_glob (v := .ref U.v_EVICTIONS) rfl U.m_EVICTIONS rfl) (pa_cons (pe_glob (v := .ref U.v_STOPS) rfl U.m_STOPS rfl) pa_nil))))))), ?_⟩
    refine ⟨_, rfl, ?_⟩
    have two : ∀ {x a b : Str}, x = a ∨ x = b → x ∈ [a, b] := fun h => by
      rcases h with e | e <;> simp [e]
    exact tri_i hd (U.s_SOURCES H) (U.s_EVICTIONS H) (U.s_STOPS H) (two O.s) (two O.e) (two O.t) q
theorem ok_check_design (T : Txt K mg) (U : TxtC K mg) : FnOk P w K mg base CX0 3 T.f_check_design T.fd_check_design ["value"] spChD := by
  refine T.F_check_design.ok sc_check_design (fun vs H Q E h => ?_) (fun cdv A outer s H vs Q E hr h => ?_)
  · unfold spChD at h
    obtain ⟨c, d, rfl, _⟩ := h
    rfl
  · unfold spChD at h
    obtain ⟨c, d, rfl, hd, O, q⟩ := h
    refine ⟨_, (pss_one (ps_if (pt_not (pt_val (pe_call (ok_is_design T U) (hr.mono (by decide)) rfl T.m_is_design T.F_is_design.kp (b_is_design T) .nil pass0 (pa_cons (pv 0) pa_nil)))) (pss_one ps_never) pss_nil)), ?_⟩
    refine ⟨_, rfl, ?_⟩
    refine isd_i hd O ⟨_, rfl, ?_⟩
    exact iteF q
theorem ok_check_world (T : Txt K mg) (U : TxtC K mg) : FnOk P w K mg base CX0 3 T.f_check_world T.fd_check_world ["value"] spChW := by
  refine T.F_check_world.ok sc_check_world (fun vs H Q E h => ?_) (fun cdv A outer s H vs Q E hr h => ?_)
  · unfold spChW at h
    obtain ⟨c, d, rfl, _⟩ := h
    rfl
  · unfold spChW at h
    obtain ⟨c, d, rfl, hd, O, q⟩ := h
    refine ⟨_, (pss_one (ps_if (pt_not (pt_val (pe_call (ok_is_world T U) (hr.mono (by decide)) rfl T.m_is_world T.F_is_world.kp (b_is_world T) .nil pass0 (pa_cons (pv 0) pa_nil)))) (pss_one ps_never) pss_nil)), ?_⟩
    refine ⟨_, rfl, ?_⟩
    refine isw_i hd O ⟨_, rfl, ?_⟩
    exact iteF q
end
end Ca

set_option Elab.async false
set_option linter.all false
set_option maxRecDepth 100000
set_option maxHeartbeats 4000000
namespace Ca
open PySem L2
/-! ### the ten promises -/
inductive Pm where
  | ending | filled | forward | fresh | linear | mended | moving | quiet | rest | single
  deriving DecidableEq
def Pm.str : Pm → Str
  | .ending => "ending"
  | .filled => "filled"
  | .forward => "forward"
  | .fresh => "fresh"
  | .linear => "linear"
  | .mended => "mended"
  | .moving => "moving"
  | .quiet => "quiet"
  | .rest => "rest"
  | .single => "single"
def allPm : List Pm := [.ending, .filled, .forward, .fresh, .linear, .mended, .moving, .quiet, .rest, .single]
abbrev pmV (m : Pm) : V := .str m.str
@[irreducible] def spChPm : Sp := fun vs H Q _ => ∃ (m : Pm), vs = [pmV m] ∧ Q .non H
theorem chpm_i {m : Pm} {H : Hp} {Q : VK} {E : XK} (q : Q .non H) : spChPm [pmV m] H Q E := by
  unfold spChPm
  exact ⟨m, rfl, q⟩
@[irreducible] def spChQ : Sp := fun vs H Q _ => ∃ (c : Conf) (d w : Addr) (m : Pm), vs = [.ref d, .ref w, pmV m] ∧ H d = some (dT c) ∧ H w = some (wT c) ∧ c.Ok ∧ Q .non H
section
variable {K : PySem.W.Frag} {c : Conf} {d w : Addr} {H : Hp} {Q : VK} {E : XK} {σ : L2.St} {m : Pm}
theorem chq_i (hd : H d = some (dT c)) (hw : H w = some (wT c)) (O : c.Ok) (q : Q .non H) : spChQ [.ref d, .ref w, pmV m] H Q E := by
  unfold spChQ
  exact ⟨c, d, w, m, rfl, hd, hw, O, q⟩
theorem given_map {α : Type} [Inhabited α] (xs : List α) (p : α → Bool) (v : α → V) : Evl.given xs.length (fun i => p (xs.getD i default)) (fun i => v (xs.getD i default)) = (xs.filter p).map v := by
  unfold Evl.given
  have h : xs = (List.range xs.length).map (fun i => xs.getD i default) := by
    refine List.ext_getElem (by simp) fun i h1 h2 => ?_
    simp only [List.getElem_map, List.getElem_range]
    simp [List.getD, List.getElem?_eq_getElem h1]
  conv => rhs; rw [h]
  rw [List.filter_map, List.map_map]
  rfl
theorem pm_at {i : Nat} {x : V} (h : (allPm.map pmV)[i]? = some x) : x = pmV (allPm.getD i .ending) := by
  rw [List.getElem?_map, Option.map_eq_some_iff] at h
  obtain ⟨m, e, r⟩ := h
  rw [← r, List.getD, e]
  rfl
instance : Inhabited Pm := ⟨.ending⟩
end
theorem pmEq (a b : Pm) : decide (pmV a = pmV b) = decide (a = b) := by
  cases a <;> cases b <;> decide +kernel
section
variable {P : Program} {w : World} {K : PySem.W.Frag} {mg : Str → Option Value} {base : Heap}
theorem ok_check_promise (T : Txt K mg) (U : TxtC K mg) : FnOk P w K mg base CX0 1 T.f_check_promise T.fd_check_promise ["value"] spChPm := by
  refine T.F_check_promise.ok sc_check_promise (fun vs H Q E h => ?_) (fun cdv A outer s H vs Q E hr h => ?_)
  · unfold spChPm at h
    obtain ⟨m, rfl, _⟩ := h
    rfl
  · unfold spChPm at h
    obtain ⟨m, rfl, q⟩ := h
    refine ⟨_, (pss_one (ps_if (pt_cmpR op_notIn_seq (pv 0) (pe_glob (v := .ref U.v_PROMISES) rfl U.m_PROMISES rfl) (by rfl)) (pss_one ps_never) pss_nil)), ?_⟩
    refine ⟨_, rfl, _, _, rfl, .inr (U.s_PROMISES H), rfl, flat_map _, false, ?_, iteF q⟩
    have z : inV (pmV m) ((["ending", "filled", "forward", "fresh", "linear", "mended", "moving", "quiet", "rest", "single"] : List Str).map V.str) = true := in_map (by cases m <;> simp [Pm.str])
    show V.bl (!inV _ _) = _
    rw [z]
    rfl
theorem ok_check_question (T : Txt K mg) (U : TxtC K mg) : FnOk P w K mg base CX0 4 T.f_check_question T.fd_check_question ["design", "world", "promise"] spChQ := by
  refine T.F_check_question.ok sc_check_question (fun vs H Q E h => ?_) (fun cdv A outer s H vs Q E hr h => ?_)
  · unfold spChQ at h
    obtain ⟨c, d, w, m, rfl, _⟩ := h
    rfl
  · unfold spChQ at h
    obtain ⟨c, d, w, m, rfl, hd, hw, O, q⟩ := h
    refine ⟨_, (pss_cons (ps_expr (pe_call (ok_check_design T U) (hr.mono (by decide)) rfl T.m_check_design T.F_check_design.kp (b_check_design T) .nil pass0 (pa_cons (pv 0) pa_nil)))
      (pss_cons (ps_expr (pe_call (ok_check_world T U) (hr.mono (by decide)) rfl T.m_check_world T.F_check_world.kp (b_check_world T) .nil pass0 (pa_cons (pv 1) pa_nil)))
      (pss_one (ps_expr (pe_call (ok_check_promise T U) (hr.mono (by decide)) rfl T.m_check_promise T.F_check_promise.kp (b_check_promise T) .nil pass0 (pa_cons (pv 2) pa_nil)))))), ?_⟩
    refine ⟨_, rfl, ?_⟩
    refine chd_i hd O ⟨_, rfl, ?_⟩
    refine chw_i hw O ⟨_, rfl, ?_⟩
    exact chpm_i q
end
end Ca

set_option Elab.async false
set_option linter.all false
set_option maxRecDepth 100000
set_option maxHeartbeats 4000000
namespace Ca
open PySem L2
/-! ### whether a run breaks a promise, by the law's own cache -/
def atRestH (c : Conf) (s : HS) : Pm → Bool
  | .rest => behindH s
  | .mended => behindH (aloneH c s (firstW c))
  | _ => match (aloneH c s "look").ops[s.ops.length]? with
    | some o => !decide (o.stage = ("ended" : Str)) || !decide (on (aloneH c s "look").cache = on o.version)
    | none => true
def stoppedAt (s : HS) : Option Nat → Bool
  | none => false
  | some l => match s.ops[l]? with
    | some q => decide (q.stage = ("stopped" : Str))
    | none => false
def lastL (s : HS) : List OpS := s.ops.filter fun o => decide (o.kind = ("read" : Str)) && (decide (o.stage = ("ended" : Str)) && decide (o.over = some (s.past.length - 1)))
def lastB (s : HS) (f : OpS → Bool) : Bool := match lastL s with
  | [] => false
  | o :: _ => f o
def brokenH (c : Conf) (s : HS) : Pm → Bool
  | .rest => (going s).isEmpty && atRestH c s .rest
  | .mended => (going s).isEmpty && atRestH c s .mended
  | .filled => (going s).isEmpty && atRestH c s .filled
  | .moving => !((going s).filter fun o => (nextOf s o).isNone).isEmpty
  | .ending => !((going s).filter fun o => decide (o.stage = ("waits" : Str)) && stoppedAt s o.leader).isEmpty
  | .single => decide (1 < ((going s).filter fun o => decide (o.stage = ("fetch" : Str)) || decide (o.stage = ("fill" : Str))).length)
  | .quiet => lastB s fun o => wasQuiet s o && decide (o.version.getD 0 < s.db)
  | .fresh => lastB s fun o => decide (o.version.getD 0 < beforeH s o "write")
  | .forward => lastB s fun o => decide (o.version.getD 0 < beforeH s o "read")
  | .linear => false
@[irreducible] def spRest : Sp := fun vs H Q _ => ∃ (c : Conf) (h : Addr) (A : LA) (s : HS) (m : Pm), vs = [.ref h, pmV m] ∧ c.Ok ∧ LawAt c H h A s ∧ Reach c s ∧ s.past.length ≤ 62 ∧ ∀ H', Evl.Ex H H' → Q (.bl (atRestH c s m)) H'
@[irreducible] def spBroken : Sp := fun vs H Q _ => ∃ (c : Conf) (h : Addr) (A : LA) (s : HS) (m : Pm), vs = [.ref h, pmV m] ∧ c.Ok ∧ LawAt c H h A s ∧ Reach c s ∧ s.past.length ≤ 62 ∧ m ≠ .linear ∧ ∀ H', Evl.Ex H H' → Q (.bl (brokenH c s m)) H'
section
variable {c : Conf} {h : Addr} {A : LA} {s : HS} {m : Pm} {H : Hp} {Q : VK} {E : XK}
theorem rest_i (O : c.Ok) (L : LawAt c H h A s) (r : Reach c s) (l : s.past.length ≤ 62) (q : ∀ H', Evl.Ex H H' → Q (.bl (atRestH c s m)) H') : spRest [.ref h, pmV m] H Q E := by
  unfold spRest
  exact ⟨c, h, A, s, m, rfl, O, L, r, l, q⟩
theorem broken_i (O : c.Ok) (L : LawAt c H h A s) (r : Reach c s) (l : s.past.length ≤ 62) (nl : m ≠ .linear) (q : ∀ H', Evl.Ex H H' → Q (.bl (brokenH c s m)) H') : spBroken [.ref h, pmV m] H Q E := by
  unfold spBroken
  exact ⟨c, h, A, s, m, rfl, O, L, r, l, nl, q⟩
end
section
variable {P : Program} {w : World} {K : PySem.W.Frag} {mg : Str → Option Value} {base : Heap}
theorem ok_Lat_rest (T : Txt K mg) : FnOk P w K mg base CX0 7 T.f_Lat_rest T.fd_Lat_rest ["h", "promise"] spRest := by
  refine T.F_Lat_rest.ok sc_Lat_rest (fun vs H Q E h => ?_) (fun cdv A outer s H vs Q E hr h => ?_)
  · unfold spRest at h
    obtain ⟨c, h, A, s, m, rfl, _⟩ := h
    rfl
  · unfold spRest at h
    obtain ⟨c, h, A, s, m, rfl, O, L, r, l, q⟩ := h
    have hu := hu_of hr
    refine ⟨_, (pss_cons (ps_if (pt_cmpR op_eq (pv 1) pe_str (nomark _)) (pss_one (ps_ret (pe_call (ok_Lbehind T) (hr.mono (by decide)) rfl T.m_Lbehind T.F_Lbehind.kp (b_Lbehind T) .nil pass0 (pa_cons (pv 0) pa_nil)))) pss_nil)
      (pss_cons (ps_if (pt_cmpR op_eq (pv 1) pe_str (nomark _)) (pss_one (ps_ret (pe_call (ok_Lbehind T) (hr.mono (by decide)) rfl T.m_Lbehind T.F_Lbehind.kp (b_Lbehind T) .nil pass0 (pa_cons (pe_ix ix_tup (pe_call (ok_Lalone T) (hr.mono (by decide)) rfl T.m_Lalone T.F_Lalone.kp (b_Lalone T) .nil pass0 (pa_cons (pv 0) (pa_cons (pe_ix ix_list (pe_split (pe_ix ix_tup (pe_dget hu (pv 0) pe_str (fun _ _ => rfl)) pe_int (fun _ _ => rfl)) pe_str) pe_int (fun _ _ => rfl)) pa_nil))) pe_int (fun _ _ => rfl)) pa_nil)))) pss_nil)
      (pss_cons (ps_asg (pe_call (ok_Lalone T) (hr.mono (by decide)) rfl T.m_Lalone T.F_Lalone.kp (b_Lalone T) .nil pass0 (pa_cons (pv 0) (pa_cons pe_str pa_nil))) (pg_tup rfl (pgs_cons (pg_name (i := 2) sc_Lat_rest.nd rfl (Or.inl rfl)) (pgs_cons (pg_name (i := 3) sc_Lat_rest.nd rfl (Or.inl rfl)) pgs_nil))))
      (pss_one (ps_ret (pe_or (pe_cmpR op_ne (pe_dget hu (pv 3) pe_str (fun _ _ => rfl)) pe_str (nomark _)) (pe_one (pe_cmpR op_ne (pe_dget hu (pv 2) pe_str (fun _ _ => rfl)) (pe_dget hu (pv 3) pe_str (fun _ _ => rfl)) (nomark _))))))))), ?_⟩
    refine ⟨_, rfl, rfl, _, rfl, ?_⟩
    rw [show V.str "rest" = pmV .rest from rfl, pmEq]
    refine iteB (fun hm => ?_) (fun hm => ?_)
    · have hm := of_decide_eq_true hm
      subst hm
      refine ⟨_, rfl, ?_⟩
      exact behind_i L (q _ (Evl.Ex.refl _))
    refine ⟨_, rfl, rfl, _, rfl, ?_⟩
    rw [show V.str "mended" = pmV .mended from rfl, pmEq]
    refine iteB (fun hm2 => ?_) (fun hm2 => ?_)
    · have hm2 := of_decide_eq_true hm2
      subst hm2
      have hfw : (c.steps.map V.str)[0]? = some (.str (firstW c)) := by
        rw [List.getElem?_map]
        unfold firstW
        rw [List.getD_eq_getElem?_getD, List.getElem?_eq_getElem O.slen.1]
        rfl
      refine ⟨_, rfl, _, rfl, _, _, rfl, dget (L.hd) rfl, _, _, _, _, rfl, rfl, SqT.of L.dd, at_of (j := 0) (by omega) rfl, ⟨_, rfl⟩, _, _, rfl, rfl, by decide +kernel, O.plen, fun l1 nl1 => ?_⟩
      have L1 := L.new (o := .lst ((Txt.split c.path " ").map V.str)) nl1
      have hl1 : (upd H l1 (.lst ((Txt.split c.path " ").map V.str))) l1 = some (.lst (c.steps.map V.str)) := upd_same
      have e1 := Evl.Ex.new (o := .lst ((Txt.split c.path " ").map V.str)) nl1
      generalize upd H l1 (.lst ((Txt.split c.path " ").map V.str)) = H1 at L1 hl1 e1
      refine ⟨_, _, _, _, rfl, rfl, SqL.of hl1, at_of (j := 0) (by omega) hfw, ?_⟩
      refine alone_i O L1 r l (.inr rfl) fun p h' a' A' H2 e2 hp L2 _ => ?_
      refine ⟨_, _, _, _, rfl, rfl, SqT.of hp, at_of (j := 0) (by omega) rfl, ?_⟩
      exact behind_i L2 (q _ (e1.trans e2))
    refine ⟨_, rfl, ?_⟩
    refine alone_i O L r l (.inl rfl) fun p h' a' A' H2 e2 hp L2 ea => ?_
    refine ⟨_, _, rfl, SqT.of hp, rfl, _, _, rfl, _, _, rfl, rfl, ?_⟩
    obtain ⟨o, eo, ho⟩ := L2.ofAt ea
    have z : atRestH c s m = (!decide (V.str o.stage = V.str "ended") || !decide (on (aloneH c s "look").cache = on o.version)) := by
      have e : decide (V.str o.stage = V.str "ended") = decide (o.stage = ("ended" : Str)) := by simp
      rw [e]
      cases m
      all_goals first | (unfold atRestH; simp only [eo]) | skip
      · exact absurd rfl (of_decide_eq_false hm2)
      · exact absurd rfl (of_decide_eq_false hm)
    rw [z] at q
    refine ⟨_, rfl, _, _, rfl, dget (ho) rfl, rfl, _, rfl, ?_⟩
    cases hb : (!decide (V.str o.stage = V.str "ended")) with
    | true =>
      rw [hb] at q
      exact iteT (q _ e2)
    | false =>
      rw [hb] at q
      refine iteF ?_
      refine ⟨_, rfl, _, _, rfl, dget (L2.hd) rfl, _, rfl, _, _, rfl, dget (ho) rfl, ?_, ?_⟩
      · show scal (on _) (on _) = true
        cases (aloneH c s "look").cache <;> cases o.version <;> rfl
      · exact q _ e2
theorem ev_inL2 {K : PySem.W.Frag} {σ : L2.St} {H : Hp} {ta tb : TE} {x : V} {xs : List V} (ha : Evl.Ev ta σ H x) (hb : Evl.EvL tb σ H xs) (hx : flatV x = true) (hf : xs.all flatV = true) : Evl.Ev (tOp (rIn K false) ta tb) σ H (.bl (inV x xs)) :=
  Evl.ev_opL ha hb fun _ _ h _ => Evl.rv_isL (Evl.sq_of h) hx hf
theorem in2 (x : Str) : inV (.str x) [.str "fetch", .str "fill"] = (decide (x = ("fetch" : Str)) || decide (x = ("fill" : Str))) := by
  have e : ∀ a : Str, eqV (.str a) (.str x) = decide (x = a) := fun a => by
    show (a == x) = decide (x = a)
    by_cases h : x = a
    · rw [decide_eq_true h, h]
      exact beq_self_eq_true a
    · rw [decide_eq_false h]
      exact beq_false_of_ne fun z => h z.symm
  simp only [inV, List.any_cons, List.any_nil, e, Bool.or_false]
theorem empty_of {α β : Type} {R : α → β → Prop} {xs : List α} {ys : List β} (h : Paired R xs ys) : xs.isEmpty = ys.isEmpty := by
  cases h <;> rfl
theorem ok_Lbroken (T : Txt K mg) : FnOk P w K mg base CX0 8 T.f_Lbroken T.fd_Lbroken ["h", "promise"] spBroken := by
  refine T.F_Lbroken.ok sc_Lbroken (fun vs H Q E h => ?_) (fun cdv A outer s H vs Q E hr h => ?_)
  · unfold spBroken at h
    obtain ⟨c, h, A, s, m, rfl, _⟩ := h
    rfl
  · unfold spBroken at h
    obtain ⟨c, h, A, s, m, rfl, O, L0, r, l, nl, q⟩ := h
    have hu := hu_of hr
    obtain ⟨W, hol⟩ := r.wf O
    have io := r.io O
    have ln : s.ops.length ≤ 100 := by omega
    refine ⟨_, (pss_cons (ps_set (i := 2) sc_Lbroken.nd rfl (Or.inl rfl) (pe_call (ok_Lgoing T) (hr.mono (by decide)) rfl T.m_Lgoing T.F_Lgoing.kp (b_Lgoing T) .nil pass0 (pa_cons (pv 0) pa_nil)))
      (pss_cons (ps_if (pt_cmpR op_in_seq (pv 1) (pe_lst (pa_cons pe_str (pa_cons pe_str (pa_cons pe_str pa_nil)))) (by rfl)) (pss_one (ps_ret (pe_and (pe_cmpR (op_eqNil (un1 hr)) (pv 2) (pe_lst pa_nil) (nomark _)) (pe_one (pe_call (ok_Lat_rest T) (hr.mono (by decide)) rfl T.m_Lat_rest T.F_Lat_rest.kp (b_Lat_rest T) .nil pass0 (pa_cons (pv 0) (pa_cons (pv 1) pa_nil))))))) pss_nil)
      (pss_cons (ps_if (pt_cmpR op_eq (pv 1) pe_str (nomark _)) (pss_one ps_never) pss_nil)
      (pss_cons (ps_if (pt_cmpR op_eq (pv 1) pe_str (nomark _)) (pss_one (ps_ret (pe_cmpR (op_neNil (un1 hr)) (pe_lc (own := [("one", 4)]) rfl sc_Lbroken.nd (pi_list (pv 2)) (blkOk_by (N := ["h", "promise", "going", "last", "one"]) (sc := defScope s_Lbroken) (by decide +kernel)) (fun _ _ _ _ _ => (pg_name (i := 4) sc_Lbroken.nd rfl (Or.inl rfl))) (fun _ _ _ _ _ => (pts_one (pt_cmpR op_isN (pe_call (ok_Lnext T) (hr.mono (by decide)) rfl T.m_Lnext T.F_Lnext.kp (b_Lnext T) .nil pass0 (pa_cons (pv 0) (pa_cons (pv 4) pa_nil))) pe_non (nomark _)))) (fun _ _ _ _ _ => (pv 4))) (pe_lst pa_nil) (nomark _)))) pss_nil)
      (pss_cons (ps_if (pt_cmpR op_eq (pv 1) pe_str (nomark _)) (pss_one (ps_ret (pe_cmpR (op_neNil (un1 hr)) (pe_lc (own := [("one", 4)]) rfl sc_Lbroken.nd (pi_list (pv 2)) (blkOk_by (N := ["h", "promise", "going", "last", "one"]) (sc := defScope s_Lbroken) (by decide +kernel)) (fun _ _ _ _ _ => (pg_name (i := 4) sc_Lbroken.nd rfl (Or.inl rfl))) (fun _ _ _ _ _ => (pts_one (PW.pt (pw_and (pt_cmpR op_eq (pe_dget hu (pv 4) pe_str (fun _ _ => rfl)) pe_str (nomark _)) (pw_and1 (pt_cmpR op_eq (pe_dget hu (pe_ix (ix_listK (K := K) rfl) (pe_dget hu (pv 0) pe_str (fun _ _ => rfl)) (pe_dget hu (pv 4) pe_str (fun _ _ => rfl)) (fun _ _ => rfl)) pe_str (fun _ _ => rfl)) pe_str (nomark _))))))) (fun _ _ _ _ _ => (pv 4))) (pe_lst pa_nil) (nomark _)))) pss_nil)
      (pss_cons (ps_if (pt_cmpR op_eq (pv 1) pe_str (nomark _)) (pss_one (ps_ret (pe_cmpR op_gt (pe_callB call_len_seq (by rfl) T.n_len (by decide +kernel) (pa_cons (pe_lc (own := [("one", 4)]) rfl sc_Lbroken.nd (pi_list (pv 2)) (blkOk_by (N := ["h", "promise", "going", "last", "one"]) (sc := defScope s_Lbroken) (by decide +kernel)) (fun _ _ _ _ _ => (pg_name (i := 4) sc_Lbroken.nd rfl (Or.inl rfl))) (fun _ _ _ _ _ => (pts_one (pt_cmpR (op_inK (K := K) rfl) (pe_dget hu (pv 4) pe_str (fun _ _ => rfl)) (pe_lst (pa_cons pe_str (pa_cons pe_str pa_nil))) (by rfl)))) (fun _ _ _ _ _ => (pv 4))) pa_nil)) pe_int (nomark _)))) pss_nil)
      (pss_cons (ps_setLc (i := 3) (own := [("one", 4)]) rfl sc_Lbroken.nd rfl rfl (sw_true rfl rfl rfl (by decide +kernel)) (pi_list (pe_dget hu (pv 0) pe_str (fun _ _ => rfl))) (blkOk_by (N := ["h", "promise", "going", "last", "one"]) (sc := defScope s_Lbroken) (by decide +kernel)) (fun _ _ _ _ _ => (pg_name (i := 4) sc_Lbroken.nd rfl (Or.inl rfl))) (fun _ _ _ _ _ => (pts_one (PW.pt (pw_and (pt_cmpR op_eq (pe_dget hu (pv 4) pe_str (fun _ _ => rfl)) pe_str (nomark _)) (pw_and (pt_cmpR op_eq (pe_dget hu (pv 4) pe_str (fun _ _ => rfl)) pe_str (nomark _)) (pw_and1 (pt_cmpR op_eq (pe_dget hu (pv 4) pe_str (fun _ _ => rfl)) (pe_op op_sub (pe_callB (len_seqK (K := K) rfl) (by rfl) T.n_len (by decide +kernel) (pa_cons (pe_dget hu (pv 0) pe_str (fun _ _ => rfl)) pa_nil)) pe_int) (nomark _)))))))) (fun _ _ _ _ _ => (pv 4)))
      (pss_cons (ps_if (pt_cmpR (op_eqNil (un1 hr)) (pv 3) (pe_lst pa_nil) (nomark _)) (pss_one (ps_ret pe_bl)) pss_nil)
      (pss_cons (ps_if (pt_cmpR op_eq (pv 1) pe_str (nomark _)) (pss_one (ps_ret (pe_and (pe_call (ok_Lwas_quiet T) (hr.mono (by decide)) rfl T.m_Lwas_quiet T.F_Lwas_quiet.kp (b_Lwas_quiet T) .nil pass0 (pa_cons (pv 0) (pa_cons (pe_ix ix_list (pv 3) pe_int (fun _ _ => rfl)) pa_nil))) (pe_one (pe_cmpR op_lt (pe_dget hu (pe_ix ix_list (pv 3) pe_int (fun _ _ => rfl)) pe_str (fun _ _ => rfl)) (pe_dget hu (pv 0) pe_str (fun _ _ => rfl)) (nomark _)))))) pss_nil)
      (pss_one (ps_ret (pe_cmpR op_lt (pe_dget hu (pe_ix ix_list (pv 3) pe_int (fun _ _ => rfl)) pe_str (fun _ _ => rfl)) (pe_call (ok_Lbefore T) (hr.mono (by decide)) rfl T.m_Lbefore T.F_Lbefore.kp (b_Lbefore T) .nil pass0 (pa_cons (pv 0) (pa_cons (pe_ix ix_list (pv 3) pe_int (fun _ _ => rfl)) (pa_cons (pe_ifExp (pt_cmpR op_eq (pv 1) pe_str (nomark _)) pe_str pe_str) pa_nil)))) (nomark _))))))))))))), ?_⟩
    refine ⟨_, rfl, ?_⟩
    refine going_i L0 ln fun g gs H1 S1 ng hg R => ?_
    have L := L0.same S1
    have e1 : Evl.Ex H H1 := fun b o e => S1 b o e
    have gl : gs.length ≤ 200 := by
      rw [R.length]
      exact Nat.le_trans (List.length_filter_le _ _) (by omega)
    -- rest, mended, filled
    have zin : inV (pmV m) [.str "rest", .str "mended", .str "filled"] = (decide (m = .rest) || (decide (m = .mended) || decide (m = .filled))) := by
      cases m <;> decide +kernel
    refine ⟨_, rfl, by show 3 ≤ sizeLine; decide, fun p np => ⟨p, _, rfl, .inl (SqL.of upd_same), rfl, rfl, _, (by show V.bl (inV (pmV m) _) = _; rw [zin]), ?_⟩⟩
    have e2 := e1.trans (Evl.Ex.new (o := .lst [.str "rest", .str "mended", .str "filled"]) np)
    have L2 := L.new (o := .lst [.str "rest", .str "mended", .str "filled"]) np
    have hg2 := same_new (o := .lst [.str "rest", .str "mended", .str "filled"]) np _ _ hg
    generalize upd H1 p (.lst [.str "rest", .str "mended", .str "filled"]) = H2 at e2 L2 hg2
    refine iteB (fun hm => ?_) (fun hm => ?_)
    · refine ⟨_, rfl, by show 0 ≤ sizeLine; decide, fun l0 nl0 => ⟨_, _, gs, rfl, rfl, SqL.of (same_new nl0 _ _ hg2), SqL.of upd_same, _, rfl, ?_⟩⟩
      have e3 := e2.trans (Evl.Ex.new (o := .lst []) nl0)
      have L3 := L2.new (o := .lst []) nl0
      generalize upd H2 l0 (.lst []) = H3 at e3 L3
      have eb : brokenH c s m = ((going s).isEmpty && atRestH c s m) := by
        cases m <;> first | rfl | exact absurd hm (by decide +kernel)
      rw [eb] at q
      rw [Bool.bne_false, empty_of R]
      cases he : (going s).isEmpty with
      | false =>
        rw [he] at q
        exact iteF (q _ e3)
      | true =>
        rw [he] at q
        refine iteT ⟨_, rfl, _, rfl, ?_⟩
        exact rest_i O L3 r l fun H4 e4 => q H4 (e3.trans e4)
    -- linear
    refine ⟨_, rfl, rfl, _, rfl, ?_⟩
    rw [show V.str "linear" = pmV .linear from rfl, pmEq, decide_eq_false nl]
    refine iteF ?_
    -- moving
    refine ⟨_, rfl, rfl, _, rfl, ?_⟩
    rw [show V.str "moving" = pmV .moving from rfl, pmEq]
    refine iteB (fun hm2 => ?_) (fun hm2 => ?_)
    · have hm2 := of_decide_eq_true hm2
      subst hm2
      refine ⟨_, rfl, g, rfl, ⟨_, SqL.of hg2⟩, fun D nD => lcOps (A := A) (s := s) (fun o => (nextOf s o).isNone) nD (SqL.of hg2) R gl rfl (fun _ => rfl) (fun k b u eb eu mu => ?_) (fun b => Evl.ev_var rfl) fun H3 acc e3 hD R3 => ?_⟩
      · intro H4 e4 Q4 q4
        refine ⟨_, rfl, _, rfl, ?_⟩
        refine next_i (L2.same (same_ex e4)) eb eu (wait_all W O u (List.mem_of_getElem? eu)) ⟨rfl, _, rfl, ?_⟩
        have z : decide (sv (nextOf s u) = V.non) = (nextOf s u).isNone := by cases nextOf s u <;> rfl
        rw [z]
        exact q4 _ (Evl.Ex.refl _)
      · refine ⟨by show 0 ≤ sizeLine; decide, fun l0 nl0 => ⟨_, _, acc, rfl, rfl, SqL.of (same_new nl0 _ _ hD), SqL.of upd_same, ?_⟩⟩
        rw [empty_of R3, Bool.bne_true]
        exact q _ ((e2.trans e3).trans (Evl.Ex.new nl0))
    -- ending
    refine ⟨_, rfl, rfl, _, rfl, ?_⟩
    rw [show V.str "ending" = pmV .ending from rfl, pmEq]
    refine iteB (fun hm3 => ?_) (fun hm3 => ?_)
    · have hm3 := of_decide_eq_true hm3
      subst hm3
      refine ⟨_, rfl, g, rfl, ⟨_, SqL.of hg2⟩, fun D nD => lcOps (A := A) (s := s) (fun o => decide (o.stage = ("waits" : Str)) && stoppedAt s o.leader) nD (SqL.of hg2) R gl rfl (fun _ => rfl) (fun k b u eb eu mu => ?_) (fun b => Evl.ev_var rfl) fun H3 acc e3 hD R3 => ?_⟩
      · have hb := L2.og k b u eb eu
        have z : decide (u.stage = ("waits" : Str)) = decide (V.str u.stage = V.str "waits") := by simp
        show Evl.EvT _ _ _ (decide (u.stage = ("waits" : Str)) && stoppedAt s u.leader)
        rw [z]
        refine Evl.et_and (Evl.et_test (Evl.ev_op (ev_dg rfl hb rfl) Evl.ev_c (Evl.rv_eq rfl))) (fun hwt => ?_)
        rw [← z] at hwt
        obtain ⟨lw, qw, el, eq⟩ := wait_all W O u (List.mem_of_getElem? eu) (of_decide_eq_true hwt)
        have zs : stoppedAt s u.leader = decide (V.str qw.stage = V.str "stopped") := by
          rw [el]
          show (match s.ops[lw]? with | some q => decide (q.stage = ("stopped" : Str)) | none => false) = _
          rw [eq]
          simp
        rw [zs]
        intro H4 e4 Q4 q4
        have L4 := L2.same (same_ex e4)
        obtain ⟨bq, ebq, hbq⟩ := L4.get eq
        refine ⟨_, rfl, _, _, rfl, dget (L4.hd) rfl, _, rfl, _, _, rfl, dget (e4 _ _ hb) (by show some (on u.leader) = _; rw [el]; rfl), _, _, _, _, rfl, rfl, SqL.of L4.lo, at_of (j := lw) (by omega) (by rw [List.getElem?_map, ebq]; rfl), ?_⟩
        exact ⟨_, _, rfl, dget hbq rfl, rfl, _, rfl, q4 _ (Evl.Ex.refl _)⟩
      · refine ⟨by show 0 ≤ sizeLine; decide, fun l0 nl0 => ⟨_, _, acc, rfl, rfl, SqL.of (same_new nl0 _ _ hD), SqL.of upd_same, ?_⟩⟩
        rw [empty_of R3, Bool.bne_true]
        exact q _ ((e2.trans e3).trans (Evl.Ex.new nl0))
    -- single
    refine ⟨_, rfl, rfl, _, rfl, ?_⟩
    rw [show V.str "single" = pmV .single from rfl, pmEq]
    refine iteB (fun hm4 => ?_) (fun hm4 => ?_)
    · have hm4 := of_decide_eq_true hm4
      subst hm4
      refine ⟨_, rfl, g, rfl, ⟨_, SqL.of hg2⟩, fun D nD => lcOps (A := A) (s := s) (fun o => decide (o.stage = ("fetch" : Str)) || decide (o.stage = ("fill" : Str))) nD (SqL.of hg2) R gl rfl (fun _ => rfl) (fun k b u eb eu mu => ?_) (fun b => Evl.ev_var rfl) fun H3 acc e3 hD R3 => ?_⟩
      · have hb := L2.og k b u eb eu
        show Evl.EvT _ _ _ (decide (u.stage = ("fetch" : Str)) || decide (u.stage = ("fill" : Str)))
        rw [← in2]
        exact Evl.et_test (ev_inL2 (ev_dg rfl hb rfl) (Evl.el_lst (Evl.ea_cons Evl.ev_c (Evl.ea_cons Evl.ev_c Evl.ea_nil)) (by simp)) rfl rfl)
      · refine ⟨_, _, rfl, .inl (SqL.of hD), _, _, rfl, rfl, ?_⟩
        have z : decide ((1 : Int) < (acc.length : Int)) = brokenH c s .single := by
          rw [R3.length]
          show _ = decide (1 < (List.filter _ _).length)
          generalize (List.filter _ (going s)).length = n
          rw [Bool.eq_iff_iff, decide_eq_true_eq, decide_eq_true_eq]
          omega
        show Q (.bl (decide ((1 : Int) < (acc.length : Int)))) _
        rw [z]
        exact q _ (e2.trans e3)
    -- the read that the last event ended
    have p1 : ∀ o ∈ s.ops, 1 ≤ s.past.length := fun o ho => by
      have := List.length_pos_of_mem ho
      omega
    refine ⟨_, rfl, _, _, rfl, dget (L2.hd) rfl, A.lo, rfl, ⟨_, SqL.of L2.lo⟩, fun D nD => lcOps (A := A) (s := s) (fun o => decide (o.kind = ("read" : Str)) && (decide (o.stage = ("ended" : Str)) && decide (o.over = some (s.past.length - 1)))) nD (SqL.of L2.lo) (all_refs L2) (by rw [List.length_map, L2.ol]; omega) rfl (fun _ => rfl) (fun k b u eb eu mu => ?_) (fun b => Evl.ev_var rfl) fun H3 acc e3 hD R3 => ?_⟩
    · have hb := L2.og k b u eb eu
      have z1 : decide (u.kind = ("read" : Str)) = decide (V.str u.kind = V.str "read") := by simp
      have z2 : decide (u.stage = ("ended" : Str)) = decide (V.str u.stage = V.str "ended") := by simp
      show Evl.EvT _ _ _ (decide (u.kind = ("read" : Str)) && (decide (u.stage = ("ended" : Str)) && decide (u.over = some (s.past.length - 1))))
      rw [z1, z2]
      refine Evl.et_and (Evl.et_test (Evl.ev_op (ev_dg rfl hb rfl) Evl.ev_c (Evl.rv_eq rfl))) (fun _ => Evl.et_and (Evl.et_test (Evl.ev_op (ev_dg rfl hb rfl) Evl.ev_c (Evl.rv_eq rfl))) (fun he => ?_))
      rw [← z2] at he
      have mu := List.mem_of_getElem? eu
      obtain ⟨x, ex⟩ := Option.isSome_iff_exists.mp ((io u mu).ov (of_decide_eq_true he))
      have pp := p1 u mu
      have z3 : decide (u.over = some (s.past.length - 1)) = decide (V.int (x : Int) = V.int ((s.past.length : Int) - 1)) := by
        rw [ex, Bool.eq_iff_iff, decide_eq_true_eq, decide_eq_true_eq]
        constructor
        · intro h
          have h := Option.some.inj h
          rw [h]
          congr 1
          omega
        · intro h
          have h := V.int.inj h
          congr 1
          omega
      rw [z3]
      intro H4 e4 Q4 q4
      have L4 := L2.same (same_ex e4)
      have el : ((A.eas.map V.ref).length : Int) = (s.past.length : Int) := by rw [List.length_map, L2.el]
      refine ⟨_, rfl, _, _, rfl, dget (e4 _ _ hb) (by show some (on u.over) = some (.int (x : Int)); rw [ex]; rfl), _, rfl, _, _, rfl, dget (L4.hd) rfl, _, _, rfl, .inl (SqL.of L4.lp), ?_⟩
      rw [el]
      exact ⟨_, _, rfl, rfl, rfl, _, rfl, q4 _ (Evl.Ex.refl _)⟩
    have R3 : OpRefs A s acc (lastL s) := R3
    have L3 := L2.same (same_ex e3)
    refine ⟨_, rfl, by show 0 ≤ sizeLine; decide, fun l0 nl0 => ⟨_, _, acc, rfl, rfl, SqL.of (same_new nl0 _ _ hD), SqL.of upd_same, _, rfl, ?_⟩⟩
    have e4 := (e2.trans e3).trans (Evl.Ex.new (o := .lst []) nl0)
    have L4 := L3.new (o := .lst []) nl0
    have hD4 := same_new (o := .lst []) nl0 _ _ hD
    generalize upd H3 l0 (.lst []) = H4 at e4 L4 hD4
    have eb : ∀ f, brokenH c s m = lastB s f → ∀ o r, lastL s = o :: r → brokenH c s m = f o := fun f h o r hl => by
      rw [h]
      unfold lastB
      rw [hl]
    have en : lastL s = [] → brokenH c s m = false := fun h => by
      have hx : ∀ f, lastB s f = false := fun f => by
        unfold lastB
        rw [h]
      cases m with
      | quiet => exact hx _
      | fresh => exact hx _
      | forward => exact hx _
      | linear => rfl
      | rest => exact absurd hm (by decide)
      | mended => exact absurd hm (by decide)
      | filled => exact absurd hm (by decide)
      | moving => exact absurd hm2 (by decide)
      | ending => exact absurd hm3 (by decide)
      | single => exact absurd hm4 (by decide)
    cases hls : lastL s with
    | nil =>
      rw [hls] at R3
      cases R3
      rw [en hls] at q
      exact iteT (q _ e4)
    | cons o rest =>
      rw [hls] at R3
      cases R3 with
      | @cons x _ xs' _ hx rr =>
        obtain ⟨k, b, rfl, ek, eo⟩ := hx
        refine iteF ?_
        have mo := List.mem_of_getElem? eo
        have hb := L4.og k b o ek eo
        have pr := (List.mem_filter.mp (show o ∈ lastL s by rw [hls]; exact List.mem_cons_self ..)).2
        rw [Bool.and_eq_true, Bool.and_eq_true, decide_eq_true_eq, decide_eq_true_eq, decide_eq_true_eq] at pr
        obtain ⟨v, ev⟩ := Option.isSome_iff_exists.mp ((io o mo).ended O (W.ops k o eo).kd pr.2.1)
        have hv : valV (oK o) (Sum.inr "version") = some (.int (v : Int)) := by
          show some (on o.version) = _
          rw [ev]
          rfl
        have eok : EndOk s := fun u hu eu => by
          obtain ⟨ku, hku, eku⟩ := List.getElem_of_mem hu
          obtain ⟨v', ev'⟩ := Option.isSome_iff_exists.mp ((io u hu).ended O (W.ops ku u (by rw [List.getElem?_eq_getElem hku, eku])).kd eu)
          obtain ⟨x', ex'⟩ := Option.isSome_iff_exists.mp ((io u hu).ov eu)
          exact ⟨v', x', ev', ex'⟩
        -- quiet
        refine ⟨_, rfl, rfl, _, rfl, ?_⟩
        rw [show V.str "quiet" = pmV .quiet from rfl, pmEq]
        refine iteB (fun hm5 => ?_) (fun hm5 => ?_)
        · have hm5 := of_decide_eq_true hm5
          subst hm5
          rw [eb _ rfl o rest hls] at q
          refine ⟨_, rfl, _, rfl, _, _, _, _, rfl, rfl, SqL.of hD4, at_of (j := 0) (by omega) rfl, ?_⟩
          refine quiet_i L4 ek eo (by rw [pr.2.2]; rfl) ln fun H5 e5 => ⟨_, rfl, ?_⟩
          cases hq : wasQuiet s o with
          | false =>
            rw [hq] at q
            exact iteF (q _ (e4.trans e5))
          | true =>
            rw [hq] at q
            have L5 := L4.same (same_ex e5)
            refine iteT ⟨_, rfl, _, _, _, _, rfl, rfl, SqL.of (e5 _ _ hD4), at_of (j := 0) (by omega) rfl, _, _, rfl, dget (e5 _ _ hb) hv, _, rfl, _, _, rfl, dget (L5.hd) rfl, _, _, rfl, rfl, ?_⟩
            show Q (.bl (decide ((v : Int) < (s.db : Int)))) _
            have z : (true && decide (o.version.getD 0 < s.db)) = decide ((v : Int) < (s.db : Int)) := by
              rw [ev]
              simp
            rw [z] at q
            exact q _ (e4.trans e5)
        -- fresh, forward
        refine ⟨_, rfl, _, _, _, _, rfl, rfl, SqL.of hD4, at_of (j := 0) (by omega) rfl, _, _, rfl, dget hb hv, ?_⟩
        refine ⟨_, rfl, _, rfl, _, _, _, _, rfl, rfl, SqL.of hD4, at_of (j := 0) (by omega) rfl, ?_⟩
        have fin : ∀ kd : Str, brokenH c s m = decide (o.version.getD 0 < beforeH s o kd) → spBefore [.ref h, .ref b, .str kd] H4 (fun v2 H5 => ∃ i j, V.int (v : Int) = .int i ∧ v2 = .int j ∧ Q (.bl (decide (i < j))) H5) E0 := fun kd hk => by
          refine before_i L4 ek eo eok ln fun H5 e5 => ⟨_, _, rfl, rfl, ?_⟩
          rw [hk, ev] at q
          have z : decide ((v : Int) < ((beforeH s o kd : Nat) : Int)) = decide ((some v : Option Nat).getD 0 < beforeH s o kd) := by simp
          rw [z]
          exact q _ (e4.trans e5)
        refine ⟨_, rfl, rfl, _, rfl, ?_⟩
        rw [show V.str "fresh" = pmV .fresh from rfl, pmEq]
        refine iteB (fun hm6 => ?_) (fun hm6 => ?_)
        · have hm6 := of_decide_eq_true hm6
          subst hm6
          exact fin "write" (eb _ rfl o rest hls)
        · have em : m = .forward := by
            cases m <;> first | rfl | exact absurd rfl nl | exact absurd hm (by decide) | exact absurd hm2 (by decide) | exact absurd hm3 (by decide) | exact absurd hm4 (by decide) | exact absurd hm5 (by decide) | exact absurd hm6 (by decide)
          subst em
          exact fin "read" (eb _ rfl o rest hls)
end
end Ca

set_option Elab.async false
set_option linter.all false
set_option maxRecDepth 100000
set_option maxHeartbeats 4000000
namespace Ca
/-! ### orders of reads and writes -/
structure XOp where
  begun : Nat
  over : Option Nat
  wr : Bool
  ver : Nat
def XOp.before (x y : XOp) : Bool := match x.over with
  | none => false
  | some e => decide (e < y.begun)
/-- whether operations can be put in an order behind a version -/
def ordB : Nat → List XOp → Nat → Bool
  | _, [], _ => true
  | 0, _ :: _, _ => false
  | n + 1, x :: l, v => (List.range (l.length + 1)).any fun i => match (x :: l)[i]? with
    | none => false
    | some o => ((x :: l).eraseIdx i).all (fun y => !y.before o) && (o.wr || decide (o.ver = v)) && ordB n ((x :: l).eraseIdx i) o.ver
theorem ordB_step {n : Nat} {l : List XOp} {v : Nat} (ne : l ≠ []) : ordB (n + 1) l v = true ↔ ∃ i o, l[i]? = some o ∧ (∀ y ∈ l.eraseIdx i, y.before o = false) ∧ (o.wr = true ∨ o.ver = v) ∧ ordB n (l.eraseIdx i) o.ver = true := by
  cases l with
  | nil => exact absurd rfl ne
  | cons x l =>
    show ((List.range (l.length + 1)).any _) = true ↔ _
    rw [List.any_eq_true]
    constructor
    · rintro ⟨i, hi, h⟩
      cases eo : (x :: l)[i]? with
      | none => rw [eo] at h; cases h
      | some o =>
        rw [eo] at h
        have h : (((x :: l).eraseIdx i).all (fun y => !y.before o) && (o.wr || decide (o.ver = v)) && ordB n ((x :: l).eraseIdx i) o.ver) = true := h
        rw [Bool.and_eq_true, Bool.and_eq_true, List.all_eq_true, Bool.or_eq_true, decide_eq_true_eq] at h
        exact ⟨i, o, eo, fun y hy => by simpa using h.1.1 y hy, h.1.2, h.2⟩
    · rintro ⟨i, o, eo, h1, h2, h3⟩
      refine ⟨i, List.mem_range.mpr (List.getElem?_eq_some_iff.mp eo).1, ?_⟩
      rw [eo]
      show (((x :: l).eraseIdx i).all (fun y => !y.before o) && (o.wr || decide (o.ver = v)) && ordB n ((x :: l).eraseIdx i) o.ver) = true
      rw [Bool.and_eq_true, Bool.and_eq_true, List.all_eq_true, Bool.or_eq_true, decide_eq_true_eq]
      exact ⟨⟨fun y hy => by rw [h1 y hy]; rfl, h2⟩, h3⟩
/-- no two versions bar each other; one stands ahead of all -/
structure NoTwo (v : Nat) (l : List XOp) : Prop where
  head : ∀ y ∈ l, ∀ z ∈ l, z.ver = v → ¬ y.ver = v → y.before z = false
  two : ∀ x1 ∈ l, ∀ y1 ∈ l, ∀ y2 ∈ l, ∀ x2 ∈ l, x1.ver = x2.ver → y1.ver = y2.ver → ¬ x1.ver = y1.ver → x1.before y1 = true → y2.before x2 = true → False
/-- a version has one write at most, none the version that stands ahead of all -/
structure OneW (v : Nat) (l : List XOp) : Prop where
  none_ : ∀ x ∈ l, x.wr = true → ¬ x.ver = v
  one : ∀ (i j : Nat) x y, l[i]? = some x → l[j]? = some y → x.wr = true → y.wr = true → x.ver = y.ver → i = j
theorem mem_erase {l : List XOp} {i : Nat} {x : XOp} (h : x ∈ l.eraseIdx i) : x ∈ l := List.mem_of_mem_eraseIdx h
theorem mem_split {l : List XOp} {i : Nat} {o y : XOp} (eo : l[i]? = some o) (h : y ∈ l) : y = o ∨ y ∈ l.eraseIdx i := by
  obtain ⟨j, hj, e⟩ := List.getElem_of_mem h
  have ej : l[j]? = some y := by rw [List.getElem?_eq_getElem hj, e]
  by_cases hij : j = i
  · subst hij
    rw [ej] at eo
    cases eo
    exact .inl rfl
  · refine .inr ?_
    rw [List.mem_eraseIdx_iff_getElem?]
    exact ⟨j, hij, ej⟩
theorem erase_at {l : List XOp} {i j : Nat} {x : XOp} (h : (l.eraseIdx i)[j]? = some x) : ∃ j', ¬ j' = i ∧ l[j']? = some x ∧ j' = if j < i then j else j + 1 := by
  rw [List.getElem?_eraseIdx] at h
  split at h
  · rename_i z; exact ⟨j, by omega, h, by rw [if_pos z]⟩
  · rename_i z; exact ⟨j + 1, by omega, h, by rw [if_neg z]⟩
theorem OneW.erase {l : List XOp} {v i : Nat} {o : XOp} (h : OneW v l) (eo : l[i]? = some o) (ho : o.wr = true ∨ o.ver = v) : OneW o.ver (l.eraseIdx i) := by
  refine ⟨fun x hx wx e => ?_, fun a b x y ha hb wx wy e => ?_⟩
  · obtain ⟨j, hj, ej⟩ := List.getElem_of_mem hx
    have ej : (l.eraseIdx i)[j]? = some x := by rw [List.getElem?_eq_getElem hj, ej]
    obtain ⟨j', n1, e1, _⟩ := erase_at ej
    rcases ho with wo | eo'
    · exact n1 (h.one j' i x o e1 eo wx wo e)
    · exact h.none_ x (mem_erase hx) wx (e.trans eo')
  · obtain ⟨a', _, ea, za⟩ := erase_at ha
    obtain ⟨b', _, eb, zb⟩ := erase_at hb
    have z := h.one a' b' x y ea eb wx wy e
    rw [za, zb] at z
    split at z <;> split at z <;> omega
/-- a version without its write does not come again -/
theorem ord_none {u : Nat} : ∀ {n : Nat} {l : List XOp} {v : Nat}, ordB n l v = true → ¬ v = u → (∀ x ∈ l, x.wr = true → ¬ x.ver = u) → ∀ x ∈ l, ¬ x.ver = u
  | _, [], _, _, _, _, x, hx => by cases hx
  | 0, _ :: _, _, h, _, _, _, _ => by cases h
  | n + 1, a :: l, v, h, nv, nw, x, hx => by
    obtain ⟨i, o, eo, _, h2, h3⟩ := (ordB_step (by simp)).mp h
    have mo : o ∈ a :: l := List.mem_of_getElem? eo
    have ou : ¬ o.ver = u := fun z => by
      rcases h2 with y | y
      · exact nw o mo y z
      · exact nv (y.symm.trans z)
    rcases mem_split eo hx with z | z
    · rw [z]; exact ou
    · exact ord_none h3 ou (fun y hy => nw y (mem_erase hy)) x z
/-- an order shows that no two bar each other -/
theorem ord_no : ∀ {n : Nat} {l : List XOp} {v : Nat}, ordB n l v = true → OneW v l → NoTwo v l
  | _, [], _, _, _ => ⟨fun y hy => (by cases hy), fun y hy => (by cases hy)⟩
  | 0, _ :: _, _, h, _ => by cases h
  | n + 1, a :: l, v, h, W => by
    obtain ⟨i, o, eo, h1, h2, h3⟩ := (ordB_step (by simp)).mp h
    have W' := W.erase eo h2
    have N := ord_no h3 W'
    have sp : ∀ {y : XOp}, y ∈ a :: l → y = o ∨ y ∈ (a :: l).eraseIdx i := fun hy => mem_split eo hy
    -- nothing else ahead of the first
    have first : ∀ y ∈ a :: l, ¬ y.ver = o.ver → y.before o = false := fun y hy n => by
      rcases sp hy with z | z
      · rw [z] at n; exact absurd rfl n
      · exact h1 y z
    have noV : ¬ o.ver = v → ∀ x ∈ (a :: l).eraseIdx i, ¬ x.ver = v := fun n => ord_none h3 n fun x hx => W.none_ x (mem_erase hx)
    -- of the first's version
    have key : ∀ y ∈ a :: l, ∀ z ∈ a :: l, z.ver = o.ver → ¬ y.ver = o.ver → y.before z = false := fun y hy z hz ez ny => by
      rcases sp hz with e | e
      · rw [e]; exact first y hy ny
      · rcases sp hy with f | f
        · rw [f] at ny; exact absurd rfl ny
        · exact N.head y f z e ez ny
    refine ⟨fun y hy z hz ez ny => ?_, fun x1 m1 y1 m2 y2 m3 x2 m4 e1 e2 ne b1 b2 => ?_⟩
    · by_cases ho : o.ver = v
      · rw [← ho] at ez ny
        exact key y hy z hz ez ny
      · rcases sp hz with e | e
        · rw [e] at ez; exact absurd ez ho
        · exact absurd ez (noV ho z e)
    · by_cases hx : x1.ver = o.ver
      · have z := key y2 m3 x2 m4 (e1.symm.trans hx) (fun q => ne (hx.trans (q.symm.trans e2.symm)))
        rw [b2] at z
        cases z
      · by_cases hy : y1.ver = o.ver
        · have z := key x1 m1 y1 m2 hy hx
          rw [b1] at z
          cases z
        · have g : ∀ {y : XOp}, y ∈ a :: l → ¬ y.ver = o.ver → y ∈ (a :: l).eraseIdx i := fun hy' n => by
            rcases sp hy' with z | z
            · rw [z] at n; exact absurd rfl n
            · exact z
          exact N.two x1 (g m1 hx) y1 (g m2 hy) y2 (g m3 (fun q => hy (e2.trans q))) x2 (g m4 (fun q => hx (e1.trans q))) e1 e2 ne b1 b2

/-! ### an order, if no two bar each other -/
structure Fit (v : Nat) (l : List XOp) : Prop where
  self : ∀ x ∈ l, ∀ e, x.over = some e → x.begun ≤ e
  wr : ∀ r ∈ l, ¬ r.ver = v → r.wr = false → ∃ w ∈ l, w.wr = true ∧ w.ver = r.ver ∧ r.before w = false
theorem least {α : Type} (f : α → Nat) : ∀ {l : List α}, l ≠ [] → ∃ x ∈ l, ∀ y ∈ l, f x ≤ f y
  | [], h => absurd rfl h
  | [x], _ => ⟨x, List.mem_cons_self .., fun y hy => by rw [List.mem_singleton.mp hy]; exact Nat.le_refl _⟩
  | x :: z :: l, _ => by
    obtain ⟨m, hm, h⟩ := least f (l := z :: l) (by simp)
    by_cases hx : f x ≤ f m
    · refine ⟨x, List.mem_cons_self .., fun y hy => ?_⟩
      rcases List.mem_cons.mp hy with e | e
      · rw [e]; exact Nat.le_refl _
      · exact Nat.le_trans hx (h y e)
    · refine ⟨m, List.mem_cons_of_mem _ hm, fun y hy => ?_⟩
      rcases List.mem_cons.mp hy with e | e
      · rw [e]; omega
      · exact h y e
/-- a version that no other has to stand ahead of -/
theorem source {v : Nat} {l : List XOp} (ne : l ≠ []) (N : NoTwo v l) : ∃ x ∈ l, ∀ y ∈ l, ∀ z ∈ l, z.ver = x.ver → ¬ y.ver = x.ver → y.before z = false := by
  by_cases hs : ∃ x ∈ l, x.over ≠ none
  · obtain ⟨x0, hx0, ho⟩ := hs
    have ne2 : l.filter (fun x => x.over.isSome) ≠ [] := fun z => by
      have : x0 ∈ l.filter (fun x => x.over.isSome) := List.mem_filter.mpr ⟨hx0, by cases e : x0.over with | none => exact absurd e ho | some _ => rfl⟩
      rw [z] at this
      cases this
    obtain ⟨m, hm, least⟩ := least (fun x : XOp => x.over.getD 0) ne2
    obtain ⟨ml, mo⟩ := List.mem_filter.mp hm
    obtain ⟨em, hem⟩ := Option.isSome_iff_exists.mp mo
    by_cases hsrc : ∀ y ∈ l, ∀ z ∈ l, z.ver = m.ver → ¬ y.ver = m.ver → y.before z = false
    · exact ⟨m, ml, hsrc⟩
    · have : ∃ y ∈ l, ∃ z ∈ l, z.ver = m.ver ∧ ¬ y.ver = m.ver ∧ y.before z = true := by
        refine Classical.byContradiction fun no => hsrc fun y hy z hz ez ny => ?_
        cases hb : y.before z with
        | false => rfl
        | true => exact absurd ⟨y, hy, z, hz, ez, ny, hb⟩ no
      obtain ⟨y, hy, z, hz, ez, ny, hb⟩ := this
      refine ⟨y, hy, fun p hp q hq eq np => ?_⟩
      cases hpq : p.before q with
      | false => rfl
      | true =>
        have mq : m.before q = true := by
          unfold XOp.before at hpq ⊢
          cases ep : p.over with
          | none => rw [ep] at hpq; cases hpq
          | some e =>
            rw [ep] at hpq
            have z1 : e < q.begun := of_decide_eq_true hpq
            have z2 := least p (List.mem_filter.mpr ⟨hp, by rw [ep]; rfl⟩)
            rw [hem, ep] at z2
            have z2 : em ≤ e := z2
            rw [hem]
            exact decide_eq_true (by omega)
        exact (N.two m ml q hq y hy z hz ez.symm eq (fun e => ny (eq.symm.trans e.symm)) mq hb).elim
  · obtain ⟨x, l', rfl⟩ : ∃ x l', l = x :: l' := by
      cases l with
      | nil => exact absurd rfl ne
      | cons x l' => exact ⟨x, l', rfl⟩
    refine ⟨x, List.mem_cons_self .., fun y hy z hz _ _ => ?_⟩
    unfold XOp.before
    cases e : y.over with
    | none => rfl
    | some k => exact absurd ⟨y, hy, by rw [e]; simp⟩ hs
theorem NoTwo.erase {v i : Nat} {l : List XOp} (N : NoTwo v l) : NoTwo v (l.eraseIdx i) :=
  ⟨fun y hy z hz => N.head y (mem_erase hy) z (mem_erase hz), fun x1 a y1 b y2 d x2 e => N.two x1 (mem_erase a) y1 (mem_erase b) y2 (mem_erase d) x2 (mem_erase e)⟩
theorem no_ord : ∀ {n : Nat} {l : List XOp} {v : Nat}, l.length ≤ n → NoTwo v l → OneW v l → Fit v l → ordB n l v = true
  | 0, [], _, _, _, _, _ => rfl
  | _ + 1, [], _, _, _, _, _ => rfl
  | 0, _ :: _, _, h, _, _, _ => absurd h (by simp)
  | n + 1, a :: l, v, hl, N, W, F => by
    rw [ordB_step (by simp)]
    have len : ∀ {i : Nat} {o : XOp}, (a :: l)[i]? = some o → ((a :: l).eraseIdx i).length ≤ n := fun e => by
      have := (List.getElem?_eq_some_iff.mp e).1
      rw [List.length_eraseIdx, if_pos this]
      have : (a :: l).length ≤ n + 1 := hl
      omega
    have at_ : ∀ {o : XOp}, o ∈ a :: l → ∃ i, (a :: l)[i]? = some o := fun h => by
      obtain ⟨i, hi, e⟩ := List.getElem_of_mem h
      exact ⟨i, by rw [List.getElem?_eq_getElem hi, e]⟩
    by_cases hv : ∃ x ∈ a :: l, x.ver = v
    · obtain ⟨x0, hx0, ev0⟩ := hv
      have ne : (a :: l).filter (fun x => decide (x.ver = v)) ≠ [] := fun z => by
        have : x0 ∈ (a :: l).filter (fun x => decide (x.ver = v)) := List.mem_filter.mpr ⟨hx0, decide_eq_true ev0⟩
        rw [z] at this
        cases this
      obtain ⟨o, ho, least⟩ := least (fun x : XOp => x.begun) ne
      obtain ⟨om, ov⟩ := List.mem_filter.mp ho
      have ov := of_decide_eq_true ov
      obtain ⟨i, eo⟩ := at_ om
      have W' := W.erase eo (.inr ov)
      rw [ov] at W'
      refine ⟨i, o, eo, fun y hy => ?_, .inr ov, ?_⟩
      · by_cases ey : y.ver = v
        · unfold XOp.before
          cases e : y.over with
          | none => rfl
          | some k =>
            have z1 := F.self y (mem_erase hy) k e
            have z2 := least y (List.mem_filter.mpr ⟨mem_erase hy, decide_eq_true ey⟩)
            exact decide_eq_false (by omega)
        · exact N.head y (mem_erase hy) o om ov ey
      · rw [ov]
        refine no_ord (len eo) N.erase W' ⟨fun x hx => F.self x (mem_erase hx), fun r hr nr wr => ?_⟩
        obtain ⟨w, hw, h1, h2, h3⟩ := F.wr r (mem_erase hr) nr wr
        rcases mem_split eo hw with z | z
        · rw [z, ov] at h2
          exact absurd h2.symm nr
        · exact ⟨w, z, h1, h2, h3⟩
    · obtain ⟨x, hx, src⟩ := source (by simp) N
      have nv : ∀ y ∈ a :: l, ¬ y.ver = v := fun y hy e => hv ⟨y, hy, e⟩
      obtain ⟨o, om, ow, ox⟩ : ∃ o ∈ a :: l, o.wr = true ∧ o.ver = x.ver := by
        cases hw : x.wr with
        | true => exact ⟨x, hx, hw, rfl⟩
        | false =>
          obtain ⟨w, a1, a2, a3, _⟩ := F.wr x hx (nv x hx) hw
          exact ⟨w, a1, a2, a3⟩
      obtain ⟨i, eo⟩ := at_ om
      have W' := W.erase eo (.inl ow)
      refine ⟨i, o, eo, fun y hy => ?_, .inl ow, ?_⟩
      · by_cases ey : y.ver = x.ver
        · cases hw : y.wr with
          | true =>
            obtain ⟨j, hj, ej⟩ := List.getElem_of_mem hy
            have ej : ((a :: l).eraseIdx i)[j]? = some y := by rw [List.getElem?_eq_getElem hj, ej]
            obtain ⟨j', n1, e1, _⟩ := erase_at ej
            exact absurd (W.one j' i y o e1 eo hw ow (ey.trans ox.symm)) n1
          | false =>
            obtain ⟨w, a1, a2, a3, a4⟩ := F.wr y (mem_erase hy) (nv y (mem_erase hy)) hw
            obtain ⟨j, ej⟩ := at_ a1
            have := W.one j i w o ej eo a2 ow (a3.trans (ey.trans ox.symm))
            rw [this, eo] at ej
            cases ej
            exact a4
        · exact src y (mem_erase hy) o om ox ey
      · refine no_ord (len eo) ⟨fun y hy z hz ez ny => src y (mem_erase hy) z (mem_erase hz) (ez.trans ox) (fun e => ny (e.trans ox.symm)), N.erase.two⟩ W' ⟨fun x hx => F.self x (mem_erase hx), fun r hr nr wr => ?_⟩
        obtain ⟨w, hw, h1, h2, h3⟩ := F.wr r (mem_erase hr) (nv r (mem_erase hr)) wr
        rcases mem_split eo hw with z | z
        · rw [z] at h2
          exact absurd h2.symm nr
        · exact ⟨w, z, h1, h2, h3⟩
/-- an order there is just if no two versions bar each other -/
theorem ord_iff {n v : Nat} {l : List XOp} (hn : l.length ≤ n) (W : OneW v l) (F : Fit v l) : ordB n l v = true ↔ NoTwo v l := ⟨fun h => ord_no h W, fun N => no_ord hn N W F⟩
end Ca

set_option Elab.async false
set_option linter.all false
set_option maxRecDepth 100000
set_option maxHeartbeats 4000000
namespace Ca
open PySem L2
theorem for_enumO {K : PySem.W.Frag} {a : Addr} {xs : List V} {g : TG} {tb : TS} {D : Ends} {σ : St} {H : Hp} (Pv : Nat → St → Hp → Prop) (h0 : Pv 0 σ H) (hl : ∀ i σ H, i ≤ xs.length → Pv i σ H → SqL K H a xs)
    (hs : ∀ i x σ H T, xs[i]? = some x → Pv i σ H → H T = none → g (.ref T) σ (upd H T (.tup [.int (i : Nat), x])) fun σ2 H2 => tb { D with nx := Pv (i + 1), ct := Pv (i + 1), bk := D.nx } σ2 H2) (hd : ∀ σ H, Pv xs.length σ H → D.nx σ H) :
    ∃ W : Nat → Nat → St → Hp → Prop, (∃ m, W 0 m σ H) ∧ ∀ i m σ H, W i m σ H →
      ((Ite K a).stop i H ∧ D.nx σ H) ∨ ((Ite K a).go i H ∧ ∃ N : St → Hp → Prop, (∀ σ' H', N σ' H' → ∃ m', m' < m ∧ W (i + 1) m' σ' H') ∧ ∀ x H', (Ite K a).yld i H x H' → g x σ H' fun σ2 H2 => tb { D with nx := N, ct := N, bk := D.nx } σ2 H2) := by
  refine ⟨fun i m σ H => m = xs.length - i ∧ i ≤ xs.length ∧ Pv i σ H, ⟨xs.length, by simp, Nat.zero_le _, h0⟩, ?_⟩
  rintro i m σ H ⟨rfl, hi, p⟩
  have q := hl i σ H hi p
  by_cases hlt : i < xs.length
  · refine .inr ⟨⟨xs, xs[i], q, by simp [hlt]⟩, Pv (i + 1), fun σ' H' p' => ⟨xs.length - (i + 1), by omega, rfl, hlt, p'⟩, fun v H' y => ?_⟩
    obtain ⟨T, x, rfl, nT, rfl, y⟩ := y
    exact hs i x σ _ T (y xs q) p nT
  · have e : i = xs.length := by omega
    subst e
    exact .inl ⟨⟨xs, q, Nat.le_refl _⟩, hd σ H p⟩
/-! ### the law's own search for an order -/
structure XAt (H : Hp) (b : Addr) (o : XOp) : Prop where
  at_ : ∃ kvs, H b = some (.dK kvs) ∧ valV kvs (Sum.inr "over") = some (on o.over) ∧ valV kvs (Sum.inr "begun") = some (.int (o.begun : Int)) ∧ valV kvs (Sum.inr "version") = some (.int (o.ver : Int)) ∧ ∃ kd : Str, valV kvs (Sum.inr "kind") = some (.str kd) ∧ decide (kd = "write") = o.wr
abbrev XRefs (H : Hp) (xs : List V) (os : List XOp) : Prop := Paired (fun x o => ∃ b, x = V.ref b ∧ XAt H b o) xs os
theorem XAt.ex {H H' : Hp} {b : Addr} {o : XOp} (h : XAt H b o) (e : Evl.Ex H H') : XAt H' b o := by
  obtain ⟨kvs, a, r⟩ := h.at_
  exact ⟨kvs, e _ _ a, r⟩
theorem XRefs.ex {H H' : Hp} {xs : List V} {os : List XOp} (h : XRefs H xs os) (e : Evl.Ex H H') : XRefs H' xs os := Paired.mapP h fun _ _ ⟨b, r, z⟩ => ⟨b, r, z.ex e⟩
@[irreducible] def spOrd (K : PySem.W.Frag) (n : Nat) : Sp := fun vs H Q _ => ∃ (l : Addr) (v : Nat) (xs : List V) (os : List XOp), vs = [.ref l, .int (v : Int)] ∧ SqL K H l xs ∧ XRefs H xs os ∧ os.length ≤ n ∧ n ≤ 100 ∧ ∀ H', Evl.Ex H H' → Q (.bl (ordB n os v)) H'
theorem ord_i {K : PySem.W.Frag} {n v : Nat} {l : Addr} {xs : List V} {os : List XOp} {H : Hp} {Q : VK} {E : XK} (hs : SqL K H l xs) (X : XRefs H xs os) (hn : os.length ≤ n) (h100 : n ≤ 100) (q : ∀ H', Evl.Ex H H' → Q (.bl (ordB n os v)) H') : spOrd K n [.ref l, .int (v : Int)] H Q E := by
  unfold spOrd
  exact ⟨l, v, xs, os, rfl, hs, X, hn, h100, q⟩
/-- a place that may stand first -/
def tstB (n : Nat) (l : List XOp) (v i : Nat) : Bool := match l[i]? with
  | none => false
  | some o => ((l.eraseIdx i).all fun y => !y.before o) && (o.wr || decide (o.ver = v)) && ordB n (l.eraseIdx i) o.ver
theorem ordB_any {n v : Nat} {l : List XOp} (ne : l ≠ []) : ordB (n + 1) l v = (List.range l.length).any (tstB n l v) := by
  cases l with
  | nil => exact absurd rfl ne
  | cons x l => rfl
theorem ordB_nil {n v : Nat} : ordB n [] v = true := by cases n <;> rfl
theorem erase_eq {α : Type} (l : List α) (i : Nat) : l.eraseIdx i = l.take i ++ l.drop (i + 1) := List.eraseIdx_eq_take_drop_succ ..
theorem cut_to (xs : List V) (i : Nat) : cutV xs none (some (i : Int)) = xs.take i := by
  unfold cutV
  rw [HT.sIx_none, HT.sIx_nat, List.drop_zero, Nat.sub_zero]
  by_cases h : i ≤ xs.length
  · rw [Nat.min_eq_left h]
  · rw [Nat.min_eq_right (by omega), List.take_of_length_le (Nat.le_refl _), List.take_of_length_le (by omega)]
theorem cut_from (xs : List V) (i : Nat) : cutV xs (some ((i : Int) + 1)) none = xs.drop (i + 1) := by
  unfold cutV
  rw [show ((i : Int) + 1) = ((i + 1 : Nat) : Int) from by omega, HT.sIx_nat, HT.sIx_none]
  by_cases h : i + 1 ≤ xs.length
  · rw [Nat.min_eq_left h]
    exact List.take_of_length_le (by rw [List.length_drop]; exact Nat.le_refl _)
  · rw [Nat.min_eq_right (by omega), Nat.sub_self, List.take_zero, List.drop_eq_nil_of_le (by omega)]
theorem prd_take {α β : Type} {R : α → β → Prop} : ∀ (i : Nat) {xs : List α} {ys : List β}, Paired R xs ys → Paired R (xs.take i) (ys.take i)
  | 0, _, _, _ => by rw [List.take_zero, List.take_zero]; exact .nil
  | _ + 1, _, _, .nil => .nil
  | i + 1, _, _, .cons h r => .cons h (prd_take i r)
theorem prd_drop {α β : Type} {R : α → β → Prop} : ∀ (i : Nat) {xs : List α} {ys : List β}, Paired R xs ys → Paired R (xs.drop i) (ys.drop i)
  | 0, _, _, h => h
  | _ + 1, _, _, .nil => .nil
  | i + 1, _, _, .cons _ r => prd_drop i r
theorem xs_all {f : XOp → Bool} : ∀ {l : List XOp}, (l.filter f).isEmpty = l.all fun y => !f y
  | [] => rfl
  | x :: l => by
    rw [List.filter_cons, List.all_cons]
    cases f x with
    | true => rfl
    | false => exact xs_all
section
variable {K : PySem.W.Frag} {a : Addr} {g : TG} {tt : TT} {te : TE} {vs : List Nat} {σ : St} {H : Hp} {D : Addr} {Qd : Hp → Prop} {j : Nat} {xs : List V} {os : List XOp}
theorem lcXs (p : XOp → Bool) (nD : H D = none) (hs : SqL K H a xs) (X : XRefs H xs os) (hl : xs.length ≤ 200) (hg : g = gName j) (hw : ∀ x, wipe ((wipe σ vs).set j (some x)) vs = wipe σ vs)
    (ht : ∀ b o, XAt H b o → o ∈ os → Evl.EvT tt ((wipe σ vs).set j (some (.ref b))) H (p o)) (he : ∀ b, Evl.Ev te ((wipe σ vs).set j (some (.ref b))) H (.ref b))
    (hq : ∀ H' acc, Evl.Ex H H' → H' D = some (.lst acc) → XRefs H acc (os.filter p) → Qd H') :
    ∃ W : Nat → Nat → Hp → Prop, (∃ m, W 0 m (upd H D (.lst []))) ∧ ∀ i m H', W i m H' →
      ((Itl K a).stop i H' ∧ Qd H') ∨ ((Itl K a).go i H' ∧ ∃ Nx : Hp → Prop, (∀ H', Nx H' → ∃ m', m' < m ∧ W (i + 1) m' H') ∧ ∀ x H'', (Itl K a).yld i H' x H'' → g x (wipe σ vs) H'' fun σ2 H2 => wipe σ2 vs = wipe σ vs ∧ tt σ2 H2 fun b H3 =>
        if b = true then te σ2 H3 fun y H4 => ∃ acc, H4 D = some (.lst acc) ∧ acc.length < sizeLine ∧ Nx (upd H4 D (.lst (acc ++ [y]))) else Nx H3) := by
  subst hg
  refine lc_list (xs := xs) (fun i H' => ∃ acc, Evl.Ex H H' ∧ H' D = some (.lst acc) ∧ XRefs H acc ((os.take i).filter p)) ⟨[], Evl.Ex.new nD, upd_same, .nil⟩ (fun i H' _ ⟨_, e, _⟩ => Evl.ex_l e hs) (fun i x H' hi ⟨acc, e, hD, R⟩ => ⟨?_, ?_⟩) fun H' ⟨acc, e, hD, R⟩ => ?_
  · exact hw x
  · obtain ⟨o, eo, b, rfl, hb⟩ := pget X hi
    have h3 : os.take (i + 1) = os.take i ++ [o] := by
      rw [List.take_succ, eo]
      rfl
    have al : acc.length ≤ 200 := by
      rw [R.length]
      refine Nat.le_trans (List.length_filter_le _ _) ?_
      rw [List.length_take, ← X.length]
      omega
    refine ht b o hb (List.mem_of_getElem? eo) H' e _ fun H2 e2 => ?_
    cases hp : p o with
    | true =>
      show te _ H2 _
      refine he b H2 (e.trans e2) _ fun H3 e3 => ⟨acc, e3 _ _ (e2 _ _ hD), Nat.lt_of_le_of_lt al (by decide), acc ++ [.ref b], Evl.Ex.mut ((e.trans e2).trans e3) nD, upd_same, ?_⟩
      rw [h3, List.filter_append, List.filter_cons, if_pos hp]
      exact Paired.app R (.cons ⟨b, rfl, hb⟩ .nil)
    | false =>
      show ∃ acc, _
      refine ⟨acc, e.trans e2, e2 _ _ hD, ?_⟩
      rw [h3, List.filter_append, List.filter_cons, if_neg (by rw [hp]; decide)]
      simpa using R
  · rw [X.length, List.take_length] at R
    exact hq H' acc e hD R
end
section
variable {P : Program} {w : World} {K : PySem.W.Frag} {mg : Str → Option Value} {base : Heap}
theorem ok_Lordered (n : Nat) : ∀ (T : Txt K mg), FnOk P w K mg base CX0 (n + 1) T.f_Lordered T.fd_Lordered ["left", "version"] (spOrd K n) := by
  induction n with
  | zero =>
    intro T
    refine T.F_Lordered.ok sc_Lordered (fun vs H Q E h => ?_) (fun cdv A outer s H vs Q E hr h => ?_)
    · unfold spOrd at h
      obtain ⟨l, v, xs, os, rfl, _⟩ := h
      rfl
    · unfold spOrd at h
      obtain ⟨l, v, xs, os, rfl, hs, X, hn, h100, q⟩ := h
      refine ⟨_, (pss_cons (ps_if (pt_cmpR (op_eqNil (un1 hr)) (pv 0) (pe_lst pa_nil) (nomark _)) (pss_one (ps_ret pe_bl)) pss_nil) (pss_cons ps_never (pss_one ps_never))), ?_⟩
      refine ⟨_, rfl, by show 0 ≤ sizeLine; decide, fun l0 nl0 => ⟨_, _, xs, rfl, rfl, Evl.ex_l (Evl.Ex.new nl0) hs, SqL.of upd_same, _, rfl, ?_⟩⟩
      have e1 := Evl.Ex.new (o := .lst []) nl0
      cases X with
      | nil => exact iteT (q _ e1)
      | cons _ _ => exact absurd hn (by simp)
  | succ n ih =>
    intro T
    refine T.F_Lordered.ok sc_Lordered (fun vs H Q E h => ?_) (fun cdv A outer s H vs Q E hr h => ?_)
    · unfold spOrd at h
      obtain ⟨l, v, xs, os, rfl, _⟩ := h
      rfl
    · unfold spOrd at h
      obtain ⟨l, v, xs, os, rfl, hs, X, hn, h100, q⟩ := h
      have hu := hu_of hr
      refine ⟨_, (pss_cons (ps_if (pt_cmpR (op_eqNil (un1 hr)) (pv 0) (pe_lst pa_nil) (nomark _)) (pss_one (ps_ret pe_bl)) pss_nil)
      (pss_cons (ps_for PassesOwn.never rfl (pi_enum (by rfl) T.n_enumerate (pa_cons (pv 0) pa_nil)) (pg_tup rfl (pgs_cons (pg_name (i := 2) sc_Lordered.nd rfl (Or.inl rfl)) (pgs_cons (pg_name (i := 3) sc_Lordered.nd rfl (Or.inr rfl)) pgs_nil))) (pss_cons (ps_set (i := 4) sc_Lordered.nd rfl (Or.inl rfl) (pe_op op_cat (pe_slice sl_list (pv 0) po_none (po_some (pv 2))) (pe_slice sl_list (pv 0) (po_some (pe_op op_add (pv 2) pe_int)) po_none)))
      (pss_cons (ps_setLc (i := 5) (own := [("other", 6)]) rfl sc_Lordered.nd rfl rfl (sw_true rfl rfl rfl (by decide +kernel)) (pi_list (pv 4)) (blkOk_by (N := ["left", "version", "at", "one", "others", "late", "other"]) (sc := defScope s_Lordered) (by decide +kernel)) (fun _ _ _ _ _ => (pg_name (i := 6) sc_Lordered.nd rfl (Or.inl rfl))) (fun _ _ _ _ _ => (pts_one (PW.pt (pw_and (pt_cmpR op_notN (pe_dget hu (pv 6) pe_str (fun _ _ => rfl)) pe_non (nomark _)) (pw_and1 (pt_cmpR op_lt (pe_dget hu (pv 6) pe_str (fun _ _ => rfl)) (pe_dget hu (pv 3) pe_str (fun _ _ => rfl)) (nomark _))))))) (fun _ _ _ _ _ => (pv 6)))
      (pss_one (ps_if (PW.pt (pw_and (pt_cmpR (op_eqNil (un1 hr)) (pv 5) (pe_lst pa_nil) (nomark _)) (pw_and (PW.pt (pw_or (pt_cmpR op_eq (pe_dget hu (pv 3) pe_str (fun _ _ => rfl)) pe_str (nomark _)) (pw_or1 (pt_cmpR op_eq (pe_dget hu (pv 3) pe_str (fun _ _ => rfl)) (pv 1) (nomark _))))) (pw_and1 (pt_val (pe_call (ih T) hr rfl T.m_Lordered T.F_Lordered.kp (b_Lordered T) .nil pass0 (pa_cons (pv 4) (pa_cons (pe_dget hu (pv 3) pe_str (fun _ _ => rfl)) pa_nil)))))))) (pss_one (ps_ret pe_bl)) pss_nil)))))
      (pss_one (ps_ret pe_bl)))), ?_⟩
      refine ⟨_, rfl, by show 0 ≤ sizeLine; decide, fun l0 nl0 => ⟨_, _, xs, rfl, rfl, Evl.ex_l (Evl.Ex.new nl0) hs, SqL.of upd_same, _, rfl, ?_⟩⟩
      have e1 := Evl.Ex.new (o := .lst []) nl0
      generalize upd H l0 (.lst []) = H1 at e1
      have es : xs.isEmpty = os.isEmpty := by cases X <;> rfl
      rw [Bool.bne_false, es]
      cases os with
      | nil =>
        rw [ordB_nil] at q
        exact iteT (q _ e1)
      | cons o0 os0 =>
      refine iteF ?_
      have ne : o0 :: os0 ≠ [] := by simp
      rw [ordB_any ne] at q
      generalize o0 :: os0 = os at X hn q ne es
      have xl : xs.length = os.length := X.length
      refine ⟨_, rfl, l, xs, rfl, Evl.ex_l e1 hs, for_enumO (xs := xs) (fun i σ' H' => ∃ x2 x3 x4 x5, σ' = [some (.ref l), some (.int (v : Int)), x2, x3, x4, x5, none] ∧ Evl.Ex H H' ∧ ∀ j, j < i → tstB n os v j = false) ⟨_, _, _, _, rfl, e1, fun j hj => absurd hj (Nat.not_lt_zero j)⟩ (fun i σ' H' _ ⟨_, _, _, _, _, e, _⟩ => Evl.ex_l e hs) ?_ ?_⟩
      · rintro i x σ' H2 tt hi ⟨x2, x3, x4, x5, rfl, e2, no⟩ ntt
        obtain ⟨o, eo, b, rfl, hb⟩ := pget X hi
        have e3 := e2.trans (Evl.Ex.new (o := .tup [.int (i : Nat), .ref b]) ntt)
        have htt : (upd H2 tt (.tup [.int (i : Nat), .ref b])) tt = some (.tup [.int (i : Nat), .ref b]) := upd_same
        generalize upd H2 tt (.tup [.int (i : Nat), .ref b]) = H3 at e3 htt
        refine ⟨tt, _, rfl, SqT.of htt, rfl, _, _, rfl, _, _, rfl, rfl, ?_⟩
        -- the others
        refine ⟨_, rfl, _, rfl, _, rfl, l, xs, rfl, Evl.ex_l e3 hs, fun p1 np1 => ?_⟩
        have e4 := e3.trans (Evl.Ex.new (o := .lst (cutV xs none (some (i : Int)))) np1)
        have hp1 : (upd H3 p1 (.lst (cutV xs none (some (i : Int))))) p1 = some (.lst (xs.take i)) := by rw [← cut_to]; exact upd_same
        generalize upd H3 p1 (.lst (cutV xs none (some (i : Int)))) = H4 at e4 hp1
        refine ⟨_, rfl, _, rfl, _, _, rfl, rfl, _, rfl, l, xs, rfl, Evl.ex_l e4 hs, fun p2 np2 => ?_⟩
        have e5 := e4.trans (Evl.Ex.new (o := .lst (cutV xs (some ((i : Int) + 1)) none)) np2)
        have hp2 : (upd H4 p2 (.lst (cutV xs (some ((i : Int) + 1)) none))) p2 = some (.lst (xs.drop (i + 1))) := by rw [← cut_from]; exact upd_same
        have hp1 := same_new (o := .lst (cutV xs (some ((i : Int) + 1)) none)) np2 _ _ hp1
        generalize upd H4 p2 (.lst (cutV xs (some ((i : Int) + 1)) none)) = H5 at e5 hp1 hp2
        have lo : (xs.take i).length + (xs.drop (i + 1)).length ≤ 100 := by
          rw [List.length_take, List.length_drop]
          omega
        refine ⟨p1, p2, _, _, rfl, rfl, hp1, hp2, Nat.le_trans lo (by decide), fun p3 np3 => ?_⟩
        have e6 := e5.trans (Evl.Ex.new (o := .lst (xs.take i ++ xs.drop (i + 1))) np3)
        have hp3 : (upd H5 p3 (.lst (xs.take i ++ xs.drop (i + 1)))) p3 = some (.lst (xs.take i ++ xs.drop (i + 1))) := upd_same
        generalize upd H5 p3 (.lst (xs.take i ++ xs.drop (i + 1))) = H6 at e6 hp3
        have X6 := X.ex e6
        have XE : XRefs H6 (xs.take i ++ xs.drop (i + 1)) (os.eraseIdx i) := by
          rw [erase_eq]
          exact Paired.app (prd_take i X6) (prd_drop (i + 1) X6)
        have hb6 := hb.ex e6
        refine ⟨_, rfl, p3, rfl, ⟨_, SqL.of hp3⟩, fun D nD => lcXs (fun y => y.before o) nD (SqL.of hp3) XE (by rw [List.length_append]; omega) rfl (fun _ => rfl) (fun b' y hb' my => ?_) (fun b => Evl.ev_var rfl) fun H7 acc e7 hD R => ?_⟩
        · intro H8 e8 Q8 q8
          obtain ⟨kv, k1, k2, k3, k4, k5⟩ := (hb'.ex e8).at_
          obtain ⟨kw, w1, w2, w3, w4, w5⟩ := (hb6.ex e8).at_
          refine ⟨_, rfl, _, _, rfl, dget k1 k2, rfl, _, rfl, ?_⟩
          unfold XOp.before at q8
          cases ey : y.over with
          | none =>
            rw [ey] at q8
            exact iteF (q8 _ (Evl.Ex.refl _))
          | some z =>
            rw [ey] at q8 k2
            refine iteT ⟨_, rfl, _, _, rfl, dget k1 k2, _, rfl, _, _, rfl, dget w1 w3, _, _, rfl, rfl, _, rfl, ?_⟩
            have ed : decide ((z : Int) < (o.begun : Int)) = decide (z < o.begun) := by simp
            rw [ed]
            exact q8 _ (Evl.Ex.refl _)
        have al : acc.length ≤ 200 := by
          rw [R.length]
          refine Nat.le_trans (List.length_filter_le _ _) ?_
          rw [← XE.length, List.length_append]
          omega
        have et : tstB n os v i = (((os.eraseIdx i).all fun y => !y.before o) && (o.wr || decide (o.ver = v)) && ordB n (os.eraseIdx i) o.ver) := by
          unfold tstB
          rw [eo]
        have miss : tstB n os v i = false → ∀ j, j < i + 1 → tstB n os v j = false := fun h j hj => by
          by_cases z : j = i
          · rw [z]; exact h
          · exact no j (by omega)
        have hit : tstB n os v i = true → (List.range os.length).any (tstB n os v) = true := fun h => List.any_eq_true.mpr ⟨i, List.mem_range.mpr (List.getElem?_eq_some_iff.mp eo).1, h⟩
        have elen : (os.eraseIdx i).length ≤ n := by
          have := (List.getElem?_eq_some_iff.mp eo).1
          rw [List.length_eraseIdx, if_pos this]
          omega
        refine ⟨_, rfl, by show 0 ≤ sizeLine; decide, fun l1 nl1 => ⟨_, _, acc, rfl, rfl, SqL.of (same_new nl1 _ _ hD), SqL.of upd_same, _, rfl, ?_⟩⟩
        have e8 := (e6.trans e7).trans (Evl.Ex.new (o := .lst []) nl1)
        have hp8 := same_new (o := .lst []) nl1 _ _ (e7 _ _ hp3)
        generalize upd H7 l1 (.lst []) = H8 at e8 hp8
        have ea : acc.isEmpty = (os.eraseIdx i).all fun y => !y.before o := by
          rw [← xs_all]
          generalize List.filter (fun y => y.before o) (os.eraseIdx i) = fl at R ⊢
          cases R <;> rfl
        rw [Bool.bne_false, ea]
        have XE8 : XRefs H8 (xs.take i ++ xs.drop (i + 1)) (os.eraseIdx i) := by
          rw [erase_eq]
          exact Paired.app (prd_take i (X.ex e8)) (prd_drop (i + 1) (X.ex e8))
        obtain ⟨kw, w1, w2, w3, w4, kd, w5, w6⟩ := (hb.ex e8).at_
        have ek : decide (V.str kd = V.str "write") = o.wr := by
          rw [← w6]
          simp
        have ev : decide (V.int (o.ver : Int) = V.int (v : Int)) = decide (o.ver = v) := by
          rw [Bool.eq_iff_iff, decide_eq_true_eq, decide_eq_true_eq]
          constructor
          · intro h
            have := V.int.inj h
            omega
          · intro h
            rw [h]
        cases ha : (os.eraseIdx i).all fun y => !y.before o with
        | false =>
          rw [ha] at et
          exact iteF ⟨_, _, _, _, rfl, e8, miss (by rw [et]; rfl)⟩
        | true =>
        rw [ha, Bool.true_and] at et
        refine iteT ⟨_, rfl, _, _, rfl, dget w1 w5, rfl, _, rfl, ?_⟩
        rw [ek]
        cases hw : o.wr with
        | true =>
          rw [hw, Bool.true_or, Bool.true_and] at et
          refine iteT ⟨_, rfl, _, rfl, _, _, rfl, dget w1 w4, ?_⟩
          refine ord_i (SqL.of hp8) XE8 elen (by omega) fun H9 e9 => ⟨_, rfl, ?_⟩
          rw [← et]
          refine iteB (fun h => ?_) (fun h => ?_)
          · rw [hit h] at q
            exact q _ (e8.trans e9)
          · exact ⟨_, _, _, _, rfl, e8.trans e9, miss h⟩
        | false =>
          rw [hw, Bool.false_or] at et
          refine iteF ⟨_, rfl, _, _, rfl, dget w1 w4, _, rfl, rfl, _, rfl, ?_⟩
          rw [ev]
          cases hv : decide (o.ver = v) with
          | false =>
            rw [hv] at et
            exact iteF ⟨_, _, _, _, rfl, e8, miss (by rw [et]; rfl)⟩
          | true =>
            rw [hv, Bool.true_and] at et
            refine iteT ⟨_, rfl, _, rfl, _, _, rfl, dget w1 w4, ?_⟩
            refine ord_i (SqL.of hp8) XE8 elen (by omega) fun H9 e9 => ⟨_, rfl, ?_⟩
            rw [← et]
            refine iteB (fun h => ?_) (fun h => ?_)
            · rw [hit h] at q
              exact q _ (e8.trans e9)
            · exact ⟨_, _, _, _, rfl, e8.trans e9, miss h⟩
      · rintro σ' H2 ⟨x2, x3, x4, x5, rfl, e2, no⟩
        have z : (List.range os.length).any (tstB n os v) = false := by
          rw [List.any_eq_false]
          intro j hj
          rw [no j (by rw [xl]; exact List.mem_range.mp hj)]
          decide
        rw [z] at q
        exact q _ e2
end
end Ca

set_option Elab.async false
set_option linter.all false
set_option maxRecDepth 100000
set_option maxHeartbeats 4000000
namespace Ca
open PySem L2
/-! ### whether a run's reads and writes can be put in one order, by the law -/
def rDictO (K : PySem.W.Frag) : List V → Hp → VK → Prop := fun xs H Q => ∃ (a : Addr) (ps : List Addr) (kvs : List (Key × V)), xs = [.ref a] ∧ SqL K H a (ps.map V.ref) ∧ Paired (fun p kv => SqT K H p [kV kv.1, kv.2]) ps kvs ∧
    ∀ p, H p = none → Q (.ref p) (upd H p (.dK (mergeK [] kvs)))
def rdX (o : OpS) : XOp := ⟨o.begun, o.over, false, o.version.getD 0⟩
def wrX (o : OpS) : XOp := ⟨o.begun, if o.stage = ("ended" : Str) then o.over else none, true, o.version.getD 0⟩
def readsL (s : HS) : List OpS := s.ops.filter fun o => decide (o.kind = ("read" : Str)) && decide (o.stage = ("ended" : Str))
def writesA (s : HS) : List OpS := s.ops.filter fun o => decide (o.kind = ("write" : Str)) && o.version.isSome
def toldB (s : HS) (o : OpS) : Bool := decide (o.stage = ("ended" : Str)) || (readsL s).any fun r => decide (r.version.getD 0 = o.version.getD 0)
def writesL (s : HS) : List OpS := (writesA s).filter (toldB s)
def inOrderH (s : HS) : Bool := ordB 14 ((readsL s).map rdX ++ (writesL s).map wrX) 0
theorem in_vers (l : List OpS) (v : Nat) : inV (.int (v : Int)) (l.map fun o => .int ((o.version.getD 0 : Nat) : Int)) = l.any fun r => decide (r.version.getD 0 = v) := by
  unfold inV
  rw [List.any_map]
  congr 1
  funext r
  show (((r.version.getD 0 : Nat) : Int) == (v : Int)) = decide (r.version.getD 0 = v)
  rw [Bool.eq_iff_iff, beq_iff_eq, decide_eq_true_eq]
  omega
theorem flat_ints (l : List OpS) : (l.map fun o => V.int ((o.version.getD 0 : Nat) : Int)).all flatV = true := by
  rw [List.all_eq_true]
  intro y hy
  obtain ⟨x, _, rfl⟩ := List.mem_map.mp hy
  rfl
theorem prd_mapO {α β γ : Type} {R : α → β → Prop} {S : α → γ → Prop} {f : β → γ} : ∀ {xs : List α} {os : List β}, Paired R xs os → (∀ x o, o ∈ os → R x o → S x (f o)) → Paired S xs (os.map f)
  | _, _, .nil, _ => .nil
  | _, _, .cons h r, g => .cons (g _ _ (List.mem_cons_self ..) h) (prd_mapO r fun x o m => g x o (List.mem_cons_of_mem _ m))
theorem len_rw : ∀ l : List OpS, (l.filter fun o => decide (o.kind = ("read" : Str)) && decide (o.stage = ("ended" : Str))).length + (l.filter fun o => decide (o.kind = ("write" : Str)) && o.version.isSome).length ≤ l.length
  | [] => Nat.le_refl _
  | o :: l => by
    have ih := len_rw l
    rw [List.filter_cons, List.filter_cons]
    by_cases hr : o.kind = ("read" : Str)
    · have z : decide (o.kind = ("write" : Str)) = false := by rw [hr]; decide +kernel
      rw [z, Bool.false_and]
      split <;> simp only [List.length_cons, Bool.false_eq_true, if_false] <;> omega
    · rw [decide_eq_false hr, Bool.false_and]
      simp only [Bool.false_eq_true, if_false]
      split <;> simp only [List.length_cons] <;> omega
theorem over_all {u : OpS} {x : Option Nat} : mergeK [] (oK u ++ ([(Sum.inr "over", on x)] : List (Key × V))) = oK { u with over := x } := by rfl
section
variable {P : Program} {w : World} {K : PySem.W.Frag} {mg : Str → Option Value} {base : Heap}
@[irreducible] def spInOrder : Sp := fun vs H Q _ => ∃ (c : Conf) (h : Addr) (A : LA) (s : HS), vs = [.ref h] ∧ c.Ok ∧ LawAt c H h A s ∧ Reach c s ∧ s.past.length ≤ 14 ∧ ∀ H', Evl.Ex H H' → Q (.bl (inOrderH s)) H'
theorem ok_Lin_order (T : Txt K mg) : FnOk P w K mg base CX0 20 T.f_Lin_order T.fd_Lin_order ["h"] spInOrder := by
  refine T.F_Lin_order.ok sc_Lin_order (fun vs H Q E h => ?_) (fun cdv A outer s H vs Q E hr h => ?_)
  · unfold spInOrder at h
    obtain ⟨c, h, A, s, rfl, _⟩ := h
    rfl
  · unfold spInOrder at h
    obtain ⟨c, h, A, s, rfl, O, L, r, l, q⟩ := h
    have hu := hu_of hr
    obtain ⟨W, hol⟩ := r.wf O
    have io := r.io O
    have sl : s.ops.length ≤ 14 := by omega
    have ol : (A.oas.map V.ref).length ≤ 200 := by
      rw [List.length_map, L.ol]
      omega
    have rv : ∀ o ∈ readsL s, ∃ v, o.version = some v := fun o ho => by
      obtain ⟨mo, pr⟩ := List.mem_filter.mp ho
      rw [Bool.and_eq_true, decide_eq_true_eq, decide_eq_true_eq] at pr
      exact Option.isSome_iff_exists.mp ((io o mo).ended O (.inl pr.1) pr.2)
    refine ⟨_, (pss_cons (ps_setLc (i := 1) (own := [("one", 5)]) rfl sc_Lin_order.nd rfl rfl (sw_true rfl rfl rfl (by decide +kernel)) (pi_list (pe_dget hu (pv 0) pe_str (fun _ _ => rfl))) (blkOk_by (N := ["h", "reads", "told", "writes", "plain", "one"]) (sc := defScope s_Lin_order) (by decide +kernel)) (fun _ _ _ _ _ => (pg_name (i := 5) sc_Lin_order.nd rfl (Or.inl rfl))) (fun _ _ _ _ _ => (pts_one (PW.pt (pw_and (pt_cmpR op_eq (pe_dget hu (pv 5) pe_str (fun _ _ => rfl)) pe_str (nomark _)) (pw_and1 (pt_cmpR op_eq (pe_dget hu (pv 5) pe_str (fun _ _ => rfl)) pe_str (nomark _))))))) (fun _ _ _ _ _ => (pv 5)))
      (pss_cons (ps_set (i := 2) sc_Lin_order.nd rfl (Or.inr rfl) (pe_lc (own := [("one", 5)]) rfl sc_Lin_order.nd (pi_list (pv 1)) (blkOk_by (N := ["h", "reads", "told", "writes", "plain", "one"]) (sc := defScope s_Lin_order) (by decide +kernel)) (fun _ _ _ _ _ => (pg_name (i := 5) sc_Lin_order.nd rfl (Or.inl rfl))) (fun _ _ _ _ _ => pts_nil) (fun _ _ _ _ _ => (pe_dget hu (pv 5) pe_str (fun _ _ => rfl)))))
      (pss_cons (ps_setLc (i := 3) (own := [("one", 5)]) rfl sc_Lin_order.nd rfl rfl (sw_true rfl rfl rfl (by decide +kernel)) (pi_list (pe_dget hu (pv 0) pe_str (fun _ _ => rfl))) (blkOk_by (N := ["h", "reads", "told", "writes", "plain", "one"]) (sc := defScope s_Lin_order) (by decide +kernel)) (fun _ _ _ _ _ => (pg_name (i := 5) sc_Lin_order.nd rfl (Or.inl rfl))) (fun _ _ _ _ _ => (pts_one (PW.pt (pw_and (pt_cmpR op_eq (pe_dget hu (pv 5) pe_str (fun _ _ => rfl)) pe_str (nomark _)) (pw_and1 (pt_cmpR op_notN (pe_dget hu (pv 5) pe_str (fun _ _ => rfl)) pe_non (nomark _))))))) (fun _ _ _ _ _ => (pv 5)))
      (pss_cons (ps_setLc (i := 3) (own := [("one", 5)]) rfl sc_Lin_order.nd rfl rfl (sw_true rfl rfl rfl (by decide +kernel)) (pi_list (pv 3)) (blkOk_by (N := ["h", "reads", "told", "writes", "plain", "one"]) (sc := defScope s_Lin_order) (by decide +kernel)) (fun _ _ _ _ _ => (pg_name (i := 5) sc_Lin_order.nd rfl (Or.inl rfl))) (fun _ _ _ _ _ => (pts_one (PW.pt (pw_or (pt_cmpR op_eq (pe_dget hu (pv 5) pe_str (fun _ _ => rfl)) pe_str (nomark _)) (pw_or1 (pt_cmpR (op_inK (K := K) rfl) (pe_dget hu (pv 5) pe_str (fun _ _ => rfl)) (pv 2) (by rfl))))))) (fun _ _ _ _ _ => (pv 5)))
      (pss_cons (ps_setLc (i := 4) (own := [("one", 5)]) rfl sc_Lin_order.nd rfl rfl (sw_true rfl rfl rfl (by decide +kernel)) (pi_list (pv 3)) (blkOk_by (N := ["h", "reads", "told", "writes", "plain", "one"]) (sc := defScope s_Lin_order) (by decide +kernel)) (fun _ _ _ _ _ => (pg_name (i := 5) sc_Lin_order.nd rfl (Or.inl rfl))) (fun _ _ _ _ _ => pts_nil) (fun _ _ _ _ _ => (pe_callTy (show CallR _ _ (rDictO K) from call_dictP rfl) (by rfl) T.n_dict (by decide +kernel) (pa_cons (pe_op op_cat (LiI.pe_listItems rfl (pv 5) (by rfl) T.n_list (by decide +kernel)) (pe_lst (pa_cons (pe_tup (pa_cons pe_str (pa_cons (pe_ifExp (pt_cmpR op_eq (pe_dget hu (pv 5) pe_str (fun _ _ => rfl)) pe_str (nomark _)) (pe_dget hu (pv 5) pe_str (fun _ _ => rfl)) pe_non) pa_nil))) pa_nil))) pa_nil))))
      (pss_one (ps_ret (pe_call (ok_Lordered 14 T) (hr.mono (by decide)) rfl T.m_Lordered T.F_Lordered.kp (b_Lordered T) .nil pass0 (pa_cons (pe_op op_cat (pv 1) (pv 4)) (pa_cons pe_int pa_nil)))))))))), ?_⟩
    -- the reads
    refine ⟨_, rfl, _, _, rfl, dget (L.hd) rfl, A.lo, rfl, ⟨_, SqL.of L.lo⟩, fun D1 nD1 => lcOps (A := A) (s := s) (fun o => decide (o.kind = ("read" : Str)) && decide (o.stage = ("ended" : Str))) nD1 (SqL.of L.lo) (all_refs L) ol rfl (fun _ => rfl) (fun k b u eb eu mu => ?_) (fun b => Evl.ev_var rfl) fun H1 acc1 e1 hD1 R1 => ?_⟩
    · have hb := L.og k b u eb eu
      have z : (decide (u.kind = ("read" : Str)) && decide (u.stage = ("ended" : Str))) = (decide (V.str u.kind = V.str "read") && decide (V.str u.stage = V.str "ended")) := by simp
      rw [z]
      exact Evl.et_and (Evl.et_test (Evl.ev_op (ev_dg rfl hb rfl) Evl.ev_c (Evl.rv_eq rfl))) (fun _ => Evl.et_test (Evl.ev_op (ev_dg rfl hb rfl) Evl.ev_c (Evl.rv_eq rfl)))
    have R1 : OpRefs A s acc1 (readsL s) := R1
    have L1 := L.same (same_ex e1)
    have l1 : acc1.length ≤ 200 := by
      rw [R1.length]
      exact Nat.le_trans (List.length_filter_le _ _) (by omega)
    -- what they returned
    refine ⟨_, rfl, D1, rfl, ⟨_, SqL.of hD1⟩, fun D2 nD2 => lcOpsM (A := A) (s := s) (fun _ => true) (fun o => .int ((o.version.getD 0 : Nat) : Int)) nD2 (SqL.of hD1) R1 l1 rfl (fun _ => rfl) (fun k b u eb eu mu H2 e2 Q2 q2 => q2 H2 (Evl.Ex.refl _)) (fun k b u eb eu mu _ => ?_) fun H2 e2 hD2 => ?_⟩
    · have hb := L1.og k b u eb eu
      obtain ⟨v, ev⟩ := rv u mu
      exact ev_dg rfl hb (by show some (on u.version) = _; rw [ev]; rfl)
    rw [List.filter_eq_self.mpr fun _ _ => rfl] at hD2
    have L2 := L1.same (same_ex e2)
    have hD12 := e2 _ _ hD1
    -- the writes
    refine ⟨_, rfl, _, _, rfl, dget (L2.hd) rfl, A.lo, rfl, ⟨_, SqL.of L2.lo⟩, fun D3 nD3 => lcOps (A := A) (s := s) (fun o => decide (o.kind = ("write" : Str)) && o.version.isSome) nD3 (SqL.of L2.lo) (all_refs L2) ol rfl (fun _ => rfl) (fun k b u eb eu mu => ?_) (fun b => Evl.ev_var rfl) fun H3 acc3 e3 hD3 R3 => ?_⟩
    · have hb := L2.og k b u eb eu
      have z : decide (u.kind = ("write" : Str)) = decide (V.str u.kind = V.str "write") := by simp
      show Evl.EvT _ _ _ (decide (u.kind = ("write" : Str)) && u.version.isSome)
      rw [z]
      refine Evl.et_and (Evl.et_test (Evl.ev_op (ev_dg rfl hb rfl) Evl.ev_c (Evl.rv_eq rfl))) (fun _ => ?_)
      intro H4 e4 Q4 q4
      refine ⟨_, rfl, _, _, rfl, dget (e4 _ _ hb) rfl, rfl, _, rfl, ?_⟩
      have zz : (!decide (on u.version = V.non)) = u.version.isSome := by cases u.version <;> rfl
      rw [zz]
      exact q4 _ (Evl.Ex.refl _)
    have R3 : OpRefs A s acc3 (writesA s) := R3
    have L3 := L2.same (same_ex e3)
    have hD13 := e3 _ _ hD12
    have hD23 := e3 _ _ hD2
    have l3 : acc3.length ≤ 200 := by
      rw [R3.length]
      exact Nat.le_trans (List.length_filter_le _ _) (by omega)
    have wv : ∀ o ∈ writesA s, ∃ v, o.version = some v := fun o ho => by
      have pr := (List.mem_filter.mp ho).2
      rw [Bool.and_eq_true] at pr
      exact Option.isSome_iff_exists.mp pr.2
    -- those that ended or were told
    refine ⟨_, rfl, D3, rfl, ⟨_, SqL.of hD3⟩, fun D4 nD4 => lcOps (A := A) (s := s) (toldB s) nD4 (SqL.of hD3) R3 l3 rfl (fun _ => rfl) (fun k b u eb eu mu => ?_) (fun b => Evl.ev_var rfl) fun H4 acc4 e4 hD4 R4 => ?_⟩
    · intro H5 e5 Q5 q5
      have hb := e5 _ _ (L3.og k b u eb eu)
      obtain ⟨v, ev⟩ := wv u mu
      refine ⟨_, rfl, _, _, rfl, dget hb rfl, rfl, _, rfl, ?_⟩
      have z : decide (V.str u.stage = V.str "ended") = decide (u.stage = ("ended" : Str)) := by simp
      rw [z]
      unfold toldB at q5
      cases he : decide (u.stage = ("ended" : Str)) with
      | true =>
        rw [he] at q5
        exact iteT (q5 _ (Evl.Ex.refl _))
      | false =>
        rw [he, Bool.false_or] at q5
        refine iteF ⟨_, rfl, _, _, rfl, dget hb (by show some (on u.version) = some (.int (v : Int)); rw [ev]; rfl), _, rfl, ?_⟩
        refine ⟨D2, _, rfl, .inl (SqL.of (e5 _ _ hD23)), rfl, flat_ints _, _, rfl, ?_⟩
        rw [in_vers]
        rw [ev] at q5
        exact q5 _ (Evl.Ex.refl _)
    have R4 : OpRefs A s acc4 (writesL s) := R4
    have L4 := L3.same (same_ex e4)
    have hD14 := e4 _ _ hD13
    have l4 : acc4.length ≤ 14 := by
      rw [R4.length]
      exact Nat.le_trans (List.length_filter_le _ _) (Nat.le_trans (List.length_filter_le _ _) sl)
    -- the writes, an end where they ended
    refine ⟨_, rfl, D4, rfl, ⟨_, SqL.of hD4⟩, fun D5 nD5 => ?_⟩
    refine lc_list (xs := acc4) (fun i H' => ∃ acc, Evl.Ex H4 H' ∧ H' D5 = some (.lst acc) ∧ XRefs H' acc (((writesL s).take i).map wrX)) ⟨[], Evl.Ex.new nD5, upd_same, .nil⟩ (fun i H' _ ⟨_, e, _⟩ => Evl.ex_l e (SqL.of hD4)) (fun i x H' hi ⟨acc, e, hD, X⟩ => ⟨rfl, ?_⟩) ?_
    · obtain ⟨u, eu, k, b, rfl, ek, es⟩ := pget R4 hi
      have mu : u ∈ writesL s := List.mem_of_getElem? eu
      have hb := e _ _ (L4.og k b u ek es)
      have h3 : (writesL s).take (i + 1) = (writesL s).take i ++ [u] := by
        rw [List.take_succ, eu]
        rfl
      have al : acc.length ≤ 200 := by
        rw [X.length, List.length_map, List.length_take]
        have := (List.getElem?_eq_some_iff.mp hi).1
        omega
      obtain ⟨v, ev⟩ := wv u (List.mem_filter.mp mu).1
      have kw : u.kind = ("write" : Str) := by
        have pr := (List.mem_filter.mp (List.mem_filter.mp mu).1).2
        rw [Bool.and_eq_true, decide_eq_true_eq] at pr
        exact pr.1
      have fin : ∀ (H6 : Hp) (l : Addr) (ts : List Addr), Same H' H6 → H6 l = some (.lst (ts.map V.ref)) → Paired (fun t kv => H6 t = some (.tup [kV kv.1, kv.2])) ts (oK u) → ∀ (t1 l1 : Addr), H6 t1 = none → (upd H6 t1 (.tup [.str "over", on (wrX u).over])) l1 = none →
          rCat (.ref l) (.ref l1) (upd (upd H6 t1 (.tup [.str "over", on (wrX u).over])) l1 (.lst [.ref t1])) (fun x H7 => rDictO K [x] H7 (fun y H8 => ∃ acc, H8 D5 = some (.lst acc) ∧ acc.length < sizeLine ∧ ∃ acc2, Evl.Ex H4 (upd H8 D5 (.lst (acc ++ [y]))) ∧ (upd H8 D5 (.lst (acc ++ [y]))) D5 = some (.lst acc2) ∧ XRefs (upd H8 D5 (.lst (acc ++ [y]))) acc2 (((writesL s).take (i + 1)).map wrX))) := fun H6 l ts s6 hl hts t1 l1 n1 nl1 => by
        have g1 := sN (same_new (o := .tup [.str "over", on (wrX u).over]) n1) (o := .lst [.ref t1]) nl1
        have f1 := same_new (o := .lst [.ref t1]) nl1 _ _ (upd_same (H := H6) (a := t1) (o := .tup [.str "over", on (wrX u).over]))
        have f2 : (upd (upd H6 t1 (.tup [.str "over", on (wrX u).over])) l1 (.lst [.ref t1])) l1 = some (.lst [.ref t1]) := upd_same
        generalize upd (upd H6 t1 (.tup [.str "over", on (wrX u).over])) l1 (.lst [.ref t1]) = H7 at g1 f1 f2 ⊢
        have tl : ts.length = 9 := hts.length
        refine ⟨_, _, _, _, rfl, rfl, g1 _ _ hl, f2, (by rw [List.length_map, tl]; show 10 ≤ sizeLine; decide), fun l7 n7 => ?_⟩
        have s7 := same_new (o := .lst (ts.map V.ref ++ [.ref t1])) n7
        have h7 : (upd H7 l7 (.lst (ts.map V.ref ++ [.ref t1]))) l7 = some (.lst ((ts ++ [t1]).map V.ref)) := by
          rw [upd_same, List.map_append]
          rfl
        generalize upd H7 l7 (.lst (ts.map V.ref ++ [.ref t1])) = H9 at s7 h7
        refine ⟨l7, ts ++ [t1], oK u ++ ([(Sum.inr "over", on (wrX u).over)] : List (Key × V)), rfl, SqL.of h7, ?_, fun p8 n8 => ?_⟩
        · refine Paired.app (Paired.mapP hts fun a b q => SqT.of (s7 _ _ (g1 _ _ q))) ?_
          exact .cons (SqT.of (s7 _ _ f1)) .nil
        rw [over_all]
        have s8 := same_new (o := .dK (oK { u with over := (wrX u).over })) n8
        have h8 : (upd H9 p8 (.dK (oK { u with over := (wrX u).over }))) p8 = some (.dK (oK { u with over := (wrX u).over })) := upd_same
        generalize upd H9 p8 (.dK (oK { u with over := (wrX u).over })) = H8 at s8 h8
        have sa : Same H' H8 := ((s6.trans g1).trans s7).trans s8
        have ea : Evl.Ex H' H8 := fun b o hb => sa b o hb
        refine ⟨acc, sa _ _ hD, Nat.lt_of_le_of_lt al (by decide), acc ++ [.ref p8], Evl.Ex.mut (e.trans ea) nD5, upd_same, ?_⟩
        have ne8 : ∀ b (o : XOp), XAt H8 b o → XAt (upd H8 D5 (.lst (acc ++ [.ref p8]))) b o := fun b o h => by
          obtain ⟨kvs, a1, a2⟩ := h.at_
          refine ⟨kvs, ?_, a2⟩
          rw [upd_ne fun z => ?_]
          · exact a1
          · rw [z, sa _ _ hD] at a1
            cases a1
        rw [h3, List.map_append]
        refine Paired.app (Paired.mapP X fun x o ⟨b, e1, e2⟩ => ⟨b, e1, ne8 b o (e2.ex ea)⟩) (.cons ⟨p8, rfl, ne8 p8 _ ⟨_, h8, rfl, rfl, ?_, u.kind, rfl, ?_⟩⟩ .nil)
        · show some (on u.version) = some (.int ((u.version.getD 0 : Nat) : Int))
          rw [ev]
          rfl
        · rw [kw]
          rfl
      refine ⟨_, rfl, b, _, rfl, hb, fun H6 l ts s6 nl nts nlt hl hts => ?_⟩
      have hb6 := s6 _ _ hb
      refine ⟨_, rfl, _, _, rfl, dget hb6 rfl, rfl, _, rfl, ?_⟩
      have z : decide (V.str u.stage = V.str "ended") = decide (u.stage = ("ended" : Str)) := by simp
      rw [z]
      have f := fin H6 l ts s6 hl hts
      refine iteB (fun he => ?_) (fun he => ?_)
      · have eo : on (wrX u).over = on u.over := by
          show on (if u.stage = ("ended" : Str) then u.over else none) = _
          rw [if_pos (of_decide_eq_true he)]
        rw [eo] at f
        exact ⟨_, rfl, _, _, rfl, dget hb6 rfl, (by show 2 ≤ sizeLine; decide), fun t1 n1 => ⟨(by show 1 ≤ sizeLine; decide), fun l1 nl1 => f t1 l1 n1 nl1⟩⟩
      · have eo : on (wrX u).over = .non := by
          show on (if u.stage = ("ended" : Str) then u.over else none) = _
          rw [if_neg (of_decide_eq_false he)]
          rfl
        rw [eo] at f
        exact ⟨(by show 2 ≤ sizeLine; decide), fun t1 n1 => ⟨(by show 1 ≤ sizeLine; decide), fun l1 nl1 => f t1 l1 n1 nl1⟩⟩
    · rintro H5 ⟨acc, e5, hD5, X5⟩
      rw [List.take_of_length_le (by rw [R4.length]; exact Nat.le_refl _)] at X5
      have hD15 := e5 _ _ hD14
      have L5 := L4.same (same_ex e5)
      have R15 : XRefs H5 acc1 ((readsL s).map rdX) := prd_mapO R1 fun x o mo ⟨k, b, ex, ek, es⟩ => by
        obtain ⟨v, ev⟩ := rv o mo
        have pr := (List.mem_filter.mp mo).2
        rw [Bool.and_eq_true, decide_eq_true_eq] at pr
        refine ⟨b, ex, ⟨_, L5.og k b o ek es, rfl, rfl, ?_, o.kind, rfl, ?_⟩⟩
        · show some (on o.version) = some (.int ((o.version.getD 0 : Nat) : Int))
          rw [ev]
          rfl
        · rw [pr.1]
          show decide (("read" : Str) = "write") = false
          decide +kernel
      have ll := len_rw s.ops
      have l1' : acc1.length = (readsL s).length := R1.length
      have l5' : acc.length ≤ (writesA s).length := by
        rw [X5.length, List.length_map]
        exact List.length_filter_le _ _
      have l5 : acc1.length + acc.length ≤ 14 := by
        have ll : (readsL s).length + (writesA s).length ≤ s.ops.length := ll
        omega
      refine ⟨_, rfl, _, rfl, _, _, _, _, rfl, rfl, hD15, hD5, Nat.le_trans l5 (by decide), fun p np => ?_⟩
      have e6 := Evl.Ex.new (o := .lst (acc1 ++ acc)) np
      refine ord_i (v := 0) (SqL.of upd_same) (Paired.app (R15.ex e6) (X5.ex e6)) ?_ (by decide) fun H7 e7 => q _ (((((e1.trans e2).trans e3).trans e4).trans e5).trans (e6.trans e7))
      have l5x : acc.length = (writesL s).length := by rw [X5.length, List.length_map]
      rw [List.length_append, List.length_map, List.length_map]
      omega
end
end Ca

set_option Elab.async false
set_option linter.all false
set_option maxRecDepth 100000
set_option maxHeartbeats 4000000
namespace Ca
open PySem L2
/-! ### the program's own data -/
structure POp where
  kind : Str
  steps : List Str
  began : Nat
  left : Option Nat
  stopped : Bool
  version : Option Nat
  awaited : Option Nat
  seen : Nat
structure PSt where
  db : Nat
  rep : Nat
  cache : Option Nat
  mark : Nat
  ops : List POp
  leader : Option Nat
  wipes : Nat
  past : List Ev
/-- where a play's parts stand -/
structure PL where
  g : Nat
  d : Addr
  w : Addr
  dx : Addr
  tp : Addr
  lo : Addr
  pa : Addr
  oas : List Addr
  eas : List Addr
def refO (oas : List Addr) : Option Nat → V
  | none => .non
  | some l => match oas[l]? with
    | some a => .ref a
    | none => .non
def opF (oas : List Addr) (o : POp) (ta : Addr) : List (Str × V) :=
  [("kind", .str o.kind), ("steps", .ref ta), ("began", .int (o.began : Int)), ("left", on o.left), ("stopped", .bl o.stopped), ("version", on o.version), ("awaited", refO oas o.awaited), ("wipes_seen", .int (o.seen : Int))]
def plF (c : Conf) (A : PL) (t : PSt) : List (Str × V) :=
  [("design", .ref A.d), ("world", .ref A.w), ("path", .ref A.tp), ("guard", .str c.guard), ("flight", .str c.flight), ("source", .str c.source), ("evictions", .str c.evict), ("stops", .str c.stop), ("database", .int (t.db : Int)), ("replica", .int (t.rep : Int)), ("cache", on t.cache), ("mark", .int (t.mark : Int)), ("operations", .ref A.lo), ("past", .ref A.pa), ("leader", refO A.oas t.leader), ("wipes", .int (t.wipes : Int))]
/-! ### the fields looked up and put -/
section
variable {c : Conf} {oas : List Addr} {o : POp} {t : PSt} {A : PL} {ta : Addr}
end
/-- an operation's object at a -/
structure OpAt (C : Addr) (H : Hp) (oas : List Addr) (a : Addr) (o : POp) : Prop where
  at_ : ∃ dx ta, H a = some (.ins C dx (opF oas o ta)) ∧ H ta = some (.tup (o.steps.map V.str))
structure OpsAt (C : Addr) (H : Hp) (oas : List Addr) (ops : List POp) : Prop where
  len : oas.length = ops.length
  get : ∀ (k : Nat) a o, oas[k]? = some a → ops[k]? = some o → OpAt C H oas a o
  nd : oas.Nodup
def POp.ended (o : POp) : Bool := o.steps.isEmpty
def POp.under (o : POp) : Bool := !o.stopped && !o.ended
def endedAt (ops : List POp) : Option Nat → Bool
  | none => true
  | some l => match ops[l]? with
    | some q => q.ended
    | none => true
def canStep (ops : List POp) (o : POp) : Bool := o.under && endedAt ops o.awaited
def POp.stage (o : POp) : Str := if o.stopped then "stopped" else if o.ended then "ended" else if o.awaited.isSome then "waits" else o.steps.getD 0 ""
@[irreducible] def spEnded (C : Addr) : Sp := fun vs H Q _ => ∃ (a : Addr) (oas : List Addr) (o : POp), vs = [.ref a] ∧ OpAt C H oas a o ∧ Q (.bl o.ended) H
@[irreducible] def spUnder (C : Addr) : Sp := fun vs H Q _ => ∃ (a : Addr) (oas : List Addr) (o : POp), vs = [.ref a] ∧ OpAt C H oas a o ∧ Q (.bl o.under) H
@[irreducible] def spCan (C : Addr) : Sp := fun vs H Q _ => ∃ (k : Nat) (a : Addr) (oas : List Addr) (ops : List POp) (o : POp), vs = [.ref a] ∧ OpsAt C H oas ops ∧ oas[k]? = some a ∧ ops[k]? = some o ∧ (∀ l, o.awaited = some l → l < ops.length) ∧ Q (.bl (canStep ops o)) H
@[irreducible] def spStage (C : Addr) : Sp := fun vs H Q _ => ∃ (a : Addr) (oas : List Addr) (o : POp), vs = [.ref a] ∧ OpAt C H oas a o ∧ (∀ l, o.awaited = some l → l < oas.length) ∧ Q (.str o.stage) H
section
variable {C a : Addr} {H : Hp} {oas : List Addr} {ops : List POp} {o : POp} {k : Nat} {Q : VK} {E : XK}
end
section
variable {P : Program} {w : World} {K : PySem.W.Frag} {mg : Str → Option Value} {base : Heap}
end
end Ca

set_option Elab.async false
set_option linter.all false
set_option maxRecDepth 100000
set_option maxHeartbeats 4000000
namespace Ca
open PySem L2
def PF (p : Addr) (A : PL) : Addr → Prop := fun b => b = p ∨ b = A.lo ∨ b = A.pa ∨ b ∈ A.oas.drop A.g
/-- a play's object at p -/
structure PlayAt (C D : Addr) (c : Conf) (H : Hp) (p : Addr) (A : PL) (t : PSt) : Prop where
  at_ : H p = some (.ins D A.dx (plF c A t))
  tp : H A.tp = some (.tup (c.steps.map V.str))
  lo : H A.lo = some (.lst ((A.oas.drop A.g).map V.ref))
  gl : A.g ≤ A.oas.length
  ops : OpsAt C H A.oas t.ops
  dd : H A.d = some (dT c)
  ww : H A.w = some (wT c)
  pa : H A.pa = some (.lst (A.eas.map V.ref))
  evs : EvsAt H (A.eas.map V.ref) t.past
  nl : A.lo ≠ A.pa
  lw : ∀ l, t.leader = some l → l < t.ops.length
  aw : ∀ (k : Nat) o l, t.ops[k]? = some o → o.awaited = some l → l < t.ops.length
def PSt.put (t : PSt) (k : Nat) (o : POp) : PSt := { t with ops := t.ops.set k o }
section
variable {C D p : Addr} {c : Conf} {H H' : Hp} {A : PL} {t t' : PSt} {k : Nat} {a : Addr} {o o' : POp} {oas : List Addr}
end
/-- a play whose list holds all its operations -/
structure Play0 (C D : Addr) (c : Conf) (H : Hp) (p : Addr) (A : PL) (t : PSt) : Prop extends PlayAt C D c H p A t where
  g0 : A.g = 0
/-! ### what the methods do -/
def markP (c : Conf) (t : PSt) (v : Nat) : PSt := if c.guard = "mark" then { t with mark := max t.mark v } else t
def holdP (c : Conf) (t : PSt) (v : Nat) : PSt := markP c { t with cache := some v } v
def inP (c : Conf) (t : PSt) (v : Nat) : Bool :=
  if c.guard = "newer" then (match t.cache with | none => true | some x => decide (x < v)) else if c.guard = "mark" then decide (t.mark ≤ v) else true
def fillB (c : Conf) (t : PSt) (o : POp) (v : Nat) : Bool :=
  if c.guard = "empty" then t.cache.isNone else if c.guard = "token" then decide (o.seen = t.wipes) else inP c t v
/-- a method of a play that changes it -/
def Mut (C D : Addr) (c : Conf) (H : Hp) (p : Addr) (A : PL) (t' : PSt) (Q : VK) : Prop := ∀ H', PlayAt C D c H' p A t' → Keep (PF p A) H H' → Q .non H'
@[irreducible] def spMark (C D : Addr) : Sp := fun vs H Q _ => ∃ (c : Conf) (p : Addr) (A : PL) (t : PSt) (v : Nat), vs = [.ref p, .int (v : Int)] ∧ PlayAt C D c H p A t ∧ Mut C D c H p A (markP c t v) Q
@[irreducible] def spHoldP (C D : Addr) : Sp := fun vs H Q _ => ∃ (c : Conf) (p : Addr) (A : PL) (t : PSt) (v : Nat), vs = [.ref p, .int (v : Int)] ∧ PlayAt C D c H p A t ∧ Mut C D c H p A (holdP c t v) Q
@[irreducible] def spIn (C D : Addr) : Sp := fun vs H Q _ => ∃ (c : Conf) (p : Addr) (A : PL) (t : PSt) (v : Nat), vs = [.ref p, .int (v : Int)] ∧ PlayAt C D c H p A t ∧ Q (.bl (inP c t v)) H
section
variable {C D p : Addr} {c : Conf} {H : Hp} {A : PL} {t : PSt} {v : Nat} {Q : VK} {E : XK}
end
section
variable {P : Program} {w : World} {K : PySem.W.Frag} {mg : Str → Option Value} {base : Heap}
end
end Ca

set_option Elab.async false
set_option linter.all false
set_option maxRecDepth 100000
set_option maxHeartbeats 4000000
namespace Ca
open PySem L2
def fetchP (c : Conf) (t : PSt) (k : Nat) (o : POp) : PSt := t.put k { o with version := some (if c.source = "replica" then t.rep else t.db) }
def fillP (c : Conf) (t : PSt) (k : Nat) (o : POp) : PSt := match o.version with
  | some v => if fillB c t o v then holdP c t v else t
  | none => t
def versionAt (ops : List POp) : Option Nat → Option Nat
  | none => none
  | some l => (ops[l]?).bind (·.version)
def takeP (c : Conf) (t : PSt) (k : Nat) (o : POp) : PSt := t.put k { o with version := versionAt t.ops o.awaited }
def storeP (c : Conf) (t : PSt) (k : Nat) (o : POp) : PSt := { t with db := t.db + 1 }.put k { o with version := some (t.db + 1) }
def dropP (c : Conf) (t : PSt) (k : Nat) (o : POp) : PSt := match o.version with
  | some v => markP c { t with cache := none, wipes := t.wipes + 1 } v
  | none => { t with cache := none, wipes := t.wipes + 1 }
def putP (c : Conf) (t : PSt) (k : Nat) (o : POp) : PSt := match o.version with
  | some v => if inP c { t with wipes := t.wipes + 1 } v then holdP c { t with wipes := t.wipes + 1 } v else { t with wipes := t.wipes + 1 }
  | none => { t with wipes := t.wipes + 1 }
def shareP (c : Conf) (t : PSt) (k : Nat) (o : POp) : PSt := if endedAt t.ops t.leader then { t with leader := some k } else t.put k { o with awaited := t.leader, steps := ["take"] }
def lookP (c : Conf) (t : PSt) (k : Nat) (o : POp) : PSt := match t.cache with
  | some v => t.put k { o with seen := t.wipes, version := some v, steps := [] }
  | none => if c.flight = "shared" then shareP c (t.put k { o with seen := t.wipes }) k { o with seen := t.wipes } else t.put k { o with seen := t.wipes }
/-- a method of a play with an operation that changes it -/
@[irreducible] def spOp (C D : Addr) (pre : Conf → PSt → Nat → POp → Prop) (f : Conf → PSt → Nat → POp → PSt) : Sp := fun vs H Q _ => ∃ (c : Conf) (p : Addr) (A : PL) (t : PSt) (k : Nat) (a : Addr) (o : POp),
  vs = [.ref p, .ref a] ∧ PlayAt C D c H p A t ∧ A.g ≤ k ∧ A.oas[k]? = some a ∧ t.ops[k]? = some o ∧ pre c t k o ∧ Mut C D c H p A (f c t k o) Q
@[irreducible] def spFillB (C D : Addr) : Sp := fun vs H Q _ => ∃ (c : Conf) (p : Addr) (A : PL) (t : PSt) (k : Nat) (a : Addr) (o : POp) (v : Nat),
  vs = [.ref p, .ref a] ∧ PlayAt C D c H p A t ∧ A.oas[k]? = some a ∧ t.ops[k]? = some o ∧ o.version = some v ∧ Q (.bl (fillB c t o v)) H
section
variable {C D p : Addr} {c : Conf} {H H' : Hp} {A : PL} {t t' : PSt} {k : Nat} {a : Addr} {o o' : POp} {oas : List Addr} {v : Nat} {Q : VK} {E : XK}
theorem put_gP (e : t.ops[k]? = some o) : (t.put k o').ops[k]? = some o' := List.getElem?_set_self (List.getElem?_eq_some_iff.mp e).1
theorem put_pP {o'' : POp} : (t.put k o').put k o'' = t.put k o'' := by
  show ({ t with ops := (t.ops.set k o').set k o'' } : PSt) = { t with ops := t.ops.set k o'' }
  rw [List.set_set]
end
section
variable {P : Program} {w : World} {K : PySem.W.Frag} {mg : Str → Option Value} {base : Heap}
end
end Ca

set_option Elab.async false
set_option linter.all false
set_option maxRecDepth 100000
set_option maxHeartbeats 4000000
namespace Ca
open PySem L2
def newP (c : Conf) (w : Str) (n : Nat) : POp :=
  if w = "look" then ⟨"read", if c.guard = "never" then ["look", "fetch"] else ["look", "fetch", "fill"], n, none, false, none, none, 0⟩ else ⟨"write", c.steps, n, none, false, none, none, 0⟩
def opP (c : Conf) (t : PSt) (k : Nat) (o : POp) (w : Str) : PSt :=
  if w = "look" then lookP c t k o else if w = "fetch" then fetchP c t k o else if w = "fill" then fillP c t k o else if w = "take" then takeP c t k o
  else if w = "store" then storeP c t k o else if w = "drop" then dropP c t k o else putP c t k o
def preP (c : Conf) (t : PSt) (w : Str) (k : Nat) : PSt := if k = t.ops.length then { t with ops := t.ops ++ [newP c w t.past.length] } else t
def tailP (o : POp) : POp := { o with steps := o.steps.drop 1 }
/-- an operation that has ended notes when -/
def leaveP (t : PSt) (k : Nat) : PSt := match t.ops[k]? with
  | some o => if o.ended then t.put k { o with left := some t.past.length } else t
  | none => t
def stepP (c : Conf) (t : PSt) (w : Str) (k : Nat) : PSt := match (preP c t w k).ops[k]? with
  | some o => leaveP (opP c ((preP c t w k).put k (tailP o)) k (tailP o) w) k
  | none => preP c t w k
/-- what an operation's next step asks of it -/
structure StepPre (o : POp) (w : Str) : Prop where
  ne : o.steps ≠ []
  fill : w = "fill" → ∃ v, o.version = some v
  take : w = "take" → ∃ l, o.awaited = some l
  put : ¬ w = "look" → ¬ w = "fetch" → ¬ w = "fill" → ¬ w = "take" → ¬ w = "store" → ¬ w = "drop" → ∃ v, o.version = some v
/-- a play changed, operations added perhaps -/
structure Grew (A A' : PL) (H : Hp) : Prop where
  lo : A'.lo = A.lo
  pa : A'.pa = A.pa
  d : A'.d = A.d
  w : A'.w = A.w
  g : A'.g = A.g
  oas : ∀ b ∈ A'.oas.drop A'.g, b ∈ A.oas.drop A.g ∨ H b = none
  pre : A.oas <+: A'.oas
def MutA (C D : Addr) (c : Conf) (H : Hp) (p : Addr) (A : PL) (t' : PSt) (Q : VK) : Prop := ∀ H' A', PlayAt C D c H' p A' t' → Grew A A' H → Keep (PF p A) H H' → Q .non H'
@[irreducible] def spOpInit (C : Addr) : Sp := fun vs H Q _ => ∃ (x dx ta : Addr) (kd : Str) (st : List Str) (n : Nat), vs = [.ref x, .str kd, .ref ta, .int (n : Int)] ∧ H x = some (.ins C dx []) ∧ Q .non (upd H x (.ins C dx (opF [] ⟨kd, st, n, none, false, none, none, 0⟩ ta)))
@[irreducible] def spBegun (C D : Addr) : Sp := fun vs H Q _ => ∃ (c : Conf) (p : Addr) (A : PL) (t : PSt) (w : Str), vs = [.ref p, .str w] ∧ PlayAt C D c H p A t ∧
  ∀ (H' : Hp) (x dx ta : Addr), Same H H' → H x = none → H' x = some (.ins C dx (opF [] (newP c w t.past.length) ta)) → H' ta = some (.tup ((newP c w t.past.length).steps.map V.str)) → Q (.ref x) H'
@[irreducible] def spStep (C D : Addr) : Sp := fun vs H Q _ => ∃ (c : Conf) (p : Addr) (A : PL) (t : PSt) (w : Str) (j k : Nat), vs = [.ref p, .str w, .int (j : Int)] ∧ A.g + j = k ∧ PlayAt C D c H p A t ∧ t.ops.length ≤ 100 ∧ k ≤ t.ops.length ∧
  (∀ o, (preP c t w k).ops[k]? = some o → StepPre o w) ∧ MutA C D c H p A (stepP c t w k) Q
section
variable {C D p : Addr} {c : Conf} {H H' : Hp} {A : PL} {t t' : PSt} {k : Nat} {a : Addr} {o o' : POp} {w : Str} {Q : VK} {E : XK}
end
section
variable {P : Program} {w : World} {K : PySem.W.Frag} {mg : Str → Option Value} {base : Heap}
end
end Ca

set_option Elab.async false
set_option linter.all false
set_option maxRecDepth 100000
set_option maxHeartbeats 4000000
namespace Ca
open PySem L2
@[irreducible] def spSteps : Sp := fun vs H Q _ => ∃ (c : Conf) (d : Addr), vs = [.ref d] ∧ H d = some (dT c) ∧ c.Ok ∧ ∀ p H', Same H H' → H p = none → H' p = some (.tup (c.steps.map V.str)) → Q (.ref p) H'
section
variable {K : PySem.W.Frag} {c : Conf} {d w a f s t : Addr} {H : Hp} {Q : VK} {E : XK}
end
section
variable {P : Program} {w : World} {K : PySem.W.Frag} {mg : Str → Option Value} {base : Heap}
end
end Ca

set_option Elab.async false
set_option linter.all false
set_option maxRecDepth 100000
set_option maxHeartbeats 4000000
namespace Ca
open PySem L2
def PSt.begin : PSt := ⟨0, 0, none, 0, [], none, 0, []⟩
def noteP (t : PSt) (e : Ev) : PSt := { t with past := t.past ++ [e] }
def stopP (t : PSt) (k : Nat) : PSt := match t.ops[k]? with
  | some o => t.put k { o with stopped := true, left := some t.past.length }
  | none => t
def actP (g : Nat) (c : Conf) (t : PSt) (e : Ev) : PSt :=
  if e.1 = "copy" then { t with rep := t.rep + 1 } else if e.1 = "evict" then { t with cache := none, mark := 0 }
  else match e.2 with
    | none => t
    | some k => if e.1 = "stop" then stopP t (g + k.toNat) else stepP c t e.1 (g + k.toNat)
/-- an event of a play ahead of whose operations g others stand -/
def doG (g : Nat) (c : Conf) (t : PSt) (e : Ev) : PSt := actP g c (noteP t e) e
def doP (c : Conf) (t : PSt) (e : Ev) : PSt := doG 0 c t e
inductive DoPreG (g : Nat) (c : Conf) (t : PSt) : Ev → Prop where
  | copy : DoPreG g c t ("copy", none)
  | evict : DoPreG g c t ("evict", none)
  | stop (k : Nat) (h : g + k < t.ops.length) : DoPreG g c t ("stop", some (k : Int))
  | step (w : Str) (k : Nat) (n1 : ¬ w = "copy") (n2 : ¬ w = "evict") (n3 : ¬ w = "stop") (hk : g + k ≤ t.ops.length) (h : ∀ o, (preP c (noteP t (w, some (k : Int))) w (g + k)).ops[g + k]? = some o → StepPre o w) : DoPreG g c t (w, some (k : Int))
abbrev DoPre : Conf → PSt → Ev → Prop := DoPreG 0
@[irreducible] def spDoP (C D : Addr) : Sp := fun vs H Q _ => ∃ (c : Conf) (p ea : Addr) (A : PL) (t : PSt) (e : Ev), vs = [.ref p, .ref ea] ∧ H ea = some (.tup (evV e)) ∧ PlayAt C D c H p A t ∧ t.ops.length ≤ 100 ∧ t.past.length ≤ 1000 ∧ DoPreG A.g c t e ∧ MutA C D c H p A (doG A.g c t e) Q
@[irreducible] def spPlay (C D : Addr) : Sp := fun vs H Q _ => ∃ (c : Conf) (x dx d w : Addr), vs = [.ref x, .ref d, .ref w] ∧ H x = some (.ins D dx []) ∧ H d = some (dT c) ∧ H w = some (wT c) ∧ c.Ok ∧
  ∀ (A : PL) H', A.oas = [] → A.eas = [] → A.d = d → A.w = w → H A.lo = none → H A.pa = none → Play0 C D c H' x A PSt.begin → Keep (fun b => b = x) H H' → Q .non H'
section
variable {C D p x dx d w : Addr} {c : Conf} {H H' : Hp} {A : PL} {t t' : PSt} {e : Ev} {ea : Addr} {Q : VK} {E : XK}
end
section
variable {P : Program} {w : World} {K : PySem.W.Frag} {mg : Str → Option Value} {base : Heap}
end
end Ca

set_option Elab.async false
set_option linter.all false
set_option maxRecDepth 100000
set_option maxHeartbeats 4000000
/-! enumerate over a tuple: made, walked; as a rule -/
namespace PySem
open Sem (wp)
theorem meets_enumT (v : Value) (o : Obj) (H : Heap → Prop) (B : Begins v o H) :
    Meets (Builtin.«enumerate.__new__» ⟨[.type "enumerate", v], []⟩) (fun _ R s => H s.heap ∧
      R (.ok (.ret (.ref (s.heap.push o).objs.size))) { s with heap := (s.heap.push o).push { cls := .type "enumerate", data := .fields #[.none, .bool false, .ref s.heap.objs.size, rawInt 0, .none, .none] } }) :=
  .of_wp fun prog w A R s h => by
    obtain ⟨hp, g, d, tk, os⟩ := s; obtain ⟨h1, h⟩ := h
    have hsub := sub_enumerate
    have q1 : ∀ {A' : Around} {E : Value → Shared → Prop} {Q : Value → Shared → Prop}, Q (.ref hp.objs.size) ⟨hp.push o, g, d, tk, os⟩ → wpAny (model prog w) A' (pyIter v) Q E ⟨hp, g, d, tk, os⟩ :=
      fun q => B.iter prog w _ _ ⟨hp, g, d, tk, os⟩ _ h1 q
    wp_walk using q1
    refine wpAny_stack_any fun st => wpAny_pure ?_
    split
    · rename_i c _ _ _ _ _
      cases (c == Value.type "enumerate")
      · wp_walk using q1
        exact ⟨_, rfl, h⟩
      · wp_walk using q1
        exact ⟨_, rfl, h⟩
    · wp_walk using q1
      exact ⟨_, rfl, h⟩
section
variable {prog : Program} {w : World} {A : Around} {E : Value → Shared → Prop} {s : Shared}
theorem call_enumT {t : Addr} {items : Array Value} {Q : Value → Shared → Prop} (hT : s.heap.IsTuple t items)
    (h : ∀ h', IsEnum h' (s.heap.objs.size + 1) s.heap.objs.size 0 .none → h'.IsTupleIter s.heap.objs.size t 0 → h'.objs.size = s.heap.objs.size + 2 →
      (∀ b o, s.heap.get? b = some o → h'.get? b = some o) → Q (.ref (s.heap.objs.size + 1)) { s with heap := h' }) :
    wpAny (model prog w) A (call (.type "enumerate") [.ref t]) Q E s := by
  refine callType_new F.called_enumerate (by decide) (F.typeCall_enumerate_1 _) (F.newCall_enumerate_1 _) (fun obj => F.args_object_init_2 obj _) F.entry_enumerate_new
    (meets_enumT (.ref t) _ _ (begins_tuple t items)) ⟨hT, ?_⟩
  have hz : (s.heap.push { cls := .type "tuple_iterator", data := .fields #[.ref t, .int 0 0] }).objs.size = s.heap.objs.size + 1 := Heap.size_push ..
  show _ ∧ _
  rw [hz]
  have he : IsEnum ((s.heap.push { cls := .type "tuple_iterator", data := .fields #[.ref t, .int 0 0] }).push
      { cls := .type "enumerate", data := .fields #[.none, .bool false, .ref s.heap.objs.size, rawInt 0, .none, .none] }) (s.heap.objs.size + 1) s.heap.objs.size 0 .none := by
    have := Heap.get?_push_size (s.heap.push { cls := .type "tuple_iterator", data := .fields #[.ref t, .int 0 0] })
      (o := { cls := .type "enumerate", data := .fields #[.none, .bool false, .ref s.heap.objs.size, rawInt 0, .none, .none] }) rfl
    rw [hz] at this; exact this
  refine ⟨⟨_, he, rfl⟩, h _ he ⟨_, Heap.get?_push_of_some _ (Heap.get?_push_size _ rfl), rfl, rfl⟩ (by rw [Heap.size_push, hz]) fun b o x => Heap.get?_push_of_some _ (Heap.get?_push_of_some _ x)⟩
end
end PySem
namespace L2
open PySem PySem.Spec PyProof.Rows
/-- the tuple at a, each item in a new pair -/
def IteT (K : PySem.W.Frag) (a : Addr) : It :=
  ⟨fun i H => ∃ (xs : List V) (x : V), SqT K H a xs ∧ xs[i]? = some x, fun i H v H' => ∃ T x, v = .ref T ∧ H T = none ∧ H' = upd H T (.tup [.int (i : Nat), x]) ∧ ∀ xs, SqT K H a xs → xs[i]? = some x, fun i H => ∃ xs : List V, SqT K H a xs ∧ xs.length ≤ i⟩
theorem turn_enumT {P : Program} {w : World} {K : PySem.W.Frag} {elts : List Expr} {kk : Nat} {tpos : Pos} (a e it : Addr) (ha : a ≠ it) (hae : a ≠ e) :
    Turn P w K (.Tuple elts kk tpos) (IteT K a) [e, it] e (fun i h => (∃ old, IsEnum h e it ((i : Nat) : Int) old) ∧ h.IsTupleIter it a i ∧ e ≠ it) where
  mem := by simp
  obj := fun i h st b hb => by
    obtain ⟨⟨old, he⟩, ⟨o, ho, hc, hd⟩, _⟩ := st
    have e' : b = e ∨ b = it := by simpa using hb
    rcases e' with z | z
    · rw [z]; exact ⟨_, he, fun v q => nomatch q⟩
    · rw [z]; exact ⟨o, ho, fun v q => by rw [hd] at q; cases q⟩
  keep := fun i h h' st k => let ⟨⟨old, he⟩, hi, hne⟩ := st; ⟨⟨old, k e (by simp) _ he⟩, hi.at fun o q => k it (by simp) o q, hne⟩
  item := by
    intro X hP hw hK hc i pins s σ H E I hf st hg
    subst hP hw hK
    obtain ⟨⟨old, he⟩, hit, hne⟩ := st
    obtain ⟨xs, x, hq, hx⟩ := hg
    obtain ⟨its, rv, p, hz⟩ := I.tuple hq
    obtain ⟨u, hu, ru⟩ := rv.get hx
    have hel : e < s.heap.objs.size := Heap.lt_size he
    have hil : it < s.heap.objs.size := by obtain ⟨_, q, _⟩ := hit; exact Heap.lt_size q
    have hT0 : s.heap.IsTuple a its.toArray := p
    have hlt : i < its.toArray.size := by
      have := (List.getElem?_eq_some_iff.mp hu).1
      simpa using this
    refine wpAny_pyNext_enum_itemC (Draws.tuple (A := X.A.in1) (show X.A.in1.handled = none from I.ok.hd hc) it a ha its.toArray) he ⟨hit, hT0⟩ hlt hne (by simp [hne, Ne.symm hae]) fun y h' tk hy ho hst' hT hsz hk => ?_
    have ey : y = u := by
      have : its[i]? = some y := by simpa using hy
      rw [hu] at this
      exact (Option.some.inj this).symm
    subst ey
    obtain ⟨hit', _⟩ := hst'
    refine ⟨_, rfl, wpAny_letOwnedTupleGo_enum (s := { s with heap := h', toks := tk + 1 }) ho fun h'' he' sb => ?_⟩
    have hT2 : h''.get? s.heap.objs.size = some { cls := .type "tuple", data := .seq #[.int i tk, y] } := (sb.2 _ (Nat.ne_of_gt hel)).trans hT
    have new : ObjOk X.prog X.w (upd H s.heap.objs.size (.tup [.int (i : Nat), x])) h'' s.heap.objs.size (.tup [.int (i : Nat), x]) :=
      ⟨by show 2 ≤ sizeLine; decide, [.int i tk, y], .cons ⟨_, rfl⟩ (.cons ru .nil), ⟨_, hT2, rfl, _, rfl⟩⟩
    have I1 : Inv X pins σ (upd H s.heap.objs.size (.tup [.int (i : Nat), x])) { s with heap := h'', toks := tk + 1 } :=
      I.turnedNew (ch := [e, it]) (fun b ob hb q => (sb.2 b (fun z => hb (by simp [z]))).trans (hk b ob (fun z => hb (by simp [z])) (fun z => hb (by simp [z])) q)) hf (Nat.le_refl _) new
    refine ⟨.ref s.heap.objs.size, _, I1, rfl, ⟨_, x, rfl, I.hok.fresh (Nat.le_refl _), rfl, fun ys hy => by rw [I.tuple_inj hy hq]; exact hx⟩, ⟨⟨y, ?_⟩, hit'.at fun o q => (sb.2 it (Ne.symm hne)).trans q, hne⟩, fun b hb => ?_⟩
    · have e1 : ((i + 1 : Nat) : Int) = (i : Int) + 1 := by omega
      rw [e1]; exact he'
    · have hb' : b < s.heap.objs.size := by
        have e' : b = e ∨ b = it := by simpa using hb
        rcases e' with z | z
        · rw [z]; exact hel
        · rw [z]; exact hil
      rw [upd_ne (Nat.ne_of_lt hb')]
      exact (hf b hb).1
  done := by
    intro X hP hw hK hc i pins s σ H E I hf st hg
    subst hP hw hK
    obtain ⟨⟨old, he⟩, hit, hne⟩ := st
    obtain ⟨xs, hq, hx⟩ := hg
    obtain ⟨its, rv, p, hz⟩ := I.tuple hq
    obtain ⟨f0, f1, f2, f3, f4, f5⟩ := hf it (by simp)
    have hl := rv.length
    have hT0 : s.heap.IsTuple a its.toArray := p
    have hz2 : its.toArray.size ≤ i := by simp; omega
    have D : Draws X.prog X.w X.A.in1 it [it, a] i (fun _ _ => True) (fun j h => j = i ∧ h.IsTupleIter it a i ∧ h.IsTuple a its.toArray) := {
      live := fun _ _ st => let ⟨o, ho, _⟩ := st.2.1; ⟨o, ho⟩
      frame := fun _ _ _ st hk => ⟨st.1, st.2.1.at fun o e => hk it (by simp) o e, st.2.2.at fun o e => hk a (by simp) o e⟩
      item := fun j s Q E hi st hQ => absurd st.1 (Nat.ne_of_lt hi)
      done := fun s Q E st hE => wpAny_nextOf_tuple_end (show X.A.in1.handled = none from I.ok.hd hc) st.2.1 st.2.2 (by simpa using hz2) hE }
    exact wpAny_pyNext_enum_endD D he ⟨rfl, hit, hT0⟩ fun h' eb => ⟨rfl, I.turned (t' := s.toks) (fun b o hb q => eb b o hb q) f0 f1 f3 f4 f5⟩
  self := fun A i s Q E st h => let ⟨⟨_, he⟩, _⟩ := st; wpAny_pyIter_enum he h
def iEnumT (K : PySem.W.Frag) (ta : TA) : TI := fun σ H R => ta σ H fun vs H1 => ∃ a xs, vs = [.ref a] ∧ SqT K H1 a xs ∧ R (IteT K a) H1
theorem pi_enumT {X : Cx} {e : Expr} {ta : TA} {p pos tpos : Pos} {elts : List Expr} {kk : Nat} (hg : Gl X "enumerate") (hm : X.mg "enumerate" = none) (ha : PA X [e] ta) (hs : starEach [e] X.env = [(false, eval e X.env)] := by rfl) :
    PI X (.Tuple elts kk tpos) (.Call (.Name "enumerate" p) [e] [] pos) (iEnumT X.K ta) := by
  refine ⟨fun pins s σ H R I h => ?_⟩
  refine Call_ (ld_blt I hg hm boot_enumerate (PyProof.Rows.callWith_type1 (thn (ha.run pos pins s σ H _ I h) fun us s1 ⟨vs, H1, I1, r1, q1⟩ => ?_) hs rfl))
  obtain ⟨a, xs, ex, hq, q⟩ := q1
  subst ex
  cases r1 with
  | cons r rr =>
    cases rr
    cases r
    obtain ⟨its, rv, p', hz⟩ := I1.tuple hq
    have hT0 : s1.heap.IsTuple a its.toArray := p'
    have hal : a < s1.heap.objs.size := p'.lt
    refine call_enumT hT0 fun h' he hit hsz hk => wpAny_pyIter_enum he ?_
    have I2 : Inv X pins σ H1 { s1 with heap := h' } := I1.kept (t' := s1.toks) hk
    refine ⟨s1.heap.objs.size + 1, [s1.heap.objs.size + 1, s1.heap.objs.size], _, _, H1, rfl, I2, turn_enumT a (s1.heap.objs.size + 1) s1.heap.objs.size (Nat.ne_of_lt hal) (Nat.ne_of_lt (Nat.lt_succ_of_lt hal)), ⟨⟨.none, he⟩, hit, Nat.succ_ne_self _⟩, fun b hb => ?_, q⟩
    have e' : b = s1.heap.objs.size + 1 ∨ b = s1.heap.objs.size := by simpa using hb
    have hle : s1.heap.objs.size ≤ b := by
      rcases e' with z | z
      · rw [z]; exact Nat.le_add_right _ _
      · rw [z]; exact Nat.le_refl _
    exact I1.fpOk hle (I1.hok.fresh hle)
end L2

set_option Elab.async false
set_option linter.all false
set_option maxRecDepth 100000
set_option maxHeartbeats 4000000
namespace Ca
open PySem L2
/-! ### the events that can come -/
def evOp (c : Conf) (t : PSt) (k : Nat) (o : POp) : List Ev :=
  (if canStep t.ops o then ([(o.steps.getD 0 "", some (k : Int))] : List Ev) else []) ++ (if c.stop = "stops" ∧ o.under = true then ([(("stop" : Str), some (k : Int))] : List Ev) else [])
def opsEv (c : Conf) (t : PSt) : Nat → List Ev
  | 0 => []
  | n + 1 => opsEv c t n ++ (match t.ops[n]? with | some o => evOp c t n o | none => [])
def copyP (c : Conf) (t : PSt) : Bool := decide (c.source = "replica") && decide (t.rep < t.db)
def evictP (c : Conf) (t : PSt) : Bool := decide (c.evict = "evicts") && (t.cache.isSome || decide (0 < t.mark))
def evPA (c : Conf) (t : PSt) : List Ev := [(("look" : Str), some (t.ops.length : Int)), (firstW c, some (t.ops.length : Int))]
def evP (c : Conf) (t : PSt) : List Ev :=
  evPA c t ++ (if copyP c t then [copyE] else []) ++ (if evictP c t then [evictE] else []) ++ opsEv c t t.ops.length
@[irreducible] def spEvP (C D : Addr) : Sp := fun vs H Q _ => ∃ (c : Conf) (p : Addr) (A : PL) (t : PSt), vs = [.ref p] ∧ c.Ok ∧ Play0 C D c H p A t ∧ t.ops.length ≤ 100 ∧
  ∀ q xs es H', Same H H' → H q = none → H' q = some (.lst xs) → EvsAt H' xs es → Srt es → es.Perm (evP c t) → Q (.ref q) H'
section
variable {C D p : Addr} {c : Conf} {H : Hp} {A : PL} {t : PSt} {Q : VK} {E : XK}
end
section
variable {P : Program} {w : World} {K : PySem.W.Frag} {mg : Str → Option Value} {base : Heap}
end
end Ca

set_option Elab.async false
set_option linter.all false
set_option maxRecDepth 100000
set_option maxHeartbeats 4000000
namespace Ca
open PySem L2
theorem un65 {k : Nat} {A : Around} (r : Room k A) : A.units + 65 < cLine := by have := r.un; omega
/-- what may be asked of: whether it is a pair whose second is True or False -/
inductive VCase (K : PySem.W.Frag) (H : Hp) : V → Bool → Prop where
  | non : VCase K H .non false
  | str (x : Str) : VCase K H (.str x) false
  | lst (a : Addr) (xs : List V) (h : H a = some (.lst xs)) : VCase K H (.ref a) false
  | tupn (a : Addr) (xs : List V) (h : H a = some (.tup xs)) (n : ¬ xs.length = 2) : VCase K H (.ref a) false
  | tup2 (a : Addr) (x y : V) (h : H a = some (.tup [x, y])) (T : String) (ty : TyX K H y (.type T)) (b : Bool) (hk : PySem.W.kitOne K (.type T) (.type "bool") = some b) : VCase K H (.ref a) b
@[irreducible] def spCome (K : PySem.W.Frag) (C D : Addr) : Sp := fun vs H Q _ => ∃ (c : Conf) (p : Addr) (A : PL) (t : PSt) (v : V) (d : PyData) (fl : Bool), vs = [.ref p, v] ∧ c.Ok ∧ Play0 C D c H p A t ∧ t.ops.length ≤ 100 ∧ VCase K H v fl ∧
  Dp K H v d ∧ SeqAt.shaped d = true ∧ (∀ H', Same H H' → Dp K H' v d) ∧ (∀ e ∈ evP c t, PyData.strOk e.1 = true) ∧ ∀ H', Same H H' → Q (.bl (if fl then false else (evP c t).any fun e => PyData.eqv (evD' e) d)) H'
section
variable {K : PySem.W.Frag} {C D p : Addr} {c : Conf} {H : Hp} {A : PL} {t : PSt} {v : V} {d : PyData} {fl : Bool} {Q : VK} {E : XK}
end
section
variable {P : Program} {w : World} {K : PySem.W.Frag} {mg : Str → Option Value} {base : Heap}
end
end Ca

set_option Elab.async false
set_option linter.all false
set_option maxRecDepth 100000
set_option maxHeartbeats 4000000
/-! an own error over ValueError whose __init__ says super().__init__(f"..{index}") and self.index = index -/
namespace PySem
namespace BadX
open PySem.W PySem.Calls PyProof.Rows PySem.HandSPX
abbrev qI : Str := "BadRun.__init__"
def iA (p1 p2 : Pos) : Arguments := { posonlyargs := [], args := [{ arg := "self", annotation := none, pos := p1 }, { arg := "index", annotation := none, pos := p2 }], vararg := none, kwonlyargs := [], kw_defaults := [], kwarg := none, defaults := [] }
def iB (k : Nat) (q0 q1 q2 q3 q4 q5 q6 q7 q8 r1 r2 r3 r4 : Pos) : List Stmt :=
  [.Expr (.Call (.Attribute (.Call (.Name "super" q0) [] [] q1) "__init__" q2) [.JoinedStr [.Constant (.str "no run: index ") k q3, .FormattedValue (.Name "index" q4) (-1) none q5] q6] [] q7) q8,
   .Assign [.Attribute (.Name "self" r1) "index" r2] (.Name "index" r3) r4]
def iS : Scope := { kind := .function, names := [(PySem.Str.ofString "self", .local), (PySem.Str.ofString "index", .local), (PySem.Str.ofString "__class__", .free), (PySem.Str.ofString "super", .globalImplicit)], isGenerator := false, isCoroutine := false, more := [] }
/-- what may stand in the text: an int of few digits, None -/
inductive Fmt : Value → Prop where
  | non : Fmt .none
  | int {i : Int} {t : Tok} (h : i.natAbs.log2 < 1920) : Fmt (.int i t)
/-- what the written part says of BadRun, at C, and of its __init__, at fI -/
structure BadTxt (P : Program) (K : Frag) (mg : Str → Option Value) (C fI : Addr) : Prop where
  gC : mg "BadRun" = some (.ref C)
  gS : mg "super" = none
  cls : ∃ nm q N bs bm sn sub ab col dd k0 k1 k2 k3 k5, K.lookup C = some (excClassObj nm q C N bs bm true sn sub ab col dd k0 k1 k2 k3 k5 "ValueError.__new__") ∧ refsVE bm = true ∧ alongIn K "__init__" bm = some (some (.builtin "ValueError.__init__"))
  sa : findIn K (.ref C) "__setattr__" = some (some (.builtin "object.__setattr__"))
  ga : findIn K (.ref C) "__getattribute__" = some (some (.builtin "BaseException.__getattribute__"))
  gg : findIn K (.ref C) "__getattr__" = some none
  noN : findIn K (.ref C) "index" = some none
  iC : findIn K (.ref C) "__init__" = some (some (.ref fI))
  tC : typeIn K (.ref C) = some (.type "type")
  kC : keepIn K (.ref C) = true
  tF : typeIn K (.ref fI) = some (.type "function")
  exC : subIn K (.ref C) (.type "BaseException") = some true
  exV : subIn K (.ref C) (.type "ValueError") = some true
  exS : mroIn K C (.ref C) = some true
  hdC : hasDictIn K C = true
  te : exmOne K (.ref C) (.ref C) = some true
  opq : nsIn K cStatics "thirdparty.any" = some none
  top : (P.main.scope.names.lookup ("super" : Str)).isSome = false
  fn : ∃ (oc : Value) (od : Option Addr) (doc pm : Value) (an : Option Addr) (cda : Addr) (ct : Value) (osl : Array (Option Value)) (cc : Addr) (k : Nat) (p1 p2 q0 q1 q2 q3 q4 q5 q6 q7 q8 r1 r2 r3 r4 : Pos),
    K.lookup fI = some ⟨oc, od, .func (ksFn "__init__" qI (iA p1 p2) (iB k q0 q1 q2 q3 q4 q5 q6 q7 q8 r1 r2 r3 r4) iS .none .none doc pm an (.ref cda) ct cc), osl⟩ ∧ codeIn K (.ref cda) qI = true ∧ (q2.endLine == q7.line) = true ∧
    (∃ (ccl : Value) (cdd : Option Addr) (vs : Array Value) (ccs : Array (Option Value)) (file : Str) (tf : Tok), K.lookup cda = some ⟨ccl, cdd, .fields vs, ccs⟩ ∧ vs[2]? = some (.str file tf) ∧ ((P.main.file : Str) == file) = true) ∧
    (∃ (cl : Value) (cld : Option Addr) (csl : Array (Option Value)), K.lookup cc = some ⟨cl, cld, .cell (some (.ref C)), csl⟩)
theorem one_size (v : Value) : [v].length ≤ sizeLine := by
  rw [sizeLine_eq]
  exact (by decide : 1 ≤ 16777216)
section
variable {prog : Program} {w : World} {A : Around} {E : Value → Shared → Prop} {h : Heap} {g : Array GenState} {d : Drawn} {t : Nat} {os : OsState}
variable {nm q : Str} {C N : Addr} {bs bm : List Value} {hdct : Bool} {sn : List Str} {sub : List Value} {ab : Bool} {col : Option Bool} {dd : Option Addr} {k0 k1 k2 k3 k5 : Option Value}
/-- the bound __init__ called -/
theorem call_bwV {u e t0 : Addr} {rest : List Value} {Q : Value → Shared → Prop}
    (hC : h.get? C = some (excClassObj nm q C N bs bm hdct sn sub ab col dd k0 k1 k2 k3 k5 "ValueError.__new__")) (he : h.get? e = some (excO C t0)) (hu : h.get? u = some (kxs_mw "ValueError.__init__" e)) (hrest : rest.length ≤ sizeLine)
    (hq : ∀ h' t1, (∀ b o, b ≠ e → h.get? b = some o → h'.get? b = some o) → h'.get? e = some (excO C t1) → Q .none ⟨h', g, d, t, os⟩) :
    wpAny (model prog w) A (call (.ref u) rest) Q E ⟨h, g, d, t, os⟩ := by
  refine wpAny_call (codeAny_of_tree ?_)
  show wpAny _ A.in1 (callAny (.ref u) ⟨rest, []⟩) _ _ _
  simp only [callAny]
  refine wpAny_bind (wpAny_load hu ?_)
  simp only [kxs_mw, show (Value.type "method-wrapper" == Value.type "method" || Value.type "method-wrapper" == Value.type "builtin_function_or_method" || Value.type "method-wrapper" == Value.type "method-wrapper") = true by decide, if_true]
  refine KFB.if_so (by decide) ?_
  refine wpAny_bind (check_bound_init F.excBase_ValueError.toExcCallFacts hC he rfl ?_)
  refine wpAny_bind (wpAny_pure (wpAny_pure ?_))
  refine ⟨plainId_quiet F.excBase_ValueError.init.plain _, codeAny_builtin F.excBase_ValueError.initEntry ?_⟩
  exact exc_init_tree (cls := .ref C) (t0 := t0) (dv := none) (c2 := .none) (c3 := .none) (b4 := .bool false) he hrest fun h' k' e' t' => hq h' _ k' e'
end
/-- what __init__ leaves of a fresh exception at x -/
structure InitEnd (h h' : Heap) (x C dx : Addr) (v : Value) : Prop where
  keep : ∀ b o, b ≠ x → h.get? b = some o → h'.get? b = some o
  obj : ∃ t1 : Addr, h'.get? x = some { cls := .ref C, dict := some dx, data := .fields #[.ref t1, .none, .none, .none, .bool false, .none] }
  dbig : h.objs.size ≤ dx
  dne : dx ≠ x
  ns : h'.Ns1 dx (fun y => if y = "index" then some v else none)
/-- a made BadRun -/
structure OwnMade (h h' : Heap) (e C d : Addr) (v : Value) : Prop where
  keep : ∀ b o, h.get? b = some o → h'.get? b = some o
  new : h.objs.size ≤ e
  obj : ∃ oe vs, h'.get? e = some oe ∧ oe.cls = .ref C ∧ oe.dict = some d ∧ oe.data = .fields vs ∧ vs[1]? = some .none
  dbig : h.objs.size ≤ d
  dne : d ≠ e
  ns : h'.Ns1 d (fun y => if y = "index" then some v else none)
section
variable {prog : Program} {w : World} {A : Around} {E : Value → Shared → Prop} {R : Result → Shared → Prop} {s : Shared} {K : Frag} {mg : Str → Option Value} {C fI : Addr}
theorem ldX {M : Model} {s : Shared} {env : Env} {m : Str → Option Value} {x : Str} {pos : Pos} {v : Value} {Q : Value → Shared → Prop} {A : Around} {E : Value → Shared → Prop} (hn : s.heap.Ns env.locals m) (hv : m x = some v) (h : Q v s)
    (hk : env.scope.kind = .function := by rfl) (hl : env.kindOf x = some .local := by rfl) (hd : (x == ("__debug__" : Str)) = false := by decide) :
    wpAny M A (eval (.Name x pos) env) Q E s := wpAny_Name (wpAny_loadName_local hk hl hn hv h) hd
theorem fmt_run {v : Value} {s : Shared} (hv : Fmt v) {Q : Value → Shared → Prop} (h : ∀ (y : Str) t s', y.length ≤ 4000 → s'.heap = s.heap → s'.gens = s.gens → s'.drawn = s.drawn → s'.os = s.os → Q (.str y t) s') : wpAny (model prog w) A (formatField v Str.empty) Q E s := by
  cases hv with
  | non => exact wpAny_formatField_none (h _ _ _ (by decide) rfl rfl rfl rfl)
  | int hz => exact wpAny_formatField_int hz (h _ _ _ (by have e := int_text_length_le (k := 1920) (by decide) hz; rw [ofString_length]; omega) rfl rfl rfl rfl)

theorem fmt_join {v : Value} {pre : Str} {env : Env} {n : Str} {k : Nat} {p3 p4 p5 p6 : Pos} {m : Str → Option Value} {Q : Value → Shared → Prop} (hv : Fmt v) (hpre : pre.length ≤ 1000) (hn : s.heap.Ns env.locals m) (hm : m n = some v)
    (hk : env.scope.kind = .function) (hl : env.kindOf n = some .local) (hd : (n == ("__debug__" : Str)) = false)
    (h : ∀ (y : Str) t s', s'.heap = s.heap → s'.gens = s.gens → s'.drawn = s.drawn → s'.os = s.os → Q (.str y t) s') :
    wpAny (model prog w) A (eval (.JoinedStr [.Constant (.str pre) k p3, .FormattedValue (.Name n p4) (-1) none p5] p6) env) Q E s := by
  refine wpAny_JoinedStr ?_
  have e1 : evalEach [.Constant (.str pre) k p3, .FormattedValue (.Name n p4) (-1) none p5] env = [eval (.Constant (.str pre) k p3) env, eval (.FormattedValue (.Name n p4) (-1) none p5) env] := by first | rfl | simp [evalEach]
  rw [e1]
  have e0 : (Str.empty ++ pre).length = pre.length := by rw [PySem.Str.length_append]; show 0 + _ = _; omega
  refine Constant_str ⟨pre, _, rfl, by rw [e0, sizeLine_eq]; omega, ?_⟩
  refine wpAny_FormattedValue_plain (ldX hn hm ?_ hk hl hd)
  refine fmt_run hv fun y t s' hy a b c d => ⟨y, t, rfl, ?_, ?_⟩
  · rw [PySem.Str.length_append, e0, sizeLine_eq]; omega
  · exact ⟨by rw [PySem.Str.length_append, e0, sizeLine_eq]; omega, h _ _ _ a b c d⟩

theorem bad_init (T : BadTxt prog K mg C fI) {base : Heap} {x t0 : Addr} {v : Value} (hv : Fmt v) (hM : L2.Mod K mg base) (hb : ∀ b o, base.get? b = some o → s.heap.get? b = some o) (hx : s.heap.get? x = some (excO C t0)) (hnx : K.lookup x = none) (hroom : A.depth < recursionLimit)
    (hq : ∀ h' tk dx, InitEnd s.heap h' x C dx v → R (.ok (.ret .none)) { s with heap := h', toks := tk }) :
    codeAny (model prog w) A (.call (.ref fI) ⟨[.ref x, v], []⟩) R s := by
  have X : K.In s.heap := hM.kin.keeps hb
  have hlim : s.heap.NoLimit := hM.nolimit.keeps hb
  obtain ⟨oc, od, doc, pm, an, cda, ct, osl, cc, k, p1, p2, q0, q1, q2, q3, q4, q5, q6, q7, q8, r1, r2, r3, r4, ho, hcd, hline, ⟨ccl, cdd, vs, ccs, file, tf, hcode, hvs, hfile⟩, ⟨cl, cld, csl, hcell⟩⟩ := T.fn
  obtain ⟨nm, q, N, bs, bm, sn, sub, ab, col, dd, k0, k1, k2, k3, k5, hC, hbm, hal⟩ := T.cls
  have hcl : clsIn K C = some { name := nm, bases := bs, mro := .ref C :: bm, ns := N, qualname := q, hasDict := true, slotNames := sn, subclasses := sub, abstract := ab, collection := col, hasDel := false } := by unfold clsIn; rw [hC] <;> rfl
  refine ks_codeAny_call_defAt (body := iB k q0 q1 q2 q3 q4 q5 q6 q7 q8 r1 r2 r3 r4) (binds := [("self", .ref x), ("index", v)]) hroom (X _ _ ho) rfl hlim (codeRec_of X hcd) rfl (BindsTo.of_eq (by first | rfl | with_unfolding_all rfl)) (fun y hy => (by decide : ∀ y ∈ iS.names, y.2 ≠ .cell) y hy) (by first | decide | (intro y hy; simp at hy; rcases hy with rfl | rfl <;> rfl)) (fun h₁ hn kk => ?_) rfl rfl rfl
  obtain ⟨hp, g, dr, tk, os⟩ := s
  have hxL : hp.objs.size ≠ x := Nat.ne_of_gt (Heap.lt_size hx)
  have X₁ : K.In h₁ := X.keeps kk
  have hx₁ := kk _ _ hx
  have hxC : x ≠ C := fun z => by rw [z, hC] at hnx; cases hnx
  have I₁ : InstAt h₁ x (excO C t0) C none := ⟨hx₁, rfl, rfl, trivial⟩
  obtain ⟨mb, hmb, hbb⟩ := hM.blt
  have hC₁ := X₁ _ _ hC
  have he : ∀ env : Env, eval (.Call (.Attribute (.Call (.Name "super" q0) [] [] q1) "__init__" q2) [.JoinedStr [.Constant (.str "no run: index ") k q3, .FormattedValue (.Name "index" q4) (-1) none q5] q6] [] q7) env = (do
      let ov ← attributeBase (.Call (.Name "super" q0) [] [] q1) "__init__" env (eval (.Call (.Name "super" q0) [] [] q1) env)
      standAt q2.atName
      let (f, first) ← holding [ov] (getMethod ov "__init__" (L2.plainOf (.Call (.Name "super" q0) [] [] q1) env))
      callWith q7 f first (backTo q7 (starEach [.JoinedStr [.Constant (.str "no run: index ") k q3, .FormattedValue (.Name "index" q4) (-1) none q5] q6] env)) []) := fun env => by
    rw [arm_eval_Call]
    have e3 := fun ov => L2.mcall_line (o := .Call (.Name "super" q0) [] [] q1) (m := "__init__") (apos := q2) (pos := q7) (env := env) (ov := ov) (n := 1) (args := backTo q7 (starEach [.JoinedStr [.Constant (.str "no run: index ") k q3, .FormattedValue (.Name "index" q4) (-1) none q5] q6] env)) (kws := []) rfl hline
    show (do
      let ov ← attributeBase (.Call (.Name "super" q0) [] [] q1) "__init__" env (eval (.Call (.Name "super" q0) [] [] q1) env)
      standAt q2.atName
      methodCall (.Call (.Name "super" q0) [] [] q1) "__init__" q2 q7 env ov 1 (backTo q7 (starEach [.JoinedStr [.Constant (.str "no run: index ") k q3, .FormattedValue (.Name "index" q4) (-1) none q5] q6] env)) []) = _
    simp only [e3]
  refine ks_wpAt_execs_cons (ks_wpAt_Expr_any (ks_wpAt_MethodCall (pl := L2.plainOf (.Call (.Name "super" q0) [] [] q1) _) ?_ (he _)) rfl rfl)
  refine ks_wpAt_super_base rfl rfl (by decide) rfl (X₁ _ _ ho) rfl rfl rfl (X₁ _ _ hcode) rfl hvs hfile T.top ?_
  have hsup : mb "super" = some (.type "super") := (hbb "super" (by decide)).trans (by first | boot_by_name | rfl | kernel_rfl)
  refine ks_loadName_global rfl rfl (loadGlobal_builtin (mg := mg) (mb := mb) ((hM.glob.keeps hb).keeps kk) T.gS ((hmb.keeps hb).keeps kk) hsup ⟨rfl, ?_⟩)
  refine wpAny_loadName_free (c := cc) (v := .ref C) rfl rfl rfl ⟨_, X₁ _ _ hcell, rfl⟩ ?_
  refine wpAny_loadName_local rfl rfl hn (v := .ref x) (by first | rfl | with_unfolding_all rfl | kernel_rfl) ?_
  refine ks_wpAny_isType_cls (X₁ _ _ hC) rfl ⟨rfl, ?_⟩
  refine ks_wpAny_call_super (X₁ _ _ hC) rfl hx₁ rfl (fun c e => by cases e) (looks_mroIn X₁ T.exS) (fun h2 e2 k2 => ?_)
  have X₂ : K.In h2 := X₁.keeps k2
  have hx₂ := k2 _ _ hx₁
  have I₂ : InstAt h2 x (excO C t0) C none := ⟨hx₂, rfl, rfl, trivial⟩
  refine kxs_getMethod kxs_ValueError e2 (looks_opaque X₂ T.opq) (l₀ := .ref C :: bm) (l := bm) ?_ ?_ X₂ hal (I₂.type.andThen (looks_subIn X₂ T.exV)) hxC (by decide) ?_
  · exact fun A Q E s k q => wpAny_bind ((looks_clsIn X₂ hcl) A _ E s k (wpAny_pure q))
  · exact PySem.ESX.drop_own C bm
  have k3 : ∀ b o, h2.get? b = some o → (h2.push (kxs_mw "ValueError.__init__" x)).get? b = some o := fun b o e => Heap.get?_push_of_some _ e
  have hu : (h2.push (kxs_mw "ValueError.__init__" x)).get? h2.objs.size = some (kxs_mw "ValueError.__init__" x) := Heap.get?_push_at rfl rfl
  have hn3 := (hn.keeps k2).keeps k3
  have X₃ : K.In (h2.push (kxs_mw "ValueError.__init__" x)) := X₂.keeps k3
  have hx₃ := k3 _ _ hx₂
  refine kxs_callWith (i := "ValueError.__init__") (x := x) (by first | rfl | decide) (evalArgs_plain (PyProof.Rows.spliced_more (fmt_join (m := fun y => (([("self", .ref x), ("index", v)] : List (Str × Value)).reverse).lookup y) hv (by decide) hn3 (by first | rfl | with_unfolding_all rfl | kernel_rfl) rfl rfl (by decide) fun y ty s4 h4 g4 d4 o4 => ?_) rfl))
  obtain ⟨hh4, gg4, dd4, tk4, os4⟩ := s4
  dsimp only at h4 g4 d4 o4
  subst h4 g4 d4 o4
  refine PyProof.Rows.spliced_none ⟨hu, ?_⟩
  refine call_bwV (X₃ _ _ hC) hx₃ hu (one_size _) fun h5 t5 k5' hx₅ => ?_
  refine wpAt_of_wpAny ?_
  have old5 : ∀ b o, b ≠ x → hp.get? b = some o → h5.get? b = some o := fun b o hb' e => k5' b o hb' (k3 b o (k2 b o (kk b o e)))
  have hnx' : ∀ b o, K.lookup b = some o → b ≠ x := fun b o e z => by rw [z, hnx] at e; cases e
  have X₅ : K.In h5 := fun b o e => k5' b o (hnx' b o e) (X₃ b o e)
  have hn5 : h5.Ns hp.objs.size (fun y => (([("self", .ref x), ("index", v)] : List (Str × Value)).reverse).lookup y) := by
    obtain ⟨oL, es, ep, hL, r⟩ := hn3
    exact ⟨oL, es, ep, k5' _ _ hxL hL, r⟩
  refine wpAny_execs_cons (plainObj_wpAny_Assign_Attribute ?_)
  refine ldX (v := v) hn5 (by first | rfl | with_unfolding_all rfl | kernel_rfl) (ldX (v := .ref x) hn5 (by first | rfl | with_unfolding_all rfl | kernel_rfl) ?_)
  refine set_plain X₅ (ox := excO C t5) (od := none) ⟨hx₅, rfl, rfl, trivial⟩ T.sa ?_
  refine exc_osa X₅ hx₅ hcl (show refsVE (.ref C :: bm) = true from hbm) rfl T.noN (fun h₆ tk₆ dx k₆ dn dne hx₆ hn₆ => ?_)
  show wpAny _ _ (execs _ _) _ _ _
  have z1 : hp.objs.size < h₁.objs.size := hn.lt
  have z2 : hp.objs.size ≤ h5.objs.size := Nat.le_of_lt hn5.lt
  exact wpAny_execs_nil (hq h₆ tk₆ dx ⟨fun b o hb' e => k₆ b o hb' (old5 b o hb' e), ⟨_, hx₆⟩, Nat.le_trans z2 dn, dne, hn₆⟩)
theorem bad_made (T : BadTxt prog K mg C fI) {base : Heap} {v : Value} (hv : Fmt v) (hM : L2.Mod K mg base) (hb : ∀ b o, base.get? b = some o → s.heap.get? b = some o) (hroom : A.depth + 1 < recursionLimit)
    (hq : ∀ h' tk e d, OwnMade s.heap h' e C d v → R (.ok (.ret (.ref e))) { s with heap := h', toks := tk }) :
    codeAny (model prog w) A (.call (.ref C) ⟨[v], []⟩) R s := by
  obtain ⟨nm, q, N, bs, bm, sn, sub, ab, col, dd, k0, k1, k2, k3, k5, hC, hbm, hal⟩ := T.cls
  obtain ⟨hp, g, dr, tk, os⟩ := s
  have X : K.In hp := hM.kin.keeps hb
  have k : ∀ b o, hp.get? b = some o → ((hp.push (kdv_tup [v])).push (excO C hp.objs.size)).get? b = some o := fun b o e => Heap.get?_push_of_some _ (Heap.get?_push_of_some _ e)
  have hget : ((hp.push (kdv_tup [v])).push (excO C hp.objs.size)).get? (hp.objs.size + 1) = some (excO C hp.objs.size) := by heap_get
  have hnx : K.lookup (hp.objs.size + 1) = none := by
    cases e : K.lookup (hp.objs.size + 1) with
    | none => rfl
    | some o =>
      have z : hp.get? (hp.objs.size + 1) = some o := X _ _ e
      exact absurd (Nat.lt_of_succ_lt (Heap.lt_size z)) (Nat.lt_irrefl _)
  refine call_own F.excBase_ValueError (fun X => refsVE_contains X bm hbm) (X _ _ hC) (looks_findIn X T.iC) (fun self => bind_fn X self T.tF) (one_size v) ?_
  refine bad_init (s := ⟨(hp.push (kdv_tup [v])).push (excO C hp.objs.size), g, dr, tk, os⟩) T hv hM (fun b o e => k b o (hb b o e)) hget hnx ?_ fun h' tk' dx ⟨k', ⟨t1, hx⟩, dn, dne, hns⟩ => ?_
  · show A.depth + 1 < recursionLimit
    exact hroom
  · have old : ∀ b o, hp.get? b = some o → h'.get? b = some o := fun b o e => k' b o (Nat.ne_of_lt (Nat.lt_succ_of_lt (Heap.lt_size e))) (k b o e)
    have z : hp.objs.size + 1 + 1 ≤ dx := by
      first
        | (simpa only [Heap.size_push] using dn)
        | exact dn
        | (have q := dn; rw [Heap.size_push, Heap.size_push] at q; exact q)
    exact ⟨rfl, hq h' tk' (hp.objs.size + 1) dx ⟨old, Nat.le_succ _, ⟨_, _, hx, rfl, rfl, rfl, rfl⟩, Nat.le_trans (Nat.le_trans (Nat.le_succ _) (Nat.le_succ _)) z, dne, hns⟩⟩
end
end BadX
end PySem

namespace L2
open PySem PySem.Spec PyProof.Rows
theorem relO_bad {v : V} {v' : Value} (r : RelV v v') (f : Str) : RelO (List.lookup f [(("index" : Str), v)]) (if f = "index" then some v' else none) := by
  by_cases hw : f = "index"
  · subst hw
    rw [if_pos rfl]
    have q : List.lookup ("index" : Str) [(("index" : Str), v)] = some v := by simp [List.lookup]
    rw [q]
    exact r
  · rw [if_neg hw]
    have qw : (f == ("index" : Str)) = false := by simpa using hw
    have q2 : List.lookup f [(("index" : Str), v)] = none := by simp [List.lookup, qw]
    rw [q2]
    trivial
/-- what BadRun is made with -/
inductive FmtV : V → Prop where
  | non : FmtV .non
  | int {i : Int} (h : i.natAbs.log2 < 1920) : FmtV (.int i)
theorem FmtV.val {v : V} {u : Value} (h : FmtV v) (r : RelV v u) : PySem.BadX.Fmt u := by
  cases h with
  | non =>
    obtain rfl : u = Value.none := r
    exact .non
  | int h =>
    obtain ⟨t, rfl⟩ := r
    exact .int h
section
variable {X : Cx} {C fI : Addr}
/-- BadRun(e) -/
def tMkBad (C : Addr) (ta : TA) : St → Hp → XK → Prop := fun σ H Q => ta σ H fun vs H1 => ∃ v, vs = [v] ∧ FmtV v ∧ ∀ d, H1 d = none → Q (.ref C) (some d) (upd H1 d (.xd [(("index" : Str), v)]))
theorem pmk_bad {a : Expr} {ta : TA} {p pos : Pos} {k : Nat} (T : PySem.BadX.BadTxt X.prog X.K X.mg C fI) (hr : Room k X.A) (ha : PA X [a] ta) (hg : Gl X "BadRun" := by rfl)
    (he : starEach (a :: []) X.env = (false, eval a X.env) :: starEach [] X.env := by rfl) (hpl : (backTo pos (starEach [] X.env)).any (·.1) = false := by rfl) :
    PMk X (.Call (.Name "BadRun" p) [a] [] pos) (tMkBad C ta) := by
  intro pins s σ H Q I h
  refine wpAny_Call_Name_kw (ld_glob I hg T.gC ?_)
  refine PySem.W.callWith_K (h₀ := X.base) I.ok.mod.kin T.kC (thn (ha.run pos pins s σ H _ I h) fun us s1 hh => ?_) he hpl
  obtain ⟨vs, H1, I1, r1, v, ev, hf, q1⟩ := hh
  subst ev
  refine ⟨I1.kIn, ?_⟩
  cases r1 with
  | cons rv rn =>
    rename_i v' us'
    cases rn
    show wpAny _ _ (call (.ref C) [v']) _ _ _
    obtain ⟨hp, g, dr, tk, os⟩ := s1
    refine wpAny_call (PySem.BadX.bad_made T (hf.val rv) I1.mod I1.bk (by have := hr.dp; omega) fun h' tk' e d M => ?_)
    show MkP X pins σ Q (.ref e) ⟨h', g, dr, tk', os⟩
    obtain ⟨oe, fv, hoe, hc, hd, hdat, h1⟩ := M.obj
    have hns := M.ns
    obtain ⟨G', g1, g2⟩ := restrict h' fun b => decide (b ≠ e)
    have gk : ∀ b, b ≠ e → G'.get? b = h'.get? b := fun b hb => g1 b (decide_eq_true hb)
    have ge : G'.get? e = none := g2 e (by simp)
    have old : ∀ b o, hp.get? b = some o → G'.get? b = some o := fun b o q => (gk b (Nat.ne_of_lt (Nat.lt_of_lt_of_le (Heap.lt_size q) M.new))).trans (M.keep b o q)
    have ob : ObjOk X.prog X.w (upd H1 d (.xd [(("index" : Str), v)])) G' d (.xd [(("index" : Str), v)]) :=
      ⟨_, hns.at (fun o q => (gk d M.dne).trans q), fun f => relO_bad rv f⟩
    have J : Inv X pins σ (upd H1 d (.xd [(("index" : Str), v)])) ⟨G', g, dr, tk', os⟩ := I1.laid (t' := tk') old M.dbig ob
    refine ⟨e, oe, fv, ⟨G', g, dr, tk', os⟩, _, .ref C, some d, rfl, J, fun b o q => ?_, ge, hoe, ⟨hc, hd⟩, hdat, h1, ?_, rfl, I1.bare, raises_own T.exC T.tC, q1 d (I1.hok.fresh M.dbig)⟩
    · by_cases hb : b = e
      · have q' : G'.get? b = some o := q
        rw [hb, ge] at q'; cases q'
      · exact (gk b hb).symm.trans q
    · rw [upd_ne (Ne.symm M.dne)]
      exact I1.hok.fresh M.new
/-- raise BadRun(e) -/
def tRaiseBad (C : Addr) (W : WX) (ta : TA) : TS := fun _ σ H => tMkBad C ta σ H fun cls d H' => W cls d σ H'
theorem ps_raiseBad {a : Expr} {ta : TA} {W : WX} {p pos pos2 : Pos} {k : Nat} (hc : X.calm = true) (T : PySem.BadX.BadTxt X.prog X.K X.mg C fI) (hr : Room k X.A) (tk : Takes X W) (ha : PA X [a] ta) (hg : Gl X "BadRun" := by rfl)
    (he : starEach (a :: []) X.env = (false, eval a X.env) :: starEach [] X.env := by rfl) (hpl : (backTo pos (starEach [] X.env)).any (·.1) = false := by rfl) :
    PS X (.Raise (some (.Call (.Name "BadRun" p) [a] [] pos)) none pos2) (tRaiseBad C W ta) := ps_raise hc tk (pmk_bad T hr ha hg he hpl)
end
end L2

set_option Elab.async false
set_option linter.all false
set_option maxRecDepth 100000
set_option maxHeartbeats 4000000
namespace Ca
open PySem L2
/-! ### a run played -/
def runS (c : Conf) (es : List Ev) : PSt := es.foldl (doP c) PSt.begin
def GoodP (c : Conf) (t : PSt) : Prop := ∀ e ∈ evP c t, PyData.strOk e.1 = true
structure RunP (c : Conf) (es : List Ev) : Prop where
  step : ∀ i e, es[i]? = some e → GoodP c (runS c (es.take i)) ∧ e ∈ evP c (runS c (es.take i)) ∧ DoPre c (runS c (es.take i)) e
theorem put_lenP {t : PSt} {k : Nat} {o : POp} : (t.put k o).ops.length = t.ops.length := List.length_set ..
theorem mark_len {c : Conf} {t : PSt} {v : Nat} : (markP c t v).ops.length = t.ops.length := by unfold markP; split <;> rfl
theorem hold_len {c : Conf} {t : PSt} {v : Nat} : (holdP c t v).ops.length = t.ops.length := by unfold holdP; rw [mark_len]
theorem opP_len {c : Conf} {t : PSt} {k : Nat} {o : POp} {w : Str} : (opP c t k o w).ops.length = t.ops.length := by
  have sh : ∀ t' o', (shareP c t' k o').ops.length = t'.ops.length := fun t' o' => by
    unfold shareP
    split
    · rfl
    · exact put_lenP
  unfold opP
  split
  · unfold lookP
    split
    · exact put_lenP
    · split
      · rw [sh, put_lenP]
      · exact put_lenP
  split
  · exact put_lenP
  split
  · unfold fillP
    split
    · split
      · exact hold_len
      · rfl
    · rfl
  split
  · exact put_lenP
  split
  · exact put_lenP
  split
  · unfold dropP
    split
    · rw [mark_len]
    · rfl
  · unfold putP
    split
    · split
      · rw [hold_len]
      · rfl
    · rfl
theorem leave_len {t : PSt} {k : Nat} : (leaveP t k).ops.length = t.ops.length := by
  unfold leaveP
  split
  · split
    · exact put_lenP
    · rfl
  · rfl
theorem markP_past {c : Conf} {t : PSt} {v : Nat} : (markP c t v).past = t.past := by unfold markP; split <;> rfl
theorem holdP_past {c : Conf} {t : PSt} {v : Nat} : (holdP c t v).past = t.past := by unfold holdP; rw [markP_past]
theorem opP_past {c : Conf} {t : PSt} {k : Nat} {o : POp} {w : Str} : (opP c t k o w).past = t.past := by
  have sh : ∀ t' o', (shareP c t' k o').past = t'.past := fun t' o' => by
    unfold shareP
    split <;> rfl
  unfold opP
  split
  · unfold lookP
    split
    · rfl
    · split
      · rw [sh]; rfl
      · rfl
  split
  · rfl
  split
  · unfold fillP
    split
    · split
      · exact holdP_past
      · rfl
    · rfl
  split
  · rfl
  split
  · rfl
  split
  · unfold dropP
    split
    · rw [markP_past]
    · rfl
  · unfold putP
    split
    · split
      · rw [holdP_past]
      · rfl
    · rfl
theorem leave_past {t : PSt} {k : Nat} : (leaveP t k).past = t.past := by
  unfold leaveP
  split
  · split <;> rfl
  · rfl
theorem doP_past {c : Conf} {t : PSt} {e : Ev} : (doP c t e).past = t.past ++ [e] := by
  unfold doP doG actP
  split
  · rfl
  split
  · rfl
  split
  · rfl
  split
  · unfold stopP
    split <;> rfl
  · unfold stepP
    split
    · rw [leave_past, opP_past]
      show (preP c (noteP t e) _ _).past = _
      unfold preP
      split <;> rfl
    · unfold preP
      split <;> rfl
theorem do_len {c : Conf} {t : PSt} {e : Ev} : (doP c t e).ops.length ≤ t.ops.length + 1 := by
  unfold doP doG actP
  split
  · exact Nat.le_succ _
  split
  · exact Nat.le_succ _
  split
  · exact Nat.le_succ _
  split
  · unfold stopP
    split
    · rw [put_lenP]; exact Nat.le_succ _
    · exact Nat.le_succ _
  · have h1 : ∀ w k, (preP c (noteP t e) w k).ops.length ≤ t.ops.length + 1 := fun w k => by
      unfold preP
      split
      · show (t.ops ++ [newP c w _]).length ≤ _
        rw [List.length_append]
        exact Nat.le_refl _
      · exact Nat.le_succ _
    unfold stepP
    split
    · rw [leave_len, opP_len, put_lenP]; exact h1 _ _
    · exact h1 _ _
theorem runS_snoc {c : Conf} {es : List Ev} {i : Nat} {e : Ev} (h : es[i]? = some e) : runS c (es.take (i + 1)) = doP c (runS c (es.take i)) e := by
  unfold runS
  rw [take_snoc h, List.foldl_append]
  rfl
structure Item (K : PySem.W.Frag) (H : Hp) (v : V) (d : PyData) (fl : Bool) : Prop where
  c : VCase K H v fl
  d : Dp K H v d
def okItem (c : Conf) (t : PSt) (d : PyData) (fl : Bool) : Bool := if fl then false else (evP c t).any fun e => PyData.eqv (evD' e) d
/-- what a run may be that is asked of -/
inductive RunC (K : PySem.W.Frag) (C D CB : Addr) (c : Conf) (H : Hp) (r : Addr) (Q : VK) (E : XK) : Prop where
  | lst (ys : List V) (h : H r = some (.lst ys)) (e : ∀ dd H', Same H H' → H dd = none → E (.ref CB) (some dd) H')
  | run (xs : List V) (es : List Ev) (h : H r = some (.tup xs)) (X : EvsAt H xs es) (R : RunP c es) (l : xs.length ≤ 60) (q : ∀ p A H', Same H H' → (∀ b, PF p A b → H b = none) → Play0 C D c H' p A (runS c es) → Q (.ref p) H')
  | odd (xs : List V) (es : List Ev) (v : V) (d : PyData) (fl : Bool) (h : H r = some (.tup (xs ++ [v]))) (X : EvsAt H xs es) (R : RunP c es) (l : xs.length < 60) (i : ∀ H', Same H H' → Item K H' v d fl) (s : SeqAt.shaped d = true)
      (g : GoodP c (runS c es)) (n : okItem c (runS c es) d fl = false) (e : ∀ dd H', Same H H' → H dd = none → E (.ref CB) (some dd) H')
@[irreducible] def spPlayed (K : PySem.W.Frag) (C D CB : Addr) : Sp := fun vs H Q E => ∃ (c : Conf) (d w r : Addr), vs = [.ref d, .ref w, .ref r] ∧ H d = some (dT c) ∧ H w = some (wT c) ∧ c.Ok ∧ RunC K C D CB c H r Q E
section
variable {P : Program} {w : World} {K : PySem.W.Frag} {mg : Str → Option Value} {base : Heap} {CB fB : Addr}
end
end Ca

set_option Elab.async false
set_option linter.all false
set_option maxRecDepth 100000
set_option maxHeartbeats 4000000
namespace Ca
open PySem L2
/-- a run that stands as a tuple of events -/
structure Ran (H : Hp) (c : Conf) (d w r : Addr) (es : List Ev) : Prop where
  dd : H d = some (dT c)
  ww : H w = some (wT c)
  ok : c.Ok
  at_ : ∃ xs, H r = some (.tup xs) ∧ EvsAt H xs es ∧ xs.length ≤ 60
  run : RunP c es
end Ca

set_option Elab.async false
set_option linter.all false
set_option maxRecDepth 100000
set_option maxHeartbeats 4000000
namespace Ca
open PySem L2
/-! ### the law's cache and the program's go hand in hand -/
def lookS (c : Conf) : List Str := if c.guard = "never" then ["look", "fetch"] else ["look", "fetch", "fill"]
def fetchS (c : Conf) : List Str := if c.guard = "never" then ["fetch"] else ["fetch", "fill"]
def fillS : List Str := ["fill"]
def takeS : List Str := ["take"]
def live (o : OpS) : Prop := ¬ o.stage = "ended" ∧ ¬ o.stage = "stopped"
structure RelOp (c : Conf) (w : Nat) (o : OpS) (q : POp) : Prop where
  kind : q.kind = o.kind
  ver : q.version = o.version
  stop : q.stopped = decide (o.stage = "stopped")
  ne : q.steps = [] ↔ o.stage = "ended"
  seen : live o → q.seen ≤ w
  wr : o.kind = "write" → live o → q.steps = c.steps.drop o.step
  rk : o.kind = "read" → o.stage = "look" → q.steps = lookS c ∧ o.clean = true
  rf : o.kind = "read" → o.stage = "fetch" → q.steps = fetchS c ∧ o.clean = decide (q.seen = w)
  rl : o.kind = "read" → o.stage = "fill" → q.steps = fillS ∧ o.clean = decide (q.seen = w) ∧ ¬ c.guard = "never"
  rw : o.kind = "read" → o.stage = "waits" → q.steps = takeS ∧ q.awaited = o.leader
  aw : live o → ¬ o.stage = "waits" → q.awaited = none
structure RelL (c : Conf) (w : Nat) (l : List OpS) (m : List POp) : Prop where
  len : l.length = m.length
  op : ∀ (k : Nat) o q, l[k]? = some o → m[k]? = some q → RelOp c w o q
structure Lead (c : Conf) (opn leader : Option Nat) (m : List POp) : Prop where
  ld : ∀ l, opn = some l → leader = some l ∧ endedAt m (some l) = false
  ln : opn = none → endedAt m leader = true
  fl : ¬ c.flight = "shared" → opn = none
  rg : ∀ l, leader = some l → l < m.length
structure Rel (c : Conf) (s : HS) (t : PSt) : Prop where
  db : t.db = s.db
  rep : t.rep = s.rep
  cache : t.cache = s.cache
  mark : t.mark = s.mark
  ops : RelL c t.wipes s.ops t.ops
  lead : Lead c s.opn t.leader t.ops
section
variable {c : Conf} {w k : Nat} {l : List OpS} {m : List POp} {o o' : OpS} {q q' : POp} {opn leader : Option Nat}
theorem RelL.set (R : RelL c w l m) (h : RelOp c w o' q') : RelL c w (l.set k o') (m.set k q') := by
  refine ⟨by rw [List.length_set, List.length_set, R.len], fun j u v e1 e2 => ?_⟩
  by_cases hj : k = j
  · subst hj
    by_cases hl : k < l.length
    · rw [List.getElem?_set_self hl] at e1
      rw [List.getElem?_set_self (by rw [← R.len]; exact hl)] at e2
      cases e1
      cases e2
      exact h
    · have := (List.getElem?_eq_some_iff.mp e1).1
      rw [List.length_set] at this
      exact absurd this hl
  · rw [List.getElem?_set_ne hj] at e1
    rw [List.getElem?_set_ne hj] at e2
    exact R.op j u v e1 e2
theorem RelL.snoc (R : RelL c w l m) (h : RelOp c w o' q') : RelL c w (l ++ [o']) (m ++ [q']) := by
  refine ⟨by rw [List.length_append, List.length_append, R.len]; rfl, fun j u v e1 e2 => ?_⟩
  by_cases hj : j < l.length
  · rw [List.getElem?_append_left hj] at e1
    rw [List.getElem?_append_left (by rw [← R.len]; exact hj)] at e2
    exact R.op j u v e1 e2
  · rw [List.getElem?_append_right (by omega)] at e1
    rw [List.getElem?_append_right (by rw [← R.len]; omega), ← R.len] at e2
    have e0 : j - l.length = 0 := by
      have := (List.getElem?_eq_some_iff.mp e1).1
      simp at this
      omega
    rw [e0] at e1 e2
    cases e1
    cases e2
    exact h
theorem RelOp.cf (h : RelOp c w o q) (n : ¬ o.stage = "look" ∨ ¬ o.kind = "read") : RelOp c (w + 1) (cf o) q := by
  have f : live o → (false : Bool) = decide (q.seen = w + 1) := fun lv => (decide_eq_false (by have := h.seen lv; omega)).symm
  have lf : ∀ {x : Str}, o.stage = x → ¬ x = "ended" → ¬ x = "stopped" → live o := fun e a b => ⟨by rw [e]; exact a, by rw [e]; exact b⟩
  refine ⟨h.kind, h.ver, h.stop, h.ne, fun lv => (by have := h.seen lv; omega), h.wr, fun a b => ?_, fun a b => ⟨(h.rf a b).1, f (lf b (by decide +kernel) (by decide +kernel))⟩, fun a b => ⟨(h.rl a b).1, f (lf b (by decide +kernel) (by decide +kernel)), (h.rl a b).2.2⟩, h.rw, h.aw⟩
  rcases n with n | n
  · exact absurd b n
  · exact absurd a n
theorem RelL.cf (R : RelL c w l m) (n : ∀ o ∈ l, ¬ o.stage = "look" ∨ ¬ o.kind = "read") : RelL c (w + 1) (l.map cf) m := by
  refine ⟨by rw [List.length_map, R.len], fun j u v e1 e2 => ?_⟩
  rw [List.getElem?_map] at e1
  cases e : l[j]? with
  | none => rw [e] at e1; cases e1
  | some o =>
    rw [e] at e1
    cases e1
    exact (R.op j o v e e2).cf (n o (List.mem_of_getElem? e))
theorem ended_set (hq : m[k]? = some q) {j : Nat} : endedAt (m.set k q') (some j) = if j = k then q'.ended else endedAt m (some j) := by
  show (match (m.set k q')[j]? with | some q => q.ended | none => true) = _
  by_cases hj : j = k
  · subst hj
    rw [if_pos rfl, List.getElem?_set_self (List.getElem?_eq_some_iff.mp hq).1]
  · rw [if_neg hj, List.getElem?_set_ne (Ne.symm hj)]
    rfl
theorem ended_at (hq : m[k]? = some q) : endedAt m (some k) = q.ended := by
  show (match m[k]? with | some q => q.ended | none => true) = _
  rw [hq]
/-- an operation goes on -/
theorem Lead.on (L : Lead c opn leader m) (hq : m[k]? = some q) (n0 : q.ended = false) (n1 : q'.ended = false) : Lead c opn leader (m.set k q') := by
  have e : ∀ l, endedAt (m.set k q') l = endedAt m l := fun l => by
    cases l with
    | none => rfl
    | some j =>
      rw [ended_set hq]
      split
      · rename_i z
        rw [z, ended_at hq, n0, n1]
      · rfl
  exact ⟨fun l h => by rw [e]; exact L.ld l h, fun h => by rw [e]; exact L.ln h, L.fl, fun l h => by rw [List.length_set]; exact L.rg l h⟩
/-- an operation ends -/
theorem Lead.fin (L : Lead c opn leader m) (hq : m[k]? = some q) (n0 : q.ended = false) (n1 : q'.ended = true) : Lead c (if opn = some k then none else opn) leader (m.set k q') := by
  refine ⟨fun l h => ?_, fun h => ?_, fun h => (by rw [L.fl h]; simp), fun l h => by rw [List.length_set]; exact L.rg l h⟩
  · split at h
    · cases h
    · rename_i z
      obtain ⟨a, b⟩ := L.ld l h
      refine ⟨a, ?_⟩
      rw [ended_set hq, if_neg (fun y => z (by rw [h, y]))]
      exact b
  · by_cases z : opn = some k
    · rw [(L.ld k z).1, ended_set hq, if_pos rfl]
      exact n1
    · rw [if_neg z] at h
      have y := L.ln h
      cases leader with
      | none => rfl
      | some j =>
        rw [ended_set hq]
        split
        · exact n1
        · exact y
theorem end_f {s : HS} {st : Str} : (endH s k o st).db = s.db ∧ (endH s k o st).rep = s.rep ∧ (endH s k o st).cache = s.cache ∧ (endH s k o st).mark = s.mark ∧ (endH s k o st).opn = (if st = "ended" then (if s.opn = some o.number then none else s.opn) else s.opn) := by
  simp only [endH]
  by_cases h : st = "ended" ∧ s.opn = some o.number
  · rw [if_pos h, if_pos h.1, if_pos h.2]
    exact ⟨rfl, rfl, rfl, rfl, rfl⟩
  · rw [if_neg h]
    refine ⟨rfl, rfl, rfl, rfl, ?_⟩
    by_cases h1 : st = "ended"
    · rw [if_pos h1, if_neg (fun z => h ⟨h1, z⟩)]
      rfl
    · rw [if_neg h1]
      rfl
def o5 (c : Conf) (s3 : HS) (o : OpS) : OpS := if o.step + 1 = c.steps.length then { o with step := o.step + 1, stage := "ended", over := some s3.past.length } else { o with step := o.step + 1, stage := c.steps.getD (o.step + 1) "" }
theorem wr4_f {s : HS} : (wr4 c s k o).db = s.db ∧ (wr4 c s k o).rep = s.rep ∧ (wr4 c s k o).cache = s.cache ∧ (wr4 c s k o).mark = s.mark ∧ (wr4 c s k o).ops = s.ops.set k (o5 c s o) ∧ (wr4 c s k o).opn = (if o.step + 1 = c.steps.length then (if s.opn = some o.number then none else s.opn) else s.opn) := by
  unfold wr4 o5
  by_cases h : o.step + 1 = c.steps.length
  · rw [if_pos h, if_pos h, if_pos h]
    obtain ⟨a, b, d, e, f⟩ := end_f (k := k) (o := { o with step := o.step + 1 }) (s := s.put k { o with step := o.step + 1 }) (st := "ended")
    refine ⟨a, b, d, e, ?_, ?_⟩
    · rw [end_ops]
      show (s.ops.set k _).set k _ = _
      rw [List.set_set]
      rfl
    · rw [f, if_pos rfl]
      rfl
  · rw [if_neg h, if_neg h, if_neg h]
    exact ⟨rfl, rfl, rfl, rfl, rfl, rfl⟩
theorem not_wait (O : c.Ok) {j : Nat} (h : j < c.steps.length) : ¬ c.steps.getD j "" = "waits" ∧ ¬ c.steps.getD j "" = "ended" ∧ ¬ c.steps.getD j "" = "stopped" ∧ ¬ c.steps.getD j "" = "look" := by
  rcases step_word O h with e | e | e <;> rw [e] <;> decide +kernel
theorem rel_o5 {s3 : HS} {w0 w5 : Nat} {v : Option Nat} {cl : Bool} (O : c.Ok) (h : RelOp c w0 o q) (kd : o.kind = "write") (lv : live o) (nw : ¬ o.stage = "waits") (hs : o.step < c.steps.length) (hw : w0 ≤ w5) :
    RelOp c w5 (o5 c s3 { o with version := v, clean := cl }) { tailP q with version := v } := by
  have st := h.wr kd lv
  have sd : (tailP q).steps = c.steps.drop (o.step + 1) := by
    show q.steps.drop 1 = _
    rw [st, List.drop_drop]
  have kr : ∀ {P : Prop}, o.kind = "read" → P := fun z => by rw [kd] at z; exact absurd z (by decide +kernel)
  have qs : q.stopped = false := by rw [h.stop]; exact decide_eq_false lv.2
  have qa := h.aw lv nw
  have hse := h.seen lv
  unfold o5
  by_cases e : o.step + 1 = c.steps.length
  · rw [if_pos (show ({ o with version := v, clean := cl } : OpS).step + 1 = c.steps.length from e)]
    have z : (tailP q).steps = [] := by rw [sd]; exact List.drop_eq_nil_of_le (by omega)
    exact ⟨h.kind, rfl, by show q.stopped = decide (("ended" : Str) = "stopped"); rw [qs]; decide +kernel, ⟨fun _ => rfl, fun _ => z⟩, fun _ => (by show q.seen ≤ w5; omega), fun _ y => absurd rfl y.1, fun a _ => kr a, fun a _ => kr a, fun a _ => kr a, fun a _ => kr a, fun y _ => absurd rfl y.1⟩
  · rw [if_neg (show ¬ ({ o with version := v, clean := cl } : OpS).step + 1 = c.steps.length from e)]
    have hl : o.step + 1 < c.steps.length := by omega
    obtain ⟨n1, n2, n3, n4⟩ := not_wait O hl
    have z : ¬ (tailP q).steps = [] := by
      rw [sd]
      intro y
      have := List.drop_eq_nil_iff.mp y
      omega
    exact ⟨h.kind, rfl, by show q.stopped = decide (c.steps.getD (o.step + 1) "" = "stopped"); rw [qs, decide_eq_false n3], ⟨fun y => absurd y z, fun y => absurd y n2⟩, fun _ => (by show q.seen ≤ w5; omega), fun _ _ => sd, fun a _ => kr a, fun a _ => kr a, fun a _ => kr a, fun a _ => kr a, fun _ _ => qa⟩
structure RelX (c : Conf) (w k : Nat) (l : List OpS) (m : List POp) : Prop where
  len : l.length = m.length
  op : ∀ (j : Nat) o q, ¬ j = k → l[j]? = some o → m[j]? = some q → RelOp c w o q
theorem RelL.x (R : RelL c w l m) : RelX c w k l m := ⟨R.len, fun j o q _ => R.op j o q⟩
theorem RelX.seta (R : RelX c w k l m) : RelX c w k (l.set k o') m := ⟨by rw [List.length_set]; exact R.len, fun j u v n e1 e2 => by
  rw [List.getElem?_set_ne (Ne.symm n)] at e1
  exact R.op j u v n e1 e2⟩
theorem RelX.set (R : RelX c w k l m) (h : RelOp c w o' q') : RelL c w (l.set k o') (m.set k q') := by
  refine ⟨by rw [List.length_set, List.length_set, R.len], fun j u v e1 e2 => ?_⟩
  by_cases hj : k = j
  · subst hj
    by_cases hl : k < l.length
    · rw [List.getElem?_set_self hl] at e1
      rw [List.getElem?_set_self (by rw [← R.len]; exact hl)] at e2
      cases e1
      cases e2
      exact h
    · have := (List.getElem?_eq_some_iff.mp e1).1
      rw [List.length_set] at this
      exact absurd this hl
  · rw [List.getElem?_set_ne hj] at e1
    rw [List.getElem?_set_ne hj] at e2
    exact R.op j u v (Ne.symm hj) e1 e2
theorem hold_f {s : HS} {v : Nat} : (holdH c s v).db = s.db ∧ (holdH c s v).rep = s.rep ∧ (holdH c s v).cache = some v ∧ (holdH c s v).mark = (if c.guard = "mark" then max s.mark v else s.mark) ∧ (holdH c s v).opn = s.opn := by
  unfold holdH
  split <;> exact ⟨rfl, rfl, rfl, rfl, rfl⟩
theorem holdP_f {t : PSt} {v : Nat} : (holdP c t v).db = t.db ∧ (holdP c t v).rep = t.rep ∧ (holdP c t v).cache = some v ∧ (holdP c t v).mark = (if c.guard = "mark" then max t.mark v else t.mark) ∧ (holdP c t v).ops = t.ops ∧ (holdP c t v).leader = t.leader ∧ (holdP c t v).wipes = t.wipes := by
  unfold holdP markP
  split <;> exact ⟨rfl, rfl, rfl, rfl, rfl, rfl, rfl⟩
/-- the end of a write's step -/
theorem fin_write {s s3 : HS} {t t' : PSt} {v : Option Nat} {cl : Bool} (O : c.Ok) (R : Rel c s t) (num : o.number = k) (eq : t.ops[k]? = some q) (h : RelOp c t.wipes o q) (kd : o.kind = "write") (lv : live o) (nw : ¬ o.stage = "waits") (hs : o.step < c.steps.length)
    (hdb : t'.db = s3.db) (hrep : t'.rep = s3.rep) (hca : t'.cache = s3.cache) (hma : t'.mark = s3.mark) (hop : s3.opn = s.opn) (hle : t'.leader = t.leader) (hm : t'.ops = t.ops.set k { tailP q with version := v }) (hw : t.wipes ≤ t'.wipes) (X : RelX c t'.wipes k s3.ops t.ops) :
    Rel c (wr4 c s3 k { o with version := v, clean := cl }) t' := by
  obtain ⟨f1, f2, f3, f4, f5, f6⟩ := wr4_f (c := c) (k := k) (s := s3) (o := { o with version := v, clean := cl })
  have r5 := rel_o5 (s3 := s3) (w5 := t'.wipes) (v := v) (cl := cl) O h kd lv nw hs hw
  have n0 : q.ended = false := by
    unfold POp.ended
    cases z : q.steps with
    | nil => exact absurd (h.ne.mp z) lv.1
    | cons _ _ => rfl
  refine ⟨by rw [f1]; exact hdb, by rw [f2]; exact hrep, by rw [f3]; exact hca, by rw [f4]; exact hma, by rw [f5, hm]; exact X.set r5, ?_⟩
  rw [f6, hop, hle, hm]
  by_cases e : o.step + 1 = c.steps.length
  · rw [if_pos (show ({ o with version := v, clean := cl } : OpS).step + 1 = c.steps.length from e), show ({ o with version := v, clean := cl } : OpS).number = k from num]
    refine R.lead.fin eq n0 ?_
    have z : ({ tailP q with version := v } : POp).steps = [] := r5.ne.mpr (by
      unfold o5
      rw [if_pos (show ({ o with version := v, clean := cl } : OpS).step + 1 = c.steps.length from e)])
    unfold POp.ended
    rw [z]
    rfl
  · rw [if_neg (show ¬ ({ o with version := v, clean := cl } : OpS).step + 1 = c.steps.length from e)]
    refine R.lead.on eq n0 ?_
    have hl : o.step + 1 < c.steps.length := by omega
    have z : ¬ ({ tailP q with version := v } : POp).steps = [] := fun y => by
      have y2 := r5.ne.mp y
      unfold o5 at y2
      rw [if_neg (show ¬ ({ o with version := v, clean := cl } : OpS).step + 1 = c.steps.length from e)] at y2
      exact (not_wait O hl).2.1 y2
    unfold POp.ended
    cases y : ({ tailP q with version := v } : POp).steps with
    | nil => exact absurd y z
    | cons _ _ => rfl
theorem Rel.write {s : HS} {t : PSt} {wd : Str} (O : c.Ok) (W : Wf c s) (R : Rel c s t) (NL : ∀ o ∈ s.ops, ¬ o.stage = "look" ∨ ¬ o.kind = "read") (eo : s.ops[k]? = some o) (eq : t.ops[k]? = some q) (kd : o.kind = "write") (lv : live o) (hn : nextOf s o = some wd) :
    Rel c (writeH c s k o wd) (opP c (t.put k (tailP q)) k (tailP q) wd) := by
  have p := W.ops k o eo
  obtain ⟨hs, hw, hst, hset⟩ := p.write O kd lv.1 lv.2 hn
  have h := R.ops.op k o q eo eq
  have nw : ¬ o.stage = "waits" := by rw [hst, hw]; exact (not_wait O hs).1
  have hw' := step_word O hs
  rw [← hw] at hw'
  unfold writeH
  rcases hw' with e | e | e
  · -- drop
    subst e
    have d1 : wr1 s k o "drop" = { s with ops := s.ops.map cf } := if_neg (by decide +kernel)
    have d2 : wo1 s o "drop" = cf o := if_neg (by decide +kernel)
    have d3 : ∀ s2 o2, wr3 c s2 o2 "drop" = s2 := fun s2 o2 => if_neg (by decide +kernel)
    have d4 : opP c (t.put k (tailP q)) k (tailP q) "drop" = dropP c (t.put k (tailP q)) k (tailP q) := by
      unfold opP
      rw [if_neg (by decide +kernel), if_neg (by decide +kernel), if_neg (by decide +kernel), if_neg (by decide +kernel), if_neg (by decide +kernel), if_pos rfl]
    rw [d1, d2, d3, d4]
    have d5 : ∀ s2, wr2 c s2 (cf o) "drop" = (if c.guard = "mark" ∧ o.version.isSome then { s2 with cache := none, mark := max s2.mark (o.version.getD 0) } else { s2 with cache := none }) := fun s2 => if_pos rfl
    rw [d5]
    have X : RelX c (t.wipes + 1) k (s.ops.map cf) t.ops := (R.ops.cf NL).x
    have vq : (tailP q).version = o.version := h.ver
    cases ev : o.version with
    | none =>
      have zP : dropP c (t.put k (tailP q)) k (tailP q) = { t.put k (tailP q) with cache := none, wipes := t.wipes + 1 } := by
        unfold dropP
        rw [vq, ev]
        rfl
      rw [zP]
      rw [if_neg (by rintro ⟨_, z⟩; cases z)]
      have ec : cf o = { o with version := none, clean := false } := by unfold cf; rw [← ev]
      rw [ec]
      exact fin_write O R p.num eq h kd lv nw hs R.db R.rep rfl R.mark rfl rfl (by show t.ops.set k (tailP q) = _; rw [show ({ tailP q with version := none } : POp) = tailP q from by rw [← ev, ← vq]]) (Nat.le_succ _) X
    | some v =>
      have ec : cf o = { o with version := some v, clean := false } := by unfold cf; rw [← ev]
      rw [ec]
      have eq5 : ({ tailP q with version := some v } : POp) = tailP q := by rw [← ev, ← vq]
      have zP : dropP c (t.put k (tailP q)) k (tailP q) = (if c.guard = "mark" then { t.put k (tailP q) with cache := none, wipes := t.wipes + 1, mark := max t.mark v } else { t.put k (tailP q) with cache := none, wipes := t.wipes + 1 }) := by
        unfold dropP
        rw [vq, ev]
        rfl
      rw [zP]
      by_cases g : c.guard = "mark"
      · rw [if_pos g, if_pos ⟨g, rfl⟩]
        exact fin_write O R p.num eq h kd lv nw hs R.db R.rep rfl (by show max t.mark v = max s.mark v; rw [R.mark]) rfl rfl (by show t.ops.set k (tailP q) = _; rw [eq5]) (Nat.le_succ _) X
      · rw [if_neg g, if_neg (fun z => g z.1)]
        exact fin_write O R p.num eq h kd lv nw hs R.db R.rep rfl R.mark rfl rfl (by show t.ops.set k (tailP q) = _; rw [eq5]) (Nat.le_succ _) X
  · -- store
    subst e
    have d1 : wr1 s k o "store" = { s with db := s.db + 1, ops := s.ops.set k { o with version := some (s.db + 1) } } := if_pos rfl
    have d2 : wo1 s o "store" = { o with version := some (s.db + 1), clean := o.clean } := if_pos rfl
    have d3 : ∀ s2 o2, wr3 c s2 o2 "store" = s2 := fun s2 o2 => if_neg (by decide +kernel)
    have d4 : opP c (t.put k (tailP q)) k (tailP q) "store" = storeP c (t.put k (tailP q)) k (tailP q) := by
      unfold opP
      rw [if_neg (by decide +kernel), if_neg (by decide +kernel), if_neg (by decide +kernel), if_neg (by decide +kernel), if_pos rfl]
    have d5 : ∀ s2 o2, wr2 c s2 o2 "store" = s2 := fun s2 o2 => if_neg (by decide +kernel)
    rw [d1, d2, d3, d4, d5]
    unfold storeP
    refine fin_write O R p.num eq h kd lv nw hs (by show t.db + 1 = s.db + 1; rw [R.db]) R.rep R.cache R.mark rfl rfl ?_ (Nat.le_refl _) R.ops.x.seta
    show ((t.ops.set k (tailP q)).set k _) = _
    rw [List.set_set]
    show t.ops.set k { tailP q with version := some (t.db + 1) } = _
    rw [R.db]
  · -- set
    subst e
    have d1 : wr1 s k o "set" = { s with ops := s.ops.map cf } := if_neg (by decide +kernel)
    have d2 : wo1 s o "set" = cf o := if_neg (by decide +kernel)
    have d4 : opP c (t.put k (tailP q)) k (tailP q) "set" = putP c (t.put k (tailP q)) k (tailP q) := by
      unfold opP
      rw [if_neg (by decide +kernel), if_neg (by decide +kernel), if_neg (by decide +kernel), if_neg (by decide +kernel), if_neg (by decide +kernel), if_neg (by decide +kernel)]
    have d5 : ∀ s2 o2, wr2 c s2 o2 "set" = s2 := fun s2 o2 => if_neg (by decide +kernel)
    have d3 : ∀ s2 o2, wr3 c s2 o2 "set" = (if setsB c s2 (o2.version.getD 0) then holdH c s2 (o2.version.getD 0) else s2) := fun s2 o2 => if_pos rfl
    rw [d1, d2, d4, d5, d3]
    have X : RelX c (t.wipes + 1) k (s.ops.map cf) t.ops := (R.ops.cf NL).x
    obtain ⟨v, ev⟩ := Option.isSome_iff_exists.mp (hset rfl)
    have ec : cf o = { o with version := some v, clean := false } := by unfold cf; rw [← ev]
    have vq : (tailP q).version = some v := h.ver.trans ev
    have eq5 : ({ tailP q with version := some v } : POp) = tailP q := by rw [← vq]
    rw [ec]
    unfold putP
    rw [vq]
    have eb : inP c { t.put k (tailP q) with wipes := t.wipes + 1 } v = setsB c { s with ops := s.ops.map cf } v := by
      unfold inP setsB newerB
      show (if c.guard = "newer" then (match t.cache with | none => true | some x => decide (x < v)) else if c.guard = "mark" then decide (t.mark ≤ v) else true) = (if c.guard = "mark" then decide (s.mark ≤ v) else !decide (c.guard = "newer") || (match s.cache with | none => true | some x => decide (x < v)))
      rw [R.cache, R.mark]
      by_cases g1 : c.guard = "newer"
      · rw [if_pos g1, if_neg (by rw [g1]; decide +kernel), decide_eq_true g1]
        rfl
      · rw [if_neg g1, decide_eq_false g1]
        rfl
    show Rel c (wr4 c (if setsB c { s with ops := s.ops.map cf } v then holdH c { s with ops := s.ops.map cf } v else { s with ops := s.ops.map cf }) k _) (if inP c { t.put k (tailP q) with wipes := t.wipes + 1 } v then holdP c { t.put k (tailP q) with wipes := t.wipes + 1 } v else { t.put k (tailP q) with wipes := t.wipes + 1 })
    rw [eb]
    by_cases b : setsB c { s with ops := s.ops.map cf } v = true
    · rw [if_pos b, if_pos b]
      obtain ⟨a1, a2, a3, a4, a5⟩ := hold_f (c := c) (s := { s with ops := s.ops.map cf }) (v := v)
      obtain ⟨b1, b2, b3, b4, b5, b6, b7⟩ := holdP_f (c := c) (t := { t.put k (tailP q) with wipes := t.wipes + 1 }) (v := v)
      refine fin_write O R p.num eq h kd lv nw hs (by rw [a1, b1]; exact R.db) (by rw [a2, b2]; exact R.rep) (by rw [a3, b3]) (by rw [a4, b4]; show (if _ then max t.mark v else t.mark) = (if _ then max s.mark v else s.mark); rw [R.mark]) (by rw [a5]) (by rw [b6]; rfl) (by rw [b5]; show t.ops.set k (tailP q) = _; rw [eq5]) (by rw [b7]; exact Nat.le_succ _) (by rw [hold_ops, b7]; exact X)
    · rw [if_neg b, if_neg b]
      exact fin_write O R p.num eq h kd lv nw hs R.db R.rep R.cache R.mark rfl rfl (by show t.ops.set k (tailP q) = _; rw [eq5]) (Nat.le_succ _) X
end
end Ca

set_option Elab.async false
set_option linter.all false
set_option maxRecDepth 100000
set_option maxHeartbeats 4000000
namespace Ca
open PySem L2
section
variable {c : Conf} {w k : Nat} {l : List OpS} {m : List POp} {o o' : OpS} {q q' : POp} {opn leader : Option Nat}
theorem rel_end {x : Option Nat} (h1 : q'.kind = o.kind) (h2 : q'.version = o.version) (h3 : q'.stopped = false) (h4 : q'.steps = []) (h5 : q'.seen ≤ w) : RelOp c w { o with stage := "ended", over := x } q' := by
  have n : ∀ {P : Prop} {st : Str}, ¬ ("ended" : Str) = st → ("ended" : Str) = st → P := fun a b => absurd b a
  exact ⟨h1, h2, by rw [h3]; show false = decide (("ended" : Str) = "stopped"); decide +kernel, ⟨fun _ => rfl, fun _ => h4⟩, fun _ => h5, fun _ y => absurd rfl y.1, fun _ b => n (by decide +kernel) b, fun _ b => n (by decide +kernel) b, fun _ b => n (by decide +kernel) b, fun _ b => n (by decide +kernel) b, fun y _ => absurd rfl y.1⟩
theorem end_none {st : List Str} (h : q.steps = st) : q.ended = st.isEmpty := by
  unfold POp.ended
  rw [h]
theorem not_ended (h : RelOp c w o q) (lv : live o) : q.ended = false := by
  unfold POp.ended
  cases z : q.steps with
  | nil => exact absurd (h.ne.mp z) lv.1
  | cons _ _ => rfl
/-- an operation's last step -/
theorem fin_end {s s1 : HS} {t t' : PSt} (R : Rel c s t) (num : o.number = k) (eq : t.ops[k]? = some q) (n0 : q.ended = false)
    (hdb : t'.db = s1.db) (hrep : t'.rep = s1.rep) (hca : t'.cache = s1.cache) (hma : t'.mark = s1.mark) (hop : s1.opn = s.opn) (hle : t'.leader = t.leader) (hm : t'.ops = t.ops.set k q') (X : RelX c t'.wipes k s1.ops t.ops)
    (h1 : q'.kind = o.kind) (h2 : q'.version = o.version) (h3 : q'.stopped = false) (h4 : q'.steps = []) (h5 : q'.seen ≤ t'.wipes) : Rel c (endH s1 k o "ended") t' := by
  obtain ⟨f1, f2, f3, f4, f5⟩ := end_f (k := k) (o := o) (s := s1) (st := "ended")
  refine ⟨by rw [f1]; exact hdb, by rw [f2]; exact hrep, by rw [f3]; exact hca, by rw [f4]; exact hma, by rw [end_ops, hm]; exact X.set (rel_end h1 h2 h3 h4 h5), ?_⟩
  rw [f5, if_pos rfl, hop, num, hle, hm]
  exact R.lead.fin eq n0 (by rw [end_none h4]; rfl)
theorem Rel.read {s : HS} {t : PSt} {wd : Str} (O : c.Ok) (W : Wf c s) (R : Rel c s t) (eo : s.ops[k]? = some o) (eq : t.ops[k]? = some q) (kd : ¬ o.kind = "write") (lv : live o) (hn : nextOf s o = some wd) :
    Rel c (readH c s k o wd) (opP c (t.put k (tailP q)) k (tailP q) wd) := by
  have p := W.ops k o eo
  have kr : o.kind = "read" := p.kd.resolve_right kd
  have h := R.ops.op k o q eo eq
  have n0 := not_ended h lv
  have st0 : q.stopped = false := by rw [h.stop]; exact decide_eq_false lv.2
  have kW : ∀ {P : Prop}, o.kind = "write" → P := fun z => absurd z kd
  have pp : ∀ {q1 : POp}, (t.put k (tailP q)).put k q1 = t.put k q1 := fun {q1} => put_pP
  rcases p.read O kd lv.1 lv.2 hn with ⟨e, es⟩ | ⟨e, es⟩ | ⟨e, es, hv⟩ | ⟨e, es, l, u, el, eu⟩
  · -- look
    subst e
    obtain ⟨hst, hcl⟩ := h.rk kr es
    have d4 : opP c (t.put k (tailP q)) k (tailP q) "look" = lookP c (t.put k (tailP q)) k (tailP q) := if_pos rfl
    rw [d4]
    have tl : (tailP q).steps = fetchS c := by
      show q.steps.drop 1 = _
      rw [hst]
      unfold lookS fetchS
      split <;> rfl
    have tne : (tailP q).ended = false := by
      rw [end_none tl]
      unfold fetchS
      split <;> rfl
    have aw0 : q.awaited = none := h.aw lv (by rw [es]; decide +kernel)
    cases ec : s.cache with
    | some v =>
      have zL : readH c s k o "look" = endH (s.put k { o with version := some v }) k { o with version := some v } "ended" := by
        unfold readH
        rw [if_pos ⟨rfl, by rw [ec]; rfl⟩, ec]
      have zP : lookP c (t.put k (tailP q)) k (tailP q) = t.put k { tailP q with seen := t.wipes, version := some v, steps := [] } := by
        have tc : (t.put k (tailP q)).cache = some v := R.cache.trans ec
        unfold lookP
        rw [tc]
        exact pp
      rw [zL, zP]
      exact fin_end (q' := { tailP q with seen := t.wipes, version := some v, steps := [] }) R p.num eq n0 R.db R.rep R.cache R.mark rfl rfl rfl R.ops.x.seta h.kind rfl st0 rfl (Nat.le_refl _)
    | none =>
      have zP : lookP c (t.put k (tailP q)) k (tailP q) = (if c.flight = "shared" then shareP c (t.put k { tailP q with seen := t.wipes }) k { tailP q with seen := t.wipes } else t.put k { tailP q with seen := t.wipes }) := by
        have tc : (t.put k (tailP q)).cache = none := R.cache.trans ec
        unfold lookP
        rw [tc]
        show (if c.flight = "shared" then shareP c ((t.put k (tailP q)).put k { tailP q with seen := t.wipes }) k { tailP q with seen := t.wipes } else (t.put k (tailP q)).put k { tailP q with seen := t.wipes }) = _
        rw [pp]
      have eE : ∀ x, endedAt (t.put k { tailP q with seen := t.wipes }).ops x = endedAt t.ops x := fun x => by
        cases x with
        | none => rfl
        | some j =>
          show endedAt (t.ops.set k _) (some j) = _
          rw [ended_set eq]
          split
          · rename_i z
            rw [z, ended_at eq, n0]
            exact tne
          · rfl
      have rf : RelOp c t.wipes { o with stage := "fetch" } { tailP q with seen := t.wipes } := by
        have n : ∀ {P : Prop} {st : Str}, ¬ ("fetch" : Str) = st → ("fetch" : Str) = st → P := fun a b => absurd b a
        refine ⟨h.kind, h.ver, by show q.stopped = decide (("fetch" : Str) = "stopped"); rw [st0]; decide +kernel, ⟨fun z => ?_, fun z => n (by decide +kernel) z⟩, fun _ => Nat.le_refl _, fun a _ => kW a, fun _ b => n (by decide +kernel) b, fun _ _ => ⟨tl, ?_⟩, fun _ b => n (by decide +kernel) b, fun _ b => n (by decide +kernel) b, fun _ _ => aw0⟩
        · have z2 : (tailP q).steps = [] := z
          rw [end_none z2] at tne
          cases tne
        · show o.clean = decide (t.wipes = t.wipes)
          rw [hcl, decide_eq_true rfl]
      cases eopn : s.opn with
      | some l =>
        obtain ⟨hl1, hl2⟩ := R.lead.ld l eopn
        have fs : c.flight = "shared" := by
          apply Classical.byContradiction
          intro z
          rw [R.lead.fl z] at eopn
          cases eopn
        have zL : readH c s k o "look" = s.put k { o with stage := "waits", leader := some l } := by
          unfold readH
          rw [if_neg (by rw [ec]; rintro ⟨_, z⟩; cases z), if_pos ⟨rfl, by rw [eopn]; rfl⟩, eopn]
        have zP2 : shareP c (t.put k { tailP q with seen := t.wipes }) k { tailP q with seen := t.wipes } = t.put k { tailP q with seen := t.wipes, awaited := some l, steps := takeS } := by
          have tl1 : (t.put k { tailP q with seen := t.wipes }).leader = some l := hl1
          unfold shareP
          rw [tl1, eE, hl2, if_neg (by decide), put_pP]
          rfl
        rw [zL, zP, if_pos fs, zP2]
        have rq : RelOp c t.wipes { o with stage := "waits", leader := some l } { tailP q with seen := t.wipes, awaited := some l, steps := takeS } := by
          have n : ∀ {P : Prop} {st : Str}, ¬ ("waits" : Str) = st → ("waits" : Str) = st → P := fun a b => absurd b a
          exact ⟨h.kind, h.ver, by show q.stopped = decide (("waits" : Str) = "stopped"); rw [st0]; decide +kernel, ⟨fun z => (by cases z), fun z => n (by decide +kernel) z⟩, fun _ => Nat.le_refl _, fun a _ => kW a, fun _ b => n (by decide +kernel) b, fun _ b => n (by decide +kernel) b, fun _ b => n (by decide +kernel) b, fun _ _ => ⟨rfl, rfl⟩, fun _ b => absurd rfl b⟩
        exact ⟨R.db, R.rep, R.cache, R.mark, R.ops.set rq, R.lead.on eq n0 rfl⟩
      | none =>
        have zL : readH c s k o "look" = { s.put k { o with stage := "fetch" } with opn := if c.flight = "shared" then some o.number else none } := by
          unfold readH
          rw [if_neg (by rw [ec]; rintro ⟨_, z⟩; cases z), if_neg (by rw [eopn]; rintro ⟨_, z⟩; cases z), if_pos rfl]
        rw [zL, zP]
        by_cases fs : c.flight = "shared"
        · have zP2 : shareP c (t.put k { tailP q with seen := t.wipes }) k { tailP q with seen := t.wipes } = { t.put k { tailP q with seen := t.wipes } with leader := some k } := by
            unfold shareP
            rw [if_pos (by rw [eE]; exact R.lead.ln eopn)]
          rw [if_pos fs, if_pos fs, zP2]
          refine ⟨R.db, R.rep, R.cache, R.mark, R.ops.set rf, ⟨fun l z => ?_, fun z => (by cases z), fun z => absurd fs z, fun l z => (by cases z; show k < (t.ops.set k _).length; rw [List.length_set]; exact (List.getElem?_eq_some_iff.mp eq).1)⟩⟩
          have z : some o.number = some l := z
          rw [p.num] at z
          cases z
          refine ⟨rfl, ?_⟩
          show endedAt (t.ops.set k _) (some k) = false
          rw [ended_set eq, if_pos rfl]
          exact tne
        · rw [if_neg fs, if_neg fs]
          refine ⟨R.db, R.rep, R.cache, R.mark, R.ops.set rf, ?_⟩
          have := R.lead.on (q' := { tailP q with seen := t.wipes }) eq n0 tne
          rw [eopn] at this
          exact this
  · -- fetch
    subst e
    obtain ⟨hst, hcl⟩ := h.rf kr es
    have d4 : opP c (t.put k (tailP q)) k (tailP q) "fetch" = fetchP c (t.put k (tailP q)) k (tailP q) := by
      unfold opP
      rw [if_neg (by decide +kernel), if_pos rfl]
    have zP : fetchP c (t.put k (tailP q)) k (tailP q) = t.put k { tailP q with version := some (if c.source = "replica" then s.rep else s.db) } := by
      unfold fetchP
      rw [pp]
      show t.put k { tailP q with version := some (if c.source = "replica" then t.rep else t.db) } = _
      rw [R.rep, R.db]
    rw [d4, zP]
    have aw0 : q.awaited = none := h.aw lv (by rw [es]; decide +kernel)
    by_cases g : c.guard = "never"
    · have zL : readH c s k o "fetch" = endH (s.put k { o with version := some (if c.source = "replica" then s.rep else s.db), stage := "fill" }) k { o with version := some (if c.source = "replica" then s.rep else s.db), stage := "fill" } "ended" := by
        unfold readH
        rw [if_neg (by rintro ⟨z, _⟩; exact absurd z (by decide +kernel)), if_neg (by rintro ⟨z, _⟩; exact absurd z (by decide +kernel)), if_neg (by decide +kernel), if_pos rfl, if_pos g]
      rw [zL]
      have ts : (tailP q).steps = [] := by
        show q.steps.drop 1 = []
        rw [hst]
        unfold fetchS
        rw [if_pos g]
        rfl
      exact fin_end (q' := { tailP q with version := some (if c.source = "replica" then s.rep else s.db) }) R p.num eq n0 R.db R.rep R.cache R.mark rfl rfl rfl R.ops.x.seta h.kind rfl st0 ts (h.seen lv)
    · have zL : readH c s k o "fetch" = s.put k { o with version := some (if c.source = "replica" then s.rep else s.db), stage := "fill" } := by
        unfold readH
        rw [if_neg (by rintro ⟨z, _⟩; exact absurd z (by decide +kernel)), if_neg (by rintro ⟨z, _⟩; exact absurd z (by decide +kernel)), if_neg (by decide +kernel), if_pos rfl, if_neg g]
      rw [zL]
      have ts : (tailP q).steps = fillS := by
        show q.steps.drop 1 = _
        rw [hst]
        unfold fetchS
        rw [if_neg g]
        rfl
      have n : ∀ {P : Prop} {st : Str}, ¬ ("fill" : Str) = st → ("fill" : Str) = st → P := fun a b => absurd b a
      have rq : RelOp c t.wipes { o with version := some (if c.source = "replica" then s.rep else s.db), stage := "fill" } { tailP q with version := some (if c.source = "replica" then s.rep else s.db) } := by
        refine ⟨h.kind, rfl, by show q.stopped = decide (("fill" : Str) = "stopped"); rw [st0]; decide +kernel, ⟨fun z => ?_, fun z => n (by decide +kernel) z⟩, fun _ => h.seen lv, fun a _ => kW a, fun _ b => n (by decide +kernel) b, fun _ b => n (by decide +kernel) b, fun _ _ => ⟨ts, hcl, g⟩, fun _ b => n (by decide +kernel) b, fun _ _ => aw0⟩
        have z2 : (tailP q).steps = [] := z
        rw [ts] at z2
        cases z2
      exact ⟨R.db, R.rep, R.cache, R.mark, R.ops.set rq, R.lead.on eq n0 (by rw [end_none (q := { tailP q with version := some (if c.source = "replica" then s.rep else s.db) }) ts]; rfl)⟩
  · -- fill
    subst e
    obtain ⟨hst, hcl, hg⟩ := h.rl kr es
    obtain ⟨v, ev⟩ := Option.isSome_iff_exists.mp hv
    have d4 : opP c (t.put k (tailP q)) k (tailP q) "fill" = fillP c (t.put k (tailP q)) k (tailP q) := by
      unfold opP
      rw [if_neg (by decide +kernel), if_neg (by decide +kernel), if_pos rfl]
    have vq : (tailP q).version = some v := h.ver.trans ev
    have eb : fillB c (t.put k (tailP q)) (tailP q) v = letsB c s o v := by
      unfold fillB letsB inP newerB
      show (if c.guard = "empty" then t.cache.isNone else if c.guard = "token" then decide (q.seen = t.wipes) else if c.guard = "newer" then (match t.cache with | none => true | some x => decide (x < v)) else if c.guard = "mark" then decide (t.mark ≤ v) else true) = (if c.guard = "token" then o.clean else if c.guard = "mark" then decide (s.mark ≤ v) else decide (c.guard = "always") || (if c.guard = "newer" then (match s.cache with | none => true | some x => decide (x < v)) else s.cache.isNone))
      rw [R.cache, R.mark, hcl]
      have hgs := O.g
      simp only [guardsL, List.mem_cons, List.not_mem_nil, or_false] at hgs
      rcases hgs with z | z | z | z | z | z
      · rw [z, if_neg (by decide +kernel), if_neg (by decide +kernel), if_neg (by decide +kernel), if_neg (by decide +kernel), if_neg (by decide +kernel), if_neg (by decide +kernel), decide_eq_true rfl, Bool.true_or]
      · rw [z, if_pos rfl, if_neg (by decide +kernel), if_neg (by decide +kernel), if_neg (by decide +kernel), show decide (("empty" : Str) = "always") = false by decide +kernel, Bool.false_or]
      · rw [z, if_neg (by decide +kernel), if_neg (by decide +kernel), if_neg (by decide +kernel), if_pos rfl, if_neg (by decide +kernel), if_pos rfl]
      · exact absurd z hg
      · rw [z, if_neg (by decide +kernel), if_neg (by decide +kernel), if_pos rfl, if_neg (by decide +kernel), if_neg (by decide +kernel), if_pos rfl, show decide (("newer" : Str) = "always") = false by decide +kernel, Bool.false_or]
      · rw [z, if_neg (by decide +kernel), if_pos rfl, if_pos rfl]
    have zP : fillP c (t.put k (tailP q)) k (tailP q) = (if letsB c s o v then holdP c (t.put k (tailP q)) v else t.put k (tailP q)) := by
      unfold fillP
      rw [vq]
      show (if fillB c (t.put k (tailP q)) (tailP q) v then holdP c (t.put k (tailP q)) v else t.put k (tailP q)) = _
      rw [eb]
    have zL : readH c s k o "fill" = endH (if letsB c s o v then holdH c s v else s) k o "ended" := by
      unfold readH
      rw [if_neg (by rintro ⟨z, _⟩; exact absurd z (by decide +kernel)), if_neg (by rintro ⟨z, _⟩; exact absurd z (by decide +kernel)), if_neg (by decide +kernel), if_neg (by decide +kernel), if_neg (by decide +kernel), ev]
      rfl
    have ts : (tailP q).steps = [] := by
      show q.steps.drop 1 = []
      rw [hst]
      rfl
    rw [d4, zP, zL]
    by_cases b : letsB c s o v = true
    · rw [if_pos b, if_pos b]
      obtain ⟨a1, a2, a3, a4, a5⟩ := hold_f (c := c) (s := s) (v := v)
      obtain ⟨b1, b2, b3, b4, b5, b6, b7⟩ := holdP_f (c := c) (t := t.put k (tailP q)) (v := v)
      refine fin_end (q' := tailP q) R p.num eq n0 (by rw [a1, b1]; exact R.db) (by rw [a2, b2]; exact R.rep) (by rw [a3, b3]) (by rw [a4, b4]; show (if _ then max t.mark v else t.mark) = _; rw [R.mark]) a5 b6 b5 (by rw [hold_ops, b7]; exact R.ops.x) h.kind h.ver st0 ts (by rw [b7]; exact (h.seen lv))
    · rw [if_neg b, if_neg b]
      exact fin_end (q' := tailP q) R p.num eq n0 R.db R.rep R.cache R.mark rfl rfl rfl R.ops.x h.kind h.ver st0 ts (h.seen lv)
  · -- take
    subst e
    obtain ⟨hst, haw⟩ := h.rw kr es
    have d4 : opP c (t.put k (tailP q)) k (tailP q) "take" = takeP c (t.put k (tailP q)) k (tailP q) := by
      unfold opP
      rw [if_neg (by decide +kernel), if_neg (by decide +kernel), if_neg (by decide +kernel), if_pos rfl]
    have vl : leadV s o = u.version := by
      unfold leadV
      rw [el]
      show (match s.ops[l]? with | some q => q.version | none => none) = _
      rw [eu]
    have hlt : l < t.ops.length := by
      rw [← R.ops.len]
      exact (List.getElem?_eq_some_iff.mp eu).1
    obtain ⟨ql, eql⟩ : ∃ ql, t.ops[l]? = some ql := ⟨_, List.getElem?_eq_getElem hlt⟩
    have vt : versionAt (t.put k (tailP q)).ops (tailP q).awaited = u.version := by
      show versionAt (t.ops.set k (tailP q)) q.awaited = _
      rw [haw, el]
      show ((t.ops.set k (tailP q))[l]?).bind (·.version) = _
      by_cases hlk : l = k
      · subst hlk
        rw [List.getElem?_set_self hlt]
        rw [eu] at eo
        cases eo
        exact h.ver
      · rw [List.getElem?_set_ne (Ne.symm hlk), eql]
        exact (R.ops.op l u ql eu eql).ver
    have zP : takeP c (t.put k (tailP q)) k (tailP q) = t.put k { tailP q with version := u.version } := by
      unfold takeP
      rw [pp, vt]
    have zL : readH c s k o "take" = endH (s.put k { o with version := u.version }) k { o with version := u.version } "ended" := by
      unfold readH
      rw [if_neg (by rintro ⟨z, _⟩; exact absurd z (by decide +kernel)), if_neg (by rintro ⟨z, _⟩; exact absurd z (by decide +kernel)), if_neg (by decide +kernel), if_neg (by decide +kernel), if_pos rfl, vl]
    have ts : (tailP q).steps = [] := by
      show q.steps.drop 1 = []
      rw [hst]
      rfl
    rw [d4, zP, zL]
    exact fin_end (q' := { tailP q with version := u.version }) R p.num eq n0 R.db R.rep R.cache R.mark rfl rfl rfl R.ops.x.seta h.kind rfl st0 ts (h.seen lv)
end
end Ca

set_option Elab.async false
set_option linter.all false
set_option maxRecDepth 100000
set_option maxHeartbeats 4000000
namespace Ca
open PySem L2
section
variable {c : Conf} {w k : Nat} {l : List OpS} {m : List POp} {o o' : OpS} {q q' : POp} {opn leader : Option Nat} {s : HS} {t : PSt} {wd : Str}
def NL1 (o : OpS) : Prop := ¬ o.stage = "look" ∨ ¬ o.kind = "read"
def NLx (k : Nat) (l : List OpS) : Prop := ∀ (j : Nat) o, ¬ j = k → l[j]? = some o → NL1 o
theorem NLx.seta (h : NLx k l) : NLx k (l.set k o') := fun j u n e => by
  rw [List.getElem?_set_ne (Ne.symm n)] at e
  exact h j u n e
theorem NLx.cf (h : NLx k l) : NLx k (l.map cf) := fun j u n e => by
  rw [List.getElem?_map] at e
  cases z : l[j]? with
  | none => rw [z] at e; cases e
  | some o =>
    rw [z] at e
    cases e
    exact h j o n z
theorem NLx.set (h : NLx k l) (n1 : NL1 o') : ∀ o ∈ l.set k o', NL1 o := fun o ho => by
  obtain ⟨j, hj, e⟩ := List.getElem_of_mem ho
  have e' : (l.set k o')[j]? = some o := by rw [List.getElem?_eq_getElem hj, e]
  by_cases hk : k = j
  · subst hk
    rw [List.length_set] at hj
    rw [List.getElem?_set_self hj] at e'
    cases e'
    exact n1
  · rw [List.getElem?_set_ne hk] at e'
    exact h j o (Ne.symm hk) e'
theorem NLx.all (h : NLx k l) (eo : l[k]? = some o) (n1 : NL1 o) : ∀ u ∈ l, NL1 u := fun u hu => by
  obtain ⟨j, hj, e⟩ := List.getElem_of_mem hu
  have e' : l[j]? = some u := by rw [List.getElem?_eq_getElem hj, e]
  by_cases hk : j = k
  · subst hk
    rw [eo] at e'
    cases e'
    exact n1
  · exact h j u hk e'
theorem nl_end {s1 : HS} {st : Str} (h : NLx k s1.ops) (n : ¬ st = "look") : ∀ u ∈ (endH s1 k o st).ops, NL1 u := by
  rw [end_ops]
  exact h.set (.inl n)
theorem nl_op (O : c.Ok) (h : NLx k s.ops) : ∀ u ∈ (doOp c s k o wd).ops, NL1 u := by
  unfold doOp
  split
  · exact nl_end h (by decide +kernel)
  split
  · rename_i kd
    unfold writeH
    rw [(wr4_f (c := c) (k := k)).2.2.2.2.1]
    have hk : (wo1 s o wd).kind = o.kind := by unfold wo1; split <;> rfl
    have h3 : NLx k (wr3 c (wr2 c (wr1 s k o wd) (wo1 s o wd) wd) (wo1 s o wd) wd).ops := by
      rw [wr3_ops.1, wr2_ops.1, wr1_ops.1]
      split
      · exact h.seta
      · exact h.cf
    refine h3.set (.inr fun z => ?_)
    have z2 : (wo1 s o wd).kind = "read" := by
      unfold o5 at z
      split at z <;> exact z
    rw [hk, kd] at z2
    exact absurd z2 (by decide +kernel)
  · unfold readH
    split
    · exact nl_end h.seta (by decide +kernel)
    split
    · exact h.set (.inl (by show ¬ ("waits" : Str) = "look"; decide +kernel))
    split
    · exact h.set (.inl (by show ¬ ("fetch" : Str) = "look"; decide +kernel))
    split
    · split
      · exact nl_end h.seta (by decide +kernel)
      · exact h.set (.inl (by show ¬ ("fill" : Str) = "look"; decide +kernel))
    split
    · exact nl_end h.seta (by decide +kernel)
    · split
      · exact nl_end (by rw [hold_ops]; exact h) (by decide +kernel)
      · exact nl_end h (by decide +kernel)
theorem Rel.stop (R : Rel c s t) (eo : s.ops[k]? = some o) (eq : t.ops[k]? = some q) (lv : live o) : Rel c (endH s k o "stopped") (stopP t k) := by
  have h := R.ops.op k o q eo eq
  have n0 := not_ended h lv
  have z : stopP t k = t.put k { q with stopped := true, left := some t.past.length } := by
    unfold stopP
    rw [eq]
  rw [z]
  obtain ⟨f1, f2, f3, f4, f5⟩ := end_f (k := k) (o := o) (s := s) (st := "stopped")
  have n : ∀ {P : Prop} {st : Str}, ¬ ("stopped" : Str) = st → ("stopped" : Str) = st → P := fun a b => absurd b a
  have rq : RelOp c t.wipes { o with stage := "stopped", over := some s.past.length } { q with stopped := true, left := some t.past.length } := by
    refine ⟨h.kind, h.ver, by show true = decide (("stopped" : Str) = "stopped"); decide +kernel, ⟨fun z => ?_, fun z => n (by decide +kernel) z⟩, fun _ => h.seen lv, fun _ y => absurd rfl y.2, fun _ b => n (by decide +kernel) b, fun _ b => n (by decide +kernel) b, fun _ b => n (by decide +kernel) b, fun _ b => n (by decide +kernel) b, fun y _ => absurd rfl y.2⟩
    have z2 : q.steps = [] := z
    rw [end_none z2] at n0
    cases n0
  refine ⟨by rw [f1]; exact R.db, by rw [f2]; exact R.rep, by rw [f3]; exact R.cache, by rw [f4]; exact R.mark, by rw [end_ops]; exact R.ops.set rq, ?_⟩
  rw [f5, if_neg (by decide +kernel)]
  exact R.lead.on eq n0 n0
theorem Lead.snoc (L : Lead c opn leader m) : Lead c opn leader (m ++ [q']) := by
  have e : ∀ l, l < m.length → endedAt (m ++ [q']) (some l) = endedAt m (some l) := fun l h => by
    show (match (m ++ [q'])[l]? with | some q => q.ended | none => true) = (match m[l]? with | some q => q.ended | none => true)
    rw [List.getElem?_append_left h]
  refine ⟨fun l h => ?_, fun h => ?_, L.fl, fun l h => by rw [List.length_append]; exact Nat.lt_of_lt_of_le (L.rg l h) (Nat.le_add_right _ _)⟩
  · obtain ⟨a, b⟩ := L.ld l h
    exact ⟨a, by rw [e l (L.rg l a)]; exact b⟩
  · cases leader with
    | none => rfl
    | some j =>
      rw [e j (L.rg j rfl)]
      exact L.ln h
theorem rel_new {n : Nat} (O : c.Ok) (h : wd = "look" ∨ wd = firstW c) : RelOp c w (newOp s wd) (newP c wd n) := by
  rcases h with e | e
  · subst e
    have z1 : newP c "look" n = ⟨"read", lookS c, n, none, false, none, none, 0⟩ := if_pos rfl
    have z2 : newOp s "look" = ⟨s.ops.length, "read", "look", none, s.past.length, none, 0, true, none⟩ := rfl
    have n : ∀ {P : Prop} {st : Str}, ¬ ("look" : Str) = st → ("look" : Str) = st → P := fun a b => absurd b a
    rw [z1, z2]
    refine ⟨rfl, rfl, by show false = decide (("look" : Str) = "stopped"); decide +kernel, ⟨fun z => ?_, fun z => n (by decide +kernel) z⟩, fun _ => Nat.zero_le _, fun a _ => absurd a (by show ¬ ("read" : Str) = "write"; decide +kernel), fun _ _ => ⟨rfl, rfl⟩, fun _ b => n (by decide +kernel) b, fun _ b => n (by decide +kernel) b, fun _ b => n (by decide +kernel) b, fun _ _ => rfl⟩
    have z : lookS c = [] := z
    unfold lookS at z
    split at z <;> cases z
  · obtain ⟨n1, n2, n3, n4, n5, n6, n7⟩ := fst_ne O
    have z1 : newP c wd n = ⟨"write", c.steps, n, none, false, none, none, 0⟩ := if_neg (by rw [e]; exact n1)
    have z2 : newOp s wd = ⟨s.ops.length, "write", wd, none, s.past.length, none, 0, true, none⟩ := by
      unfold newOp
      rw [if_neg (by rw [e]; exact n1)]
    rw [z1, z2]
    have kr : ∀ {P : Prop}, ("write" : Str) = "read" → P := fun z => absurd z (by decide +kernel)
    refine ⟨rfl, rfl, by show false = decide (wd = "stopped"); rw [e, decide_eq_false n6], ⟨fun z => ?_, fun z => absurd (e ▸ z) n5⟩, fun _ => Nat.zero_le _, fun _ _ => rfl, fun a _ => kr a, fun a _ => kr a, fun a _ => kr a, fun a _ => kr a, fun _ _ => rfl⟩
    have z : c.steps = [] := z
    have := O.slen.1
    rw [z] at this
    cases this
theorem Rel.new {n : Nat} (O : c.Ok) (R : Rel c s t) (h : wd = "look" ∨ wd = firstW c) : Rel c { s with ops := s.ops ++ [newOp s wd] } { t with ops := t.ops ++ [newP c wd n] } :=
  ⟨R.db, R.rep, R.cache, R.mark, R.ops.snoc (rel_new O h), R.lead.snoc⟩
theorem Rel.op (O : c.Ok) (W : Wf c s) (R : Rel c s t) (NL : NLx k s.ops) (eo : s.ops[k]? = some o) (eq : t.ops[k]? = some q) (lv : live o) (hn : nextOf s o = some wd) (ns : ¬ wd = "stop") :
    Rel c (doOp c s k o wd) (opP c (t.put k (tailP q)) k (tailP q) wd) := by
  unfold doOp
  rw [if_neg ns]
  by_cases kd : o.kind = "write"
  · rw [if_pos kd]
    exact R.write O W (NL.all eo (.inr (by rw [kd]; decide +kernel))) eo eq kd lv hn
  · rw [if_neg kd]
    exact R.read O W eo eq kd lv hn
end
end Ca

set_option Elab.async false
set_option linter.all false
set_option maxRecDepth 100000
set_option maxHeartbeats 4000000
namespace Ca
open PySem L2
section
variable {c : Conf} {w k : Nat} {o o' : OpS} {q q' : POp} {s : HS} {t : PSt} {wd : Str}
/-- the events of one operation -/
def bOf (s : HS) (o : OpS) : List Ev := if endedB o then [] else (match evBf s o with | some e => [e] | none => [])
def cOf (c : Conf) (o : OpS) : List Ev := if endedB o then [] else if c.stop = "stops" then [("stop", some (o.number : Int))] else []
def bL (s : HS) (l : List OpS) : List Ev := (l.filter fun o => !endedB o).filterMap (evBf s)
def cL (c : Conf) (l : List OpS) : List Ev := if c.stop = "stops" then ((l.filter fun o => !endedB o).map fun o => (("stop" : Str), some (o.number : Int))) else []
theorem bL_snoc {l : List OpS} : bL s (l ++ [o]) = bL s l ++ bOf s o := by
  unfold bL bOf
  rw [List.filter_append, List.filterMap_append]
  congr 1
  cases e : endedB o with
  | true => simp [e]
  | false =>
    cases h : evBf s o <;> simp [e, h]
theorem cL_snoc {l : List OpS} : cL c (l ++ [o]) = cL c l ++ cOf c o := by
  unfold cL cOf
  by_cases h : c.stop = "stops"
  · rw [if_pos h, if_pos h, List.filter_append, List.map_append]
    congr 1
    cases e : endedB o <;> simp [e, h]
  · rw [if_neg h, if_neg h]
    cases e : endedB o <;> simp [h]
theorem ended_lv : endedB o = false ↔ live o := by
  unfold endedB live
  by_cases h1 : o.stage = "ended" <;> by_cases h2 : o.stage = "stopped" <;> simp [h1, h2]
theorem under_lv (h : RelOp c w o q) : q.under = !endedB o := by
  unfold POp.under
  rw [h.stop]
  cases e : endedB o with
  | false =>
    have lv := ended_lv.mp e
    rw [decide_eq_false lv.2, not_ended h lv]
    rfl
  | true =>
    unfold endedB at e
    by_cases h2 : o.stage = "stopped"
    · rw [decide_eq_true h2]
      rfl
    · have h1 : o.stage = "ended" := by simpa [h2] using e
      rw [end_none (h.ne.mpr h1)]
      simp
/-- the next word -/
theorem next_word (O : c.Ok) (W : Wf c s) (R : Rel c s t) (NL : ∀ o ∈ s.ops, NL1 o) (eo : s.ops[k]? = some o) (eq : t.ops[k]? = some q) (lv : live o) : nextOf s o = if endedAt t.ops q.awaited then some (q.steps.getD 0 "") else none := by
  have p := W.ops k o eo
  have h := R.ops.op k o q eo eq
  have nl := NL o (List.mem_of_getElem? eo)
  by_cases hw : o.stage = "waits"
  · have wk := p.wait O hw
    obtain ⟨l, u, el, eu⟩ := wk
    have kr : o.kind = "read" := by
      rcases p.kd with z | z
      · exact z
      · obtain ⟨a, b, _⟩ := p.wr z lv.1 lv.2
        rw [hw] at b
        exact absurd b.symm (not_wait O a).1
    obtain ⟨hst, haw⟩ := h.rw kr hw
    have hlt : l < t.ops.length := by
      rw [← R.ops.len]
      exact (List.getElem?_eq_some_iff.mp eu).1
    obtain ⟨ql, eql⟩ : ∃ ql, t.ops[l]? = some ql := ⟨_, List.getElem?_eq_getElem hlt⟩
    have hl := R.ops.op l u ql eu eql
    have z1 : nextOf s o = if u.stage = "ended" then some ("take" : Str) else none := by
      unfold nextOf
      rw [if_pos hw, el]
      show (match s.ops[l]? with | some q => if q.stage = "ended" then some ("take" : Str) else none | none => none) = _
      rw [eu]
    rw [z1, haw, el, ended_at eql, hst]
    by_cases e : u.stage = "ended"
    · rw [if_pos e, end_none (hl.ne.mpr e)]
      rfl
    · have : ql.ended = false := by
        unfold POp.ended
        cases z : ql.steps with
        | nil => exact absurd (hl.ne.mp z) e
        | cons _ _ => rfl
      rw [if_neg e, this, if_neg (by decide)]
  · rw [h.aw lv hw]
    have z1 : nextOf s o = some o.stage := if_neg hw
    have z2 : endedAt t.ops none = true := rfl
    rw [z1, z2, if_pos rfl]
    congr 1
    rcases p.kd with kr | kw
    · rcases p.rd kr with y | y | ⟨y, _⟩ | ⟨y, _⟩ | y | y
      · rcases nl with z | z
        · exact absurd y z
        · exact absurd kr z
      · rw [(h.rf kr y).1, y]
        unfold fetchS
        split <;> rfl
      · rw [(h.rl kr y).1, y]
        rfl
      · exact absurd y hw
      · exact absurd y lv.1
      · exact absurd y lv.2
    · obtain ⟨a, b, _⟩ := p.wr kw lv.1 lv.2
      rw [h.wr kw lv, b, List.getD_eq_getElem?_getD, List.getD_eq_getElem?_getD, List.getElem?_drop]
      rfl
theorem evOp_perm (O : c.Ok) (W : Wf c s) (R : Rel c s t) (NL : ∀ o ∈ s.ops, NL1 o) (eo : s.ops[k]? = some o) (eq : t.ops[k]? = some q) : evOp c t k q = bOf s o ++ cOf c o := by
  have h := R.ops.op k o q eo eq
  have hu := under_lv h
  have num := (W.ops k o eo).num
  unfold evOp bOf cOf canStep evBf
  rw [hu, num]
  cases e : endedB o with
  | true => simp
  | false =>
    have lv := ended_lv.mp e
    rw [next_word O W R NL eo eq lv]
    cases z : endedAt t.ops q.awaited <;> by_cases st : c.stop = "stops" <;> simp [st]
theorem ops_perm (O : c.Ok) (W : Wf c s) (R : Rel c s t) (NL : ∀ o ∈ s.ops, NL1 o) : ∀ n, n ≤ s.ops.length → (opsEv c t n).Perm (bL s (s.ops.take n) ++ cL c (s.ops.take n))
  | 0, _ => by
    rw [List.take_zero]
    unfold cL
    split <;> exact List.Perm.refl _
  | n + 1, hn => by
    have ih := ops_perm O W R NL n (by omega)
    obtain ⟨o, eo⟩ : ∃ o, s.ops[n]? = some o := ⟨_, List.getElem?_eq_getElem (by omega)⟩
    obtain ⟨q, eq⟩ : ∃ q, t.ops[n]? = some q := ⟨_, List.getElem?_eq_getElem (by rw [← R.ops.len]; omega)⟩
    have z : opsEv c t (n + 1) = opsEv c t n ++ evOp c t n q := by
      show opsEv c t n ++ (match t.ops[n]? with | some o => evOp c t n o | none => []) = _
      rw [eq]
    rw [z, evOp_perm O W R NL eo eq, take_snoc eo, bL_snoc, cL_snoc]
    refine (ih.append_right _).trans ?_
    rw [List.append_assoc, List.append_assoc]
    refine List.Perm.append_left _ ?_
    rw [← List.append_assoc, ← List.append_assoc]
    exact List.Perm.append_right _ List.perm_append_comm
theorem ev_perm (O : c.Ok) (W : Wf c s) (R : Rel c s t) (NL : ∀ o ∈ s.ops, NL1 o) : (evP c t).Perm (evList c s) := by
  have h := ops_perm O W R NL s.ops.length (Nat.le_refl _)
  rw [List.take_length] at h
  have e1 : evPA c t = evA c s := by
    unfold evPA evA
    rw [R.ops.len]
  have e2 : (if copyP c t then [copyE] else []) = evE c s := by
    unfold copyP evE canCopy
    rw [R.rep, R.db]
    rfl
  have e3 : (if evictP c t then [evictE] else []) = evD c s := by
    unfold evictP evD canEvict
    rw [R.cache, R.mark]
    rfl
  have e4 : bL s s.ops = evB s := rfl
  have e5 : cL c s.ops = evC c s := rfl
  unfold evP evList
  rw [e1, e2, e3, ← R.ops.len]
  rw [e4, e5] at h
  refine (h.append_left _).trans ?_
  rw [List.append_assoc, List.append_assoc, List.append_assoc, List.append_assoc, List.append_assoc]
  refine List.Perm.append_left _ ?_
  -- E ++ (D ++ (B ++ C)) ~ B ++ (C ++ (D ++ E))
  have p1 : (evE c s ++ (evD c s ++ (evB s ++ evC c s))).Perm ((evB s ++ evC c s) ++ (evD c s ++ evE c s)) := by
    rw [← List.append_assoc]
    refine List.perm_append_comm.trans ?_
    exact List.Perm.append_left _ List.perm_append_comm
  refine p1.trans ?_
  rw [List.append_assoc]
end
end Ca

set_option Elab.async false
set_option linter.all false
set_option maxRecDepth 100000
set_option maxHeartbeats 4000000
namespace Ca
open PySem L2
section
variable {c : Conf} {w k : Nat} {o o' : OpS} {q q' : POp} {s : HS} {t : PSt} {wd : Str}
structure Sim (c : Conf) (s : HS) (t : PSt) : Prop where
  rel : Rel c s t
  nl : ∀ o ∈ s.ops, NL1 o
theorem NLx.of (h : ∀ o ∈ s.ops, NL1 o) : NLx k s.ops := fun j u _ e => h u (List.mem_of_getElem? e)
theorem step_pre (O : c.Ok) (W : Wf c s) (R : Rel c s t) (eo : s.ops[k]? = some o) (eq : t.ops[k]? = some q) (lv : live o) (hn : nextOf s o = some wd) : StepPre q wd := by
  have p := W.ops k o eo
  have h := R.ops.op k o q eo eq
  have n0 := not_ended h lv
  have ne : q.steps ≠ [] := fun z => by
    rw [end_none z] at n0
    cases n0
  have vis : o.version.isSome = true → ∃ v, q.version = some v := fun z => by
    obtain ⟨v, ev⟩ := Option.isSome_iff_exists.mp z
    exact ⟨v, h.ver.trans ev⟩
  rcases p.kd with kr | kw
  · rcases p.read O (by rw [kr]; decide +kernel) lv.1 lv.2 hn with ⟨e, _⟩ | ⟨e, _⟩ | ⟨e, _, hv⟩ | ⟨e, es, l, u, el, _⟩
    · subst e
      exact ⟨ne, fun z => absurd z (by decide +kernel), fun z => absurd z (by decide +kernel), fun n => absurd rfl n⟩
    · subst e
      exact ⟨ne, fun z => absurd z (by decide +kernel), fun z => absurd z (by decide +kernel), fun _ n => absurd rfl n⟩
    · subst e
      exact ⟨ne, fun _ => vis hv, fun z => absurd z (by decide +kernel), fun _ _ n => absurd rfl n⟩
    · subst e
      exact ⟨ne, fun z => absurd z (by decide +kernel), fun _ => ⟨l, (h.rw kr es).2.trans el⟩, fun _ _ _ n => absurd rfl n⟩
  · obtain ⟨a, b, _, hs⟩ := p.write O kw lv.1 lv.2 hn
    rcases step_word O a with e | e | e <;> rw [← b] at e <;> subst e
    · exact ⟨ne, fun z => absurd z (by decide +kernel), fun z => absurd z (by decide +kernel), fun _ _ _ _ _ n => absurd rfl n⟩
    · exact ⟨ne, fun z => absurd z (by decide +kernel), fun z => absurd z (by decide +kernel), fun _ _ _ _ n => absurd rfl n⟩
    · exact ⟨ne, fun z => absurd z (by decide +kernel), fun z => absurd z (by decide +kernel), fun _ _ _ _ _ _ => vis (hs rfl)⟩
theorem word_ne (O : c.Ok) (W : Wf c s) (eo : s.ops[k]? = some o) (lv : live o) (hn : nextOf s o = some wd) : ¬ wd = "copy" ∧ ¬ wd = "evict" ∧ ¬ wd = "stop" := by
  have p := W.ops k o eo
  rcases p.kd with kr | kw
  · rcases p.read O (by rw [kr]; decide +kernel) lv.1 lv.2 hn with ⟨e, _⟩ | ⟨e, _⟩ | ⟨e, _⟩ | ⟨e, _⟩ <;> rw [e] <;> decide +kernel
  · obtain ⟨a, b, _⟩ := p.write O kw lv.1 lv.2 hn
    rcases step_word O a with e | e | e <;> rw [b, e] <;> decide +kernel
theorem stepP_at (eq : (preP c t wd k).ops[k]? = some q) : stepP c t wd k = leaveP (opP c ((preP c t wd k).put k (tailP q)) k (tailP q) wd) k := by
  unfold stepP
  rw [eq]
theorem RelOp.left {x : Option Nat} (h : RelOp c w o q) : RelOp c w o { q with left := x } := ⟨h.kind, h.ver, h.stop, h.ne, h.seen, h.wr, h.rk, h.rf, h.rl, h.rw, h.aw⟩
theorem Rel.note {e : Ev} (R : Rel c s t) : Rel c s (noteP t e) := ⟨R.db, R.rep, R.cache, R.mark, R.ops, R.lead⟩
theorem Rel.leave (R : Rel c s t) : Rel c s (leaveP t k) := by
  unfold leaveP
  split
  · rename_i q eq
    split
    · rename_i en
      have hk : k < s.ops.length := by
        rw [R.ops.len]
        exact (List.getElem?_eq_some_iff.mp eq).1
      refine ⟨R.db, R.rep, R.cache, R.mark, ?_, ?_⟩
      · have z := R.ops.set (k := k) ((R.ops.op k _ q (List.getElem?_eq_getElem hk) eq).left (x := some t.past.length))
        rw [List.set_getElem_self] at z
        exact z
      · have e : ∀ l, endedAt (t.ops.set k { q with left := some t.past.length }) l = endedAt t.ops l := fun l => by
          cases l with
          | none => rfl
          | some j =>
            rw [ended_set eq]
            split
            · rename_i z
              rw [z, ended_at eq]
              rfl
            · rfl
        exact ⟨fun l h => by show _ ∧ endedAt (t.ops.set k _) _ = _; rw [e]; exact R.lead.ld l h, fun h => by show endedAt (t.ops.set k _) _ = _; rw [e]; exact R.lead.ln h, R.lead.fl, fun l h => by show l < (t.ops.set k _).length; rw [List.length_set]; exact R.lead.rg l h⟩
    · exact R
  · exact R
/-- one event on either side -/
structure Both (c : Conf) (s : HS) (t : PSt) (e : Ev) : Prop where
  sim : Sim c (doH c s e) (doP c t e)
  pre : DoPre c t e
theorem Rel.past {l : List Ev} (R : Rel c s t) : Rel c { s with past := l } t := ⟨R.db, R.rep, R.cache, R.mark, R.ops, R.lead⟩
theorem both_step (O : c.Ok) {s1 : HS} {t1 : PSt} (es1 : preH s wd k = s1) (et1 : preP c (noteP t (wd, some (k : Int))) wd k = t1) (W : Wf c s1) (R : Rel c s1 t1) (NL : NLx k s1.ops) (eo : s1.ops[k]? = some o) (lv : live o) (hn : nextOf s1 o = some wd) (hk : k ≤ t.ops.length) :
    Both c s t (wd, some (k : Int)) := by
  obtain ⟨n1, n2, n3⟩ := word_ne O W eo lv hn
  obtain ⟨q, eq⟩ : ∃ q, t1.ops[k]? = some q := ⟨_, List.getElem?_eq_getElem (by rw [← R.ops.len]; exact (List.getElem?_eq_some_iff.mp eo).1)⟩
  have zL : doE c s (wd, some (k : Int)) = doOp c s1 k o wd := by
    rw [doE_at (by rw [es1]; exact eo), es1]
  have zP : doP c t (wd, some (k : Int)) = leaveP (opP c (t1.put k (tailP q)) k (tailP q) wd) k := by
    unfold doP doG actP
    rw [if_neg n1, if_neg n2]
    show (if wd = "stop" then stopP (noteP t (wd, some (k : Int))) (0 + (k : Int).toNat) else stepP c (noteP t (wd, some (k : Int))) wd (0 + (k : Int).toNat)) = _
    rw [if_neg n3, Int.toNat_natCast, Nat.zero_add, stepP_at (by rw [et1]; exact eq), et1]
  refine ⟨⟨?_, ?_⟩, .step wd k n1 n2 n3 (by rw [Nat.zero_add]; exact hk) fun q' eq' => ?_⟩
  · unfold doH
    rw [zP]
    rw [zL]
    exact (R.op O W NL eo eq lv hn n3).leave.past
  · unfold doH
    show ∀ o ∈ (doE c s (wd, some (k : Int))).ops, NL1 o
    rw [zL]
    exact nl_op O NL
  · rw [Nat.zero_add, et1, eq] at eq'
    cases eq'
    exact step_pre O W R eo eq lv hn
theorem both (O : c.Ok) (W : Wf c s) (S : Sim c s t) {e : Ev} (he : e ∈ evList c s) : Both c s t e := by
  have R := S.rel
  cases ev_case W he with
  | evict z =>
    have zL : doE c s evictE = { s with cache := none, mark := 0 } := if_pos rfl
    have zP : doP c t evictE = { noteP t evictE with cache := none, mark := 0 } := by
      unfold doP doG actP
      rw [if_neg (by decide +kernel), if_pos (by decide +kernel)]
    refine ⟨⟨?_, ?_⟩, .evict⟩
    · unfold doH
      rw [zL, zP]
      exact ⟨R.db, R.rep, rfl, rfl, R.ops, R.lead⟩
    · unfold doH
      rw [zL]
      exact S.nl
  | copy z =>
    have zL : doE c s copyE = { s with rep := s.rep + 1 } := by
      unfold doE
      rw [if_neg (by decide +kernel), if_pos rfl]
    have zP : doP c t copyE = { noteP t copyE with rep := t.rep + 1 } := by
      unfold doP doG actP
      rw [if_pos (by decide +kernel)]
      rfl
    refine ⟨⟨?_, ?_⟩, .copy⟩
    · unfold doH
      rw [zL, zP]
      exact ⟨R.db, by show t.rep + 1 = s.rep + 1; rw [R.rep], R.cache, R.mark, R.ops, R.lead⟩
    · unfold doH
      rw [zL]
      exact S.nl
  | new w h =>
    have e1 : s.ops.length = t.ops.length := R.ops.len
    have zp : preP c (noteP t (w, some (s.ops.length : Int))) w s.ops.length = { noteP t (w, some (s.ops.length : Int)) with ops := t.ops ++ [newP c w (t.past ++ [(w, some (s.ops.length : Int))]).length] } := if_pos e1
    obtain ⟨a, b, d⟩ := new_next (s := s) (s' := { s with ops := s.ops ++ [newOp s w] }) O h
    have WN := W.pre O h
    rw [pre_new] at WN
    refine both_step O pre_new zp WN (R.note.new O h) (fun j u n e' => ?_) ?_ ⟨a, b⟩ d (Nat.le_of_eq e1)
    · have e2 : (s.ops ++ [newOp s w])[j]? = some u := e'
      have hj : j < s.ops.length := by
        have := (List.getElem?_eq_some_iff.mp e2).1
        rw [List.length_append] at this
        have : j < s.ops.length + 1 := this
        omega
      rw [List.getElem?_append_left hj] at e2
      exact S.nl u (List.mem_of_getElem? e2)
    · show (s.ops ++ [newOp s w])[s.ops.length]? = some (newOp s w)
      rw [List.getElem?_append_right (Nat.le_refl _), Nat.sub_self]
      rfl
  | step k o w eo h1 h2 h3 =>
    have hlt := (List.getElem?_eq_some_iff.mp eo).1
    have zp : preP c (noteP t (w, some (k : Int))) w k = noteP t (w, some (k : Int)) := if_neg (by show ¬ k = t.ops.length; rw [← R.ops.len]; omega)
    exact both_step O (pre_old eo) zp W R.note (NLx.of S.nl) eo ⟨h1, h2⟩ h3 (by rw [← R.ops.len]; omega)
  | stop k o eo h1 h2 h3 =>
    have hlt := (List.getElem?_eq_some_iff.mp eo).1
    obtain ⟨q, eq⟩ : ∃ q, t.ops[k]? = some q := ⟨_, List.getElem?_eq_getElem (by rw [← R.ops.len]; exact hlt)⟩
    have zL : doE c s ("stop", some (k : Int)) = endH s k o "stopped" := by
      rw [doE_at (by rw [pre_old eo]; exact eo), pre_old eo]
      exact if_pos rfl
    have zP : doP c t ("stop", some (k : Int)) = stopP (noteP t ("stop", some (k : Int))) k := by
      unfold doP doG actP
      rw [if_neg (by show ¬ ("stop" : Str) = "copy"; decide +kernel), if_neg (by show ¬ ("stop" : Str) = "evict"; decide +kernel)]
      show (if ("stop" : Str) = "stop" then stopP (noteP t ("stop", some (k : Int))) (0 + (k : Int).toNat) else stepP c (noteP t ("stop", some (k : Int))) "stop" (0 + (k : Int).toNat)) = _
      rw [if_pos rfl, Int.toNat_natCast, Nat.zero_add]
    refine ⟨⟨?_, ?_⟩, .stop k (by rw [Nat.zero_add, ← R.ops.len]; exact hlt)⟩
    · unfold doH
      rw [zL, zP]
      exact (R.note.stop eo eq ⟨h1, h2⟩).past
    · unfold doH
      show ∀ o ∈ (doE c s ("stop", some (k : Int))).ops, NL1 o
      rw [zL]
      exact nl_end (NLx.of S.nl) (by decide +kernel)
theorem sim_begin : Sim c HS.begin PSt.begin := by
  refine ⟨⟨rfl, rfl, rfl, rfl, ⟨rfl, fun k o q e => by simp [HS.begin] at e⟩, ⟨fun l e => by simp [HS.begin] at e, fun _ => rfl, fun _ => rfl, fun l e => by simp [PSt.begin] at e⟩⟩, fun o h => by simp [HS.begin] at h⟩
theorem good_of (O : c.Ok) (W : Wf c s) (S : Sim c s t) : GoodP c t := fun e he => (do_ok W O ((ev_perm O W S.rel S.nl).mem_iff.mp he)).str
/-- all of it -/
theorem reach_sim (O : c.Ok) (r : Reach c s) : Sim c s (runS c s.past) ∧ RunP c s.past := by
  induction r with
  | begin => exact ⟨sim_begin, ⟨fun i e h => by simp [HS.begin] at h⟩⟩
  | step r h ih =>
    rename_i s e
    obtain ⟨S, P⟩ := ih
    have W := (r.wf O).1
    obtain ⟨B1, B2⟩ := both O W S h
    have ep : (doH c s e).past = s.past ++ [e] := rfl
    have er : runS c (s.past ++ [e]) = doP c (runS c s.past) e := by
      unfold runS
      rw [List.foldl_append]
      rfl
    rw [ep, er]
    refine ⟨B1, ⟨fun i f hf => ?_⟩⟩
    by_cases hi : i < s.past.length
    · rw [List.getElem?_append_left hi] at hf
      rw [List.take_append_of_le_length (by omega)]
      exact P.step i f hf
    · have hl := (List.getElem?_eq_some_iff.mp hf).1
      rw [List.length_append] at hl
      have hl : i < s.past.length + 1 := hl
      have e0 : i = s.past.length := by omega
      subst e0
      rw [List.getElem?_append_right (Nat.le_refl _), Nat.sub_self] at hf
      cases hf
      rw [List.take_append_of_le_length (Nat.le_refl _), List.take_length]
      exact ⟨good_of O W S, (ev_perm O W S.rel S.nl).mem_iff.mpr h, B2⟩
end
end Ca

set_option Elab.async false
set_option linter.all false
set_option maxRecDepth 100000
set_option maxHeartbeats 4000000
namespace Ca
open PySem L2
/-! ### when operations began and ended, on either side -/
structure OpForm (s : HS) (k : Nat) (o : OpS) (wd : Str) (ops : List OpS) : Prop where
  ex : ∃ (f : OpS → OpS) (o' : OpS), (f = id ∨ f = cf) ∧ ops = (s.ops.map f).set k o' ∧ o'.begun = o.begun ∧ ((o'.over = some s.past.length ∧ ((wd = "stop" ∧ o'.stage = ("stopped" : Str)) ∨ (¬ wd = "stop" ∧ o'.stage = ("ended" : Str)))) ∨ (o'.over = o.over ∧ endedB o' = false))
theorem endedB_of {o : OpS} (h : o.stage = ("ended" : Str) ∨ o.stage = ("stopped" : Str)) : endedB o = true := by
  unfold endedB
  rcases h with e | e <;> rw [e] <;> decide +kernel
theorem endedB_not {o : OpS} (h1 : ¬ o.stage = ("ended" : Str)) (h2 : ¬ o.stage = ("stopped" : Str)) : endedB o = false := by
  unfold endedB
  rw [decide_eq_false h1, decide_eq_false h2]
  rfl
theorem form_end {s s1 : HS} {k : Nat} {o o1 : OpS} {st wd : Str} (h : (wd = "stop" ∧ st = "stopped") ∨ (¬ wd = "stop" ∧ st = "ended")) (e : s1.ops = s.ops ∨ ∃ u, s1.ops = s.ops.set k u) (ep : s1.past = s.past) (eb : o1.begun = o.begun) : OpForm s k o wd (endH s1 k o1 st).ops := by
  rw [end_ops]
  refine ⟨id, { o1 with stage := st, over := some s1.past.length }, .inl rfl, ?_, eb, .inl ⟨by rw [← ep], h⟩⟩
  rw [List.map_id]
  rcases e with e | ⟨u, e⟩
  · rw [e]
  · rw [e, List.set_set]
theorem past_wr {c : Conf} {s : HS} {k : Nat} {o : OpS} {wd : Str} : (wr3 c (wr2 c (wr1 s k o wd) (wo1 s o wd) wd) (wo1 s o wd) wd).past = s.past := by
  have h1 : (wr1 s k o wd).past = s.past := by unfold wr1; split <;> rfl
  have h2 : ∀ s1 o1, (wr2 c s1 o1 wd).past = s1.past := fun s1 o1 => by
    unfold wr2
    split
    · split <;> rfl
    · rfl
  have h3 : ∀ s1 o1, (wr3 c s1 o1 wd).past = s1.past := fun s1 o1 => by
    unfold wr3
    split
    · split
      · exact hold_past
      · rfl
    · rfl
  rw [h3, h2, h1]
theorem op_form {c : Conf} {s : HS} {k : Nat} {o : OpS} {wd : Str} (O : c.Ok) (W : Wf c s) (eo : s.ops[k]? = some o) (a : Ahead s o wd) : OpForm s k o wd (doOp c s k o wd).ops := by
  have p := W.ops k o eo
  unfold doOp
  split
  · rename_i z; exact form_end (.inl ⟨z, rfl⟩) (.inl rfl) rfl rfl
  rename_i ns
  rcases a with a | ⟨n1, n2, hn⟩
  · exact absurd a ns
  split
  · rename_i kd
    obtain ⟨hs, ew, _, _⟩ := p.write O kd n1 n2 hn
    have hb : (wo1 s o wd).begun = o.begun := by unfold wo1; split <;> rfl
    have hv : (wo1 s o wd).over = o.over := by unfold wo1; split <;> rfl
    have hst : (wo1 s o wd).step = o.step := by unfold wo1; split <;> rfl
    unfold writeH
    rw [wr4_ops, past_wr, wr3_ops.1, wr2_ops.1, wr1_ops.1, hst]
    have ho : ∀ {l : List OpS} {x : OpS}, ∃ (f : OpS → OpS), (f = id ∨ f = cf) ∧ (if wd = "store" then s.ops.set k { o with version := some (s.db + 1) } else s.ops.map cf).set k x = (s.ops.map f).set k x := fun {l x} => by
      split
      · exact ⟨id, .inl rfl, by rw [List.set_set, List.map_id]⟩
      · exact ⟨cf, .inr rfl, rfl⟩
    by_cases el : o.step + 1 = c.steps.length
    · rw [if_pos el]
      obtain ⟨f, hf, ef⟩ := ho (l := []) (x := { wo1 s o wd with step := o.step + 1, stage := "ended", over := some s.past.length })
      exact ⟨f, _, hf, ef, hb, .inl ⟨rfl, .inr ⟨ns, rfl⟩⟩⟩
    · rw [if_neg el]
      have lt : o.step + 1 < c.steps.length := by omega
      obtain ⟨_, m1, m2, _⟩ := not_wait O lt
      obtain ⟨f, hf, ef⟩ := ho (l := []) (x := { wo1 s o wd with step := o.step + 1, stage := c.steps.getD (o.step + 1) "" })
      exact ⟨f, _, hf, ef, hb, .inr ⟨hv, endedB_not m1 m2⟩⟩
  · have put : ∀ o' : OpS, o'.begun = o.begun → o'.over = o.over → endedB o' = false → OpForm s k o wd (s.ops.set k o') := fun o' h1 h2 h3 => ⟨id, o', .inl rfl, by rw [List.map_id], h1, .inr ⟨h2, h3⟩⟩
    unfold readH
    split
    · exact form_end (.inr ⟨ns, rfl⟩) (.inr ⟨_, rfl⟩) rfl rfl
    split
    · exact put _ rfl rfl (endedB_not (by show ¬ ("waits" : Str) = "ended"; decide +kernel) (by show ¬ ("waits" : Str) = "stopped"; decide +kernel))
    split
    · exact put _ rfl rfl (endedB_not (by show ¬ ("fetch" : Str) = "ended"; decide +kernel) (by show ¬ ("fetch" : Str) = "stopped"; decide +kernel))
    split
    · split
      · exact form_end (.inr ⟨ns, rfl⟩) (.inr ⟨_, rfl⟩) rfl rfl
      · exact put _ rfl rfl (endedB_not (by show ¬ ("fill" : Str) = "ended"; decide +kernel) (by show ¬ ("fill" : Str) = "stopped"; decide +kernel))
    split
    · exact form_end (.inr ⟨ns, rfl⟩) (.inr ⟨_, rfl⟩) rfl rfl
    · refine form_end (.inr ⟨ns, rfl⟩) (.inl ?_) ?_ rfl
      · split
        · exact hold_ops
        · rfl
      · split
        · exact hold_past
        · rfl
/-! ### the program's side -/
structure QForm (t : PSt) (k : Nat) (q : POp) (ops : List POp) : Prop where
  ex : ∃ q' : POp, ops = t.ops.set k q' ∧ q'.began = q.began ∧ q'.left = q.left
theorem opP_form {c : Conf} {t : PSt} {k : Nat} {q : POp} {w : Str} (eq : t.ops[k]? = some q) : QForm t k q (opP c t k q w).ops := by
  have same : QForm t k q t.ops := ⟨q, by
    obtain ⟨hl, e⟩ := List.getElem?_eq_some_iff.mp eq
    rw [← e, List.set_getElem_self], rfl, rfl⟩
  have set : ∀ q' : POp, q'.began = q.began → q'.left = q.left → QForm t k q (t.ops.set k q') := fun q' h1 h2 => ⟨q', rfl, h1, h2⟩
  have ll : ∀ {t1 : PSt} {v : Nat}, (holdP c t1 v).ops = t1.ops := fun {t1 v} => holdP_f.2.2.2.2.1
  have mk : ∀ {t1 : PSt} {v : Nat}, (markP c t1 v).ops = t1.ops := fun {t1 v} => by unfold markP; split <;> rfl
  unfold opP
  split
  · unfold lookP
    split
    · exact set _ rfl rfl
    · split
      · unfold shareP
        split
        · exact set _ rfl rfl
        · show QForm t k q ((t.ops.set k _).set k _)
          rw [List.set_set]
          exact set _ rfl rfl
      · exact set _ rfl rfl
  split
  · exact set _ rfl rfl
  split
  · unfold fillP
    split
    · split
      · rw [ll]; exact same
      · exact same
    · exact same
  split
  · exact set _ rfl rfl
  split
  · exact set _ rfl rfl
  split
  · unfold dropP
    split
    · rw [mk]; exact same
    · exact same
  · unfold putP
    split
    · split
      · rw [ll]; exact same
      · exact same
    · exact same
/-- an operation's last step notes when -/
theorem stepP_form {c : Conf} {t : PSt} {k : Nat} {q : POp} {w : Str} (eq : (preP c t w k).ops[k]? = some q) : ∃ q' : POp, (stepP c t w k).ops = (preP c t w k).ops.set k q' ∧ q'.began = q.began ∧ q'.left = (if q'.ended then some t.past.length else q.left) := by
  have hk := (List.getElem?_eq_some_iff.mp eq).1
  rw [stepP_at eq]
  obtain ⟨q1, e1, b1, l1⟩ := (opP_form (c := c) (w := w) (put_gP (o' := tailP q) eq)).ex
  have e2 : (opP c ((preP c t w k).put k (tailP q)) k (tailP q) w).ops = (preP c t w k).ops.set k q1 := by
    rw [e1]
    show ((preP c t w k).ops.set k _).set k _ = _
    rw [List.set_set]
  have pp : (opP c ((preP c t w k).put k (tailP q)) k (tailP q) w).past.length = t.past.length := by
    rw [opP_past]
    show (preP c t w k).past.length = _
    unfold preP
    split <;> rfl
  generalize opP c ((preP c t w k).put k (tailP q)) k (tailP q) w = t2 at e2 pp
  have g : t2.ops[k]? = some q1 := by rw [e2, List.getElem?_set_self hk]
  unfold leaveP
  rw [g]
  show ∃ q', (if q1.ended then t2.put k { q1 with left := some t2.past.length } else t2).ops = _ ∧ _
  by_cases he : q1.ended = true
  · rw [if_pos he]
    refine ⟨{ q1 with left := some t2.past.length }, ?_, b1, ?_⟩
    · show t2.ops.set k _ = _
      rw [e2, List.set_set]
    · have : ({ q1 with left := some t2.past.length } : POp).ended = true := he
      rw [if_pos this, pp]
  · rw [if_neg he]
    exact ⟨q1, e2, b1, by rw [if_neg he]; exact l1⟩
end Ca

set_option Elab.async false
set_option linter.all false
set_option maxRecDepth 100000
set_option maxHeartbeats 4000000
namespace Ca
open PySem L2
/-! ### versions: who has which, and since when -/
structure VO (c : Conf) (db n : Nat) (o : OpS) : Prop where
  bg : o.begun ≤ n
  ov : ∀ e, o.over = some e → o.begun ≤ e ∧ e ≤ n
  lv : endedB o = false → o.over = none
  le : ∀ v, o.version = some v → v ≤ db
  ge : o.kind = "write" → ∀ v, o.version = some v → 1 ≤ v
  st : o.kind = "write" → o.version.isSome = true → ∃ j, j < o.step ∧ c.steps.getD j "" = "store"
structure VI (c : Conf) (n : Nat) (s : HS) : Prop where
  rep : s.rep ≤ s.db
  ca : ∀ v, s.cache = some v → v ≤ s.db
  ops : ∀ o ∈ s.ops, VO c s.db n o
  one : ∀ (i j : Nat) o u v, s.ops[i]? = some o → s.ops[j]? = some u → o.kind = "write" → u.kind = "write" → o.version = some v → u.version = some v → i = j
  has : ∀ v, 1 ≤ v → v ≤ s.db → ∃ w ∈ s.ops, w.kind = "write" ∧ w.version = some v
  fit : ∀ r ∈ s.ops, r.kind = "read" → ∀ e v, r.over = some e → r.version = some v → ∀ w ∈ s.ops, w.kind = "write" → w.version = some v → w.begun ≤ e
section
variable {c : Conf} {n : Nat} {s s' : HS} {k : Nat} {o o' : OpS}
theorem VO.mono {db db' n' : Nat} (h : VO c db n o) (h1 : db ≤ db') (h2 : n ≤ n') : VO c db' n' o :=
  ⟨Nat.le_trans h.bg h2, fun e z => ⟨(h.ov e z).1, Nat.le_trans (h.ov e z).2 h2⟩, h.lv, fun v z => Nat.le_trans (h.le v z) h1, h.ge, h.st⟩
theorem VI.later {n' : Nat} (h : VI c n s) (h2 : n ≤ n') : VI c n' s := ⟨h.rep, h.ca, fun o m => (h.ops o m).mono (Nat.le_refl _) h2, h.one, h.has, h.fit⟩
/-- nothing is told of the past, of the mark, of the open flight -/
theorem VI.of (h : VI c n s) (e1 : s'.db = s.db) (e2 : s'.rep = s.rep) (e3 : s'.cache = s.cache) (e4 : s'.ops = s.ops) : VI c n s' :=
  ⟨by rw [e1, e2]; exact h.rep, by rw [e1, e3]; exact h.ca, by rw [e1, e4]; exact h.ops, by rw [e4]; exact h.one, by rw [e1, e4]; exact h.has, by rw [e4]; exact h.fit⟩
theorem fver {f : OpS → OpS} (h : f = id ∨ f = cf) (u : OpS) : (f u).kind = u.kind ∧ (f u).version = u.version ∧ (f u).begun = u.begun ∧ (f u).over = u.over ∧ (f u).step = u.step ∧ endedB (f u) = endedB u := by
  rcases h with e | e <;> rw [e] <;> exact ⟨rfl, rfl, rfl, rfl, rfl, rfl⟩
theorem VO.f {db : Nat} {f : OpS → OpS} (hf : f = id ∨ f = cf) (h : VO c db n o) : VO c db n (f o) := by
  obtain ⟨a, b, d, e, g, i⟩ := fver hf o
  exact ⟨by rw [d]; exact h.bg, by rw [e, d]; exact h.ov, by rw [i, e]; exact h.lv, by rw [b]; exact h.le, by rw [a, b]; exact h.ge, by rw [a, b, g]; exact h.st⟩
/-- what stands in the changed list -/
theorem set_at {f : OpS → OpS} (eo : s.ops[k]? = some o) {j : Nat} {u : OpS} (h : ((s.ops.map f).set k o')[j]? = some u) : (j = k ∧ u = o') ∨ (¬ j = k ∧ ∃ u0, s.ops[j]? = some u0 ∧ u = f u0) := by
  have hk := (List.getElem?_eq_some_iff.mp eo).1
  by_cases e : j = k
  · subst e
    rw [List.getElem?_set_self (by rw [List.length_map]; exact hk)] at h
    exact .inl ⟨rfl, (Option.some.inj h).symm⟩
  · rw [List.getElem?_set_ne (Ne.symm e), List.getElem?_map] at h
    cases z : s.ops[j]? with
    | none => rw [z] at h; cases h
    | some u0 => rw [z] at h; exact .inr ⟨e, u0, rfl, (Option.some.inj h).symm⟩
theorem set_mem {f : OpS → OpS} (eo : s.ops[k]? = some o) {u : OpS} (h : u ∈ (s.ops.map f).set k o') : u = o' ∨ ∃ j u0, ¬ j = k ∧ s.ops[j]? = some u0 ∧ u = f u0 := by
  obtain ⟨j, hj, e⟩ := List.getElem_of_mem h
  have ej : ((s.ops.map f).set k o')[j]? = some u := by rw [List.getElem?_eq_getElem hj, e]
  rcases set_at eo ej with ⟨_, z⟩ | ⟨a, u0, b, d⟩
  · exact .inl z
  · exact .inr ⟨j, u0, a, b, d⟩
theorem mem_set_new {f : OpS → OpS} (eo : s.ops[k]? = some o) : o' ∈ (s.ops.map f).set k o' := by
  have hk := (List.getElem?_eq_some_iff.mp eo).1
  exact List.mem_of_getElem? (i := k) (List.getElem?_set_self (by rw [List.length_map]; exact hk))
theorem mem_set_old {f : OpS → OpS} (eo : s.ops[k]? = some o) {j : Nat} {u : OpS} (hj : ¬ j = k) (h : s.ops[j]? = some u) : f u ∈ (s.ops.map f).set k o' := by
  refine List.mem_of_getElem? (i := j) ?_
  rw [List.getElem?_set_ne (Ne.symm hj), List.getElem?_map, h]
  rfl
/-- a step that stores nothing -/
theorem VI.put {f : OpS → OpS} (h : VI c n s) (eo : s.ops[k]? = some o) (lv : endedB o = false) (hf : f = id ∨ f = cf) (e4 : s'.ops = (s.ops.map f).set k o') (e1 : s'.db = s.db) (e2 : s'.rep = s.rep)
    (e3 : ∀ v, s'.cache = some v → v ≤ s.db) (hk : o'.kind = o.kind) (hb : o'.begun = o.begun) (hov : (o'.over = none ∧ endedB o' = false) ∨ (o'.over = some n ∧ endedB o' = true)) (hw : o.kind = "write" → o'.version = o.version) (hr : ∀ v, o'.version = some v → v ≤ s.db) (hs : o.step ≤ o'.step) : VI c n s' := by
  have ho := h.ops o (List.mem_of_getElem? eo)
  have new : VO c s.db n o' := by
    refine ⟨by rw [hb]; exact ho.bg, fun e z => ?_, fun z => ?_, hr, fun z v y => ?_, fun z y => ?_⟩
    · rcases hov with ⟨a, _⟩ | ⟨a, _⟩
      · rw [a] at z; cases z
      · rw [a] at z
        cases z
        rw [hb]
        exact ⟨ho.bg, Nat.le_refl _⟩
    · rcases hov with ⟨a, _⟩ | ⟨_, b⟩
      · exact a
      · rw [b] at z; cases z
    · rw [hk] at z
      rw [hw z] at y
      exact ho.ge z v y
    · rw [hk] at z
      rw [hw z] at y
      obtain ⟨j, a, b⟩ := ho.st z y
      exact ⟨j, by omega, b⟩
  have back : ∀ (j : Nat) u, s'.ops[j]? = some u → u.kind = "write" → ∃ u0, s.ops[j]? = some u0 ∧ u0.kind = "write" ∧ u.version = u0.version ∧ u.begun = u0.begun := fun j u e ku => by
    rw [e4] at e
    rcases set_at eo e with ⟨rfl, rfl⟩ | ⟨_, u0, a, rfl⟩
    · exact ⟨o, eo, by rw [← hk]; exact ku, hw (by rw [← hk]; exact ku), hb⟩
    · obtain ⟨b1, b2, b3, _⟩ := fver hf u0
      exact ⟨u0, a, by rw [← b1]; exact ku, b2, b3⟩
  refine ⟨by rw [e1, e2]; exact h.rep, by rw [e1]; exact e3, fun u m => ?_, fun i j x y v h1 h2 k1 k2 v1 v2 => ?_, fun v l1 l2 => ?_, fun r mr kr e v eo' ev w mw kw vw => ?_⟩
  · rw [e4] at m
    rw [e1]
    rcases set_mem eo m with e | ⟨j, u0, _, b, e⟩
    · rw [e]; exact new
    · rw [e]; exact (h.ops u0 (List.mem_of_getElem? b)).f hf
  · obtain ⟨x0, a1, a2, a3, _⟩ := back i x h1 k1
    obtain ⟨y0, b1, b2, b3, _⟩ := back j y h2 k2
    exact h.one i j x0 y0 v a1 b1 a2 b2 (by rw [← a3]; exact v1) (by rw [← b3]; exact v2)
  · rw [e1] at l2
    obtain ⟨w, mw, kw, vw⟩ := h.has v l1 l2
    obtain ⟨j, hj, e⟩ := List.getElem_of_mem mw
    have ej : s.ops[j]? = some w := by rw [List.getElem?_eq_getElem hj, e]
    rw [e4]
    by_cases hjk : j = k
    · subst hjk
      rw [eo] at ej
      cases ej
      exact ⟨o', mem_set_new eo, by rw [hk]; exact kw, by rw [hw kw]; exact vw⟩
    · obtain ⟨b1, b2, _⟩ := fver hf w
      exact ⟨f w, mem_set_old eo hjk ej, by rw [b1]; exact kw, by rw [b2]; exact vw⟩
  · obtain ⟨jw, hjw, ew⟩ := List.getElem_of_mem mw
    obtain ⟨w0, c1, c2, c3, c4⟩ := back jw w (by rw [List.getElem?_eq_getElem hjw, ew]) kw
    have bw := (h.ops w0 (List.mem_of_getElem? c1)).bg
    rw [c4]
    rw [e4] at mr
    rcases set_mem eo mr with z | ⟨j, r0, _, b, z⟩
    · rw [z] at eo'
      rcases hov with ⟨a, _⟩ | ⟨a, _⟩
      · rw [a] at eo'; cases eo'
      · rw [a] at eo'
        cases eo'
        exact bw
    · obtain ⟨b1, b2, b3, b4, _⟩ := fver hf r0
      rw [z] at kr eo' ev
      exact h.fit r0 (List.mem_of_getElem? b) (by rw [← b1]; exact kr) e v (by rw [← b4]; exact eo') (by rw [← b2]; exact ev) w0 (List.mem_of_getElem? c1) c2 (by rw [← c3]; exact vw)
/-- a store -/
theorem VI.store (h : VI c n s) (eo : s.ops[k]? = some o) (lv : endedB o = false) (kw0 : o.kind = "write") (nv : o.version = none) (e4 : s'.ops = s.ops.set k o') (e1 : s'.db = s.db + 1) (e2 : s'.rep = s.rep) (e3 : s'.cache = s.cache) (hk : o'.kind = o.kind) (hb : o'.begun = o.begun)
    (hov : (o'.over = none ∧ endedB o' = false) ∨ (o'.over = some n ∧ endedB o' = true)) (hv : o'.version = some (s.db + 1)) (hs : ∃ j, j < o'.step ∧ c.steps.getD j "" = "store") : VI c n s' := by
  have ho := h.ops o (List.mem_of_getElem? eo)
  have e4 : s'.ops = (s.ops.map id).set k o' := by rw [e4, List.map_id]
  have new : VO c (s.db + 1) n o' := by
    refine ⟨by rw [hb]; exact ho.bg, fun e z => ?_, fun z => ?_, fun v z => ?_, fun z v y => ?_, fun _ _ => hs⟩
    · rcases hov with ⟨a, _⟩ | ⟨a, _⟩
      · rw [a] at z; cases z
      · rw [a] at z
        cases z
        rw [hb]
        exact ⟨ho.bg, Nat.le_refl _⟩
    · rcases hov with ⟨a, _⟩ | ⟨_, b⟩
      · exact a
      · rw [b] at z; cases z
    · rw [hv] at z
      cases z
      exact Nat.le_refl _
    · rw [hv] at y
      cases y
      omega
  have old : ∀ {u : OpS} {v : Nat}, u ∈ s.ops → u.version = some v → ¬ v = s.db + 1 := fun m e z => by
    have := (h.ops _ m).le _ e
    omega
  refine ⟨by rw [e1, e2]; exact Nat.le_trans h.rep (Nat.le_succ _), fun v z => by rw [e3] at z; rw [e1]; exact Nat.le_trans (h.ca v z) (Nat.le_succ _), fun u m => ?_, fun i j x y v h1 h2 k1 k2 v1 v2 => ?_, fun v l1 l2 => ?_, fun r mr kr e v eo' ev w mw kw vw => ?_⟩
  · rw [e4] at m
    rw [e1]
    rcases set_mem eo m with e | ⟨j, u0, _, b, e⟩
    · rw [e]; exact new
    · rw [e]; exact (h.ops u0 (List.mem_of_getElem? b)).mono (Nat.le_succ _) (Nat.le_refl _)
  · rw [e4] at h1 h2
    rcases set_at eo h1 with ⟨a1, rfl⟩ | ⟨a1, x0, a2, rfl⟩
    · rcases set_at eo h2 with ⟨b1, rfl⟩ | ⟨b1, y0, b2, rfl⟩
      · rw [a1, b1]
      · rw [hv] at v1
        cases v1
        exact absurd rfl (old (List.mem_of_getElem? b2) v2)
    · rcases set_at eo h2 with ⟨b1, rfl⟩ | ⟨b1, y0, b2, rfl⟩
      · rw [hv] at v2
        cases v2
        exact absurd rfl (old (List.mem_of_getElem? a2) v1)
      · exact h.one i j _ _ v a2 b2 k1 k2 v1 v2
  · rw [e4]
    by_cases hl : v = s.db + 1
    · exact ⟨o', mem_set_new eo, by rw [hk]; exact kw0, by rw [hv, hl]⟩
    · rw [e1] at l2
      obtain ⟨w, mw, kw, vw⟩ := h.has v l1 (by omega)
      obtain ⟨j, hj, e⟩ := List.getElem_of_mem mw
      have ej : s.ops[j]? = some w := by rw [List.getElem?_eq_getElem hj, e]
      have hjk : ¬ j = k := fun z => by
        subst z
        rw [eo] at ej
        cases ej
        rw [nv] at vw
        cases vw
      exact ⟨id w, mem_set_old eo hjk ej, kw, vw⟩
  · rw [e4] at mr mw
    rcases set_mem eo mr with z | ⟨j, r0, _, b, z⟩
    · rw [z, hk, kw0] at kr
      exact absurd kr (by decide +kernel)
    · rw [z] at kr eo' ev
      rcases set_mem eo mw with y | ⟨j2, w0, _, b2, y⟩
      · rw [y, hv] at vw
        cases vw
        exact absurd rfl (old (List.mem_of_getElem? b) ev)
      · rw [y] at kw vw
        rw [y]
        exact h.fit r0 (List.mem_of_getElem? b) kr e v eo' ev w0 (List.mem_of_getElem? b2) kw vw
theorem one_store (O : c.Ok) {i j : Nat} (hi : c.steps.getD i "" = "store") (hj : c.steps.getD j "" = "store") : i = j := by
  have hp := O.p
  unfold Conf.steps at hi hj
  have lt : ∀ {i : Nat} {l : List Str}, l.getD i "" = "store" → i < l.length := fun {i l} h => by
    rcases Nat.lt_or_ge i l.length with z | z
    · exact z
    · rw [List.getD_eq_getElem?_getD, List.getElem?_eq_none z] at h
      exact absurd h (by decide +kernel)
  have fin : ∀ {l : List Str}, l.length ≤ 3 → (∀ i, i < 3 → ∀ j, j < 3 → l.getD i "" = "store" → l.getD j "" = "store" → i = j) → l.getD i "" = "store" → l.getD j "" = "store" → i = j := fun hl h a b => h i (by have := lt a; omega) j (by have := lt b; omega) a b
  simp only [pathsL, List.mem_cons, List.not_mem_nil, or_false] at hp
  rcases hp with e | e | e | e | e <;> rw [e] at hi hj <;> exact fin (by decide +kernel) (by decide +kernel) hi hj
/-- a read under way: what is ahead of it, and its version -/
theorem VI.op {wd : Str} (O : c.Ok) (W : Wf c s) (h : VI c n s) (hn : s.past.length = n) (eo : s.ops[k]? = some o) (n1 : ¬ o.stage = "ended") (n2 : ¬ o.stage = "stopped") (a : Ahead s o wd) : VI c n (doOp c s k o wd) := by
  have ho := h.ops o (List.mem_of_getElem? eo)
  have p := W.ops k o eo
  have lv := endedB_not n1 n2
  have ovn := ho.lv lv
  unfold doOp
  split
  · obtain ⟨f1, f2, f3, _⟩ := end_f (k := k) (o := o) (s := s) (st := "stopped")
    exact h.put (f := id) (o' := { o with stage := "stopped", over := some s.past.length }) eo lv (.inl rfl) (by rw [end_ops, List.map_id]) f1 f2 (by rw [f3]; exact h.ca) rfl rfl (.inr ⟨by show some s.past.length = _; rw [hn], endedB_of (.inr rfl)⟩) (fun _ => rfl) ho.le (Nat.le_refl _)
  rename_i ns
  rcases a with a | ⟨_, _, hnx⟩
  · exact absurd a ns
  split
  · rename_i kd
    obtain ⟨hs, ew, hst, hset⟩ := p.write O kd n1 n2 hnx
    unfold writeH
    have pp := past_wr (c := c) (s := s) (k := k) (o := o) (wd := wd)
    have hb : (wo1 s o wd).begun = o.begun := by unfold wo1; split <;> rfl
    have hk : (wo1 s o wd).kind = o.kind := by unfold wo1; split <;> rfl
    have hstp : (wo1 s o wd).step = o.step := by unfold wo1; split <;> rfl
    obtain ⟨g1, g2, g3, g4, g5, g6⟩ := wr4_f (c := c) (k := k) (s := wr3 c (wr2 c (wr1 s k o wd) (wo1 s o wd) wd) (wo1 s o wd) wd) (o := wo1 s o wd)
    have z5 : ∀ {s3 : HS} {u : OpS}, s3.past.length = n → u.over = none → u.step = o.step → (((o5 c s3 u).over = none ∧ endedB (o5 c s3 u) = false) ∨ ((o5 c s3 u).over = some n ∧ endedB (o5 c s3 u) = true)) ∧ (o5 c s3 u).step = o.step + 1 ∧ (o5 c s3 u).version = u.version ∧ (o5 c s3 u).kind = u.kind ∧ (o5 c s3 u).begun = u.begun := fun {s3 u} e1 e2 e3 => by
      unfold o5
      split
      · exact ⟨.inr ⟨by show some s3.past.length = _; rw [e1], endedB_of (.inl rfl)⟩, by show u.step + 1 = _; rw [e3], rfl, rfl, rfl⟩
      · rename_i z
        obtain ⟨_, y1, y2, _⟩ := not_wait O (j := u.step + 1) (by omega)
        exact ⟨.inl ⟨e2, endedB_not y1 y2⟩, by show u.step + 1 = _; rw [e3], rfl, rfl, rfl⟩
    have ov1 : (wo1 s o wd).over = none := by unfold wo1; split <;> exact ovn
    obtain ⟨y1, y2, y3, y4, y5⟩ := z5 (s3 := wr3 c (wr2 c (wr1 s k o wd) (wo1 s o wd) wd) (wo1 s o wd) wd) (u := wo1 s o wd) (by rw [pp]; exact hn) ov1 hstp
    by_cases est : wd = "store"
    · have nv : o.version = none := by
        cases ev : o.version with
        | none => rfl
        | some v =>
          obtain ⟨j, hj, ej⟩ := ho.st kd (by rw [ev]; rfl)
          have := one_store O ej (by rw [← ew]; exact est)
          omega
      have u1 : wo1 s o wd = { o with version := some (s.db + 1) } := if_pos est
      have r1 : wr1 s k o wd = { s with db := s.db + 1, ops := s.ops.set k { o with version := some (s.db + 1) } } := if_pos est
      have r2 : ∀ s1 o1, wr2 c s1 o1 wd = s1 := fun s1 o1 => if_neg (by rw [est]; decide +kernel)
      have r3 : ∀ s1 o1, wr3 c s1 o1 wd = s1 := fun s1 o1 => if_neg (by rw [est]; decide +kernel)
      rw [r3, r2, r1] at g1 g2 g3 g5 y1 y2 y3 y4 y5 ⊢
      refine h.store eo lv kd nv ?_ g1 g2 g3 (y4.trans hk) (y5.trans hb) y1 (by rw [y3, u1]) ⟨o.step, by rw [y2]; omega, by rw [← ew]; exact est⟩
      rw [g5]
      show (s.ops.set k _).set k _ = _
      rw [List.set_set]
    · have u1 : wo1 s o wd = cf o := if_neg est
      have r1 : wr1 s k o wd = { s with ops := s.ops.map cf } := if_neg est
      have vv : (wo1 s o wd).version = o.version := by rw [u1]; rfl
      have fld : ∀ {s1 : HS}, (wr2 c s1 (wo1 s o wd) wd).db = s1.db ∧ (wr2 c s1 (wo1 s o wd) wd).rep = s1.rep ∧ ((wr2 c s1 (wo1 s o wd) wd).cache = s1.cache ∨ (wr2 c s1 (wo1 s o wd) wd).cache = none) := fun {s1} => by
        unfold wr2
        split
        · split <;> exact ⟨rfl, rfl, .inr rfl⟩
        · exact ⟨rfl, rfl, .inl rfl⟩
      have fld3 : ∀ {s1 : HS}, (wr3 c s1 (wo1 s o wd) wd).db = s1.db ∧ (wr3 c s1 (wo1 s o wd) wd).rep = s1.rep ∧ ((wr3 c s1 (wo1 s o wd) wd).cache = s1.cache ∨ ∃ v, o.version = some v ∧ (wr3 c s1 (wo1 s o wd) wd).cache = some v) := fun {s1} => by
        unfold wr3
        split
        · rename_i es
          obtain ⟨v, ev⟩ := Option.isSome_iff_exists.mp (hset es)
          split
          · obtain ⟨a1, a2, a3, _⟩ := hold_f (c := c) (s := s1) (v := (wo1 s o wd).version.getD 0)
            refine ⟨a1, a2, .inr ⟨v, ev, ?_⟩⟩
            rw [a3, vv, ev]
            rfl
          · exact ⟨rfl, rfl, .inl rfl⟩
        · exact ⟨rfl, rfl, .inl rfl⟩
      obtain ⟨a1, a2, a3⟩ := fld (s1 := wr1 s k o wd)
      obtain ⟨b1, b2, b3⟩ := fld3 (s1 := wr2 c (wr1 s k o wd) (wo1 s o wd) wd)
      have d1 : (wr1 s k o wd).db = s.db ∧ (wr1 s k o wd).rep = s.rep ∧ (wr1 s k o wd).cache = s.cache := by rw [r1]; exact ⟨rfl, rfl, rfl⟩
      refine h.put (f := cf) eo lv (.inr rfl) ?_ (by rw [g1, b1, a1, d1.1]) (by rw [g2, b2, a2, d1.2.1]) (fun v z => ?_) (y4.trans hk) (y5.trans hb) y1 (fun _ => y3.trans vv) (fun v z => ho.le v (by rw [← vv, ← y3]; exact z)) (by rw [y2]; omega)
      · rw [g5, wr3_ops.1, wr2_ops.1, r1]
      · rw [g3] at z
        rcases b3 with e | ⟨v', ev, e⟩
        · rw [e] at z
          rcases a3 with e2 | e2
          · rw [e2, d1.2.2] at z
            exact h.ca v z
          · rw [e2] at z; cases z
        · rw [e] at z
          cases z
          exact ho.le v ev
  · rename_i kd
    have kr : o.kind = "read" := p.kd.resolve_right kd
    have rd := p.read O kd n1 n2 hnx
    have put0 : ∀ {s2 : HS} {o2 : OpS}, s2.ops = s.ops.set k o2 → s2.db = s.db → s2.rep = s.rep → s2.cache = s.cache → o2.kind = o.kind → o2.begun = o.begun → o2.over = none → endedB o2 = false → (∀ v, o2.version = some v → v ≤ s.db) → o2.step = o.step → VI c n s2 := fun {s2 o2} h1 h2 h3 h4 h5 h6 h7 h8 h9 h10 =>
      h.put (f := id) eo lv (.inl rfl) (by rw [h1, List.map_id]) h2 h3 (by rw [h4]; exact h.ca) h5 h6 (.inl ⟨h7, h8⟩) (fun z => absurd z kd) h9 (Nat.le_of_eq h10.symm)
    have end0 : ∀ {s2 : HS} {o2 : OpS}, s2.ops = s.ops.set k { o2 with stage := "ended", over := some n } → s2.db = s.db → s2.rep = s.rep → (∀ v, s2.cache = some v → v ≤ s.db) → o2.kind = o.kind → o2.begun = o.begun → (∀ v, o2.version = some v → v ≤ s.db) → o2.step = o.step → VI c n s2 := fun {s2 o2} h1 h2 h3 h4 h5 h6 h9 h10 =>
      h.put (f := id) (o' := { o2 with stage := "ended", over := some n }) eo lv (.inl rfl) (by rw [h1, List.map_id]) h2 h3 h4 h5 h6 (.inr ⟨rfl, endedB_of (.inl rfl)⟩) (fun z => absurd z kd) h9 (Nat.le_of_eq h10.symm)
    unfold readH
    split
    · obtain ⟨f1, f2, f3, _⟩ := end_f (k := k) (o := { o with version := s.cache }) (s := s.put k { o with version := s.cache }) (st := "ended")
      refine end0 (o2 := { o with version := s.cache }) ?_ f1 f2 (by rw [f3]; exact h.ca) rfl rfl h.ca rfl
      rw [end_ops]
      show (s.ops.set k _).set k _ = _
      rw [List.set_set]
      show s.ops.set k { o with version := s.cache, stage := "ended", over := some s.past.length } = _
      rw [hn]
    split
    · exact put0 (o2 := { o with stage := "waits", leader := s.opn }) rfl rfl rfl rfl rfl rfl ovn (endedB_not (by show ¬ ("waits" : Str) = "ended"; decide +kernel) (by show ¬ ("waits" : Str) = "stopped"; decide +kernel)) ho.le rfl
    split
    · exact put0 (o2 := { o with stage := "fetch" }) rfl rfl rfl rfl rfl rfl ovn (endedB_not (by show ¬ ("fetch" : Str) = "ended"; decide +kernel) (by show ¬ ("fetch" : Str) = "stopped"; decide +kernel)) ho.le rfl
    have vf : ∀ v, some (if c.source = "replica" then s.rep else s.db) = some v → v ≤ s.db := fun v z => by
      cases z
      split
      · exact h.rep
      · exact Nat.le_refl _
    split
    · split
      · obtain ⟨f1, f2, f3, _⟩ := end_f (k := k) (o := { o with version := some (if c.source = "replica" then s.rep else s.db), stage := "fill" }) (s := s.put k { o with version := some (if c.source = "replica" then s.rep else s.db), stage := "fill" }) (st := "ended")
        refine end0 (o2 := { o with version := some (if c.source = "replica" then s.rep else s.db), stage := "fill" }) ?_ f1 f2 (by rw [f3]; exact h.ca) rfl rfl vf rfl
        rw [end_ops]
        show (s.ops.set k _).set k _ = _
        rw [List.set_set]
        show s.ops.set k { o with version := some (if c.source = "replica" then s.rep else s.db), stage := "ended", over := some s.past.length } = _
        rw [hn]
      · exact put0 (o2 := { o with version := some (if c.source = "replica" then s.rep else s.db), stage := "fill" }) rfl rfl rfl rfl rfl rfl ovn (endedB_not (by show ¬ ("fill" : Str) = "ended"; decide +kernel) (by show ¬ ("fill" : Str) = "stopped"; decide +kernel)) vf rfl
    split
    · obtain ⟨f1, f2, f3, _⟩ := end_f (k := k) (o := { o with version := leadV s o }) (s := s.put k { o with version := leadV s o }) (st := "ended")
      refine end0 (o2 := { o with version := leadV s o }) ?_ f1 f2 (by rw [f3]; exact h.ca) rfl rfl (fun v z => ?_) rfl
      · rw [end_ops]
        show (s.ops.set k _).set k _ = _
        rw [List.set_set]
        show s.ops.set k { o with version := leadV s o, stage := "ended", over := some s.past.length } = _
        rw [hn]
      · have z : leadV s o = some v := z
        unfold leadV at z
        split at z
        · split at z
          · rename_i q eq
            exact (h.ops q (List.mem_of_getElem? eq)).le v z
          · cases z
        · cases z
    · have hv : ∀ v, o.version = some v → v ≤ s.db := ho.le
      rename_i q1 q2 q3 q4 q5
      have hvs : o.version.isSome = true := by
        rcases rd with ⟨e, _⟩ | ⟨e, _⟩ | ⟨_, _, v⟩ | ⟨e, _⟩
        · exact absurd e q3
        · exact absurd e q4
        · exact v
        · exact absurd e q5
      obtain ⟨v0, ev0⟩ := Option.isSome_iff_exists.mp hvs
      have key : ∀ {s1 : HS}, s1.ops = s.ops → s1.past = s.past → s1.db = s.db → s1.rep = s.rep → (∀ v, s1.cache = some v → v ≤ s.db) → VI c n (endH s1 k o "ended") := fun {s1} h1 h2 h3 h4 h5 => by
        obtain ⟨f1, f2, f3, _⟩ := end_f (k := k) (o := o) (s := s1) (st := "ended")
        refine end0 (o2 := o) ?_ (f1.trans h3) (f2.trans h4) (by rw [f3]; exact h5) rfl rfl hv rfl
        rw [end_ops, h1, h2, hn]
      split
      · obtain ⟨a1, a2, a3, _⟩ := hold_f (c := c) (s := s) (v := o.version.getD 0)
        refine key hold_ops hold_past a1 a2 (fun v z => ?_)
        rw [a3, ev0] at z
        cases z
        exact hv _ ev0
      · exact key rfl rfl rfl rfl h.ca
theorem VI.new {w : Str} (h : VI c n s) (hn : s.past.length = n) (hw : w = "look" ∨ w = firstW c) : VI c n { s with ops := s.ops ++ [newOp s w] } := by
  have nv : (newOp s w).version = none := rfl
  have old : ∀ {j : Nat} {u : OpS}, (s.ops ++ [newOp s w])[j]? = some u → u.version.isSome = true → s.ops[j]? = some u := fun {j u} e z => by
    by_cases hj : j < s.ops.length
    · rw [List.getElem?_append_left hj] at e
      exact e
    · rw [List.getElem?_append_right (by omega)] at e
      have m := List.mem_of_getElem? e
      rw [List.mem_singleton] at m
      rw [m, nv] at z
      cases z
  have oldm : ∀ {u : OpS}, u ∈ s.ops ++ [newOp s w] → u.version.isSome = true → u ∈ s.ops := fun {u} m z => by
    rcases List.mem_append.mp m with y | y
    · exact y
    · rw [List.mem_singleton] at y
      rw [y, nv] at z
      cases z
  refine ⟨h.rep, h.ca, fun u m => ?_, fun i j x y v h1 h2 k1 k2 v1 v2 => h.one i j x y v (old h1 (by rw [v1]; rfl)) (old h2 (by rw [v2]; rfl)) k1 k2 v1 v2, fun v l1 l2 => ?_, fun r mr kr e v eo' ev x mw kw vw => h.fit r (oldm mr (by rw [ev]; rfl)) kr e v eo' ev x (oldm mw (by rw [vw]; rfl)) kw vw⟩
  · rcases List.mem_append.mp m with z | z
    · exact h.ops u z
    · rw [List.mem_singleton] at z
      rw [z]
      exact ⟨(by show s.past.length ≤ n; omega), fun e y => (nomatch y), fun _ => rfl, fun v y => (nomatch y), fun _ v y => (nomatch y), fun _ y => (nomatch y)⟩
  · obtain ⟨x, mx, a, b⟩ := h.has v l1 l2
    exact ⟨x, List.mem_append_left _ mx, a, b⟩
end
theorem Reach.vi {c : Conf} {s : HS} (O : c.Ok) (r : Reach c s) : VI c s.past.length s := by
  induction r with
  | begin => exact ⟨Nat.le_refl _, fun v z => (by cases z), fun o m => (by cases m), fun i j o u v e => (by cases e), fun v l1 l2 => absurd (Nat.lt_of_lt_of_le l1 l2) (Nat.lt_irrefl 0), fun r m => (by cases m)⟩
  | @step s e r h ih =>
    have W := (r.wf O).1
    have z : VI c s.past.length (doE c s e) := by
      cases ev_case W h with
      | evict z =>
        have zL : doE c s evictE = { s with cache := none, mark := 0 } := if_pos rfl
        rw [zL]
        exact ⟨ih.rep, fun v y => (by cases y), ih.ops, ih.one, ih.has, ih.fit⟩
      | copy z =>
        have zL : doE c s copyE = { s with rep := s.rep + 1 } := by
          unfold doE
          rw [if_neg (by decide +kernel), if_pos rfl]
        rw [zL]
        unfold canCopy at z
        rw [Bool.and_eq_true, decide_eq_true_eq, decide_eq_true_eq] at z
        exact ⟨z.2, ih.ca, ih.ops, ih.one, ih.has, ih.fit⟩
      | new w hw =>
        have eo : (preH s w s.ops.length).ops[s.ops.length]? = some (newOp s w) := by
          rw [pre_new]
          show (s.ops ++ [newOp s w])[s.ops.length]? = _
          rw [List.getElem?_append_right (Nat.le_refl _), Nat.sub_self]
          rfl
        rw [doE_at eo]
        obtain ⟨a, b, d⟩ := new_next (s := s) (s' := preH s w s.ops.length) O hw
        have WP := W.pre O hw
        rw [pre_new] at eo d WP ⊢
        exact (ih.new rfl hw).op O WP rfl eo a b (.inr ⟨a, b, d⟩)
      | step k o w eo h1 h2 h3 =>
        rw [doE_at (by rw [pre_old eo]; exact eo), pre_old eo]
        exact ih.op O W rfl eo h1 h2 (.inr ⟨h1, h2, h3⟩)
      | stop k o eo h1 h2 h3 =>
        rw [doE_at (by rw [pre_old eo]; exact eo), pre_old eo]
        exact ih.op O W rfl eo h1 h2 (.inl rfl)
    have el : (doH c s e).past.length = s.past.length + 1 := by
      show (s.past ++ [e]).length = _
      rw [List.length_append]
      rfl
    rw [el]
    exact (z.later (Nat.le_succ _)).of rfl rfl rfl rfl
end Ca

set_option Elab.async false
set_option linter.all false
set_option maxRecDepth 100000
set_option maxHeartbeats 4000000
namespace Ca
open PySem L2
structure TM (s : HS) (t : PSt) : Prop where
  past : t.past = s.past
  op : ∀ (k : Nat) o q, s.ops[k]? = some o → t.ops[k]? = some q → q.began = o.begun + 1 ∧ q.left = o.over.map (· + 1)
structure TIs (s : HS) : Prop where
  bg : ∀ (k : Nat) o, s.ops[k]? = some o → ∃ w, s.past[o.begun]? = some (w, some (k : Int))
  ov : ∀ (k : Nat) o x, s.ops[k]? = some o → o.over = some x → ∃ w, s.past[x]? = some (w, some (k : Int))
  lv : ∀ (k : Nat) o, s.ops[k]? = some o → (o.over = none ↔ endedB o = false)
theorem at_more {α : Type} {l : List α} {i : Nat} {x y : α} (h : l[i]? = some x) : (l ++ [y])[i]? = some x := by
  rw [List.getElem?_append_left (List.getElem?_eq_some_iff.mp h).1]
  exact h
theorem at_last {α : Type} {l : List α} {y : α} : (l ++ [y])[l.length]? = some y := by
  rw [List.getElem?_append_right (Nat.le_refl _), Nat.sub_self]
  rfl
theorem cf_same {f : OpS → OpS} (h : f = id ∨ f = cf) (o : OpS) : (f o).begun = o.begun ∧ (f o).over = o.over ∧ endedB (f o) = endedB o := by
  rcases h with e | e <;> rw [e] <;> exact ⟨rfl, rfl, rfl⟩
/-- an operation's step, on either side -/
theorem times_step {s0 s1 s2 : HS} {t1 t2 : PSt} {k : Nat} {o : OpS} {q q' : POp} {wd : Str} {e : Ev} (ee : e = (wd, some (k : Int))) (ep1 : s1.past = s0.past)
    (eo : s1.ops[k]? = some o) (eq : t1.ops[k]? = some q) (F : OpForm s1 k o wd s2.ops) (ep : s2.past = s0.past ++ [e]) (et : t2.ops = t1.ops.set k q') (etp : t2.past = s0.past ++ [e]) (eb : q'.began = q.began)
    (el : (∀ o', s2.ops[k]? = some o' → (endedB o' = true → q'.left = some (s0.past.length + 1)) ∧ (endedB o' = false → q'.left = q.left)))
    (M : ∀ (j : Nat) u v, s1.ops[j]? = some u → t1.ops[j]? = some v → v.began = u.begun + 1 ∧ v.left = u.over.map (· + 1))
    (bg : ∀ (j : Nat) u, s1.ops[j]? = some u → ∃ w, (s0.past ++ [e])[u.begun]? = some (w, some (j : Int)))
    (ov : ∀ (j : Nat) u x, s1.ops[j]? = some u → u.over = some x → ∃ w, s0.past[x]? = some (w, some (j : Int)))
    (lv : ∀ (j : Nat) u, s1.ops[j]? = some u → (u.over = none ↔ endedB u = false)) (lo : o.over = none) : TM s2 t2 ∧ TIs s2 := by
  obtain ⟨f, o', hf, eops, ob, alt⟩ := F.ex
  have hk : k < s1.ops.length := (List.getElem?_eq_some_iff.mp eo).1
  have at_k : s2.ops[k]? = some o' := by
    rw [eops, List.getElem?_set_self (by rw [List.length_map]; exact hk)]
  have at_j : ∀ (j : Nat) u', ¬ j = k → s2.ops[j]? = some u' → ∃ u, s1.ops[j]? = some u ∧ u' = f u := fun j u' n h => by
    rw [eops, List.getElem?_set_ne (Ne.symm n), List.getElem?_map] at h
    cases z : s1.ops[j]? with
    | none => rw [z] at h; cases h
    | some u => rw [z] at h; exact ⟨u, rfl, (Option.some.inj h).symm⟩
  have alt2 : (o'.over = some s0.past.length ∧ endedB o' = true) ∨ (o'.over = none ∧ endedB o' = false) := by
    rcases alt with ⟨a, b⟩ | ⟨a, b⟩
    · rw [ep1] at a
      exact .inl ⟨a, b.elim (fun z => endedB_of (.inr z.2)) (fun z => endedB_of (.inl z.2))⟩
    · exact .inr ⟨a.trans lo, b⟩
  obtain ⟨m1, m2⟩ := M k o q eo eq
  refine ⟨⟨by rw [etp, ep], fun j u v hu hv => ?_⟩, ⟨fun j u hu => ?_, fun j u x hu hx => ?_, fun j u hu => ?_⟩⟩
  · by_cases hj : j = k
    · subst hj
      rw [at_k] at hu
      cases hu
      rw [et, List.getElem?_set_self (List.getElem?_eq_some_iff.mp eq).1] at hv
      cases hv
      refine ⟨by rw [eb, m1, ob], ?_⟩
      obtain ⟨l1, l2⟩ := el o' at_k
      rcases alt2 with ⟨a, b⟩ | ⟨a, b⟩
      · rw [l1 b, a]; rfl
      · rw [l2 b, m2, a, lo]
    · obtain ⟨u0, hu0, rfl⟩ := at_j j u hj hu
      rw [et, List.getElem?_set_ne (Ne.symm hj)] at hv
      obtain ⟨a, b⟩ := M j u0 v hu0 hv
      obtain ⟨c1, c2, _⟩ := cf_same hf u0
      rw [c1, c2]
      exact ⟨a, b⟩
  · rw [ep]
    by_cases hj : j = k
    · subst hj
      rw [at_k] at hu
      cases hu
      rw [ob]
      exact bg j o eo
    · obtain ⟨u0, hu0, rfl⟩ := at_j j u hj hu
      rw [(cf_same hf u0).1]
      exact bg j u0 hu0
  · rw [ep]
    by_cases hj : j = k
    · subst hj
      rw [at_k] at hu
      cases hu
      rcases alt2 with ⟨a, b⟩ | ⟨a, b⟩
      · rw [a] at hx
        cases hx
        exact ⟨wd, by rw [at_last, ee]⟩
      · rw [a] at hx; cases hx
    · obtain ⟨u0, hu0, rfl⟩ := at_j j u hj hu
      rw [(cf_same hf u0).2.1] at hx
      obtain ⟨w, hw⟩ := ov j u0 x hu0 hx
      exact ⟨w, at_more hw⟩
  · by_cases hj : j = k
    · subst hj
      rw [at_k] at hu
      cases hu
      rcases alt2 with ⟨a, b⟩ | ⟨a, b⟩ <;> rw [a, b] <;> simp
    · obtain ⟨u0, hu0, rfl⟩ := at_j j u hj hu
      obtain ⟨_, c2, c3⟩ := cf_same hf u0
      rw [c2, c3]
      exact lv j u0 hu0
theorem reach_times {c : Conf} {s : HS} (O : c.Ok) (r : Reach c s) : TM s (runS c s.past) ∧ TIs s := by
  induction r with
  | begin => exact ⟨⟨rfl, fun k o q h => by simp [HS.begin] at h⟩, ⟨fun k o h => by simp [HS.begin] at h, fun k o x h => by simp [HS.begin] at h, fun k o h => by simp [HS.begin] at h⟩⟩
  | @step s e r h ih =>
    obtain ⟨M, I⟩ := ih
    have W := (r.wf O).1
    obtain ⟨S, _⟩ := reach_sim O r
    have R := S.rel
    have ep : (doH c s e).past = s.past ++ [e] := rfl
    have er : runS c (doH c s e).past = doP c (runS c s.past) e := by
      rw [ep]
      unfold runS
      rw [List.foldl_append]
      rfl
    rw [er]
    have etp : (doP c (runS c s.past) e).past = s.past ++ [e] := by rw [doP_past, M.past]
    have bth := both O W S h
    have S2 := bth.sim
    generalize runS c s.past = t at M S R etp S2 bth
    have keep : ∀ {s2 : HS} {t2 : PSt}, s2.ops = s.ops → t2.ops = t.ops → s2.past = s.past ++ [e] → t2.past = s.past ++ [e] → TM s2 t2 ∧ TIs s2 := fun {s2 t2} h1 h2 h3 h4 => by
      refine ⟨⟨by rw [h3, h4], fun k o q ho hq => by rw [h1] at ho; rw [h2] at hq; exact M.op k o q ho hq⟩, ⟨fun k o ho => ?_, fun k o x ho hx => ?_, fun k o ho => by rw [h1] at ho; exact I.lv k o ho⟩⟩
      · rw [h1] at ho
        obtain ⟨w, hw⟩ := I.bg k o ho
        exact ⟨w, by rw [h3]; exact at_more hw⟩
      · rw [h1] at ho
        obtain ⟨w, hw⟩ := I.ov k o x ho hx
        exact ⟨w, by rw [h3]; exact at_more hw⟩
    have lvo : ∀ {l : List OpS} {k : Nat} {o : OpS}, (∀ (j : Nat) u, l[j]? = some u → (u.over = none ↔ endedB u = false)) → l[k]? = some o → ¬ o.stage = ("ended" : Str) → ¬ o.stage = ("stopped" : Str) → o.over = none := fun h e n1 n2 => (h _ _ e).mpr (endedB_not n1 n2)
    have go : ∀ {k : Nat} {wd : Str} {o : OpS} {q : POp} {s1 : HS} {t1 : PSt}, e = (wd, some (k : Int)) → preH s wd k = s1 → s1.past = s.past → Wf c s1 → s1.ops[k]? = some o → ¬ o.stage = ("ended" : Str) → ¬ o.stage = ("stopped" : Str) → nextOf s1 o = some wd →
        preP c (noteP t e) wd k = t1 → t1.ops[k]? = some q → (∀ (j : Nat) u v, s1.ops[j]? = some u → t1.ops[j]? = some v → v.began = u.begun + 1 ∧ v.left = u.over.map (· + 1)) → (∀ (j : Nat) u, s1.ops[j]? = some u → ∃ w, (s.past ++ [e])[u.begun]? = some (w, some (j : Int))) →
        (∀ (j : Nat) u x, s1.ops[j]? = some u → u.over = some x → ∃ w, s.past[x]? = some (w, some (j : Int))) → (∀ (j : Nat) u, s1.ops[j]? = some u → (u.over = none ↔ endedB u = false)) → TM (doH c s e) (doP c t e) ∧ TIs (doH c s e) := fun {k wd o q s1 t1} ee es1 ep1 W1 eo m1 m2 hn et1 eq M1 bg ov lv => by
      obtain ⟨n1, n2, n3⟩ := word_ne O W1 eo ⟨m1, m2⟩ hn
      have F := op_form O W1 eo (.inr ⟨m1, m2, hn⟩)
      have zs : (doH c s e).ops = (doOp c s1 k o wd).ops := by
        show (doE c s e).ops = _
        rw [ee, doE_at (by rw [es1]; exact eo), es1]
      have zt : doP c t e = stepP c (noteP t e) wd k := by
        unfold doP doG actP
        rw [ee]
        rw [if_neg n1, if_neg n2]
        show (if wd = "stop" then stopP _ (0 + (k : Int).toNat) else stepP c _ wd (0 + (k : Int).toNat)) = _
        rw [if_neg n3, Int.toNat_natCast, Nat.zero_add]
      obtain ⟨q', eops, eb, el⟩ := stepP_form (c := c) (t := noteP t e) (k := k) (q := q) (w := wd) (by rw [et1]; exact eq)
      have pl : (noteP t e).past.length = s.past.length + 1 := by
        show (t.past ++ [e]).length = _
        rw [M.past, List.length_append]
        rfl
      rw [pl] at el
      have lo := lvo lv eo m1 m2
      rw [← zs] at F
      refine times_step ee ep1 eo eq F ep (by rw [zt, eops, et1]) etp eb (fun o' ho' => ?_) M1 bg ov lv lo
      have hk := (List.getElem?_eq_some_iff.mp eq).1
      have hq' : (doP c t e).ops[k]? = some q' := by rw [zt, eops, et1, List.getElem?_set_self hk]
      have RR := S2.rel.ops.op k o' q' ho' hq'
      obtain ⟨f, o2, hf, e2, _, alt⟩ := F.ex
      have e3 : o2 = o' := by
        have hk1 : k < s1.ops.length := (List.getElem?_eq_some_iff.mp eo).1
        rw [e2, List.getElem?_set_self (by rw [List.length_map]; exact hk1)] at ho'
        exact Option.some.inj ho'
      rw [e3] at alt
      have qe : q'.ended = true ↔ o'.stage = ("ended" : Str) := by
        rw [← RR.ne]
        unfold POp.ended
        exact List.isEmpty_iff
      refine ⟨fun hb => ?_, fun hb => ?_⟩
      · rcases alt with ⟨_, z | z⟩ | ⟨_, z⟩
        · exact absurd z.1 n3
        · rw [el, if_pos (qe.mpr z.2)]
        · rw [hb] at z; cases z
      · have : ¬ q'.ended = true := fun z => by
          rw [endedB_of (.inl (qe.mp z))] at hb
          cases hb
        rw [el, if_neg this]
    cases ev_case W h with
    | evict z =>
      refine keep ?_ ?_ ep etp
      · show (doE c s evictE).ops = s.ops
        rw [show doE c s evictE = { s with cache := none, mark := 0 } from if_pos rfl]
      · unfold doP doG actP
        rw [if_neg (by decide +kernel), if_pos (by decide +kernel)]
        rfl
    | copy z =>
      refine keep ?_ ?_ ep etp
      · show (doE c s copyE).ops = s.ops
        unfold doE
        rw [if_neg (by decide +kernel), if_pos rfl]
      · unfold doP doG actP
        rw [if_pos (by decide +kernel)]
        rfl
    | new w hw =>
      have e1 : s.ops.length = t.ops.length := R.ops.len
      have zp : preP c (noteP t (w, some (s.ops.length : Int))) w s.ops.length = { noteP t (w, some (s.ops.length : Int)) with ops := t.ops ++ [newP c w (t.past ++ [(w, some (s.ops.length : Int))]).length] } := if_pos e1
      obtain ⟨a, b, d⟩ := new_next (s := s) (s' := { s with ops := s.ops ++ [newOp s w] }) O hw
      have WN := W.pre O hw
      rw [pre_new] at WN
      have old : ∀ {j : Nat} {u : OpS}, (s.ops ++ [newOp s w])[j]? = some u → (s.ops[j]? = some u) ∨ (j = s.ops.length ∧ u = newOp s w) := fun {j u} h => by
        by_cases hj : j < s.ops.length
        · rw [List.getElem?_append_left hj] at h
          exact .inl h
        · rw [List.getElem?_append_right (by omega)] at h
          have e0 : j - s.ops.length = 0 := by
            have := (List.getElem?_eq_some_iff.mp h).1
            simp at this
            omega
          rw [e0] at h
          exact .inr ⟨by omega, (Option.some.inj h).symm⟩
      refine go rfl pre_new rfl WN (o := newOp s w) at_last a b d zp (q := newP c w (t.past ++ [(w, some (s.ops.length : Int))]).length) (by show (t.ops ++ [_])[s.ops.length]? = _; rw [e1]; exact at_last) ?_ ?_ ?_ ?_
      · intro j u v hu hv
        have hv : (t.ops ++ [newP c w (t.past ++ [(w, some (s.ops.length : Int))]).length])[j]? = some v := hv
        rcases old hu with hu | ⟨ej, eu⟩
        · have hj := (List.getElem?_eq_some_iff.mp hu).1
          rw [List.getElem?_append_left (by omega)] at hv
          exact M.op j u v hu hv
        · rw [ej, e1, at_last] at hv
          have hv := (Option.some.inj hv).symm
          rw [hv, eu]
          have z : ∀ x : Ev, (t.past ++ [x]).length = s.past.length + 1 := fun x => by
            rw [M.past, List.length_append]
            rfl
          rw [z]
          unfold newP
          split <;> exact ⟨rfl, rfl⟩
      · intro j u hu
        rcases old hu with hu | ⟨ej, eu⟩
        · obtain ⟨w', hw'⟩ := I.bg j u hu
          exact ⟨w', at_more hw'⟩
        · rw [ej, eu]
          exact ⟨w, at_last⟩
      · intro j u x hu hx
        rcases old hu with hu | ⟨ej, eu⟩
        · exact I.ov j u x hu hx
        · rw [eu] at hx; cases hx
      · intro j u hu
        rcases old hu with hu | ⟨ej, eu⟩
        · exact I.lv j u hu
        · rw [eu]
          exact ⟨fun _ => endedB_not a b, fun _ => rfl⟩
    | step k o w eo h1 h2 h3 =>
      have hlt := (List.getElem?_eq_some_iff.mp eo).1
      have zp : preP c (noteP t (w, some (k : Int))) w k = noteP t (w, some (k : Int)) := if_neg (by show ¬ k = t.ops.length; rw [← R.ops.len]; omega)
      obtain ⟨q, eq⟩ : ∃ q, t.ops[k]? = some q := ⟨_, List.getElem?_eq_getElem (by rw [← R.ops.len]; exact hlt)⟩
      refine go rfl (pre_old eo) rfl W eo h1 h2 h3 zp (q := q) eq M.op (fun j u hu => ?_) I.ov I.lv
      obtain ⟨w', hw'⟩ := I.bg j u hu
      exact ⟨w', at_more hw'⟩
    | stop k o eo h1 h2 h3 =>
      have hlt := (List.getElem?_eq_some_iff.mp eo).1
      obtain ⟨q, eq⟩ : ∃ q, t.ops[k]? = some q := ⟨_, List.getElem?_eq_getElem (by rw [← R.ops.len]; exact hlt)⟩
      have F := op_form (wd := "stop") O W eo (.inl rfl)
      have zs : (doH c s ("stop", some (k : Int))).ops = (doOp c s k o "stop").ops := by
        show (doE c s _).ops = _
        rw [doE_at (by rw [pre_old eo]; exact eo), pre_old eo]
      rw [← zs] at F
      have zt : doP c t ("stop", some (k : Int)) = stopP (noteP t ("stop", some (k : Int))) k := by
        unfold doP doG actP
        rw [if_neg (by show ¬ ("stop" : Str) = "copy"; decide +kernel), if_neg (by show ¬ ("stop" : Str) = "evict"; decide +kernel)]
        show (if ("stop" : Str) = "stop" then stopP _ (0 + (k : Int).toNat) else stepP c _ "stop" (0 + (k : Int).toNat)) = _
        rw [if_pos rfl, Int.toNat_natCast, Nat.zero_add]
      have pl : (noteP t ("stop", some (k : Int))).past.length = s.past.length + 1 := by
        show (t.past ++ [_]).length = _
        rw [M.past, List.length_append]
        rfl
      have eops : (doP c t ("stop", some (k : Int))).ops = t.ops.set k { q with stopped := true, left := some (s.past.length + 1) } := by
        rw [zt]
        unfold stopP
        have eq2 : (noteP t ("stop", some (k : Int))).ops[k]? = some q := eq
        rw [eq2, pl]
        rfl
      refine times_step rfl rfl eo eq F ep eops etp rfl (fun o' ho' => ⟨fun _ => rfl, fun hb => ?_⟩) M.op (fun j u hu => ?_) I.ov I.lv (lvo I.lv eo h1 h2)
      · have hq' : (doP c t ("stop", some (k : Int))).ops[k]? = some { q with stopped := true, left := some (s.past.length + 1) } := by
          rw [eops, List.getElem?_set_self (List.getElem?_eq_some_iff.mp eq).1]
        have RR := (S2.rel.ops.op k o' _ ho' hq').stop
        have z : o'.stage = ("stopped" : Str) := of_decide_eq_true RR.symm
        rw [endedB_of (.inr z)] at hb
        cases hb
      · obtain ⟨w', hw'⟩ := I.bg j u hu
        exact ⟨w', at_more hw'⟩
end Ca

set_option Elab.async false
set_option linter.all false
set_option maxRecDepth 100000
set_option maxHeartbeats 4000000
namespace Ca
open PySem L2
/-! ### the program's word on orders: where versions ended, where they began -/
def cntP (o : POp) : Bool := o.ended || (decide (o.kind = ("write" : Str)) && o.version.isSome)
def endP (n : Nat) (o : POp) : Nat := if o.ended then o.left.getD 0 else n
abbrev VN := Nat → Option Nat
def stE (n : Nat) (e : VN) (o : POp) : VN := fun u => if (cntP o && decide (u = o.version.getD 0)) = true then some (min (endP n o) ((e u).getD n)) else e u
def stB (b : VN) (o : POp) : VN := fun u => if (cntP o && decide (u = o.version.getD 0)) = true then some (max o.began ((b u).getD 0)) else b u
def zeroV : VN := fun v => if v = 0 then some 0 else none
def spE (t : PSt) : VN := t.ops.foldl (stE (t.past.length + 1)) zeroV
def spS (t : PSt) : VN := t.ops.foldl stB zeroV
def linT (e b : VN) (v u : Nat) : Bool := decide (v < u) && (match e v, e u with
  | some x, some y => decide (x < (b u).getD 0) && decide (y < (b v).getD 0)
  | _, _ => false)
def linP (t : PSt) : Bool := (List.range (t.db + 1)).any fun v => (List.range (t.db + 1)).any fun u => linT (spE t) (spS t) v u
section
variable {n : Nat}
theorem stE_hit {e : VN} {o : POp} (h : cntP o = true) : stE n e o (o.version.getD 0) = some (min (endP n o) ((e (o.version.getD 0)).getD n)) := by
  unfold stE
  rw [h, decide_eq_true rfl]
  rfl
theorem stE_miss {e : VN} {o : POp} {u : Nat} (h : ¬ (cntP o = true ∧ u = o.version.getD 0)) : stE n e o u = e u := by
  unfold stE
  rw [if_neg (by rw [Bool.and_eq_true, decide_eq_true_eq]; exact h)]
theorem stB_hit {e : VN} {o : POp} (h : cntP o = true) : stB e o (o.version.getD 0) = some (max o.began ((e (o.version.getD 0)).getD 0)) := by
  unfold stB
  rw [h, decide_eq_true rfl]
  rfl
theorem stB_miss {e : VN} {o : POp} {u : Nat} (h : ¬ (cntP o = true ∧ u = o.version.getD 0)) : stB e o u = e u := by
  unfold stB
  rw [if_neg (by rw [Bool.and_eq_true, decide_eq_true_eq]; exact h)]
/-- what is there stays or becomes less -/
theorem foldE_le : ∀ (l : List POp) (e : VN) (u x : Nat), e u = some x → ∃ y, y ≤ x ∧ l.foldl (stE n) e u = some y
  | [], e, u, x, h => ⟨x, Nat.le_refl _, h⟩
  | o :: l, e, u, x, h => by
    rw [List.foldl_cons]
    by_cases z : cntP o = true ∧ u = o.version.getD 0
    · obtain ⟨z1, rfl⟩ := z
      obtain ⟨y, h1, h2⟩ := foldE_le l (stE n e o) _ _ (stE_hit z1)
      refine ⟨y, Nat.le_trans h1 ?_, h2⟩
      rw [h]
      exact Nat.min_le_right _ _
    · exact foldE_le l (stE n e o) u x ((stE_miss z).trans h)
theorem foldB_le : ∀ (l : List POp) (e : VN) (u x : Nat), e u = some x → ∃ y, x ≤ y ∧ l.foldl stB e u = some y
  | [], e, u, x, h => ⟨x, Nat.le_refl _, h⟩
  | o :: l, e, u, x, h => by
    rw [List.foldl_cons]
    by_cases z : cntP o = true ∧ u = o.version.getD 0
    · obtain ⟨z1, rfl⟩ := z
      obtain ⟨y, h1, h2⟩ := foldB_le l (stB e o) _ _ (stB_hit z1)
      refine ⟨y, Nat.le_trans ?_ h1, h2⟩
      rw [h]
      exact Nat.le_max_right _ _
    · exact foldB_le l (stB e o) u x ((stB_miss z).trans h)
end
/-! ### the law's list -/
def lawL (s : HS) : List XOp := (readsL s).map rdX ++ (writesL s).map wrX
theorem inOrderH_eq {s : HS} : inOrderH s = ordB 14 (lawL s) 0 := rfl
section
variable {c : Conf} {s : HS}
theorem mem_reads {o : OpS} : o ∈ readsL s ↔ o ∈ s.ops ∧ o.kind = ("read" : Str) ∧ o.stage = ("ended" : Str) := by
  unfold readsL
  rw [List.mem_filter, Bool.and_eq_true, decide_eq_true_eq, decide_eq_true_eq]
theorem mem_writes {o : OpS} : o ∈ writesL s ↔ o ∈ s.ops ∧ o.kind = ("write" : Str) ∧ o.version.isSome = true ∧ (o.stage = ("ended" : Str) ∨ ∃ r ∈ readsL s, r.version.getD 0 = o.version.getD 0) := by
  unfold writesL writesA
  rw [List.mem_filter, List.mem_filter, Bool.and_eq_true, decide_eq_true_eq]
  unfold toldB
  rw [Bool.or_eq_true, decide_eq_true_eq, List.any_eq_true]
  constructor
  · rintro ⟨⟨a, b, d⟩, e⟩
    refine ⟨a, b, d, ?_⟩
    rcases e with e | ⟨r, h1, h2⟩
    · exact .inl e
    · exact .inr ⟨r, h1, of_decide_eq_true h2⟩
  · rintro ⟨a, b, d, e⟩
    refine ⟨⟨a, b, d⟩, ?_⟩
    rcases e with e | ⟨r, h1, h2⟩
    · exact .inl e
    · exact .inr ⟨r, h1, decide_eq_true h2⟩
theorem mem_law {x : XOp} : x ∈ lawL s ↔ (∃ o ∈ readsL s, x = rdX o) ∨ ∃ o ∈ writesL s, x = wrX o := by
  unfold lawL
  rw [List.mem_append, List.mem_map, List.mem_map]
  constructor
  · rintro (⟨o, a, b⟩ | ⟨o, a, b⟩)
    · exact .inl ⟨o, a, b.symm⟩
    · exact .inr ⟨o, a, b.symm⟩
  · rintro (⟨o, a, b⟩ | ⟨o, a, b⟩)
    · exact .inl ⟨o, a, b.symm⟩
    · exact .inr ⟨o, a, b.symm⟩
theorem law_len (s : HS) : (lawL s).length ≤ s.ops.length := by
  unfold lawL
  rw [List.length_append, List.length_map, List.length_map]
  have h := len_rw s.ops
  have z : (writesL s).length ≤ (writesA s).length := List.length_filter_le _ _
  have h : (readsL s).length + (writesA s).length ≤ s.ops.length := h
  omega
theorem law_one (h : VI c s.past.length s) : OneW 0 (lawL s) := by
  have pw : (lawL s).Pairwise fun x y => ¬ (x.wr = true ∧ y.wr = true ∧ x.ver = y.ver) := by
    unfold lawL
    rw [List.pairwise_append]
    refine ⟨?_, ?_, ?_⟩
    · rw [List.pairwise_map]
      exact List.pairwise_of_forall fun x y z => nomatch z.1
    · rw [List.pairwise_map]
      have base : s.ops.Pairwise fun a b => ¬ (a.kind = ("write" : Str) ∧ b.kind = ("write" : Str) ∧ ∃ v, a.version = some v ∧ b.version = some v) := by
        rw [List.pairwise_iff_getElem]
        rintro i j hi hj lt ⟨k1, k2, v, v1, v2⟩
        have := h.one i j _ _ v (List.getElem?_eq_getElem hi) (List.getElem?_eq_getElem hj) k1 k2 v1 v2
        omega
      have sub : (writesL s).Sublist s.ops := List.Sublist.trans List.filter_sublist List.filter_sublist
      refine List.Pairwise.imp_of_mem ?_ (base.sublist sub)
      rintro a b ma mb no ⟨_, _, e⟩
      obtain ⟨_, k1, v1, _⟩ := mem_writes.mp ma
      obtain ⟨_, k2, v2, _⟩ := mem_writes.mp mb
      obtain ⟨v, ev⟩ := Option.isSome_iff_exists.mp v1
      obtain ⟨u, eu⟩ := Option.isSome_iff_exists.mp v2
      have e : a.version.getD 0 = b.version.getD 0 := e
      rw [ev, eu] at e
      have e : v = u := e
      exact no ⟨k1, k2, v, ev, by rw [eu, e]⟩
    · rintro x hx y hy ⟨wx, _⟩
      obtain ⟨o, _, rfl⟩ := List.mem_map.mp hx
      cases wx
  refine ⟨fun x hx wx e => ?_, fun i j x y hi hj wx wy e => ?_⟩
  · rcases mem_law.mp hx with ⟨o, _, rfl⟩ | ⟨o, mo, rfl⟩
    · cases wx
    · obtain ⟨m, k1, v1, _⟩ := mem_writes.mp mo
      obtain ⟨v, ev⟩ := Option.isSome_iff_exists.mp v1
      have := (h.ops o m).ge k1 v ev
      have e : o.version.getD 0 = 0 := e
      rw [ev] at e
      have e : v = 0 := e
      omega
  · rw [List.pairwise_iff_getElem] at pw
    obtain ⟨li, ei⟩ := List.getElem?_eq_some_iff.mp hi
    obtain ⟨lj, ej⟩ := List.getElem?_eq_some_iff.mp hj
    rcases Nat.lt_trichotomy i j with z | z | z
    · exact absurd ⟨by rw [ei]; exact wx, by rw [ej]; exact wy, by rw [ei, ej]; exact e⟩ (pw i j li lj z)
    · exact z
    · exact absurd ⟨by rw [ej]; exact wy, by rw [ei]; exact wx, by rw [ei, ej]; exact e.symm⟩ (pw j i lj li z)
theorem law_fit (h : VI c s.past.length s) (io : IOL c s.ops) : Fit 0 (lawL s) := by
  refine ⟨fun x hx e ee => ?_, fun r hr nr wr => ?_⟩
  · rcases mem_law.mp hx with ⟨o, mo, rfl⟩ | ⟨o, mo, rfl⟩
    · exact ((h.ops o (mem_reads.mp mo).1).ov e ee).1
    · have ee : (if o.stage = ("ended" : Str) then o.over else none) = some e := ee
      split at ee
      · exact ((h.ops o (mem_writes.mp mo).1).ov e ee).1
      · cases ee
  · rcases mem_law.mp hr with ⟨o, mo, rfl⟩ | ⟨o, mo, rfl⟩
    · obtain ⟨m, k1, st⟩ := mem_reads.mp mo
      obtain ⟨v, ev⟩ := Option.isSome_iff_exists.mp ((io o m).re k1 st)
      obtain ⟨e, eo⟩ := Option.isSome_iff_exists.mp ((io o m).ov st)
      have nr : ¬ o.version.getD 0 = 0 := nr
      rw [ev] at nr
      have nr : ¬ v = 0 := nr
      obtain ⟨w, mw, kw, vw⟩ := h.has v (by omega) ((h.ops o m).le v ev)
      refine ⟨wrX w, mem_law.mpr (.inr ⟨w, mem_writes.mpr ⟨mw, kw, by rw [vw]; rfl, .inr ⟨o, mo, by rw [ev, vw]⟩⟩, rfl⟩), rfl, ?_, ?_⟩
      · show w.version.getD 0 = o.version.getD 0
        rw [ev, vw]
      · have z := h.fit o m k1 e v eo ev w mw kw vw
        show (match o.over with | none => false | some e => decide (e < w.begun)) = false
        rw [eo]
        exact decide_eq_false (by omega)
    · cases wr
end
/-! ### the two words are the same -/
section
variable {c : Conf} {s : HS}
end
end Ca

set_option Elab.async false
set_option linter.all false
set_option maxRecDepth 100000
set_option maxHeartbeats 4000000
namespace Ca
open PySem L2
/-! ### what the law's own cache breaks, of all promises -/
def brokenA (c : Conf) (s : HS) (m : Pm) : Bool := if m = .linear then !inOrderH s else brokenH c s m
@[irreducible] def spBrokenA : Sp := fun vs H Q _ => ∃ (c : Conf) (h : Addr) (A : LA) (s : HS) (m : Pm), vs = [.ref h, pmV m] ∧ c.Ok ∧ LawAt c H h A s ∧ Reach c s ∧ s.past.length ≤ 14 ∧ ∀ H', Evl.Ex H H' → Q (.bl (brokenA c s m)) H'
theorem brokenA_i {c : Conf} {h : Addr} {A : LA} {s : HS} {m : Pm} {H : Hp} {Q : VK} {E : XK} (O : c.Ok) (L : LawAt c H h A s) (r : Reach c s) (l : s.past.length ≤ 14) (q : ∀ H', Evl.Ex H H' → Q (.bl (brokenA c s m)) H') : spBrokenA [.ref h, pmV m] H Q E := by
  unfold spBrokenA
  exact ⟨c, h, A, s, m, rfl, O, L, r, l, q⟩
theorem inO_i {c : Conf} {h : Addr} {A : LA} {s : HS} {H : Hp} {Q : VK} {E : XK} (O : c.Ok) (L : LawAt c H h A s) (r : Reach c s) (l : s.past.length ≤ 14) (q : ∀ H', Evl.Ex H H' → Q (.bl (inOrderH s)) H') : spInOrder [.ref h] H Q E := by
  unfold spInOrder
  exact ⟨c, h, A, s, rfl, O, L, r, l, q⟩
section
variable {P : Program} {w : World} {K : PySem.W.Frag} {mg : Str → Option Value} {base : Heap}
theorem ok_LbrokenA (T : Txt K mg) : FnOk P w K mg base CX0 21 T.f_Lbroken T.fd_Lbroken ["h", "promise"] spBrokenA := by
  refine T.F_Lbroken.ok sc_Lbroken (fun vs H Q E h => ?_) (fun cdv A outer s H vs Q E hr h => ?_)
  · unfold spBrokenA at h
    obtain ⟨c, h, A, s, m, rfl, _⟩ := h
    rfl
  · unfold spBrokenA at h
    obtain ⟨c, h, A, s, m, rfl, O, L0, r, l, q⟩ := h
    have hu := hu_of hr
    obtain ⟨W, hol⟩ := r.wf O
    have io := r.io O
    have ln : s.ops.length ≤ 100 := by omega
    refine ⟨_, (pss_cons (ps_set (i := 2) sc_Lbroken.nd rfl (Or.inl rfl) (pe_call (ok_Lgoing T) (hr.mono (by decide)) rfl T.m_Lgoing T.F_Lgoing.kp (b_Lgoing T) .nil pass0 (pa_cons (pv 0) pa_nil)))
      (pss_cons (ps_if (pt_cmpR op_in_seq (pv 1) (pe_lst (pa_cons pe_str (pa_cons pe_str (pa_cons pe_str pa_nil)))) (by rfl)) (pss_one (ps_ret (pe_and (pe_cmpR (op_eqNil (un1 hr)) (pv 2) (pe_lst pa_nil) (nomark _)) (pe_one (pe_call (ok_Lat_rest T) (hr.mono (by decide)) rfl T.m_Lat_rest T.F_Lat_rest.kp (b_Lat_rest T) .nil pass0 (pa_cons (pv 0) (pa_cons (pv 1) pa_nil))))))) pss_nil)
      (pss_cons (ps_if (pt_cmpR op_eq (pv 1) pe_str (nomark _)) (pss_one (ps_ret (pe_not (pe_call (ok_Lin_order T) (hr.mono (by decide)) rfl T.m_Lin_order T.F_Lin_order.kp (b_Lin_order T) .nil pass0 (pa_cons (pv 0) pa_nil))))) pss_nil)
      (pss_cons (ps_if (pt_cmpR op_eq (pv 1) pe_str (nomark _)) (pss_one (ps_ret (pe_cmpR (op_neNil (un1 hr)) (pe_lc (own := [("one", 4)]) rfl sc_Lbroken.nd (pi_list (pv 2)) (blkOk_by (N := ["h", "promise", "going", "last", "one"]) (sc := defScope s_Lbroken) (by decide +kernel)) (fun _ _ _ _ _ => (pg_name (i := 4) sc_Lbroken.nd rfl (Or.inl rfl))) (fun _ _ _ _ _ => (pts_one (pt_cmpR op_isN (pe_call (ok_Lnext T) (hr.mono (by decide)) rfl T.m_Lnext T.F_Lnext.kp (b_Lnext T) .nil pass0 (pa_cons (pv 0) (pa_cons (pv 4) pa_nil))) pe_non (nomark _)))) (fun _ _ _ _ _ => (pv 4))) (pe_lst pa_nil) (nomark _)))) pss_nil)
      (pss_cons (ps_if (pt_cmpR op_eq (pv 1) pe_str (nomark _)) (pss_one (ps_ret (pe_cmpR (op_neNil (un1 hr)) (pe_lc (own := [("one", 4)]) rfl sc_Lbroken.nd (pi_list (pv 2)) (blkOk_by (N := ["h", "promise", "going", "last", "one"]) (sc := defScope s_Lbroken) (by decide +kernel)) (fun _ _ _ _ _ => (pg_name (i := 4) sc_Lbroken.nd rfl (Or.inl rfl))) (fun _ _ _ _ _ => (pts_one (PW.pt (pw_and (pt_cmpR op_eq (pe_dget hu (pv 4) pe_str (fun _ _ => rfl)) pe_str (nomark _)) (pw_and1 (pt_cmpR op_eq (pe_dget hu (pe_ix (ix_listK (K := K) rfl) (pe_dget hu (pv 0) pe_str (fun _ _ => rfl)) (pe_dget hu (pv 4) pe_str (fun _ _ => rfl)) (fun _ _ => rfl)) pe_str (fun _ _ => rfl)) pe_str (nomark _))))))) (fun _ _ _ _ _ => (pv 4))) (pe_lst pa_nil) (nomark _)))) pss_nil)
      (pss_cons (ps_if (pt_cmpR op_eq (pv 1) pe_str (nomark _)) (pss_one (ps_ret (pe_cmpR op_gt (pe_callB call_len_seq (by rfl) T.n_len (by decide +kernel) (pa_cons (pe_lc (own := [("one", 4)]) rfl sc_Lbroken.nd (pi_list (pv 2)) (blkOk_by (N := ["h", "promise", "going", "last", "one"]) (sc := defScope s_Lbroken) (by decide +kernel)) (fun _ _ _ _ _ => (pg_name (i := 4) sc_Lbroken.nd rfl (Or.inl rfl))) (fun _ _ _ _ _ => (pts_one (pt_cmpR (op_inK (K := K) rfl) (pe_dget hu (pv 4) pe_str (fun _ _ => rfl)) (pe_lst (pa_cons pe_str (pa_cons pe_str pa_nil))) (by rfl)))) (fun _ _ _ _ _ => (pv 4))) pa_nil)) pe_int (nomark _)))) pss_nil)
      (pss_cons (ps_setLc (i := 3) (own := [("one", 4)]) rfl sc_Lbroken.nd rfl rfl (sw_true rfl rfl rfl (by decide +kernel)) (pi_list (pe_dget hu (pv 0) pe_str (fun _ _ => rfl))) (blkOk_by (N := ["h", "promise", "going", "last", "one"]) (sc := defScope s_Lbroken) (by decide +kernel)) (fun _ _ _ _ _ => (pg_name (i := 4) sc_Lbroken.nd rfl (Or.inl rfl))) (fun _ _ _ _ _ => (pts_one (PW.pt (pw_and (pt_cmpR op_eq (pe_dget hu (pv 4) pe_str (fun _ _ => rfl)) pe_str (nomark _)) (pw_and (pt_cmpR op_eq (pe_dget hu (pv 4) pe_str (fun _ _ => rfl)) pe_str (nomark _)) (pw_and1 (pt_cmpR op_eq (pe_dget hu (pv 4) pe_str (fun _ _ => rfl)) (pe_op op_sub (pe_callB (len_seqK (K := K) rfl) (by rfl) T.n_len (by decide +kernel) (pa_cons (pe_dget hu (pv 0) pe_str (fun _ _ => rfl)) pa_nil)) pe_int) (nomark _)))))))) (fun _ _ _ _ _ => (pv 4)))
      (pss_cons (ps_if (pt_cmpR (op_eqNil (un1 hr)) (pv 3) (pe_lst pa_nil) (nomark _)) (pss_one (ps_ret pe_bl)) pss_nil)
      (pss_cons (ps_if (pt_cmpR op_eq (pv 1) pe_str (nomark _)) (pss_one (ps_ret (pe_and (pe_call (ok_Lwas_quiet T) (hr.mono (by decide)) rfl T.m_Lwas_quiet T.F_Lwas_quiet.kp (b_Lwas_quiet T) .nil pass0 (pa_cons (pv 0) (pa_cons (pe_ix ix_list (pv 3) pe_int (fun _ _ => rfl)) pa_nil))) (pe_one (pe_cmpR op_lt (pe_dget hu (pe_ix ix_list (pv 3) pe_int (fun _ _ => rfl)) pe_str (fun _ _ => rfl)) (pe_dget hu (pv 0) pe_str (fun _ _ => rfl)) (nomark _)))))) pss_nil)
      (pss_one (ps_ret (pe_cmpR op_lt (pe_dget hu (pe_ix ix_list (pv 3) pe_int (fun _ _ => rfl)) pe_str (fun _ _ => rfl)) (pe_call (ok_Lbefore T) (hr.mono (by decide)) rfl T.m_Lbefore T.F_Lbefore.kp (b_Lbefore T) .nil pass0 (pa_cons (pv 0) (pa_cons (pe_ix ix_list (pv 3) pe_int (fun _ _ => rfl)) (pa_cons (pe_ifExp (pt_cmpR op_eq (pv 1) pe_str (nomark _)) pe_str pe_str) pa_nil)))) (nomark _))))))))))))), ?_⟩
    refine ⟨_, rfl, ?_⟩
    refine going_i L0 ln fun g gs H1 S1 ng hg R => ?_
    have L := L0.same S1
    have e1 : Evl.Ex H H1 := fun b o e => S1 b o e
    have gl : gs.length ≤ 200 := by
      rw [R.length]
      exact Nat.le_trans (List.length_filter_le _ _) (by omega)
    -- rest, mended, filled
    have zin : inV (pmV m) [.str "rest", .str "mended", .str "filled"] = (decide (m = .rest) || (decide (m = .mended) || decide (m = .filled))) := by
      cases m <;> decide +kernel
    refine ⟨_, rfl, by show 3 ≤ sizeLine; decide, fun p np => ⟨p, _, rfl, .inl (SqL.of upd_same), rfl, rfl, _, (by show V.bl (inV (pmV m) _) = _; rw [zin]), ?_⟩⟩
    have e2 := e1.trans (Evl.Ex.new (o := .lst [.str "rest", .str "mended", .str "filled"]) np)
    have L2 := L.new (o := .lst [.str "rest", .str "mended", .str "filled"]) np
    have hg2 := same_new (o := .lst [.str "rest", .str "mended", .str "filled"]) np _ _ hg
    generalize upd H1 p (.lst [.str "rest", .str "mended", .str "filled"]) = H2 at e2 L2 hg2
    refine iteB (fun hm => ?_) (fun hm => ?_)
    · refine ⟨_, rfl, by show 0 ≤ sizeLine; decide, fun l0 nl0 => ⟨_, _, gs, rfl, rfl, SqL.of (same_new nl0 _ _ hg2), SqL.of upd_same, _, rfl, ?_⟩⟩
      have e3 := e2.trans (Evl.Ex.new (o := .lst []) nl0)
      have L3 := L2.new (o := .lst []) nl0
      generalize upd H2 l0 (.lst []) = H3 at e3 L3
      have eb : brokenH c s m = ((going s).isEmpty && atRestH c s m) := by
        cases m <;> first | rfl | exact absurd hm (by decide +kernel)
      rw [show brokenA c s m = brokenH c s m from if_neg (fun z => by rw [z] at hm; exact absurd hm (by decide +kernel)), eb] at q
      rw [Bool.bne_false, empty_of R]
      cases he : (going s).isEmpty with
      | false =>
        rw [he] at q
        exact iteF (q _ e3)
      | true =>
        rw [he] at q
        refine iteT ⟨_, rfl, _, rfl, ?_⟩
        exact rest_i O L3 r (by omega) fun H4 e4 => q H4 (e3.trans e4)
    -- linear
    refine ⟨_, rfl, rfl, _, rfl, ?_⟩
    rw [show V.str "linear" = pmV .linear from rfl, pmEq]
    refine iteB (fun hml => ?_) (fun hml => ?_)
    · have hml := of_decide_eq_true hml
      subst hml
      refine ⟨_, rfl, ?_⟩
      refine inO_i O L2 r l fun H3 e3 => ⟨_, rfl, ?_⟩
      exact q _ (e2.trans e3)
    have nl : m ≠ .linear := of_decide_eq_false hml
    have ebA : brokenA c s m = brokenH c s m := if_neg nl
    rw [ebA] at q
    clear ebA
    -- moving
    refine ⟨_, rfl, rfl, _, rfl, ?_⟩
    rw [show V.str "moving" = pmV .moving from rfl, pmEq]
    refine iteB (fun hm2 => ?_) (fun hm2 => ?_)
    · have hm2 := of_decide_eq_true hm2
      subst hm2
      refine ⟨_, rfl, g, rfl, ⟨_, SqL.of hg2⟩, fun D nD => lcOps (A := A) (s := s) (fun o => (nextOf s o).isNone) nD (SqL.of hg2) R gl rfl (fun _ => rfl) (fun k b u eb eu mu => ?_) (fun b => Evl.ev_var rfl) fun H3 acc e3 hD R3 => ?_⟩
      · intro H4 e4 Q4 q4
        refine ⟨_, rfl, _, rfl, ?_⟩
        refine next_i (L2.same (same_ex e4)) eb eu (wait_all W O u (List.mem_of_getElem? eu)) ⟨rfl, _, rfl, ?_⟩
        have z : decide (sv (nextOf s u) = V.non) = (nextOf s u).isNone := by cases nextOf s u <;> rfl
        rw [z]
        exact q4 _ (Evl.Ex.refl _)
      · refine ⟨by show 0 ≤ sizeLine; decide, fun l0 nl0 => ⟨_, _, acc, rfl, rfl, SqL.of (same_new nl0 _ _ hD), SqL.of upd_same, ?_⟩⟩
        rw [empty_of R3, Bool.bne_true]
        exact q _ ((e2.trans e3).trans (Evl.Ex.new nl0))
    -- ending
    refine ⟨_, rfl, rfl, _, rfl, ?_⟩
    rw [show V.str "ending" = pmV .ending from rfl, pmEq]
    refine iteB (fun hm3 => ?_) (fun hm3 => ?_)
    · have hm3 := of_decide_eq_true hm3
      subst hm3
      refine ⟨_, rfl, g, rfl, ⟨_, SqL.of hg2⟩, fun D nD => lcOps (A := A) (s := s) (fun o => decide (o.stage = ("waits" : Str)) && stoppedAt s o.leader) nD (SqL.of hg2) R gl rfl (fun _ => rfl) (fun k b u eb eu mu => ?_) (fun b => Evl.ev_var rfl) fun H3 acc e3 hD R3 => ?_⟩
      · have hb := L2.og k b u eb eu
        have z : decide (u.stage = ("waits" : Str)) = decide (V.str u.stage = V.str "waits") := by simp
        show Evl.EvT _ _ _ (decide (u.stage = ("waits" : Str)) && stoppedAt s u.leader)
        rw [z]
        refine Evl.et_and (Evl.et_test (Evl.ev_op (ev_dg rfl hb rfl) Evl.ev_c (Evl.rv_eq rfl))) (fun hwt => ?_)
        rw [← z] at hwt
        obtain ⟨lw, qw, el, eq⟩ := wait_all W O u (List.mem_of_getElem? eu) (of_decide_eq_true hwt)
        have zs : stoppedAt s u.leader = decide (V.str qw.stage = V.str "stopped") := by
          rw [el]
          show (match s.ops[lw]? with | some q => decide (q.stage = ("stopped" : Str)) | none => false) = _
          rw [eq]
          simp
        rw [zs]
        intro H4 e4 Q4 q4
        have L4 := L2.same (same_ex e4)
        obtain ⟨bq, ebq, hbq⟩ := L4.get eq
        refine ⟨_, rfl, _, _, rfl, dget (L4.hd) rfl, _, rfl, _, _, rfl, dget (e4 _ _ hb) (by show some (on u.leader) = _; rw [el]; rfl), _, _, _, _, rfl, rfl, SqL.of L4.lo, at_of (j := lw) (by omega) (by rw [List.getElem?_map, ebq]; rfl), ?_⟩
        exact ⟨_, _, rfl, dget hbq rfl, rfl, _, rfl, q4 _ (Evl.Ex.refl _)⟩
      · refine ⟨by show 0 ≤ sizeLine; decide, fun l0 nl0 => ⟨_, _, acc, rfl, rfl, SqL.of (same_new nl0 _ _ hD), SqL.of upd_same, ?_⟩⟩
        rw [empty_of R3, Bool.bne_true]
        exact q _ ((e2.trans e3).trans (Evl.Ex.new nl0))
    -- single
    refine ⟨_, rfl, rfl, _, rfl, ?_⟩
    rw [show V.str "single" = pmV .single from rfl, pmEq]
    refine iteB (fun hm4 => ?_) (fun hm4 => ?_)
    · have hm4 := of_decide_eq_true hm4
      subst hm4
      refine ⟨_, rfl, g, rfl, ⟨_, SqL.of hg2⟩, fun D nD => lcOps (A := A) (s := s) (fun o => decide (o.stage = ("fetch" : Str)) || decide (o.stage = ("fill" : Str))) nD (SqL.of hg2) R gl rfl (fun _ => rfl) (fun k b u eb eu mu => ?_) (fun b => Evl.ev_var rfl) fun H3 acc e3 hD R3 => ?_⟩
      · have hb := L2.og k b u eb eu
        show Evl.EvT _ _ _ (decide (u.stage = ("fetch" : Str)) || decide (u.stage = ("fill" : Str)))
        rw [← in2]
        exact Evl.et_test (ev_inL2 (ev_dg rfl hb rfl) (Evl.el_lst (Evl.ea_cons Evl.ev_c (Evl.ea_cons Evl.ev_c Evl.ea_nil)) (by simp)) rfl rfl)
      · refine ⟨_, _, rfl, .inl (SqL.of hD), _, _, rfl, rfl, ?_⟩
        have z : decide ((1 : Int) < (acc.length : Int)) = brokenH c s .single := by
          rw [R3.length]
          show _ = decide (1 < (List.filter _ _).length)
          generalize (List.filter _ (going s)).length = n
          rw [Bool.eq_iff_iff, decide_eq_true_eq, decide_eq_true_eq]
          omega
        show Q (.bl (decide ((1 : Int) < (acc.length : Int)))) _
        rw [z]
        exact q _ (e2.trans e3)
    -- the read that the last event ended
    have p1 : ∀ o ∈ s.ops, 1 ≤ s.past.length := fun o ho => by
      have := List.length_pos_of_mem ho
      omega
    refine ⟨_, rfl, _, _, rfl, dget (L2.hd) rfl, A.lo, rfl, ⟨_, SqL.of L2.lo⟩, fun D nD => lcOps (A := A) (s := s) (fun o => decide (o.kind = ("read" : Str)) && (decide (o.stage = ("ended" : Str)) && decide (o.over = some (s.past.length - 1)))) nD (SqL.of L2.lo) (all_refs L2) (by rw [List.length_map, L2.ol]; omega) rfl (fun _ => rfl) (fun k b u eb eu mu => ?_) (fun b => Evl.ev_var rfl) fun H3 acc e3 hD R3 => ?_⟩
    · have hb := L2.og k b u eb eu
      have z1 : decide (u.kind = ("read" : Str)) = decide (V.str u.kind = V.str "read") := by simp
      have z2 : decide (u.stage = ("ended" : Str)) = decide (V.str u.stage = V.str "ended") := by simp
      show Evl.EvT _ _ _ (decide (u.kind = ("read" : Str)) && (decide (u.stage = ("ended" : Str)) && decide (u.over = some (s.past.length - 1))))
      rw [z1, z2]
      refine Evl.et_and (Evl.et_test (Evl.ev_op (ev_dg rfl hb rfl) Evl.ev_c (Evl.rv_eq rfl))) (fun _ => Evl.et_and (Evl.et_test (Evl.ev_op (ev_dg rfl hb rfl) Evl.ev_c (Evl.rv_eq rfl))) (fun he => ?_))
      rw [← z2] at he
      have mu := List.mem_of_getElem? eu
      obtain ⟨x, ex⟩ := Option.isSome_iff_exists.mp ((io u mu).ov (of_decide_eq_true he))
      have pp := p1 u mu
      have z3 : decide (u.over = some (s.past.length - 1)) = decide (V.int (x : Int) = V.int ((s.past.length : Int) - 1)) := by
        rw [ex, Bool.eq_iff_iff, decide_eq_true_eq, decide_eq_true_eq]
        constructor
        · intro h
          have h := Option.some.inj h
          rw [h]
          congr 1
          omega
        · intro h
          have h := V.int.inj h
          congr 1
          omega
      rw [z3]
      intro H4 e4 Q4 q4
      have L4 := L2.same (same_ex e4)
      have el : ((A.eas.map V.ref).length : Int) = (s.past.length : Int) := by rw [List.length_map, L2.el]
      refine ⟨_, rfl, _, _, rfl, dget (e4 _ _ hb) (by show some (on u.over) = some (.int (x : Int)); rw [ex]; rfl), _, rfl, _, _, rfl, dget (L4.hd) rfl, _, _, rfl, .inl (SqL.of L4.lp), ?_⟩
      rw [el]
      exact ⟨_, _, rfl, rfl, rfl, _, rfl, q4 _ (Evl.Ex.refl _)⟩
    have R3 : OpRefs A s acc (lastL s) := R3
    have L3 := L2.same (same_ex e3)
    refine ⟨_, rfl, by show 0 ≤ sizeLine; decide, fun l0 nl0 => ⟨_, _, acc, rfl, rfl, SqL.of (same_new nl0 _ _ hD), SqL.of upd_same, _, rfl, ?_⟩⟩
    have e4 := (e2.trans e3).trans (Evl.Ex.new (o := .lst []) nl0)
    have L4 := L3.new (o := .lst []) nl0
    have hD4 := same_new (o := .lst []) nl0 _ _ hD
    generalize upd H3 l0 (.lst []) = H4 at e4 L4 hD4
    have eb : ∀ f, brokenH c s m = lastB s f → ∀ o r, lastL s = o :: r → brokenH c s m = f o := fun f h o r hl => by
      rw [h]
      unfold lastB
      rw [hl]
    have en : lastL s = [] → brokenH c s m = false := fun h => by
      have hx : ∀ f, lastB s f = false := fun f => by
        unfold lastB
        rw [h]
      cases m with
      | quiet => exact hx _
      | fresh => exact hx _
      | forward => exact hx _
      | linear => rfl
      | rest => exact absurd hm (by decide)
      | mended => exact absurd hm (by decide)
      | filled => exact absurd hm (by decide)
      | moving => exact absurd hm2 (by decide)
      | ending => exact absurd hm3 (by decide)
      | single => exact absurd hm4 (by decide)
    cases hls : lastL s with
    | nil =>
      rw [hls] at R3
      cases R3
      rw [en hls] at q
      exact iteT (q _ e4)
    | cons o rest =>
      rw [hls] at R3
      cases R3 with
      | @cons x _ xs' _ hx rr =>
        obtain ⟨k, b, rfl, ek, eo⟩ := hx
        refine iteF ?_
        have mo := List.mem_of_getElem? eo
        have hb := L4.og k b o ek eo
        have pr := (List.mem_filter.mp (show o ∈ lastL s by rw [hls]; exact List.mem_cons_self ..)).2
        rw [Bool.and_eq_true, Bool.and_eq_true, decide_eq_true_eq, decide_eq_true_eq, decide_eq_true_eq] at pr
        obtain ⟨v, ev⟩ := Option.isSome_iff_exists.mp ((io o mo).ended O (W.ops k o eo).kd pr.2.1)
        have hv : valV (oK o) (Sum.inr "version") = some (.int (v : Int)) := by
          show some (on o.version) = _
          rw [ev]
          rfl
        have eok : EndOk s := fun u hu eu => by
          obtain ⟨ku, hku, eku⟩ := List.getElem_of_mem hu
          obtain ⟨v', ev'⟩ := Option.isSome_iff_exists.mp ((io u hu).ended O (W.ops ku u (by rw [List.getElem?_eq_getElem hku, eku])).kd eu)
          obtain ⟨x', ex'⟩ := Option.isSome_iff_exists.mp ((io u hu).ov eu)
          exact ⟨v', x', ev', ex'⟩
        -- quiet
        refine ⟨_, rfl, rfl, _, rfl, ?_⟩
        rw [show V.str "quiet" = pmV .quiet from rfl, pmEq]
        refine iteB (fun hm5 => ?_) (fun hm5 => ?_)
        · have hm5 := of_decide_eq_true hm5
          subst hm5
          rw [eb _ rfl o rest hls] at q
          refine ⟨_, rfl, _, rfl, _, _, _, _, rfl, rfl, SqL.of hD4, at_of (j := 0) (by omega) rfl, ?_⟩
          refine quiet_i L4 ek eo (by rw [pr.2.2]; rfl) ln fun H5 e5 => ⟨_, rfl, ?_⟩
          cases hq : wasQuiet s o with
          | false =>
            rw [hq] at q
            exact iteF (q _ (e4.trans e5))
          | true =>
            rw [hq] at q
            have L5 := L4.same (same_ex e5)
            refine iteT ⟨_, rfl, _, _, _, _, rfl, rfl, SqL.of (e5 _ _ hD4), at_of (j := 0) (by omega) rfl, _, _, rfl, dget (e5 _ _ hb) hv, _, rfl, _, _, rfl, dget (L5.hd) rfl, _, _, rfl, rfl, ?_⟩
            show Q (.bl (decide ((v : Int) < (s.db : Int)))) _
            have z : (true && decide (o.version.getD 0 < s.db)) = decide ((v : Int) < (s.db : Int)) := by
              rw [ev]
              simp
            rw [z] at q
            exact q _ (e4.trans e5)
        -- fresh, forward
        refine ⟨_, rfl, _, _, _, _, rfl, rfl, SqL.of hD4, at_of (j := 0) (by omega) rfl, _, _, rfl, dget hb hv, ?_⟩
        refine ⟨_, rfl, _, rfl, _, _, _, _, rfl, rfl, SqL.of hD4, at_of (j := 0) (by omega) rfl, ?_⟩
        have fin : ∀ kd : Str, brokenH c s m = decide (o.version.getD 0 < beforeH s o kd) → spBefore [.ref h, .ref b, .str kd] H4 (fun v2 H5 => ∃ i j, V.int (v : Int) = .int i ∧ v2 = .int j ∧ Q (.bl (decide (i < j))) H5) E0 := fun kd hk => by
          refine before_i L4 ek eo eok ln fun H5 e5 => ⟨_, _, rfl, rfl, ?_⟩
          rw [hk, ev] at q
          have z : decide ((v : Int) < ((beforeH s o kd : Nat) : Int)) = decide ((some v : Option Nat).getD 0 < beforeH s o kd) := by simp
          rw [z]
          exact q _ (e4.trans e5)
        refine ⟨_, rfl, rfl, _, rfl, ?_⟩
        rw [show V.str "fresh" = pmV .fresh from rfl, pmEq]
        refine iteB (fun hm6 => ?_) (fun hm6 => ?_)
        · have hm6 := of_decide_eq_true hm6
          subst hm6
          exact fin "write" (eb _ rfl o rest hls)
        · have em : m = .forward := by
            cases m <;> first | rfl | exact absurd rfl nl | exact absurd hm (by decide) | exact absurd hm2 (by decide) | exact absurd hm3 (by decide) | exact absurd hm4 (by decide) | exact absurd hm5 (by decide) | exact absurd hm6 (by decide)
          subst em
          exact fin "read" (eb _ rfl o rest hls)
end
end Ca

set_option Elab.async false
set_option linter.all false
set_option maxRecDepth 100000
set_option maxHeartbeats 4000000
namespace Ca
open PySem L2
/-! ### defs that only compute a truth from a design and a world -/
@[irreducible] def spD (g : Conf → Bool) : Sp := fun vs H Q _ => ∃ (c : Conf) (d : Addr), vs = [.ref d] ∧ H d = some (dT c) ∧ c.Ok ∧ ∀ H', Evl.Ex H H' → Q (.bl (g c)) H'
@[irreducible] def spW (g : Conf → Bool) : Sp := fun vs H Q _ => ∃ (c : Conf) (w : Addr), vs = [.ref w] ∧ H w = some (wT c) ∧ c.Ok ∧ ∀ H', Evl.Ex H H' → Q (.bl (g c)) H'
@[irreducible] def spDW (g : Conf → Bool) : Sp := fun vs H Q _ => ∃ (c : Conf) (d w : Addr), vs = [.ref d, .ref w] ∧ H d = some (dT c) ∧ H w = some (wT c) ∧ c.Ok ∧ ∀ H', Evl.Ex H H' → Q (.bl (g c)) H'
section
variable {K : PySem.W.Frag} {c : Conf} {d w : Addr} {H : Hp} {σ : L2.St} {ta : TE} {tb : TE} {g : Conf → Bool}
theorem d_v (hd : H d = some (dT c)) (O : c.Ok) : Evl.SpV (spD g) ([.ref d] ++ []) H (.bl (g c)) := fun H1 e Q q E => by
  unfold spD
  exact ⟨c, d, rfl, e _ _ hd, O, q⟩
theorem w_v (hw : H w = some (wT c)) (O : c.Ok) : Evl.SpV (spW g) ([.ref w] ++ []) H (.bl (g c)) := fun H1 e Q q E => by
  unfold spW
  exact ⟨c, w, rfl, e _ _ hw, O, q⟩
theorem dw_v (hd : H d = some (dT c)) (hw : H w = some (wT c)) (O : c.Ok) : Evl.SpV (spDW g) ([.ref d, .ref w] ++ []) H (.bl (g c)) := fun H1 e Q q E => by
  unfold spDW
  exact ⟨c, d, w, rfl, e _ _ hd, e _ _ hw, O, q⟩
theorem ev_ends {x y : Str} (h : Evl.Ev ta σ H (.str x)) : Evl.Ev (tBM K "str" (fun x xs H Q => ∃ a b, x = .str a ∧ xs = [.str b] ∧ Q (.bl (Txt.endswith a b)) H) ta (tCons (tC (.str y)) tNil)) σ H (.bl (Txt.endswith x y)) := fun H1 e Q q =>
  h H1 e _ fun H2 e2 => ⟨rfl, x, y, rfl, rfl, q H2 e2⟩
end
section
variable {P : Program} {w : World} {K : PySem.W.Frag} {mg : Str → Option Value} {base : Heap}
def m_passes_by (c : Conf) : Bool := ((decide (V.str c.guard = V.str "never")) && (!decide (V.str c.path = V.str "store set")))
theorem ok_passes_by (T : Txt K mg) : FnOk P w K mg base CX0 1 T.f_passes_by T.fd_passes_by ["design"] (spD m_passes_by) := by
  refine T.F_passes_by.ok sc_passes_by (fun vs H Q E h => ?_) (fun cdv A outer s H vs Q E hr h => ?_)
  · unfold spD at h
    obtain ⟨c, d, rfl, hd, O, q⟩ := h
    rfl
  · unfold spD at h
    obtain ⟨c, d, rfl, hd, O, q⟩ := h
    refine ⟨_, (pss_cons (ps_asg (pv 0) (pg_tup rfl (pgs_cons (pg_name (i := 1) sc_passes_by.nd rfl (Or.inl rfl)) (pgs_cons (pg_name (i := 2) sc_passes_by.nd rfl (Or.inl rfl)) (pgs_cons (pg_name (i := 3) sc_passes_by.nd rfl (Or.inl rfl)) pgs_nil)))))
      (pss_one (ps_ret (pe_and (pe_cmpR op_eq (pv 2) pe_str (nomark _)) (pe_one (pe_cmpR op_ne (pv 1) pe_str (nomark _))))))), ?_⟩
    refine ⟨_, rfl, _, _, rfl, SqT.of hd, rfl, _, _, rfl, _, _, rfl, _, _, rfl, rfl, ?_⟩
    refine Evl.s_ret (Evl.ev_andV (Evl.ev_op (Evl.ev_var rfl) Evl.ev_c (Evl.rv_eq rfl)) (fun _ => (Evl.ev_op (Evl.ev_var rfl) Evl.ev_c (Evl.rv_ne rfl)))) fun H1 e1 => ?_
    have z := q H1 e1
    exact z

def m_keeps (c : Conf) : Bool := (decide (V.str c.evict = V.str "keeps"))
theorem ok_keeps (T : Txt K mg) : FnOk P w K mg base CX0 1 T.f_keeps T.fd_keeps ["world"] (spW m_keeps) := by
  refine T.F_keeps.ok sc_keeps (fun vs H Q E h => ?_) (fun cdv A outer s H vs Q E hr h => ?_)
  · unfold spW at h
    obtain ⟨c, w, rfl, hw, O, q⟩ := h
    rfl
  · unfold spW at h
    obtain ⟨c, w, rfl, hw, O, q⟩ := h
    refine ⟨_, (pss_one (ps_ret (pe_cmpR op_eq (pe_ix ix_tup (pv 0) pe_int (fun _ _ => rfl)) pe_str (nomark _)))), ?_⟩
    refine Evl.s_ret (Evl.ev_op (Evl.ev_op (Evl.ev_var rfl) Evl.ev_c (Evl.rv_ixT (SqT.of hw) rfl)) Evl.ev_c (Evl.rv_eq rfl)) fun H1 e1 => ?_
    have z := q H1 e1
    exact z

def m_finishes (c : Conf) : Bool := (decide (V.str c.stop = V.str "finishes"))
theorem ok_finishes (T : Txt K mg) : FnOk P w K mg base CX0 1 T.f_finishes T.fd_finishes ["world"] (spW m_finishes) := by
  refine T.F_finishes.ok sc_finishes (fun vs H Q E h => ?_) (fun cdv A outer s H vs Q E hr h => ?_)
  · unfold spW at h
    obtain ⟨c, w, rfl, hw, O, q⟩ := h
    rfl
  · unfold spW at h
    obtain ⟨c, w, rfl, hw, O, q⟩ := h
    refine ⟨_, (pss_one (ps_ret (pe_cmpR op_eq (pe_ix ix_tup (pv 0) pe_int (fun _ _ => rfl)) pe_str (nomark _)))), ?_⟩
    refine Evl.s_ret (Evl.ev_op (Evl.ev_op (Evl.ev_var rfl) Evl.ev_c (Evl.rv_ixT (SqT.of hw) rfl)) Evl.ev_c (Evl.rv_eq rfl)) fun H1 e1 => ?_
    have z := q H1 e1
    exact z

def m_is_alone (c : Conf) : Bool := (decide (V.str c.flight = V.str "alone"))
theorem ok_is_alone (T : Txt K mg) : FnOk P w K mg base CX0 1 T.f_is_alone T.fd_is_alone ["design"] (spD m_is_alone) := by
  refine T.F_is_alone.ok sc_is_alone (fun vs H Q E h => ?_) (fun cdv A outer s H vs Q E hr h => ?_)
  · unfold spD at h
    obtain ⟨c, d, rfl, hd, O, q⟩ := h
    rfl
  · unfold spD at h
    obtain ⟨c, d, rfl, hd, O, q⟩ := h
    refine ⟨_, (pss_one (ps_ret (pe_cmpR op_eq (pe_ix ix_tup (pv 0) pe_int (fun _ _ => rfl)) pe_str (nomark _)))), ?_⟩
    refine Evl.s_ret (Evl.ev_op (Evl.ev_op (Evl.ev_var rfl) Evl.ev_c (Evl.rv_ixT (SqT.of hd) rfl)) Evl.ev_c (Evl.rv_eq rfl)) fun H1 e1 => ?_
    have z := q H1 e1
    exact z

def m_is_primary (c : Conf) : Bool := (decide (V.str c.source = V.str "primary"))
theorem ok_is_primary (T : Txt K mg) : FnOk P w K mg base CX0 1 T.f_is_primary T.fd_is_primary ["world"] (spW m_is_primary) := by
  refine T.F_is_primary.ok sc_is_primary (fun vs H Q E h => ?_) (fun cdv A outer s H vs Q E hr h => ?_)
  · unfold spW at h
    obtain ⟨c, w, rfl, hw, O, q⟩ := h
    rfl
  · unfold spW at h
    obtain ⟨c, w, rfl, hw, O, q⟩ := h
    refine ⟨_, (pss_one (ps_ret (pe_cmpR op_eq (pe_ix ix_tup (pv 0) pe_int (fun _ _ => rfl)) pe_str (nomark _)))), ?_⟩
    refine Evl.s_ret (Evl.ev_op (Evl.ev_op (Evl.ev_var rfl) Evl.ev_c (Evl.rv_ixT (SqT.of hw) rfl)) Evl.ev_c (Evl.rv_eq rfl)) fun H1 e1 => ?_
    have z := q H1 e1
    exact z

def m_climbs (c : Conf) : Bool := ((decide (V.str c.path = V.str "store set")) && ((inV (V.str c.guard) [V.str "mark", V.str "newer"]) && (m_keeps c)))
theorem ok_climbs (T : Txt K mg) : FnOk P w K mg base CX0 2 T.f_climbs T.fd_climbs ["design", "world"] (spDW m_climbs) := by
  refine T.F_climbs.ok sc_climbs (fun vs H Q E h => ?_) (fun cdv A outer s H vs Q E hr h => ?_)
  · unfold spDW at h
    obtain ⟨c, d, w, rfl, hd, hw, O, q⟩ := h
    rfl
  · unfold spDW at h
    obtain ⟨c, d, w, rfl, hd, hw, O, q⟩ := h
    refine ⟨_, (pss_cons (ps_asg (pv 0) (pg_tup rfl (pgs_cons (pg_name (i := 2) sc_climbs.nd rfl (Or.inl rfl)) (pgs_cons (pg_name (i := 3) sc_climbs.nd rfl (Or.inl rfl)) (pgs_cons (pg_name (i := 4) sc_climbs.nd rfl (Or.inl rfl)) pgs_nil)))))
      (pss_one (ps_ret (pe_and (pe_cmpR op_eq (pv 2) pe_str (nomark _)) (pe_and (pe_cmpR op_in_seq (pv 3) (pe_tup (pa_cons pe_str (pa_cons pe_str pa_nil))) (by rfl)) (pe_one (pe_call (ok_keeps T) (hr.mono (by decide)) rfl T.m_keeps T.F_keeps.kp (b_keeps T) .nil pass0 (pa_cons (pv 1) pa_nil)))))))), ?_⟩
    refine ⟨_, rfl, _, _, rfl, SqT.of hd, rfl, _, _, rfl, _, _, rfl, _, _, rfl, rfl, ?_⟩
    refine Evl.s_ret (Evl.ev_andV (Evl.ev_op (Evl.ev_var rfl) Evl.ev_c (Evl.rv_eq rfl)) (fun _ => (Evl.ev_andV (Evl.ev_inU (Evl.ev_var rfl) (Evl.eu_tup (Evl.ea_cons Evl.ev_c (Evl.ea_cons Evl.ev_c Evl.ea_nil)) (by simp)) rfl rfl) (fun _ => (Evl.ev_call (Evl.ea_cons (Evl.ev_var rfl) Evl.ea_nil) (w_v hw O)))))) fun H1 e1 => ?_
    have z := q H1 e1
    exact z

def m_guards (c : Conf) : Bool := ((Txt.endswith c.path "drop") && ((decide (V.str c.guard = V.str "token")) || ((decide (V.str c.guard = V.str "mark")) && (m_keeps c))))
theorem ok_guards (T : Txt K mg) : FnOk P w K mg base CX0 2 T.f_guards T.fd_guards ["design", "world"] (spDW m_guards) := by
  refine T.F_guards.ok sc_guards (fun vs H Q E h => ?_) (fun cdv A outer s H vs Q E hr h => ?_)
  · unfold spDW at h
    obtain ⟨c, d, w, rfl, hd, hw, O, q⟩ := h
    rfl
  · unfold spDW at h
    obtain ⟨c, d, w, rfl, hd, hw, O, q⟩ := h
    refine ⟨_, (pss_cons (ps_asg (pv 0) (pg_tup rfl (pgs_cons (pg_name (i := 2) sc_guards.nd rfl (Or.inl rfl)) (pgs_cons (pg_name (i := 3) sc_guards.nd rfl (Or.inl rfl)) (pgs_cons (pg_name (i := 4) sc_guards.nd rfl (Or.inl rfl)) pgs_nil)))))
      (pss_one (ps_ret (pe_and (pe_bm PySem.F.plainAttrs_str PySem.F.slot_str_endswith PySem.F.type_str_endswith mt_endswith (pv 2) (pa_cons pe_str pa_nil)) (pe_one (pe_or (pe_cmpR op_eq (pv 3) pe_str (nomark _)) (pe_one (pe_and (pe_cmpR op_eq (pv 3) pe_str (nomark _)) (pe_one (pe_call (ok_keeps T) (hr.mono (by decide)) rfl T.m_keeps T.F_keeps.kp (b_keeps T) .nil pass0 (pa_cons (pv 1) pa_nil))))))))))), ?_⟩
    refine ⟨_, rfl, _, _, rfl, SqT.of hd, rfl, _, _, rfl, _, _, rfl, _, _, rfl, rfl, ?_⟩
    refine Evl.s_ret (Evl.ev_andV (ev_ends (Evl.ev_var rfl)) (fun _ => (Evl.ev_orV (Evl.ev_op (Evl.ev_var rfl) Evl.ev_c (Evl.rv_eq rfl)) (fun _ => (Evl.ev_andV (Evl.ev_op (Evl.ev_var rfl) Evl.ev_c (Evl.rv_eq rfl)) (fun _ => (Evl.ev_call (Evl.ea_cons (Evl.ev_var rfl) Evl.ea_nil) (w_v hw O)))))))) fun H1 e1 => ?_
    have z := q H1 e1
    exact z

def m_holds_ending (c : Conf) : Bool := ((m_is_alone c) || (m_finishes c))
theorem ok_holds_ending (T : Txt K mg) : FnOk P w K mg base CX0 2 T.f_holds_ending T.fd_holds_ending ["design", "world"] (spDW m_holds_ending) := by
  refine T.F_holds_ending.ok sc_holds_ending (fun vs H Q E h => ?_) (fun cdv A outer s H vs Q E hr h => ?_)
  · unfold spDW at h
    obtain ⟨c, d, w, rfl, hd, hw, O, q⟩ := h
    rfl
  · unfold spDW at h
    obtain ⟨c, d, w, rfl, hd, hw, O, q⟩ := h
    refine ⟨_, (pss_one (ps_ret (pe_or (pe_call (ok_is_alone T) (hr.mono (by decide)) rfl T.m_is_alone T.F_is_alone.kp (b_is_alone T) .nil pass0 (pa_cons (pv 0) pa_nil)) (pe_one (pe_call (ok_finishes T) (hr.mono (by decide)) rfl T.m_finishes T.F_finishes.kp (b_finishes T) .nil pass0 (pa_cons (pv 1) pa_nil)))))), ?_⟩
    refine Evl.s_ret (Evl.ev_orV (Evl.ev_call (Evl.ea_cons (Evl.ev_var rfl) Evl.ea_nil) (d_v hd O)) (fun _ => (Evl.ev_call (Evl.ea_cons (Evl.ev_var rfl) Evl.ea_nil) (w_v hw O)))) fun H1 e1 => ?_
    have z := q H1 e1
    exact z

def m_holds_filled (c : Conf) : Bool := (cond ((decide (V.str c.guard = V.str "mark")) && ((Txt.endswith c.path "drop") && (!(m_is_primary c)))) false ((!decide (V.str c.guard = V.str "never")) && ((m_is_alone c) || (m_finishes c))))
theorem ok_holds_filled (T : Txt K mg) : FnOk P w K mg base CX0 2 T.f_holds_filled T.fd_holds_filled ["design", "world"] (spDW m_holds_filled) := by
  refine T.F_holds_filled.ok sc_holds_filled (fun vs H Q E h => ?_) (fun cdv A outer s H vs Q E hr h => ?_)
  · unfold spDW at h
    obtain ⟨c, d, w, rfl, hd, hw, O, q⟩ := h
    rfl
  · unfold spDW at h
    obtain ⟨c, d, w, rfl, hd, hw, O, q⟩ := h
    refine ⟨_, (pss_cons (ps_asg (pv 0) (pg_tup rfl (pgs_cons (pg_name (i := 2) sc_holds_filled.nd rfl (Or.inl rfl)) (pgs_cons (pg_name (i := 3) sc_holds_filled.nd rfl (Or.inl rfl)) (pgs_cons (pg_name (i := 4) sc_holds_filled.nd rfl (Or.inl rfl)) pgs_nil)))))
      (pss_cons (ps_if (PW.pt (pw_and (pt_cmpR op_eq (pv 3) pe_str (nomark _)) (pw_and (pt_val (pe_bm PySem.F.plainAttrs_str PySem.F.slot_str_endswith PySem.F.type_str_endswith mt_endswith (pv 2) (pa_cons pe_str pa_nil))) (pw_and1 (pt_not (pt_val (pe_call (ok_is_primary T) (hr.mono (by decide)) rfl T.m_is_primary T.F_is_primary.kp (b_is_primary T) .nil pass0 (pa_cons (pv 1) pa_nil)))))))) (pss_one (ps_ret pe_bl)) pss_nil)
      (pss_one (ps_ret (pe_and (pe_cmpR op_ne (pv 3) pe_str (nomark _)) (pe_one (pe_or (pe_call (ok_is_alone T) (hr.mono (by decide)) rfl T.m_is_alone T.F_is_alone.kp (b_is_alone T) .nil pass0 (pa_cons (pv 0) pa_nil)) (pe_one (pe_call (ok_finishes T) (hr.mono (by decide)) rfl T.m_finishes T.F_finishes.kp (b_finishes T) .nil pass0 (pa_cons (pv 1) pa_nil)))))))))), ?_⟩
    refine ⟨_, rfl, _, _, rfl, SqT.of hd, rfl, _, _, rfl, _, _, rfl, _, _, rfl, rfl, ?_⟩
    refine Evl.q_when (Evl.et_and (Evl.et_test (Evl.ev_op (Evl.ev_var rfl) Evl.ev_c (Evl.rv_eq rfl))) (fun _ => (Evl.et_and (Evl.et_test (ev_ends (Evl.ev_var rfl))) (fun _ => (Evl.et_not (Evl.et_test (Evl.ev_call (Evl.ea_cons (Evl.ev_var rfl) Evl.ea_nil) (w_v hw O)))))))) (fun hb H1 e1 => ?_) (fun hb H1 e1 => ?_)
    · skip
      replace hd := e1 _ _ hd
      replace hw := e1 _ _ hw
      refine Evl.s_ret Evl.ev_c fun H2 e2 => ?_
      have z := q H2 (e1.trans e2)
      unfold m_holds_filled at z
      rw [hb] at z
      exact z
    · skip
      replace hd := e1 _ _ hd
      replace hw := e1 _ _ hw
      refine Evl.s_ret (Evl.ev_andV (Evl.ev_op (Evl.ev_var rfl) Evl.ev_c (Evl.rv_ne rfl)) (fun _ => (Evl.ev_orV (Evl.ev_call (Evl.ea_cons (Evl.ev_var rfl) Evl.ea_nil) (d_v hd O)) (fun _ => (Evl.ev_call (Evl.ea_cons (Evl.ev_var rfl) Evl.ea_nil) (w_v hw O)))))) fun H2 e2 => ?_
      have z := q H2 (e1.trans e2)
      unfold m_holds_filled at z
      rw [hb] at z
      exact z

def m_holds_forward (c : Conf) : Bool := (cond ((m_passes_by c) || ((!(m_is_alone c)) && (!decide (V.str c.path = V.str "store set")))) true ((m_keeps c) && ((decide (V.str c.guard = V.str "mark")) || ((decide (V.str c.guard = V.str "newer")) && (inV (V.str c.path) [V.str "store", V.str "store set"])))))
theorem ok_holds_forward (T : Txt K mg) : FnOk P w K mg base CX0 2 T.f_holds_forward T.fd_holds_forward ["design", "world"] (spDW m_holds_forward) := by
  refine T.F_holds_forward.ok sc_holds_forward (fun vs H Q E h => ?_) (fun cdv A outer s H vs Q E hr h => ?_)
  · unfold spDW at h
    obtain ⟨c, d, w, rfl, hd, hw, O, q⟩ := h
    rfl
  · unfold spDW at h
    obtain ⟨c, d, w, rfl, hd, hw, O, q⟩ := h
    refine ⟨_, (pss_cons (ps_asg (pv 0) (pg_tup rfl (pgs_cons (pg_name (i := 2) sc_holds_forward.nd rfl (Or.inl rfl)) (pgs_cons (pg_name (i := 3) sc_holds_forward.nd rfl (Or.inl rfl)) (pgs_cons (pg_name (i := 4) sc_holds_forward.nd rfl (Or.inl rfl)) pgs_nil)))))
      (pss_cons (ps_if (PW.pt (pw_or (pt_val (pe_call (ok_passes_by T) (hr.mono (by decide)) rfl T.m_passes_by T.F_passes_by.kp (b_passes_by T) .nil pass0 (pa_cons (pv 0) pa_nil))) (pw_or1 (PW.pt (pw_and (pt_not (pt_val (pe_call (ok_is_alone T) (hr.mono (by decide)) rfl T.m_is_alone T.F_is_alone.kp (b_is_alone T) .nil pass0 (pa_cons (pv 0) pa_nil)))) (pw_and1 (pt_cmpR op_ne (pv 2) pe_str (nomark _)))))))) (pss_one (ps_ret pe_bl)) pss_nil)
      (pss_one (ps_ret (pe_and (pe_call (ok_keeps T) (hr.mono (by decide)) rfl T.m_keeps T.F_keeps.kp (b_keeps T) .nil pass0 (pa_cons (pv 1) pa_nil)) (pe_one (pe_or (pe_cmpR op_eq (pv 3) pe_str (nomark _)) (pe_one (pe_and (pe_cmpR op_eq (pv 3) pe_str (nomark _)) (pe_one (pe_cmpR op_in_seq (pv 2) (pe_tup (pa_cons pe_str (pa_cons pe_str pa_nil))) (by rfl)))))))))))), ?_⟩
    refine ⟨_, rfl, _, _, rfl, SqT.of hd, rfl, _, _, rfl, _, _, rfl, _, _, rfl, rfl, ?_⟩
    refine Evl.q_when (Evl.et_or (Evl.et_test (Evl.ev_call (Evl.ea_cons (Evl.ev_var rfl) Evl.ea_nil) (d_v hd O))) (fun _ => (Evl.et_and (Evl.et_not (Evl.et_test (Evl.ev_call (Evl.ea_cons (Evl.ev_var rfl) Evl.ea_nil) (d_v hd O)))) (fun _ => (Evl.et_test (Evl.ev_op (Evl.ev_var rfl) Evl.ev_c (Evl.rv_ne rfl))))))) (fun hb H1 e1 => ?_) (fun hb H1 e1 => ?_)
    · skip
      replace hd := e1 _ _ hd
      replace hw := e1 _ _ hw
      refine Evl.s_ret Evl.ev_c fun H2 e2 => ?_
      have z := q H2 (e1.trans e2)
      unfold m_holds_forward at z
      rw [hb] at z
      exact z
    · skip
      replace hd := e1 _ _ hd
      replace hw := e1 _ _ hw
      refine Evl.s_ret (Evl.ev_andV (Evl.ev_call (Evl.ea_cons (Evl.ev_var rfl) Evl.ea_nil) (w_v hw O)) (fun _ => (Evl.ev_orV (Evl.ev_op (Evl.ev_var rfl) Evl.ev_c (Evl.rv_eq rfl)) (fun _ => (Evl.ev_andV (Evl.ev_op (Evl.ev_var rfl) Evl.ev_c (Evl.rv_eq rfl)) (fun _ => (Evl.ev_inU (Evl.ev_var rfl) (Evl.eu_tup (Evl.ea_cons Evl.ev_c (Evl.ea_cons Evl.ev_c Evl.ea_nil)) (by simp)) rfl rfl))))))) fun H2 e2 => ?_
      have z := q H2 (e1.trans e2)
      unfold m_holds_forward at z
      rw [hb] at z
      exact z

def m_holds_fresh (c : Conf) : Bool := (cond (m_climbs c) true ((m_is_primary c) && ((m_passes_by c) || ((m_is_alone c) && (m_guards c)))))
theorem ok_holds_fresh (T : Txt K mg) : FnOk P w K mg base CX0 3 T.f_holds_fresh T.fd_holds_fresh ["design", "world"] (spDW m_holds_fresh) := by
  refine T.F_holds_fresh.ok sc_holds_fresh (fun vs H Q E h => ?_) (fun cdv A outer s H vs Q E hr h => ?_)
  · unfold spDW at h
    obtain ⟨c, d, w, rfl, hd, hw, O, q⟩ := h
    rfl
  · unfold spDW at h
    obtain ⟨c, d, w, rfl, hd, hw, O, q⟩ := h
    refine ⟨_, (pss_cons (ps_if (pt_val (pe_call (ok_climbs T) (hr.mono (by decide)) rfl T.m_climbs T.F_climbs.kp (b_climbs T) .nil pass0 (pa_cons (pv 0) (pa_cons (pv 1) pa_nil)))) (pss_one (ps_ret pe_bl)) pss_nil)
      (pss_one (ps_ret (pe_and (pe_call (ok_is_primary T) (hr.mono (by decide)) rfl T.m_is_primary T.F_is_primary.kp (b_is_primary T) .nil pass0 (pa_cons (pv 1) pa_nil)) (pe_one (pe_or (pe_call (ok_passes_by T) (hr.mono (by decide)) rfl T.m_passes_by T.F_passes_by.kp (b_passes_by T) .nil pass0 (pa_cons (pv 0) pa_nil)) (pe_one (pe_and (pe_call (ok_is_alone T) (hr.mono (by decide)) rfl T.m_is_alone T.F_is_alone.kp (b_is_alone T) .nil pass0 (pa_cons (pv 0) pa_nil)) (pe_one (pe_call (ok_guards T) (hr.mono (by decide)) rfl T.m_guards T.F_guards.kp (b_guards T) .nil pass0 (pa_cons (pv 0) (pa_cons (pv 1) pa_nil)))))))))))), ?_⟩
    refine Evl.q_when (Evl.et_test (Evl.ev_call (Evl.ea_cons (Evl.ev_var rfl) (Evl.ea_cons (Evl.ev_var rfl) Evl.ea_nil)) (dw_v hd hw O))) (fun hb H1 e1 => ?_) (fun hb H1 e1 => ?_)
    · skip
      replace hd := e1 _ _ hd
      replace hw := e1 _ _ hw
      refine Evl.s_ret Evl.ev_c fun H2 e2 => ?_
      have z := q H2 (e1.trans e2)
      unfold m_holds_fresh at z
      rw [hb] at z
      exact z
    · skip
      replace hd := e1 _ _ hd
      replace hw := e1 _ _ hw
      refine Evl.s_ret (Evl.ev_andV (Evl.ev_call (Evl.ea_cons (Evl.ev_var rfl) Evl.ea_nil) (w_v hw O)) (fun _ => (Evl.ev_orV (Evl.ev_call (Evl.ea_cons (Evl.ev_var rfl) Evl.ea_nil) (d_v hd O)) (fun _ => (Evl.ev_andV (Evl.ev_call (Evl.ea_cons (Evl.ev_var rfl) Evl.ea_nil) (d_v hd O)) (fun _ => (Evl.ev_call (Evl.ea_cons (Evl.ev_var rfl) (Evl.ea_cons (Evl.ev_var rfl) Evl.ea_nil)) (dw_v hd hw O)))))))) fun H2 e2 => ?_
      have z := q H2 (e1.trans e2)
      unfold m_holds_fresh at z
      rw [hb] at z
      exact z

def m_holds_linear (c : Conf) : Bool := ((m_holds_forward c) && (m_holds_fresh c))
theorem ok_holds_linear (T : Txt K mg) : FnOk P w K mg base CX0 4 T.f_holds_linear T.fd_holds_linear ["design", "world"] (spDW m_holds_linear) := by
  refine T.F_holds_linear.ok sc_holds_linear (fun vs H Q E h => ?_) (fun cdv A outer s H vs Q E hr h => ?_)
  · unfold spDW at h
    obtain ⟨c, d, w, rfl, hd, hw, O, q⟩ := h
    rfl
  · unfold spDW at h
    obtain ⟨c, d, w, rfl, hd, hw, O, q⟩ := h
    refine ⟨_, (pss_one (ps_ret (pe_and (pe_call (ok_holds_forward T) (hr.mono (by decide)) rfl T.m_holds_forward T.F_holds_forward.kp (b_holds_forward T) .nil pass0 (pa_cons (pv 0) (pa_cons (pv 1) pa_nil))) (pe_one (pe_call (ok_holds_fresh T) (hr.mono (by decide)) rfl T.m_holds_fresh T.F_holds_fresh.kp (b_holds_fresh T) .nil pass0 (pa_cons (pv 0) (pa_cons (pv 1) pa_nil))))))), ?_⟩
    refine Evl.s_ret (Evl.ev_andV (Evl.ev_call (Evl.ea_cons (Evl.ev_var rfl) (Evl.ea_cons (Evl.ev_var rfl) Evl.ea_nil)) (dw_v hd hw O)) (fun _ => (Evl.ev_call (Evl.ea_cons (Evl.ev_var rfl) (Evl.ea_cons (Evl.ev_var rfl) Evl.ea_nil)) (dw_v hd hw O)))) fun H1 e1 => ?_
    have z := q H1 e1
    exact z

def m_holds_mended (c : Conf) : Bool := ((!decide (V.str c.path = V.str "store")) || (decide (V.str c.guard = V.str "never")))
theorem ok_holds_mended (T : Txt K mg) : FnOk P w K mg base CX0 1 T.f_holds_mended T.fd_holds_mended ["design", "world"] (spDW m_holds_mended) := by
  refine T.F_holds_mended.ok sc_holds_mended (fun vs H Q E h => ?_) (fun cdv A outer s H vs Q E hr h => ?_)
  · unfold spDW at h
    obtain ⟨c, d, w, rfl, hd, hw, O, q⟩ := h
    rfl
  · unfold spDW at h
    obtain ⟨c, d, w, rfl, hd, hw, O, q⟩ := h
    refine ⟨_, (pss_cons (ps_asg (pv 0) (pg_tup rfl (pgs_cons (pg_name (i := 2) sc_holds_mended.nd rfl (Or.inl rfl)) (pgs_cons (pg_name (i := 3) sc_holds_mended.nd rfl (Or.inl rfl)) (pgs_cons (pg_name (i := 4) sc_holds_mended.nd rfl (Or.inl rfl)) pgs_nil)))))
      (pss_one (ps_ret (pe_or (pe_cmpR op_ne (pv 2) pe_str (nomark _)) (pe_one (pe_cmpR op_eq (pv 3) pe_str (nomark _))))))), ?_⟩
    refine ⟨_, rfl, _, _, rfl, SqT.of hd, rfl, _, _, rfl, _, _, rfl, _, _, rfl, rfl, ?_⟩
    refine Evl.s_ret (Evl.ev_orV (Evl.ev_op (Evl.ev_var rfl) Evl.ev_c (Evl.rv_ne rfl)) (fun _ => (Evl.ev_op (Evl.ev_var rfl) Evl.ev_c (Evl.rv_eq rfl)))) fun H1 e1 => ?_
    have z := q H1 e1
    exact z

def m_holds_moving (c : Conf) : Bool := (m_is_alone c)
theorem ok_holds_moving (T : Txt K mg) : FnOk P w K mg base CX0 2 T.f_holds_moving T.fd_holds_moving ["design", "world"] (spDW m_holds_moving) := by
  refine T.F_holds_moving.ok sc_holds_moving (fun vs H Q E h => ?_) (fun cdv A outer s H vs Q E hr h => ?_)
  · unfold spDW at h
    obtain ⟨c, d, w, rfl, hd, hw, O, q⟩ := h
    rfl
  · unfold spDW at h
    obtain ⟨c, d, w, rfl, hd, hw, O, q⟩ := h
    refine ⟨_, (pss_one (ps_ret (pe_call (ok_is_alone T) (hr.mono (by decide)) rfl T.m_is_alone T.F_is_alone.kp (b_is_alone T) .nil pass0 (pa_cons (pv 0) pa_nil)))), ?_⟩
    refine Evl.s_ret (Evl.ev_call (Evl.ea_cons (Evl.ev_var rfl) Evl.ea_nil) (d_v hd O)) fun H1 e1 => ?_
    have z := q H1 e1
    exact z

def m_holds_quiet (c : Conf) : Bool := (cond (m_passes_by c) (m_is_primary c) ((m_finishes c) && (m_holds_fresh c)))
theorem ok_holds_quiet (T : Txt K mg) : FnOk P w K mg base CX0 4 T.f_holds_quiet T.fd_holds_quiet ["design", "world"] (spDW m_holds_quiet) := by
  refine T.F_holds_quiet.ok sc_holds_quiet (fun vs H Q E h => ?_) (fun cdv A outer s H vs Q E hr h => ?_)
  · unfold spDW at h
    obtain ⟨c, d, w, rfl, hd, hw, O, q⟩ := h
    rfl
  · unfold spDW at h
    obtain ⟨c, d, w, rfl, hd, hw, O, q⟩ := h
    refine ⟨_, (pss_cons (ps_if (pt_val (pe_call (ok_passes_by T) (hr.mono (by decide)) rfl T.m_passes_by T.F_passes_by.kp (b_passes_by T) .nil pass0 (pa_cons (pv 0) pa_nil))) (pss_one (ps_ret (pe_call (ok_is_primary T) (hr.mono (by decide)) rfl T.m_is_primary T.F_is_primary.kp (b_is_primary T) .nil pass0 (pa_cons (pv 1) pa_nil)))) pss_nil)
      (pss_one (ps_ret (pe_and (pe_call (ok_finishes T) (hr.mono (by decide)) rfl T.m_finishes T.F_finishes.kp (b_finishes T) .nil pass0 (pa_cons (pv 1) pa_nil)) (pe_one (pe_call (ok_holds_fresh T) (hr.mono (by decide)) rfl T.m_holds_fresh T.F_holds_fresh.kp (b_holds_fresh T) .nil pass0 (pa_cons (pv 0) (pa_cons (pv 1) pa_nil)))))))), ?_⟩
    refine Evl.q_when (Evl.et_test (Evl.ev_call (Evl.ea_cons (Evl.ev_var rfl) Evl.ea_nil) (d_v hd O))) (fun hb H1 e1 => ?_) (fun hb H1 e1 => ?_)
    · skip
      replace hd := e1 _ _ hd
      replace hw := e1 _ _ hw
      refine Evl.s_ret (Evl.ev_call (Evl.ea_cons (Evl.ev_var rfl) Evl.ea_nil) (w_v hw O)) fun H2 e2 => ?_
      have z := q H2 (e1.trans e2)
      unfold m_holds_quiet at z
      rw [hb] at z
      exact z
    · skip
      replace hd := e1 _ _ hd
      replace hw := e1 _ _ hw
      refine Evl.s_ret (Evl.ev_andV (Evl.ev_call (Evl.ea_cons (Evl.ev_var rfl) Evl.ea_nil) (w_v hw O)) (fun _ => (Evl.ev_call (Evl.ea_cons (Evl.ev_var rfl) (Evl.ea_cons (Evl.ev_var rfl) Evl.ea_nil)) (dw_v hd hw O)))) fun H2 e2 => ?_
      have z := q H2 (e1.trans e2)
      unfold m_holds_quiet at z
      rw [hb] at z
      exact z

def m_holds_rest (c : Conf) : Bool := (cond (m_passes_by c) true ((m_finishes c) && ((m_climbs c) || ((m_guards c) && ((m_is_primary c) || (!decide (V.str c.guard = V.str "token")))))))
theorem ok_holds_rest (T : Txt K mg) : FnOk P w K mg base CX0 3 T.f_holds_rest T.fd_holds_rest ["design", "world"] (spDW m_holds_rest) := by
  refine T.F_holds_rest.ok sc_holds_rest (fun vs H Q E h => ?_) (fun cdv A outer s H vs Q E hr h => ?_)
  · unfold spDW at h
    obtain ⟨c, d, w, rfl, hd, hw, O, q⟩ := h
    rfl
  · unfold spDW at h
    obtain ⟨c, d, w, rfl, hd, hw, O, q⟩ := h
    refine ⟨_, (pss_cons (ps_if (pt_val (pe_call (ok_passes_by T) (hr.mono (by decide)) rfl T.m_passes_by T.F_passes_by.kp (b_passes_by T) .nil pass0 (pa_cons (pv 0) pa_nil))) (pss_one (ps_ret pe_bl)) pss_nil)
      (pss_cons (ps_set (i := 2) sc_holds_rest.nd rfl (Or.inl rfl) (pe_and (pe_call (ok_guards T) (hr.mono (by decide)) rfl T.m_guards T.F_guards.kp (b_guards T) .nil pass0 (pa_cons (pv 0) (pa_cons (pv 1) pa_nil))) (pe_one (pe_or (pe_call (ok_is_primary T) (hr.mono (by decide)) rfl T.m_is_primary T.F_is_primary.kp (b_is_primary T) .nil pass0 (pa_cons (pv 1) pa_nil)) (pe_one (pe_cmpR op_ne (pe_ix ix_tup (pv 0) pe_int (fun _ _ => rfl)) pe_str (nomark _)))))))
      (pss_one (ps_ret (pe_and (pe_call (ok_finishes T) (hr.mono (by decide)) rfl T.m_finishes T.F_finishes.kp (b_finishes T) .nil pass0 (pa_cons (pv 1) pa_nil)) (pe_one (pe_or (pe_call (ok_climbs T) (hr.mono (by decide)) rfl T.m_climbs T.F_climbs.kp (b_climbs T) .nil pass0 (pa_cons (pv 0) (pa_cons (pv 1) pa_nil))) (pe_one (pv 2))))))))), ?_⟩
    refine Evl.q_when (Evl.et_test (Evl.ev_call (Evl.ea_cons (Evl.ev_var rfl) Evl.ea_nil) (d_v hd O))) (fun hb H1 e1 => ?_) (fun hb H1 e1 => ?_)
    · skip
      replace hd := e1 _ _ hd
      replace hw := e1 _ _ hw
      refine Evl.s_ret Evl.ev_c fun H2 e2 => ?_
      have z := q H2 (e1.trans e2)
      unfold m_holds_rest at z
      rw [hb] at z
      exact z
    · skip
      replace hd := e1 _ _ hd
      replace hw := e1 _ _ hw
      refine Evl.q_asg (Evl.ev_andV (Evl.ev_call (Evl.ea_cons (Evl.ev_var rfl) (Evl.ea_cons (Evl.ev_var rfl) Evl.ea_nil)) (dw_v hd hw O)) (fun _ => (Evl.ev_orV (Evl.ev_call (Evl.ea_cons (Evl.ev_var rfl) Evl.ea_nil) (w_v hw O)) (fun _ => (Evl.ev_op (Evl.ev_op (Evl.ev_var rfl) Evl.ev_c (Evl.rv_ixT (SqT.of hd) rfl)) Evl.ev_c (Evl.rv_ne rfl)))))) fun H2 e2 => ?_
      replace hd := e2 _ _ hd
      replace hw := e2 _ _ hw
      refine Evl.s_ret (Evl.ev_andV (Evl.ev_call (Evl.ea_cons (Evl.ev_var rfl) Evl.ea_nil) (w_v hw O)) (fun _ => (Evl.ev_orV (Evl.ev_call (Evl.ea_cons (Evl.ev_var rfl) (Evl.ea_cons (Evl.ev_var rfl) Evl.ea_nil)) (dw_v hd hw O)) (fun _ => (Evl.ev_var rfl))))) fun H3 e3 => ?_
      have z := q H3 ((e1.trans e2).trans e3)
      unfold m_holds_rest at z
      rw [hb] at z
      exact z

def m_holds_single (c : Conf) : Bool := (!(m_is_alone c))
theorem ok_holds_single (T : Txt K mg) : FnOk P w K mg base CX0 2 T.f_holds_single T.fd_holds_single ["design", "world"] (spDW m_holds_single) := by
  refine T.F_holds_single.ok sc_holds_single (fun vs H Q E h => ?_) (fun cdv A outer s H vs Q E hr h => ?_)
  · unfold spDW at h
    obtain ⟨c, d, w, rfl, hd, hw, O, q⟩ := h
    rfl
  · unfold spDW at h
    obtain ⟨c, d, w, rfl, hd, hw, O, q⟩ := h
    refine ⟨_, (pss_one (ps_ret (pe_not (pe_call (ok_is_alone T) (hr.mono (by decide)) rfl T.m_is_alone T.F_is_alone.kp (b_is_alone T) .nil pass0 (pa_cons (pv 0) pa_nil))))), ?_⟩
    refine Evl.s_ret (Evl.ev_notV (Evl.ev_call (Evl.ea_cons (Evl.ev_var rfl) Evl.ea_nil) (d_v hd O))) fun H1 e1 => ?_
    have z := q H1 e1
    exact z

end
end Ca

set_option Elab.async false
set_option linter.all false
set_option maxRecDepth 100000
set_option maxHeartbeats 4000000
namespace Ca
open PySem L2
def progH (c : Conf) : Pm → Bool
  | .ending => m_holds_ending c
  | .filled => m_holds_filled c
  | .forward => m_holds_forward c
  | .fresh => m_holds_fresh c
  | .linear => m_holds_linear c
  | .mended => m_holds_mended c
  | .moving => m_holds_moving c
  | .quiet => m_holds_quiet c
  | .rest => m_holds_rest c
  | .single => m_holds_single c
@[irreducible] def spDWP (g : Conf → Pm → Bool) : Sp := fun vs H Q _ => ∃ (c : Conf) (d w : Addr) (m : Pm), vs = [.ref d, .ref w, pmV m] ∧ H d = some (dT c) ∧ H w = some (wT c) ∧ c.Ok ∧ ∀ H', Evl.Ex H H' → Q (.bl (g c m)) H'
section
variable {K : PySem.W.Frag} {c : Conf} {d w : Addr} {H : Hp} {Q : VK} {E : XK} {σ : L2.St} {g : Conf → Pm → Bool} {m : Pm}
theorem dwp_i (hd : H d = some (dT c)) (hw : H w = some (wT c)) (O : c.Ok) (q : ∀ H', Evl.Ex H H' → Q (.bl (g c m)) H') : spDWP g [.ref d, .ref w, pmV m] H Q E := by
  unfold spDWP
  exact ⟨c, d, w, m, rfl, hd, hw, O, q⟩
end
/-- the table of the promises' defs -/
structure TxtD_HOLDS (K : PySem.W.Frag) (w : World) (mg : Str → Option Value) (T : Txt K mg) where
  v_ : Addr
  m_ : mg "HOLDS" = some (.ref v_)
  k_ending : KDct K w v_ "ending" (.ref T.f_holds_ending)
  k_filled : KDct K w v_ "filled" (.ref T.f_holds_filled)
  k_forward : KDct K w v_ "forward" (.ref T.f_holds_forward)
  k_fresh : KDct K w v_ "fresh" (.ref T.f_holds_fresh)
  k_linear : KDct K w v_ "linear" (.ref T.f_holds_linear)
  k_mended : KDct K w v_ "mended" (.ref T.f_holds_mended)
  k_moving : KDct K w v_ "moving" (.ref T.f_holds_moving)
  k_quiet : KDct K w v_ "quiet" (.ref T.f_holds_quiet)
  k_rest : KDct K w v_ "rest" (.ref T.f_holds_rest)
  k_single : KDct K w v_ "single" (.ref T.f_holds_single)
section
variable {P : Program} {w : World} {K : PySem.W.Frag} {mg : Str → Option Value} {base : Heap}
theorem held (T : Txt K mg) (Y : TxtD_HOLDS K w mg T) (m : Pm) : ∃ (f : Addr) (fd : FuncData) (k : Nat) (g : Conf → Bool), FnOk P w K mg base CX0 k f fd ["design", "world"] (spDW g) ∧ k ≤ 5 ∧ PySem.W.keepIn K (.ref f) = true ∧ Binds K fd ["design", "world"] [] ∧ KDct K w Y.v_ m.str (.ref f) ∧ ∀ c, g c = progH c m := by
  cases m
  · exact ⟨_, _, _, _, ok_holds_ending T, by decide, T.F_holds_ending.kp, b_holds_ending T, Y.k_ending, fun _ => rfl⟩
  · exact ⟨_, _, _, _, ok_holds_filled T, by decide, T.F_holds_filled.kp, b_holds_filled T, Y.k_filled, fun _ => rfl⟩
  · exact ⟨_, _, _, _, ok_holds_forward T, by decide, T.F_holds_forward.kp, b_holds_forward T, Y.k_forward, fun _ => rfl⟩
  · exact ⟨_, _, _, _, ok_holds_fresh T, by decide, T.F_holds_fresh.kp, b_holds_fresh T, Y.k_fresh, fun _ => rfl⟩
  · exact ⟨_, _, _, _, ok_holds_linear T, by decide, T.F_holds_linear.kp, b_holds_linear T, Y.k_linear, fun _ => rfl⟩
  · exact ⟨_, _, _, _, ok_holds_mended T, by decide, T.F_holds_mended.kp, b_holds_mended T, Y.k_mended, fun _ => rfl⟩
  · exact ⟨_, _, _, _, ok_holds_moving T, by decide, T.F_holds_moving.kp, b_holds_moving T, Y.k_moving, fun _ => rfl⟩
  · exact ⟨_, _, _, _, ok_holds_quiet T, by decide, T.F_holds_quiet.kp, b_holds_quiet T, Y.k_quiet, fun _ => rfl⟩
  · exact ⟨_, _, _, _, ok_holds_rest T, by decide, T.F_holds_rest.kp, b_holds_rest T, Y.k_rest, fun _ => rfl⟩
  · exact ⟨_, _, _, _, ok_holds_single T, by decide, T.F_holds_single.kp, b_holds_single T, Y.k_single, fun _ => rfl⟩
theorem ok_holds (T : Txt K mg) (U : TxtC K mg) (Y : TxtD_HOLDS K w mg T) : FnOk P w K mg base CX0 6 T.f_holds T.fd_holds ["design", "world", "promise"] (spDWP progH) := by
  refine T.F_holds.ok sc_holds (fun vs H Q E h => ?_) (fun cdv A outer s H vs Q E hr h => ?_)
  · unfold spDWP at h
    obtain ⟨c, d, w, m, rfl, _⟩ := h
    rfl
  · unfold spDWP at h
    obtain ⟨c, d, u, m, rfl, hd, hw, O, q⟩ := h
    obtain ⟨f, fd, k, g, F, kp, hk, hb, kd, eg⟩ := held (P := P) (base := base) T Y m
    refine ⟨_, (pss_cons (ps_expr (pe_call (ok_check_question T U) (hr.mono (by decide)) rfl T.m_check_question T.F_check_question.kp (b_check_question T) .nil pass0 (pa_cons (pv 0) (pa_cons (pv 1) (pa_cons (pv 2) pa_nil)))))
      (pss_cons (ps_set (i := 3) sc_holds.nd rfl (Or.inl rfl) (pe_ix ix_kdict (pe_glob (v := .ref Y.v_) rfl Y.m_ rfl) (pv 2) (fun _ _ => rfl)))
      (pss_one (ps_ret (pe_callL (i := 3) F (hr.mono kp) rfl (Or.inl rfl) hk hb .nil pass0 (pa_cons (pv 0) (pa_cons (pv 1) pa_nil))))))), ?_⟩
    refine ⟨_, rfl, _, rfl, _, rfl, ?_⟩
    refine chq_i hd hw O ?_
    refine ⟨_, rfl, _, _, _, rfl, rfl, kd, rfl, _, rfl, _, rfl, ?_⟩
    have z := dw_v (g := g) hd hw O H (Evl.Ex.refl H) Q (fun H' e => by rw [eg]; exact q H' e)
    exact z _
end
end Ca

set_option Elab.async false
set_option linter.all false
set_option maxRecDepth 100000
set_option maxHeartbeats 4000000
namespace Ca
open PySem L2
/-! ### what holds is kept: endings, moves -/
/-- a property of stages that every event keeps -/
structure StOk (c : Conf) (s : HS) (P : Str → Prop) : Prop where
  ended : P "ended"
  look : P "look"
  fetch : P "fetch"
  fill : ¬ c.guard = "never" → P "fill"
  word : ∀ w : Str, w = "drop" ∨ w = "store" ∨ w = "set" → P w
  stop : c.stop = "stops" → P "stopped"
  wait : s.opn.isSome = true → P "waits"
section
variable {c : Conf} {s : HS} {k : Nat} {o : OpS} {w : Str} {P : Str → Prop}
abbrev AllSt (s : HS) (P : Str → Prop) : Prop := ∀ o ∈ s.ops, P o.stage
theorem AllSt.set {l : List OpS} {o' : OpS} (h : ∀ o ∈ l, P o.stage) (h' : P o'.stage) : ∀ o ∈ l.set k o', P o.stage := fun o ho => by
  rcases List.mem_or_eq_of_mem_set ho with z | z
  · exact h o z
  · rw [z]; exact h'
theorem AllSt.endH {st : Str} (h : AllSt s P) (h' : P st) : AllSt (endH s k o st) P := by
  unfold AllSt
  rw [end_ops]
  exact AllSt.set h h'
theorem AllSt.put {o' : OpS} (h : AllSt s P) (h' : P o'.stage) : AllSt (s.put k o') P := AllSt.set h h'
theorem AllSt.wr3 (h : AllSt s P) (ho : P o.stage) {s3 : HS} (e : s3 = wr3 c (wr2 c (wr1 s k o w) (wo1 s o w) w) (wo1 s o w) w) : AllSt s3 P := by
  subst e
  unfold AllSt
  rw [wr3_ops.1, wr2_ops.1, wr1_ops.1]
  split
  · exact AllSt.set h ho
  · intro u hu
    obtain ⟨x, hx, rfl⟩ := List.mem_map.mp hu
    exact h x hx
theorem step_all (O : c.Ok) (h : AllSt s P) (T : StOk c s P) (p : OpWf c s.ops.length k o) (ho : P o.stage) (hs : w = "stop" → c.stop = "stops") (nx : ¬ w = "stop" → ¬ o.stage = "ended" ∧ ¬ o.stage = "stopped") : AllSt (doOp c s k o w) P := by
  unfold doOp
  split
  · rename_i e
    exact h.endH (T.stop (hs e))
  rename_i ne
  split
  · rename_i kd
    unfold writeH
    generalize e3 : Ca.wr3 c (wr2 c (wr1 s k o w) (wo1 s o w) w) (wo1 s o w) w = s3
    have h3 : AllSt s3 P := h.wr3 ho e3.symm
    have st1 : (wo1 s o w).stage = o.stage := by
      unfold wo1
      split <;> rfl
    have sp1 : (wo1 s o w).step = o.step := by
      unfold wo1
      split <;> rfl
    unfold wr4
    split
    · exact (h3.put (o' := { wo1 s o w with step := (wo1 s o w).step + 1 }) (by show P (wo1 s o w).stage; rw [st1]; exact ho)).endH T.ended
    · rename_i hl
      refine h3.put ?_
      rw [sp1] at hl ⊢
      have lt := (p.wr kd (nx ne).1 (nx ne).2).1
      exact T.word _ (step_word O (by omega))
  · unfold readH
    split
    · exact (h.put (o' := { o with version := s.cache }) ho).endH T.ended
    split
    · rename_i z
      exact h.put (T.wait z.2)
    split
    · exact h.put T.fetch
    split
    · split
      · unfold AllSt
        rw [end_ops]
        show ∀ u ∈ (s.ops.set k _).set k _, P u.stage
        rw [set_set']
        exact AllSt.set h T.ended
      · rename_i g
        exact h.put (T.fill g)
    split
    · exact (h.put (o' := { o with version := leadV s o }) ho).endH T.ended
    · split
      · refine AllSt.endH ?_ T.ended
        unfold AllSt
        rw [hold_ops]
        exact h
      · exact h.endH T.ended
theorem do_all {e : Ev} (O : c.Ok) (W : Wf c s) (h : AllSt s P) (T : StOk c s P) (he : e ∈ evList c s) : AllSt (doH c s e) P := by
  have key : ∀ (k : Nat) (w : Str) (o : OpS), (preH s w k).ops[k]? = some o → AllSt (preH s w k) P → StOk c (preH s w k) P → OpWf c (preH s w k).ops.length k o → P o.stage → (w = "stop" → c.stop = "stops") → (¬ w = "stop" → ¬ o.stage = "ended" ∧ ¬ o.stage = "stopped") → AllSt (doH c s (w, some (k : Int))) P := fun k w o eo h1 T1 p ho hs nx => by
    unfold doH
    rw [doE_at eo]
    exact step_all O h1 T1 p ho hs nx
  cases ev_case W he with
  | evict z =>
    unfold doH doE
    rw [if_pos rfl]
    exact h
  | copy z =>
    unfold doH doE
    rw [if_neg (by decide +kernel), if_pos rfl]
    exact h
  | new w hw =>
    have W1 := W.pre O hw
    have st : P (newOp s w).stage := by
      show P w
      rcases hw with z | z
      · rw [z]; exact T.look
      · rw [z]; exact T.word _ (by rcases O.path.fst with y | y; exact .inl y; exact .inr (.inl y))
    have eo : (preH s w s.ops.length).ops[s.ops.length]? = some (newOp s w) := by
      rw [pre_new]
      show (s.ops ++ [newOp s w])[s.ops.length]? = _
      rw [List.getElem?_append_right (Nat.le_refl _), Nat.sub_self]
      rfl
    refine key _ w (newOp s w) eo ?_ ?_ (W1.ops _ _ eo) st (fun z => ?_) (fun _ => ?_)
    · rw [pre_new]
      intro u hu
      rcases List.mem_append.mp hu with z | z
      · exact h u z
      · rw [List.mem_singleton.mp z]; exact st
    · rw [pre_new]
      exact ⟨T.ended, T.look, T.fetch, T.fill, T.word, T.stop, T.wait⟩
    · rcases hw with y | y
      · rw [y] at z; exact absurd z (by decide +kernel)
      · rw [y] at z; exact absurd z (fst_ne O).2.2.2.2.2.2
    · have z := new_next (s := s) (s' := s) O hw
      exact ⟨z.1, z.2.1⟩
  | step k o w eo h1 h2 h3 =>
    refine key k w o (by rw [pre_old eo]; exact eo) (by rw [pre_old eo]; exact h) (by rw [pre_old eo]; exact T) (by rw [pre_old eo]; exact W.ops k o eo) (h o (List.mem_of_getElem? eo)) (fun z => ?_) fun _ => ⟨h1, h2⟩
    have p := W.ops k o eo
    exfalso
    by_cases hw : o.stage = "waits"
    · rw [ahead_take h3 hw] at z
      exact absurd z (by decide +kernel)
    · rw [← ahead_stage h3 hw] at z
      rcases p.kd with kd | kd
      · rcases p.rd kd with y | y | y | y | y | y
        · rw [y] at z; exact absurd z (by decide +kernel)
        · rw [y] at z; exact absurd z (by decide +kernel)
        · rw [y.1] at z; exact absurd z (by decide +kernel)
        · exact hw y.1
        · exact h1 y
        · exact h2 y
      · obtain ⟨lt, y, _⟩ := p.wr kd h1 h2
        rw [y] at z
        rcases step_word O lt with u | u | u <;> rw [u] at z <;> exact absurd z (by decide +kernel)
  | stop k o eo h1 h2 h3 =>
    exact key k "stop" o (by rw [pre_old eo]; exact eo) (by rw [pre_old eo]; exact h) (by rw [pre_old eo]; exact T) (by rw [pre_old eo]; exact W.ops k o eo) (h o (List.mem_of_getElem? eo)) (fun _ => h3) fun z => absurd rfl z
theorem so_end_none {st : Str} (h : s.opn = none) : (endH s k o st).opn = none := by
  rcases end_opn (s := s) (k := k) (o := o) (st := st) with z | z
  · rw [z, h]
  · exact z
theorem op_none (hf : ¬ c.flight = "shared") (h : s.opn = none) : (doOp c s k o w).opn = none := by
  unfold doOp
  split
  · exact so_end_none h
  split
  · have h3 : (wr3 c (wr2 c (wr1 s k o w) (wo1 s o w) w) (wo1 s o w) w).opn = none := by rw [wr3_ops.2, wr2_ops.2, wr1_ops.2, h]
    unfold writeH wr4
    split
    · exact so_end_none h3
    · exact h3
  · unfold readH
    simp only [if_neg hf]
    split
    · exact so_end_none h
    split
    · exact h
    split
    · rfl
    split
    · split
      · exact so_end_none h
      · exact h
    split
    · exact so_end_none h
    · split
      · exact so_end_none (by rw [hold_opn]; exact h)
      · exact so_end_none h
theorem do_none {e : Ev} (hf : ¬ c.flight = "shared") (h : s.opn = none) : (doH c s e).opn = none := by
  unfold doH doE
  show (if e = evictE then _ else _ : HS).opn = none
  split
  · exact h
  split
  · exact h
  split
  · split
    · refine op_none hf ?_
      unfold preH
      split
      · exact h
      · exact h
    · exact h
  · exact h
theorem wait_free (O : c.Ok) (hf : ¬ c.flight = "shared") (r : Reach c s) : s.opn = none ∧ AllSt s (fun st => ¬ st = "waits") := by
  induction r with
  | begin => exact ⟨rfl, fun o h => by cases h⟩
  | @step s e r he ih =>
    obtain ⟨W, _⟩ := r.wf O
    refine ⟨?_, do_all O W ih.2 ⟨by decide +kernel, by decide +kernel, by decide +kernel, fun _ => by decide +kernel, fun w hw => by rcases hw with z | z | z <;> rw [z] <;> decide +kernel, fun _ => by decide +kernel, fun z => by rw [ih.1] at z; cases z⟩ he⟩
    exact do_none hf ih.1
theorem stop_free (O : c.Ok) (hs : ¬ c.stop = "stops") (r : Reach c s) : AllSt s (fun st => ¬ st = "stopped") := by
  induction r with
  | begin => exact fun o h => by cases h
  | @step s e r he ih =>
    obtain ⟨W, _⟩ := r.wf O
    exact do_all O W ih ⟨by decide +kernel, by decide +kernel, by decide +kernel, fun _ => by decide +kernel, fun w hw => by rcases hw with z | z | z <;> rw [z] <;> decide +kernel, fun z => absurd z hs, fun _ => by decide +kernel⟩ he
theorem alone_ne (O : c.Ok) (h : m_is_alone c = true) : ¬ c.flight = "shared" := fun z => by
  unfold m_is_alone at h
  rw [z] at h
  exact absurd h (by decide +kernel)
theorem keep_moving (O : c.Ok) (h : progH c .moving = true) (r : Reach c s) : brokenH c s .moving = false := by
  have hw := (wait_free O (alone_ne O h) r).2
  unfold brokenH
  have : (going s).filter (fun o => (nextOf s o).isNone) = [] := by
    rw [List.filter_eq_nil_iff]
    intro o ho z
    have m := (List.mem_filter.mp ho).1
    unfold nextOf at z
    rw [if_neg (hw o m)] at z
    cases z
  rw [this]
  rfl
theorem finish_ne (h : m_finishes c = true) : ¬ c.stop = "stops" := fun z => by
  unfold m_finishes at h
  rw [z] at h
  exact absurd h (by decide +kernel)
theorem keep_ending (O : c.Ok) (h : progH c .ending = true) (r : Reach c s) : brokenH c s .ending = false := by
  unfold brokenH
  have : (going s).filter (fun o => decide (o.stage = ("waits" : Str)) && stoppedAt s o.leader) = [] := by
    rw [List.filter_eq_nil_iff]
    intro o ho z
    have m := (List.mem_filter.mp ho).1
    rw [Bool.and_eq_true] at z
    have h : (m_is_alone c || m_finishes c) = true := h
    rcases Bool.or_eq_true _ _ |>.mp h with y | y
    · exact (wait_free O (alone_ne O y) r).2 o m (of_decide_eq_true z.1)
    · have z2 := z.2
      unfold stoppedAt at z2
      split at z2
      · cases z2
      · split at z2
        · rename_i q eq
          exact stop_free O (finish_ne y) r q (List.mem_of_getElem? eq) (of_decide_eq_true z2)
        · cases z2
  rw [this]
  rfl
theorem fill_free (O : c.Ok) (hg : c.guard = "never") (r : Reach c s) : AllSt s (fun st => ¬ st = "fill") := by
  induction r with
  | begin => exact fun o h => by cases h
  | @step s e r he ih =>
    obtain ⟨W, _⟩ := r.wf O
    exact do_all O W ih ⟨by decide +kernel, by decide +kernel, by decide +kernel, fun z => absurd hg z, fun w hw => by rcases hw with z | z | z <;> rw [z] <;> decide +kernel, fun _ => by decide +kernel, fun _ => by decide +kernel⟩ he
end
end Ca

set_option Elab.async false
set_option linter.all false
set_option maxRecDepth 100000
set_option maxHeartbeats 4000000
namespace Ca
open PySem L2
/-! ### what holds is kept: flights side by side -/
def stg (s : HS) (j : Nat) : Option Str := (s.ops[j]?).map (·.stage)
section
variable {c : Conf} {s s' : HS} {k j : Nat} {o : OpS} {w : Str}
theorem stg_put {o' : OpS} (eo : s.ops[k]? = some o) : stg (s.put k o') j = if j = k then some o'.stage else stg s j := by
  unfold stg HS.put
  have hk := (List.getElem?_eq_some_iff.mp eo).1
  by_cases e : j = k
  · subst e
    rw [if_pos rfl]
    show ((s.ops.set j o')[j]?).map _ = _
    rw [List.getElem?_set_self hk]
    rfl
  · rw [if_neg e]
    show ((s.ops.set k o')[j]?).map _ = _
    rw [List.getElem?_set_ne (fun z => e z.symm)]
theorem stg_end {st : Str} {u : OpS} (hk : k < s.ops.length) : stg (endH s k u st) j = if j = k then some st else stg s j := by
  unfold stg
  rw [end_ops]
  by_cases e : j = k
  · subst e
    rw [if_pos rfl, List.getElem?_set_self hk]
    rfl
  · rw [if_neg e, List.getElem?_set_ne (fun z => e z.symm)]
theorem opn_end {st : Str} {u : OpS} : (endH s k u st).opn = if st = "ended" ∧ s.opn = some u.number then none else s.opn := by
  simp only [endH]
  split <;> rfl
/-- the one flight -/
structure One (s : HS) : Prop where
  fly : ∀ j, stg s j = some ("fetch" : Str) ∨ stg s j = some ("fill" : Str) → s.opn = some j
  opn : ∀ l, s.opn = some l → stg s l = some ("fetch" : Str) ∨ stg s l = some ("fill" : Str) ∨ stg s l = some ("stopped" : Str)
theorem One.same (h : One s) (e1 : ∀ j, stg s' j = stg s j) (e2 : s'.opn = s.opn) : One s' := ⟨fun j z => by
  rw [e1] at z
  rw [e2]
  exact h.fly j z, fun l z => by
  rw [e2] at z
  rw [e1]
  exact h.opn l z⟩
/-- one operation's stage changes, and none in the air -/
theorem One.off (h : One s) {st : Str} (n : ¬ st = "fetch" ∧ ¬ st = "fill") (e1 : ∀ j, stg s' j = if j = k then some st else stg s j) (hn : s.opn ≠ some k) (e2 : s'.opn = s.opn) : One s' := ⟨fun j z => by
  rw [e1] at z
  rw [e2]
  by_cases e : j = k
  · rw [if_pos e] at z
    rcases z with z | z
    · exact absurd (Option.some.inj z) n.1
    · exact absurd (Option.some.inj z) n.2
  · rw [if_neg e] at z
    exact h.fly j z, fun l z => by
  rw [e2] at z
  rw [e1, if_neg (fun e => hn (by rw [z, e]))]
  exact h.opn l z⟩
/-- the one in the air lands -/
theorem One.land (h : One s) {st : Str} (n : ¬ st = "fetch" ∧ ¬ st = "fill") (e1 : ∀ j, stg s' j = if j = k then some st else stg s j) (hk : s.opn = some k) (e2 : s'.opn = none) : One s' := ⟨fun j z => by
  rw [e1] at z
  by_cases e : j = k
  · rw [if_pos e] at z
    rcases z with z | z
    · exact absurd (Option.some.inj z) n.1
    · exact absurd (Option.some.inj z) n.2
  · rw [if_neg e] at z
    have := h.fly j z
    rw [hk] at this
    exact absurd (Option.some.inj this).symm e, fun l z => by
  rw [e2] at z
  cases z⟩
theorem stg_at (eo : s.ops[k]? = some o) : stg s k = some o.stage := by
  unfold stg
  rw [eo]
  rfl
theorem One.not_at (h : One s) (eo : s.ops[k]? = some o) (n : ¬ o.stage = "fetch" ∧ ¬ o.stage = "fill" ∧ ¬ o.stage = "stopped") : s.opn ≠ some k := fun z => by
  rcases h.opn k z with y | y | y <;> rw [stg_at eo] at y
  · exact n.1 (Option.some.inj y)
  · exact n.2.1 (Option.some.inj y)
  · exact n.2.2 (Option.some.inj y)
theorem One.op (O : c.Ok) (hf : c.flight = "shared") (h : One s) (W : Wf c s) (eo : s.ops[k]? = some o) (a : Ahead s o w) : One (doOp c s k o w) := by
  have hk := (List.getElem?_eq_some_iff.mp eo).1
  have p := W.ops k o eo
  unfold doOp
  split
  · refine ⟨fun j z => ?_, fun l z => ?_⟩
    · rw [stg_end hk] at z
      rw [opn_end, if_neg (fun y => absurd y.1 (by decide +kernel))]
      by_cases e : j = k
      · rw [if_pos e] at z
        rcases z with z | z <;> exact absurd (Option.some.inj z) (by decide +kernel)
      · rw [if_neg e] at z
        exact h.fly j z
    · rw [opn_end, if_neg (fun y => absurd y.1 (by decide +kernel))] at z
      rw [stg_end hk]
      by_cases e : l = k
      · rw [if_pos e]; exact .inr (.inr rfl)
      · rw [if_neg e]; exact h.opn l z
  rename_i ns
  obtain ⟨h1, h2, h3⟩ := a.resolve_left ns
  split
  · rename_i kd
    obtain ⟨lt, es, _⟩ := p.wr kd h1 h2
    have nw : ¬ o.stage = "fetch" ∧ ¬ o.stage = "fill" ∧ ¬ o.stage = "stopped" := by
      rw [es]
      rcases step_word O lt with z | z | z <;> rw [z] <;> decide +kernel
    have hn := h.not_at eo nw
    unfold writeH
    generalize e3 : Ca.wr3 c (wr2 c (wr1 s k o w) (wo1 s o w) w) (wo1 s o w) w = s3
    have ops3 : s3.ops = (if w = "store" then s.ops.set k { o with version := some (s.db + 1) } else s.ops.map cf) := by rw [← e3, wr3_ops.1, wr2_ops.1, wr1_ops.1]
    have op3 : s3.opn = s.opn := by rw [← e3, wr3_ops.2, wr2_ops.2, wr1_ops.2]
    have st3 : ∀ j, stg s3 j = stg s j := fun j => by
      unfold stg
      rw [ops3]
      split
      · by_cases e : j = k
        · subst e
          rw [List.getElem?_set_self hk, eo]
          rfl
        · rw [List.getElem?_set_ne (fun z => e z.symm)]
      · rw [List.getElem?_map]
        cases s.ops[j]? <;> rfl
    have len3 : s3.ops.length = s.ops.length := by
      rw [ops3]
      split
      · rw [List.length_set]
      · rw [List.length_map]
    have num : (wo1 s o w).number = o.number := by
      unfold wo1
      split <;> rfl
    have sp1 : (wo1 s o w).step = o.step := by
      unfold wo1
      split <;> rfl
    obtain ⟨u, eu⟩ : ∃ u, s3.ops[k]? = some u := ⟨_, List.getElem?_eq_getElem (by rw [len3]; exact hk)⟩
    unfold wr4
    split
    · refine h.off (k := k) (st := "ended") (by decide +kernel) (fun j => ?_) hn ?_
      · rw [stg_end (by rw [put_len, len3]; exact hk), stg_put eu, st3]
        split <;> rfl
      · rw [opn_end]
        show (if ("ended" : Str) = "ended" ∧ s3.opn = some (wo1 s o w).number then none else s3.opn) = _
        rw [op3, num, p.num, if_neg (fun z => hn z.2)]
    · rename_i hl
      rw [sp1] at hl
      refine h.off (k := k) (st := c.steps.getD ((wo1 s o w).step + 1) "") ?_ (fun j => ?_) hn op3
      · rw [sp1]
        rcases step_word O (show o.step + 1 < c.steps.length by omega) with z | z | z <;> rw [z] <;> decide +kernel
      · rw [stg_put eu, st3]
  · rename_i kd
    have kr : o.kind = "read" := p.kd.resolve_right kd
    have st : ¬ o.stage = "waits" → o.stage = w := fun z => ahead_stage h3 z
    have wt : o.stage = "waits" → w = "take" := fun z => ahead_take h3 z
    have num : s.opn = some o.number ↔ s.opn = some k := by rw [p.num]
    have enp : ∀ (u : OpS) (v : Str) (j : Nat), stg (endH (s.put k u) k u v) j = if j = k then some v else stg s j := fun u v j => by
      rw [stg_end (by rw [put_len]; exact hk), stg_put eo]
      split <;> rfl
    have eno : ∀ (u : OpS), u.number = o.number → s.opn ≠ some k → (endH (s.put k u) k u "ended").opn = s.opn := fun u e z => by
      rw [opn_end]
      show (if ("ended" : Str) = "ended" ∧ s.opn = some u.number then none else s.opn) = _
      rw [e, p.num, if_neg (fun y => z y.2)]
    have enk : ∀ (u : OpS), u.number = o.number → s.opn = some k → (endH (s.put k u) k u "ended").opn = none := fun u e z => by
      rw [opn_end]
      show (if ("ended" : Str) = "ended" ∧ s.opn = some u.number then none else s.opn) = _
      rw [e, p.num, if_pos ⟨rfl, z⟩]
    have look_n : w = "look" → s.opn ≠ some k := fun e => h.not_at eo (by
      have z : o.stage = "look" := by
        rw [← e]
        exact st fun y => absurd (e.symm.trans (wt y)) (by decide +kernel)
      rw [z]
      decide +kernel)
    have fe : ¬ ("ended" : Str) = "fetch" ∧ ¬ ("ended" : Str) = "fill" := by decide +kernel
    unfold readH
    by_cases c1 : w = "look" ∧ s.cache.isSome
    · rw [if_pos c1]
      exact h.off (k := k) fe (enp _ _) (look_n c1.1) (eno _ rfl (look_n c1.1))
    rw [if_neg c1]
    by_cases c2 : w = "look" ∧ s.opn.isSome
    · rw [if_pos c2]
      exact h.off (k := k) (st := "waits") (by decide +kernel) (fun j => by rw [stg_put eo]) (look_n c2.1) rfl
    rw [if_neg c2]
    by_cases c3 : w = "look"
    · rw [if_pos c3]
      have none_ : s.opn = none := by
        cases e : s.opn with
        | none => rfl
        | some l => exact absurd ⟨c3, by rw [e]; rfl⟩ c2
      have sg : ∀ j, stg ({ s.put k { o with stage := "fetch" } with opn := if c.flight = "shared" then some o.number else none } : HS) j = if j = k then some ("fetch" : Str) else stg s j := fun j => by
        have := stg_put (s := s) (k := k) (o := o) (o' := { o with stage := "fetch" }) (j := j) eo
        exact this
      have op : ({ s.put k { o with stage := "fetch" } with opn := if c.flight = "shared" then some o.number else none } : HS).opn = some k := by
        show (if c.flight = "shared" then some o.number else none) = some k
        rw [if_pos hf, p.num]
      refine ⟨fun j z => ?_, fun l z => ?_⟩
      · rw [sg] at z
        rw [op]
        by_cases e : j = k
        · rw [e]
        · rw [if_neg e] at z
          have := h.fly j z
          rw [none_] at this
          cases this
      · rw [op] at z
        rw [sg, if_pos (Option.some.inj z).symm]
        exact .inl rfl
    rw [if_neg c3]
    have air : (w = "fetch" ∨ w = "fill") → o.stage = w ∧ s.opn = some k := fun e => by
      have z : o.stage = w := st fun y => by
        have := wt y
        rcases e with e | e <;> rw [e] at this <;> exact absurd this (by decide +kernel)
      refine ⟨z, h.fly k ?_⟩
      rw [stg_at eo, z]
      rcases e with e | e <;> rw [e]
      · exact .inl rfl
      · exact .inr rfl
    by_cases c4 : w = "fetch"
    · rw [if_pos c4]
      obtain ⟨_, ok⟩ := air (.inl c4)
      split
      · exact h.land (k := k) fe (enp _ _) ok (enk _ rfl ok)
      · refine ⟨fun j z => ?_, fun l z => ?_⟩
        · show s.opn = some j
          rw [stg_put eo] at z
          by_cases e : j = k
          · rw [e]; exact ok
          · rw [if_neg e] at z
            exact h.fly j z
        · have z : s.opn = some l := z
          rw [ok] at z
          rw [stg_put eo, if_pos (Option.some.inj z).symm]
          exact .inr (.inl rfl)
    rw [if_neg c4]
    by_cases c5 : w = "take"
    · rw [if_pos c5]
      have hn : s.opn ≠ some k := h.not_at eo (by
        by_cases z : o.stage = "waits"
        · rw [z]; decide +kernel
        · rw [st z, c5]; decide +kernel)
      exact h.off (k := k) fe (enp _ _) hn (eno _ rfl hn)
    rw [if_neg c5]
    have c6 : w = "fill" := by
      rcases p.rd kr with z | z | z | z | z | z
      · exact absurd ((st (by rw [z]; decide +kernel)).symm.trans z) c3
      · exact absurd ((st (by rw [z]; decide +kernel)).symm.trans z) c4
      · exact (st (by rw [z.1]; decide +kernel)).symm.trans z.1
      · exact absurd (wt z.1) c5
      · exact absurd z h1
      · exact absurd z h2
    obtain ⟨_, ok⟩ := air (.inr c6)
    have fin : ∀ s2 : HS, s2.ops = s.ops → s2.opn = s.opn → One (endH s2 k o "ended") := fun s2 e1 e2 => by
      refine h.land (k := k) fe (fun j => ?_) ok ?_
      · rw [stg_end (by rw [e1]; exact hk)]
        unfold stg
        rw [e1]
      · rw [opn_end, e2, p.num, if_pos ⟨rfl, ok⟩]
    split
    · exact fin _ hold_ops hold_opn
    · exact fin _ rfl rfl
theorem One.pre (O : c.Ok) (h : One s) (W : Wf c s) (hw : w = "look" ∨ w = firstW c) : One (preH s w s.ops.length) := by
  rw [pre_new]
  have sg : ∀ j, stg ({ s with ops := s.ops ++ [newOp s w] } : HS) j = if j = s.ops.length then some w else stg s j := fun j => by
    unfold stg
    show ((s.ops ++ [newOp s w])[j]?).map _ = _
    by_cases e : j = s.ops.length
    · rw [if_pos e, e, List.getElem?_append_right (Nat.le_refl _), Nat.sub_self]
      rfl
    · rw [if_neg e]
      by_cases lt : j < s.ops.length
      · rw [List.getElem?_append_left lt]
      · rw [List.getElem?_eq_none (by rw [List.length_append]; simp; omega), List.getElem?_eq_none (by omega)]
  have nw : ¬ w = "fetch" ∧ ¬ w = "fill" := by
    rcases hw with z | z
    · rw [z]; decide +kernel
    · have y : firstW c = "drop" ∨ firstW c = "store" := O.path.fst
      rw [z]
      rcases y with y | y <;> rw [y] <;> decide +kernel
  refine ⟨fun j z => ?_, fun l z => ?_⟩
  · rw [sg] at z
    by_cases e : j = s.ops.length
    · rw [if_pos e] at z
      rcases z with z | z
      · exact absurd (Option.some.inj z) nw.1
      · exact absurd (Option.some.inj z) nw.2
    · rw [if_neg e] at z
      exact h.fly j z
  · have z : s.opn = some l := z
    rw [sg, if_neg (fun e => by have := W.opn l z; omega)]
    exact h.opn l z
theorem one_reach (O : c.Ok) (hf : c.flight = "shared") (r : Reach c s) : One s := by
  induction r with
  | begin => exact ⟨fun j z => (by rcases z with z | z <;> cases z), fun l z => (by cases z)⟩
  | @step s e r he ih =>
    obtain ⟨W, _⟩ := r.wf O
    have key : ∀ (k : Nat) (w : Str) (o : OpS), (preH s w k).ops[k]? = some o → One (preH s w k) → Wf c (preH s w k) → Ahead (preH s w k) o w → One (doH c s (w, some (k : Int))) := fun k w o eo h1 W1 a => by
      have z := One.op O hf h1 W1 eo a
      rw [← doE_at eo] at z
      exact z.same (fun _ => rfl) rfl
    cases ev_case W he with
    | evict z =>
      refine ih.same (fun j => ?_) ?_
      · unfold doH doE
        rw [if_pos rfl]
        rfl
      · unfold doH doE
        rw [if_pos rfl]
    | copy z =>
      have n : ¬ copyE = evictE := by decide +kernel
      refine ih.same (fun j => ?_) ?_
      · unfold doH doE
        rw [if_neg n, if_pos rfl]
        rfl
      · unfold doH doE
        rw [if_neg n, if_pos rfl]
    | new w hw =>
      have eo : (preH s w s.ops.length).ops[s.ops.length]? = some (newOp s w) := by
        rw [pre_new]
        show (s.ops ++ [newOp s w])[s.ops.length]? = _
        rw [List.getElem?_append_right (Nat.le_refl _), Nat.sub_self]
        rfl
      exact key _ w _ eo (ih.pre O W hw) (W.pre O hw) (.inr (new_next O hw))
    | step k o w eo h1 h2 h3 => exact key k w o (by rw [pre_old eo]; exact eo) (by rw [pre_old eo]; exact ih) (by rw [pre_old eo]; exact W) (by rw [pre_old eo]; exact .inr ⟨h1, h2, h3⟩)
    | stop k o eo h1 h2 h3 => exact key k "stop" o (by rw [pre_old eo]; exact eo) (by rw [pre_old eo]; exact ih) (by rw [pre_old eo]; exact W) (.inl rfl)
theorem filter_one {α : Type} {f : α → Bool} : ∀ {l : List α}, (∀ (i j : Nat) (a b : α), l[i]? = some a → l[j]? = some b → f a = true → f b = true → i = j) → (l.filter f).length ≤ 1
  | [], _ => Nat.zero_le _
  | a :: l, h => by
    by_cases ha : f a = true
    · have : l.filter f = [] := by
        rw [List.filter_eq_nil_iff]
        intro b hb fb
        obtain ⟨j, hj, e⟩ := List.getElem_of_mem hb
        have := h 0 (j + 1) a b rfl (by show l[j]? = some b; rw [List.getElem?_eq_getElem hj, e]) ha fb
        omega
      rw [List.filter_cons_of_pos ha, this]
      exact Nat.le_refl _
    · rw [List.filter_cons_of_neg ha]
      exact filter_one fun i j x y hx hy fx fy => by
        have := h (i + 1) (j + 1) x y hx hy fx fy
        omega
theorem keep_single (O : c.Ok) (h : progH c .single = true) (r : Reach c s) : brokenH c s .single = false := by
  have hf : c.flight = "shared" := by
    have h : (!(m_is_alone c)) = true := h
    have z := O.f
    simp only [flightsL, List.mem_cons, List.not_mem_nil, or_false] at z
    rcases z with z | z
    · unfold m_is_alone at h
      rw [z] at h
      exact absurd h (by decide +kernel)
    · exact z
  have I := one_reach O hf r
  unfold brokenH
  have l : ((going s).filter fun o => decide (o.stage = ("fetch" : Str)) || decide (o.stage = ("fill" : Str))).length ≤ 1 := by
    unfold going
    rw [List.filter_filter]
    refine filter_one fun i j a b ha hb fa fb => ?_
    have at_ : ∀ {i : Nat} {a : OpS}, s.ops[i]? = some a → ((decide (a.stage = ("fetch" : Str)) || decide (a.stage = ("fill" : Str))) && !endedB a) = true → s.opn = some i := fun {i a} ha fa => by
      have z := (Bool.and_eq_true _ _ |>.mp fa).1
      refine I.fly i ?_
      rw [stg_at ha]
      rcases Bool.or_eq_true _ _ |>.mp z with z | z
      · rw [of_decide_eq_true z]; exact .inl rfl
      · rw [of_decide_eq_true z]; exact .inr rfl
    have z1 := at_ ha fa
    rw [at_ hb fb] at z1
    exact (Option.some.inj z1).symm
  exact decide_eq_false (by omega)
end
end Ca

set_option Elab.async false
set_option linter.all false
set_option maxRecDepth 100000
set_option maxHeartbeats 4000000
namespace Ca
open PySem L2
/-! ### what holds is kept: a cache that nothing is put into -/
section
variable {c : Conf} {s : HS} {k : Nat} {o : OpS} {w : Str}
theorem so_end_cache {st : Str} : (endH s k o st).cache = s.cache := by
  simp only [endH]
  split <;> rfl
theorem no_set : ∀ p ∈ pathsL, ¬ p = "store set" → ∀ w ∈ Txt.split p " ", ¬ w = "set" := by decide +kernel
/-- an event that can come, as an operation's step: what it finds -/
theorem so_step_fill (O : c.Ok) (W : Wf c s) (eo : s.ops[k]? = some o) (a : Ahead s o w) (ns : ¬ w = "stop") (kd : ¬ o.kind = "write") (c3 : ¬ w = "look") (c4 : ¬ w = "fetch") (c5 : ¬ w = "take") : o.stage = "fill" ∧ w = "fill" := by
  have p := W.ops k o eo
  obtain ⟨h1, h2, h3⟩ := a.resolve_left ns
  have kr : o.kind = "read" := p.kd.resolve_right kd
  have st : ¬ o.stage = "waits" → o.stage = w := fun z => ahead_stage h3 z
  have wt : o.stage = "waits" → w = "take" := fun z => ahead_take h3 z
  rcases p.rd kr with z | z | z | z | z | z
  · exact absurd ((st (by rw [z]; decide +kernel)).symm.trans z) c3
  · exact absurd ((st (by rw [z]; decide +kernel)).symm.trans z) c4
  · exact ⟨z.1, (st (by rw [z.1]; decide +kernel)).symm.trans z.1⟩
  · exact absurd (wt z.1) c5
  · exact absurd z h1
  · exact absurd z h2
theorem op_empty (O : c.Ok) (hg : c.guard = "never") (hp : ¬ c.path = "store set") (W : Wf c s) (nf : AllSt s (fun st => ¬ st = "fill")) (h : s.cache = none) (eo : s.ops[k]? = some o) (a : Ahead s o w) : (doOp c s k o w).cache = none := by
  have p := W.ops k o eo
  unfold doOp
  split
  · rw [so_end_cache]; exact h
  rename_i ns
  split
  · rename_i kd
    obtain ⟨h1, h2, h3⟩ := a.resolve_left ns
    obtain ⟨lt, es, _⟩ := p.wr kd h1 h2
    have nset : ¬ w = "set" := by
      by_cases z : o.stage = "waits"
      · rw [ahead_take h3 z]; decide +kernel
      · rw [← ahead_stage h3 z, es, List.getD_eq_getElem?_getD, List.getElem?_eq_getElem lt, Option.getD_some]
        exact no_set _ O.p hp _ (List.getElem_mem lt)
    have c1 : (wr1 s k o w).cache = none := by
      unfold wr1
      split <;> exact h
    have c2 : (wr2 c (wr1 s k o w) (wo1 s o w) w).cache = none := by
      unfold wr2
      split
      · split <;> rfl
      · exact c1
    have c3 : (wr3 c (wr2 c (wr1 s k o w) (wo1 s o w) w) (wo1 s o w) w).cache = none := by
      unfold wr3
      rw [if_neg nset]
      exact c2
    unfold writeH wr4
    split
    · rw [so_end_cache]; exact c3
    · exact c3
  · rename_i kd
    unfold readH
    by_cases c1 : w = "look" ∧ s.cache.isSome
    · rw [h] at c1; cases c1.2
    rw [if_neg c1]
    by_cases c2 : w = "look" ∧ s.opn.isSome
    · rw [if_pos c2]; exact h
    rw [if_neg c2]
    by_cases c3 : w = "look"
    · rw [if_pos c3]; exact h
    rw [if_neg c3]
    by_cases c4 : w = "fetch"
    · rw [if_pos c4, if_pos hg, so_end_cache]; exact h
    rw [if_neg c4]
    by_cases c5 : w = "take"
    · rw [if_pos c5, so_end_cache]; exact h
    exact absurd (so_step_fill O W eo a ns kd c3 c4 c5).1 (nf o (List.mem_of_getElem? eo))
/-- events, case by case, for a property of the state -/
theorem reach_ind {Q : HS → Prop} (O : c.Ok) (h0 : Q HS.begin) (hp : ∀ (s : HS) (l : List Ev), Q s → Q { s with past := l }) (he : ∀ s : HS, Reach c s → canEvict c s = true → Q s → Q { s with cache := none, mark := 0 }) (hc : ∀ s : HS, Reach c s → Q s → Q { s with rep := s.rep + 1 })
    (hn : ∀ (s : HS) (w : Str), Reach c s → Q s → (w = "look" ∨ w = firstW c) → Q (preH s w s.ops.length)) (hs : ∀ (s : HS) (k : Nat) (o : OpS) (w : Str), Wf c s → Q s → s.ops[k]? = some o → Ahead s o w → (w = "stop" → c.stop = "stops") → Q (doOp c s k o w)) {s : HS} (r : Reach c s) : Q s := by
  induction r with
  | begin => exact h0
  | @step s e r he' ih =>
    obtain ⟨W, _⟩ := r.wf O
    have key : ∀ (k : Nat) (w : Str) (o : OpS), (preH s w k).ops[k]? = some o → Q (preH s w k) → Wf c (preH s w k) → Ahead (preH s w k) o w → (w = "stop" → c.stop = "stops") → Q (doH c s (w, some (k : Int))) := fun k w o eo h1 W1 a st => by
      have z := hs _ k o w W1 h1 eo a st
      rw [← doE_at eo] at z
      exact hp _ _ z
    have nst : ∀ {w : Str} {k : Nat} {o : OpS}, s.ops[k]? = some o → ¬ o.stage = "ended" → ¬ o.stage = "stopped" → nextOf s o = some w → ¬ w = "stop" := fun {w k o} eo h1 h2 h3 z => by
      have p := W.ops k o eo
      by_cases hw : o.stage = "waits"
      · rw [ahead_take h3 hw] at z
        exact absurd z (by decide +kernel)
      · rw [← ahead_stage h3 hw] at z
        rcases p.kd with kd | kd
        · rcases p.rd kd with y | y | y | y | y | y
          · rw [y] at z; exact absurd z (by decide +kernel)
          · rw [y] at z; exact absurd z (by decide +kernel)
          · rw [y.1] at z; exact absurd z (by decide +kernel)
          · exact hw y.1
          · exact h1 y
          · exact h2 y
        · obtain ⟨lt, y, _⟩ := p.wr kd h1 h2
          rw [y] at z
          rcases step_word O lt with u | u | u <;> rw [u] at z <;> exact absurd z (by decide +kernel)
    cases ev_case W he' with
    | evict z =>
      have := hp _ (s.past ++ [evictE]) (he s r z ih)
      unfold doH doE
      rw [if_pos rfl]
      exact this
    | copy z =>
      have n : ¬ copyE = evictE := by decide +kernel
      have := hp _ (s.past ++ [copyE]) (hc s r ih)
      unfold doH doE
      rw [if_neg n, if_pos rfl]
      exact this
    | new w hw =>
      have eo : (preH s w s.ops.length).ops[s.ops.length]? = some (newOp s w) := by
        rw [pre_new]
        show (s.ops ++ [newOp s w])[s.ops.length]? = _
        rw [List.getElem?_append_right (Nat.le_refl _), Nat.sub_self]
        rfl
      refine key _ w _ eo (hn s w r ih hw) (W.pre O hw) (.inr (new_next O hw)) fun z => ?_
      rcases hw with y | y
      · rw [y] at z; exact absurd z (by decide +kernel)
      · rw [y] at z; exact absurd z (fst_ne O).2.2.2.2.2.2
    | step k o w eo h1 h2 h3 => exact key k w o (by rw [pre_old eo]; exact eo) (by rw [pre_old eo]; exact ih) (by rw [pre_old eo]; exact W) (by rw [pre_old eo]; exact .inr ⟨h1, h2, h3⟩) fun z => absurd z (nst eo h1 h2 h3)
    | stop k o eo h1 h2 h3 => exact key k "stop" o (by rw [pre_old eo]; exact eo) (by rw [pre_old eo]; exact ih) (by rw [pre_old eo]; exact W) (.inl rfl) fun _ => h3
theorem passes_of {c : Conf} (h : m_passes_by c = true) : c.guard = "never" ∧ ¬ c.path = "store set" := by
  unfold m_passes_by at h
  obtain ⟨h1, h2⟩ := Bool.and_eq_true _ _ |>.mp h
  refine ⟨V.str.inj (of_decide_eq_true h1), fun z => ?_⟩
  rw [z] at h2
  exact absurd h2 (by decide +kernel)
theorem keep_rest_never (O : c.Ok) (h : m_passes_by c = true) (r : Reach c s) : s.cache = none := by
  obtain ⟨hg, hp⟩ := passes_of h
  have T : ∀ s : HS, StOk c s (fun st => ¬ st = "fill") := fun s => ⟨by decide +kernel, by decide +kernel, by decide +kernel, fun z => absurd hg z, fun w hw => by rcases hw with z | z | z <;> rw [z] <;> decide +kernel, fun _ => by decide +kernel, fun _ => by decide +kernel⟩
  refine (reach_ind (Q := fun s => AllSt s (fun st => ¬ st = "fill") ∧ s.cache = none) O ⟨fun o h => (by cases h), rfl⟩ (fun s l q => q) (fun s _ _ q => ⟨q.1, rfl⟩) (fun s _ q => q) (fun s w _ q hw => ?_) (fun s k o w W q eo a st => ?_) r).2
  · rw [pre_new]
    refine ⟨fun u hu => ?_, q.2⟩
    rcases List.mem_append.mp hu with z | z
    · exact q.1 u z
    · rw [List.mem_singleton.mp z]
      show ¬ w = "fill"
      rcases hw with y | y
      · rw [y]; decide +kernel
      · have z : firstW c = "drop" ∨ firstW c = "store" := O.path.fst
        rw [y]
        rcases z with z | z <;> rw [z] <;> decide +kernel
  · refine ⟨step_all O q.1 (T s) (W.ops k o eo) (q.1 o (List.mem_of_getElem? eo)) st fun ns => ?_, op_empty O hg hp W q.1 q.2 eo a⟩
    obtain ⟨h1, h2, _⟩ := a.resolve_left ns
    exact ⟨h1, h2⟩
/-- the promises that such a cache keeps at rest -/
theorem behind_none (h : s.cache = none) : behindH s = false := by
  unfold behindH
  rw [h]
theorem keep_rest_passes (O : c.Ok) (h : m_passes_by c = true) (r : Reach c s) : brokenH c s .rest = false := by
  unfold brokenH atRestH
  rw [behind_none (keep_rest_never O h r), Bool.and_false]
end
end Ca

set_option Elab.async false
set_option linter.all false
set_option maxRecDepth 100000
set_option maxHeartbeats 4000000
namespace Ca
open PySem L2
/-! ### what holds is kept: a cache that climbs -/
/-- the cache's mark stands where the cache does -/
def MarkAt (c : Conf) (s : HS) : Prop := c.guard = "mark" → (s.cache = none ∧ s.mark = 0) ∨ s.cache = some s.mark
/-- what has been written through lies in the cache, or something newer -/
structure Climb (c : Conf) (s : HS) : Prop where
  mark : MarkAt c s
  wr : ∀ o ∈ s.ops, o.kind = "write" → o.stage = "ended" → ∀ v, o.version = some v → ∃ x, s.cache = some x ∧ v ≤ x
section
variable {c : Conf} {s s' : HS} {k : Nat} {o : OpS} {w : Str}
theorem so_end_mark {st : Str} : (endH s k o st).mark = s.mark := by
  simp only [endH]
  split <;> rfl
abbrev CM (s s' : HS) : Prop := ∀ x, s.cache = some x → ∃ y, s'.cache = some y ∧ x ≤ y
theorem CM.of (e : s'.cache = s.cache) : CM s s' := fun x h => ⟨x, by rw [e, h], Nat.le_refl _⟩
/-- held: newer than what was there -/
theorem hold_climb {v : Nat} (m : MarkAt c s) (hg : c.guard = "mark" ∨ c.guard = "newer") (h : (c.guard = "mark" → s.mark ≤ v) ∧ (c.guard = "newer" → newerB s v = true)) : MarkAt c (holdH c s v) ∧ CM s (holdH c s v) ∧ (holdH c s v).cache = some v := by
  have cv : (holdH c s v).cache = some v := by
    unfold holdH
    split <;> rfl
  refine ⟨fun g => .inr ?_, fun x hx => ⟨v, cv, ?_⟩, cv⟩
  · rw [cv]
    unfold holdH
    rw [if_pos g]
    show some v = some (max s.mark v)
    rw [Nat.max_eq_right (h.1 g)]
  · rcases hg with g | g
    · rcases m g with z | z
      · rw [z.1] at hx; cases hx
      · rw [z] at hx
        cases hx
        exact h.1 g
    · have z := h.2 g
      unfold newerB at z
      rw [hx] at z
      have : x < v := of_decide_eq_true z
      omega
theorem Climb.keep (h : Climb c s) (m : MarkAt c s') (cm : CM s s') (ops : ∀ o' ∈ s'.ops, (∃ o ∈ s.ops, o.kind = o'.kind ∧ o.version = o'.version ∧ (o'.stage = "ended" → o.stage = "ended")) ∨ ¬ o'.kind = "write" ∨ ¬ o'.stage = "ended" ∨ (∀ v, o'.version = some v → ∃ x, s'.cache = some x ∧ v ≤ x)) : Climb c s' := by
  refine ⟨m, fun o' ho kd st v hv => ?_⟩
  rcases ops o' ho with ⟨o, m1, e1, e2, e3⟩ | z | z | z
  · obtain ⟨x, hx, le⟩ := h.wr o m1 (e1.trans kd) (e3 st) v (e2.trans hv)
    obtain ⟨y, hy, le2⟩ := cm x hx
    exact ⟨y, hy, by omega⟩
  · exact absurd kd z
  · exact absurd st z
  · exact z v hv
/-- an operation that reads changes no write -/
theorem so_ops_set {l : List OpS} {o' : OpS} (kd : ¬ o'.kind = "write") : ∀ u ∈ l.set k o', (∃ o ∈ l, o.kind = u.kind ∧ o.version = u.version ∧ (u.stage = "ended" → o.stage = "ended")) ∨ ¬ u.kind = "write" := fun u hu => by
  rcases List.mem_or_eq_of_mem_set hu with z | z
  · exact .inl ⟨u, z, rfl, rfl, id⟩
  · rw [z]; exact .inr kd
theorem op_climb (O : c.Ok) (hp : c.path = "store set") (hg : c.guard = "mark" ∨ c.guard = "newer") (W : Wf c s) (h : Climb c s) (eo : s.ops[k]? = some o) (a : Ahead s o w) : Climb c (doOp c s k o w) := by
  have hk := (List.getElem?_eq_some_iff.mp eo).1
  have p := W.ops k o eo
  have mo := List.mem_of_getElem? eo
  unfold doOp
  by_cases fin : w = "stop"
  · rw [if_pos fin]
    refine h.keep (fun g => ?_) (fun y hy => ⟨y, by rw [so_end_cache]; exact hy, Nat.le_refl _⟩) fun u hu => ?_
    · rw [so_end_cache, so_end_mark]
      exact h.mark g
    · rw [end_ops] at hu
      rcases List.mem_or_eq_of_mem_set hu with z | z
      · exact .inl ⟨u, z, rfl, rfl, id⟩
      · refine .inr (.inr (.inl ?_))
        rw [z]
        show ¬ ("stopped" : Str) = "ended"
        decide +kernel
  rw [if_neg fin]
  obtain ⟨h1, h2, h3⟩ := a.resolve_left fin
  split
  · rename_i kd
    obtain ⟨lt, es, ver⟩ := p.wr kd h1 h2
    have nw : ¬ o.stage = "waits" := by
      rw [es]
      rcases step_word O lt with z | z | z <;> rw [z] <;> decide +kernel
    have ew := ahead_stage h3 nw
    have steps : c.steps = ([("store" : Str), "set"] : List Str) := by
      unfold Conf.steps
      rw [hp]
      decide +kernel
    rw [steps] at lt es
    have lt : o.step < 2 := lt
    have two : (o.step = 0 ∧ w = "store") ∨ (o.step = 1 ∧ w = "set") := by
      have : o.step = 0 ∨ o.step = 1 := by omega
      rcases this with z | z
      · rw [z] at es; exact .inl ⟨z, ew.symm.trans es⟩
      · rw [z] at es; exact .inr ⟨z, ew.symm.trans es⟩
    unfold writeH wr4
    have l2 : c.steps.length = 2 := by rw [steps]; rfl
    rcases two with ⟨st, rfl⟩ | ⟨st, rfl⟩
    · have n1 : ¬ ("store" : Str) = "drop" := by decide +kernel
      have n2 : ¬ ("store" : Str) = "set" := by decide +kernel
      have e3 : wr3 c (wr2 c (wr1 s k o "store") (wo1 s o "store") "store") (wo1 s o "store") "store" = wr1 s k o "store" := by
        unfold wr3 wr2
        rw [if_neg n1, if_neg n2]
      have sp : (wo1 s o "store").step = 0 := by
        unfold wo1
        rw [if_pos rfl]
        exact st
      rw [e3, sp, l2, if_neg (by decide), steps]
      refine h.keep (s' := (wr1 s k o "store").put k { wo1 s o "store" with step := 0 + 1, stage := (["store", "set"] : List Str).getD (0 + 1) "" }) ?_ (CM.of ?_) fun u hu => ?_
      · unfold wr1
        rw [if_pos rfl]
        exact h.mark
      · unfold wr1
        rw [if_pos rfl]
        rfl
      · have hu : u ∈ ((wr1 s k o "store").ops.set k { wo1 s o "store" with step := 0 + 1, stage := (["store", "set"] : List Str).getD (0 + 1) "" }) := hu
        unfold wr1 at hu
        rw [if_pos rfl] at hu
        rw [set_set'] at hu
        rcases List.mem_or_eq_of_mem_set hu with z | z
        · exact .inl ⟨u, z, rfl, rfl, id⟩
        · refine .inr (.inr (.inl ?_))
          rw [z]
          show ¬ (["store", "set"] : List Str).getD (0 + 1) "" = "ended"
          decide +kernel
    · have n1 : ¬ ("set" : Str) = "drop" := by decide +kernel
      have n2 : ¬ ("set" : Str) = "store" := by decide +kernel
      have n3 : ¬ ("set" : Str) = "stop" := by decide +kernel
      obtain ⟨v, hv⟩ := Option.isSome_iff_exists.mp (ver ew)
      have w1 : wo1 s o "set" = cf o := by
        unfold wo1
        rw [if_neg n2]
      have r1 : wr1 s k o "set" = { s with ops := s.ops.map cf } := by
        unfold wr1
        rw [if_neg n2]
      have r2 : wr2 c (wr1 s k o "set") (wo1 s o "set") "set" = { s with ops := s.ops.map cf } := by
        unfold wr2
        rw [if_neg n1, r1]
      have vd : (cf o).version.getD 0 = v := by
        show o.version.getD 0 = v
        rw [hv]
        rfl
      rw [r2, w1]
      have st2 : (cf o).step = 1 := st
      rw [st2, l2, if_pos rfl]
      have r3 : wr3 c { s with ops := s.ops.map cf } (cf o) "set" = if setsB c { s with ops := s.ops.map cf } v then holdH c { s with ops := s.ops.map cf } v else { s with ops := s.ops.map cf } := by
        unfold wr3
        rw [if_pos rfl, vd]
      rw [r3]
      have m0 : MarkAt c { s with ops := s.ops.map cf } := h.mark
      generalize es3 : (if setsB c { s with ops := s.ops.map cf } v then holdH c { s with ops := s.ops.map cf } v else { s with ops := s.ops.map cf } : HS) = s3
      have key : MarkAt c s3 ∧ CM s s3 ∧ (∃ x, s3.cache = some x ∧ v ≤ x) ∧ s3.ops = s.ops.map cf := by
        by_cases b : setsB c { s with ops := s.ops.map cf } v = true
        · rw [if_pos b] at es3
          subst es3
          have := hold_climb (v := v) m0 hg ⟨fun g => (by
            unfold setsB at b
            rw [if_pos g] at b
            exact of_decide_eq_true b), fun g => (by
            unfold setsB at b
            rw [if_neg (by rw [g]; decide +kernel), g] at b
            exact b)⟩
          exact ⟨this.1, this.2.1, ⟨v, this.2.2, Nat.le_refl _⟩, hold_ops⟩
        · rw [if_neg b] at es3
          subst es3
          refine ⟨m0, CM.of rfl, ?_, rfl⟩
          rcases hg with g | g
          · unfold setsB at b
            rw [if_pos g] at b
            have lt : ¬ s.mark ≤ v := fun z => b (decide_eq_true z)
            rcases h.mark g with z | z
            · omega
            · exact ⟨s.mark, z, by omega⟩
          · unfold setsB at b
            rw [if_neg (by rw [g]; decide +kernel), g] at b
            have b : ¬ newerB s v = true := b
            unfold newerB at b
            cases hc : s.cache with
            | none => rw [hc] at b; exact absurd rfl b
            | some x =>
              rw [hc] at b
              have : ¬ x < v := fun z => b (decide_eq_true z)
              exact ⟨x, rfl, by omega⟩
      obtain ⟨k1, k2, ⟨x, k3, k4⟩, k5⟩ := key
      refine h.keep (fun g => ?_) (fun y hy => ?_) fun u hu => ?_
      · rw [so_end_cache, so_end_mark]
        exact k1 g
      · rw [so_end_cache]
        exact k2 y hy
      · rw [end_ops] at hu
        have hu : u ∈ (s3.ops.set k _).set k _ := hu
        rw [set_set', k5] at hu
        rcases List.mem_or_eq_of_mem_set hu with z | z
        · obtain ⟨y, hy, rfl⟩ := List.mem_map.mp z
          exact .inl ⟨y, hy, rfl, rfl, id⟩
        · refine .inr (.inr (.inr fun v' hv' => ⟨x, by rw [so_end_cache]; exact k3, ?_⟩))
          rw [z] at hv'
          have hv' : o.version = some v' := hv'
          rw [hv] at hv'
          cases hv'
          exact k4
  · rename_i kd
    have rd : ∀ {s2 : HS} {o2 : OpS} {st : Str}, o2.kind = o.kind → s2.ops = s.ops → MarkAt c s2 → CM s s2 → Climb c (endH s2 k o2 st) := fun {s2 o2 st} e1 e2 m cm => by
      refine h.keep (fun g => ?_) (fun y hy => ?_) fun u hu => ?_
      · rw [so_end_cache, so_end_mark]
        exact m g
      · rw [so_end_cache]
        exact cm y hy
      · rw [end_ops, e2] at hu
        rcases so_ops_set (o' := { o2 with stage := st, over := some s2.past.length }) (by show ¬ o2.kind = "write"; rw [e1]; exact kd) u hu with z | z
        · exact .inl z
        · exact .inr (.inl z)
    have rp : ∀ {o2 : OpS}, o2.kind = o.kind → Climb c (s.put k o2) := fun {o2} e1 => by
      refine h.keep h.mark (CM.of rfl) fun u hu => ?_
      rcases so_ops_set (o' := o2) (by rw [e1]; exact kd) u hu with z | z
      · exact .inl z
      · exact .inr (.inl z)
    have rpe : ∀ {o2 : OpS} {st : Str}, o2.kind = o.kind → Climb c (endH (s.put k o2) k o2 st) := fun {o2 st} e1 => by
      refine h.keep (fun g => ?_) (fun y hy => ⟨y, by rw [so_end_cache]; exact hy, Nat.le_refl _⟩) fun u hu => ?_
      · rw [so_end_cache, so_end_mark]
        exact h.mark g
      · rw [end_ops] at hu
        have hu : u ∈ (s.ops.set k o2).set k _ := hu
        rw [set_set'] at hu
        rcases so_ops_set (o' := { o2 with stage := st, over := some (s.put k o2).past.length }) (by show ¬ o2.kind = "write"; rw [e1]; exact kd) u hu with z | z
        · exact .inl z
        · exact .inr (.inl z)
    unfold readH
    by_cases c1 : w = "look" ∧ s.cache.isSome
    · rw [if_pos c1]; exact rpe rfl
    rw [if_neg c1]
    by_cases c2 : w = "look" ∧ s.opn.isSome
    · rw [if_pos c2]; exact rp rfl
    rw [if_neg c2]
    by_cases c3 : w = "look"
    · rw [if_pos c3]
      have z := rp (o2 := { o with stage := "fetch" }) rfl
      exact ⟨z.mark, z.wr⟩
    rw [if_neg c3]
    by_cases c4 : w = "fetch"
    · rw [if_pos c4]
      split
      · exact rpe rfl
      · exact rp rfl
    rw [if_neg c4]
    by_cases c5 : w = "take"
    · rw [if_pos c5]; exact rpe rfl
    rw [if_neg c5]
    by_cases b : letsB c s o (o.version.getD 0) = true
    · rw [if_pos b]
      have := hold_climb (v := o.version.getD 0) h.mark hg ⟨fun g => (by
        unfold letsB at b
        rw [if_neg (by rw [g]; decide +kernel), if_pos g] at b
        exact of_decide_eq_true b), fun g => (by
        unfold letsB at b
        rw [if_neg (by rw [g]; decide +kernel), if_neg (by rw [g]; decide +kernel), if_pos g, g] at b
        exact b)⟩
      exact rd rfl hold_ops this.1 this.2.1
    · rw [if_neg b]
      exact rd rfl rfl h.mark (CM.of rfl)
theorem climbs_of {c : Conf} (O : c.Ok) (h : m_climbs c = true) : c.path = "store set" ∧ (c.guard = "mark" ∨ c.guard = "newer") ∧ c.evict = "keeps" := by
  unfold m_climbs at h
  obtain ⟨h1, h⟩ := Bool.and_eq_true _ _ |>.mp h
  obtain ⟨h2, h3⟩ := Bool.and_eq_true _ _ |>.mp h
  refine ⟨V.str.inj (of_decide_eq_true h1), ?_, V.str.inj (of_decide_eq_true h3)⟩
  have g := O.g
  simp only [guardsL, List.mem_cons, List.not_mem_nil, or_false] at g
  rcases g with z | z | z | z | z | z <;> rw [z] at h2 ⊢ <;> first | exact .inl rfl | exact .inr rfl | exact absurd h2 (by decide +kernel)
theorem climb_reach (O : c.Ok) (h : m_climbs c = true) (r : Reach c s) : Climb c s := by
  obtain ⟨hp, hg, hk⟩ := climbs_of O h
  refine reach_ind (Q := Climb c) O ⟨fun _ => .inl ⟨rfl, rfl⟩, fun o m => (by cases m)⟩ (fun s l q => ⟨q.mark, q.wr⟩) (fun s _ ce q => ?_) (fun s _ q => ⟨q.mark, q.wr⟩) (fun s w _ q hw => ?_) (fun s k o w W q eo a _ => op_climb O hp hg W q eo a) r
  · unfold canEvict at ce
    rw [hk] at ce
    exact absurd (Bool.and_eq_true _ _ |>.mp ce).1 (by decide +kernel)
  · rw [pre_new]
    refine q.keep q.mark (CM.of rfl) fun u hu => ?_
    rcases List.mem_append.mp hu with z | z
    · exact .inl ⟨u, z, rfl, rfl, id⟩
    · refine .inr (.inr (.inl ?_))
      rw [List.mem_singleton.mp z]
      exact (new_next (s := s) (s' := s) O hw).1
/-- at rest nothing is left behind -/
theorem keep_rest_climbs (O : c.Ok) (h : m_climbs c = true) (hf : m_finishes c = true) (r : Reach c s) : brokenH c s .rest = false := by
  have C := climb_reach O h r
  have V := r.vi O
  unfold brokenH atRestH
  cases hg : (going s).isEmpty with
  | false => rfl
  | true =>
    show (true && behindH s) = false
    rw [Bool.true_and]
    unfold behindH
    cases hc : s.cache with
    | none => rfl
    | some x =>
      refine decide_eq_false fun lt => ?_
      obtain ⟨w, mw, kd, hv⟩ := V.has s.db (by omega) (Nat.le_refl _)
      have ended : w.stage = "ended" := by
        have ng : w ∉ going s := by
          rw [List.isEmpty_iff.mp hg]
          exact List.not_mem_nil
        by_cases z : w.stage = "ended"
        · exact z
        · exfalso
          refine ng (List.mem_filter.mpr ⟨mw, ?_⟩)
          unfold endedB
          rw [decide_eq_false z, decide_eq_false (stop_free O (finish_ne hf) r w mw)]
          rfl
      obtain ⟨y, hy, le⟩ := C.wr w mw kd ended s.db hv
      rw [hc] at hy
      cases hy
      omega
end
end Ca

set_option Elab.async false
set_option linter.all false
set_option maxRecDepth 100000
set_option maxHeartbeats 4000000
namespace Ca
open PySem L2
/-! ### what holds is kept: a path that ends by emptying the cache -/
section
variable {c : Conf} {s s' : HS} {k : Nat} {o : OpS} {w : Str}
/-- the operations behind a write's step -/
theorem writeH_mem (hk : k < s.ops.length) : ∀ u ∈ (writeH c s k o w).ops, (∃ o0 ∈ s.ops, o0.kind = u.kind ∧ o0.version = u.version ∧ o0.stage = u.stage ∧ u.clean = (if w = "store" then o0.clean else false)) ∨
    (u.kind = o.kind ∧ u.version = (wo1 s o w).version ∧ ((o.step + 1 = c.steps.length ∧ u.stage = "ended") ∨ (¬ o.step + 1 = c.steps.length ∧ u.stage = c.steps.getD (o.step + 1) ""))) := fun u hu => by
  have ops3 : (wr3 c (wr2 c (wr1 s k o w) (wo1 s o w) w) (wo1 s o w) w).ops = (if w = "store" then s.ops.set k { o with version := some (s.db + 1) } else s.ops.map cf) := by rw [wr3_ops.1, wr2_ops.1, wr1_ops.1]
  have kd1 : (wo1 s o w).kind = o.kind := by
    unfold wo1
    split <;> rfl
  have sp1 : (wo1 s o w).step = o.step := by
    unfold wo1
    split <;> rfl
  have old : ∀ {o2 : OpS}, u ∈ (wr3 c (wr2 c (wr1 s k o w) (wo1 s o w) w) (wo1 s o w) w).ops.set k o2 → (∃ o0 ∈ s.ops, o0.kind = u.kind ∧ o0.version = u.version ∧ o0.stage = u.stage ∧ u.clean = (if w = "store" then o0.clean else false)) ∨ u = o2 := fun {o2} h => by
    rw [ops3] at h
    by_cases hw : w = "store"
    · rw [if_pos hw, set_set'] at h
      rcases List.mem_or_eq_of_mem_set h with z | z
      · exact .inl ⟨u, z, rfl, rfl, rfl, by rw [if_pos hw]⟩
      · exact .inr z
    · rw [if_neg hw] at h
      rcases List.mem_or_eq_of_mem_set h with z | z
      · obtain ⟨y, hy, rfl⟩ := List.mem_map.mp z
        exact .inl ⟨y, hy, rfl, rfl, rfl, by rw [if_neg hw]; rfl⟩
      · exact .inr z
  unfold writeH wr4 at hu
  by_cases e : (wo1 s o w).step + 1 = c.steps.length
  · rw [if_pos e, end_ops] at hu
    have hu : u ∈ ((wr3 c (wr2 c (wr1 s k o w) (wo1 s o w) w) (wo1 s o w) w).ops.set k _).set k _ := hu
    rw [set_set'] at hu
    rcases old hu with z | z
    · exact .inl z
    · refine .inr ?_
      rw [z]
      exact ⟨kd1, rfl, .inl ⟨by rw [← sp1]; exact e, rfl⟩⟩
  · rw [if_neg e] at hu
    rcases old hu with z | z
    · exact .inl z
    · refine .inr ?_
      rw [z]
      exact ⟨kd1, rfl, .inr ⟨by rw [← sp1]; exact e, by rw [sp1]⟩⟩
theorem writeH_cache : (writeH c s k o w).cache = (wr3 c (wr2 c (wr1 s k o w) (wo1 s o w) w) (wo1 s o w) w).cache ∧ (writeH c s k o w).mark = (wr3 c (wr2 c (wr1 s k o w) (wo1 s o w) w) (wo1 s o w) w).mark := by
  unfold writeH wr4
  split
  · rw [so_end_cache, so_end_mark]
    exact ⟨rfl, rfl⟩
  · exact ⟨rfl, rfl⟩
theorem wr1_cache : (wr1 s k o w).cache = s.cache ∧ (wr1 s k o w).mark = s.mark := by
  unfold wr1
  split <;> exact ⟨rfl, rfl⟩
/-- the operations behind a read's step -/
theorem readH_mem : ∀ u ∈ (readH c s k o w).ops, u ∈ s.ops ∨ u.kind = o.kind := fun u hu => by
  have one : ∀ {o2 : OpS}, o2.kind = o.kind → u ∈ s.ops.set k o2 → u ∈ s.ops ∨ u.kind = o.kind := fun {o2} e h => by
    rcases List.mem_or_eq_of_mem_set h with z | z
    · exact .inl z
    · rw [z]; exact .inr e
  have two : ∀ {o2 : OpS} {st : Str}, u ∈ (endH (s.put k o2) k o2 st).ops → o2.kind = o.kind → u ∈ s.ops ∨ u.kind = o.kind := fun {o2 st} h e => by
    rw [end_ops] at h
    have h : u ∈ (s.ops.set k o2).set k _ := h
    rw [set_set'] at h
    exact one (o2 := { o2 with stage := st, over := some (s.put k o2).past.length }) e h
  unfold readH at hu
  by_cases c1 : w = "look" ∧ s.cache.isSome
  · rw [if_pos c1] at hu; exact two hu rfl
  rw [if_neg c1] at hu
  by_cases c2 : w = "look" ∧ s.opn.isSome
  · rw [if_pos c2] at hu; exact one (o2 := { o with stage := "waits", leader := s.opn }) rfl hu
  rw [if_neg c2] at hu
  by_cases c3 : w = "look"
  · rw [if_pos c3] at hu; exact one (o2 := { o with stage := "fetch" }) rfl hu
  rw [if_neg c3] at hu
  by_cases c4 : w = "fetch"
  · rw [if_pos c4] at hu
    by_cases g : c.guard = "never"
    · rw [if_pos g] at hu; exact two hu rfl
    · rw [if_neg g] at hu; exact one (o2 := { o with version := some (if c.source = "replica" then s.rep else s.db), stage := "fill" }) rfl hu
  rw [if_neg c4] at hu
  by_cases c5 : w = "take"
  · rw [if_pos c5] at hu; exact two hu rfl
  rw [if_neg c5, end_ops] at hu
  by_cases b : letsB c s o (o.version.getD 0) = true
  · rw [if_pos b, hold_ops] at hu
    rcases List.mem_or_eq_of_mem_set hu with z | z
    · exact .inl z
    · rw [z]; exact .inr rfl
  · rw [if_neg b] at hu
    rcases List.mem_or_eq_of_mem_set hu with z | z
    · exact .inl z
    · rw [z]; exact .inr rfl
/-- what a read's step does to the cache and the mark -/
theorem readH_cache : ((readH c s k o w).cache = s.cache ∧ (readH c s k o w).mark = s.mark) ∨ (letsB c s o (o.version.getD 0) = true ∧ ¬ w = "look" ∧ ¬ w = "fetch" ∧ ¬ w = "take" ∧ (readH c s k o w).cache = some (o.version.getD 0) ∧ (readH c s k o w).mark = (if c.guard = "mark" then max s.mark (o.version.getD 0) else s.mark)) := by
  unfold readH
  by_cases c1 : w = "look" ∧ s.cache.isSome
  · rw [if_pos c1]
    exact .inl ⟨so_end_cache, so_end_mark⟩
  rw [if_neg c1]
  by_cases c2 : w = "look" ∧ s.opn.isSome
  · rw [if_pos c2]
    exact .inl ⟨rfl, rfl⟩
  rw [if_neg c2]
  by_cases c3 : w = "look"
  · rw [if_pos c3]
    exact .inl ⟨rfl, rfl⟩
  rw [if_neg c3]
  by_cases c4 : w = "fetch"
  · rw [if_pos c4]
    split
    · exact .inl ⟨so_end_cache, so_end_mark⟩
    · exact .inl ⟨rfl, rfl⟩
  rw [if_neg c4]
  by_cases c5 : w = "take"
  · rw [if_pos c5]
    exact .inl ⟨so_end_cache, so_end_mark⟩
  rw [if_neg c5]
  by_cases b : letsB c s o (o.version.getD 0) = true
  · rw [if_pos b]
    refine .inr ⟨b, c3, c4, c5, ?_, ?_⟩
    · rw [so_end_cache]
      unfold holdH
      split <;> rfl
    · rw [so_end_mark]
      unfold holdH
      split <;> rfl
  · rw [if_neg b]
    exact .inl ⟨so_end_cache, so_end_mark⟩
end
end Ca

set_option Elab.async false
set_option linter.all false
set_option maxRecDepth 100000
set_option maxHeartbeats 4000000
namespace Ca
open PySem L2
/-! ### what holds is kept: guards at rest -/
section
variable {c : Conf} {s s' : HS} {k : Nat} {o : OpS} {w : Str}
theorem drop_path (O : c.Ok) (h : Txt.endswith c.path "drop" = true) : c.steps = ([("store" : Str), "drop"] : List Str) ∨ c.steps = ([("drop" : Str), "store", "drop"] : List Str) := by
  have hp := O.p
  unfold Conf.steps
  simp only [pathsL, List.mem_cons, List.not_mem_nil, or_false] at hp
  rcases hp with e | e | e | e | e <;> rw [e] at h ⊢
  · exact absurd h (by decide +kernel)
  · exact .inr (by decide +kernel)
  · exact absurd h (by decide +kernel)
  · exact .inl (by decide +kernel)
  · exact absurd h (by decide +kernel)
theorem last_drop (O : c.Ok) (h : Txt.endswith c.path "drop" = true) {st : Nat} (lt : st < c.steps.length) :
    ¬ c.steps.getD st "" = "set" ∧ (st + 1 = c.steps.length → c.steps.getD st "" = "drop" ∧ ∃ j, j < st ∧ c.steps.getD j "" = "store") := by
  rcases drop_path O h with e | e <;> rw [e] at lt ⊢
  · have lt : st < 2 := lt
    have : st = 0 ∨ st = 1 := by omega
    rcases this with z | z <;> subst z
    · exact ⟨by decide +kernel, fun z => absurd z (by decide)⟩
    · exact ⟨by decide +kernel, fun _ => ⟨by decide +kernel, 0, by decide, by decide +kernel⟩⟩
  · have lt : st < 3 := lt
    have : st = 0 ∨ st = 1 ∨ st = 2 := by omega
    rcases this with z | z | z <;> subst z
    · exact ⟨by decide +kernel, fun z => absurd z (by decide)⟩
    · exact ⟨by decide +kernel, fun z => absurd z (by decide)⟩
    · exact ⟨by decide +kernel, fun _ => ⟨by decide +kernel, 1, by decide, by decide +kernel⟩⟩
/-- a write's step, what it is -/
theorem write_word (O : c.Ok) (W : Wf c s) (eo : s.ops[k]? = some o) (a : Ahead s o w) (ns : ¬ w = "stop") (kd : o.kind = "write") : o.step < c.steps.length ∧ w = c.steps.getD o.step "" := by
  have p := W.ops k o eo
  obtain ⟨h1, h2, h3⟩ := a.resolve_left ns
  obtain ⟨lt, es, _⟩ := p.wr kd h1 h2
  have nw : ¬ o.stage = "waits" := by
    rw [es]
    rcases step_word O lt with z | z | z <;> rw [z] <;> decide +kernel
  exact ⟨lt, (ahead_stage h3 nw).symm.trans es⟩
/-- guarded by the mark -/
structure GA (s : HS) : Prop where
  lo : ∀ x, s.cache = some x → s.mark ≤ x
  wr : ∀ o ∈ s.ops, o.kind = "write" → o.stage = "ended" → ∀ v, o.version = some v → v ≤ s.mark
theorem GA.keep (h : GA s) (lo : ∀ x, s'.cache = some x → s'.mark ≤ x) (mm : s.mark ≤ s'.mark) (ops : ∀ u ∈ s'.ops, (∃ o ∈ s.ops, o.kind = u.kind ∧ o.version = u.version ∧ (u.stage = "ended" → o.stage = "ended")) ∨ ¬ u.kind = "write" ∨ ¬ u.stage = "ended" ∨ ∀ v, u.version = some v → v ≤ s'.mark) : GA s' := by
  refine ⟨lo, fun u hu kd st v hv => ?_⟩
  rcases ops u hu with ⟨o, m1, e1, e2, e3⟩ | z | z | z
  · exact Nat.le_trans (h.wr o m1 (e1.trans kd) (e3 st) v (e2.trans hv)) mm
  · exact absurd kd z
  · exact absurd st z
  · exact z v hv
theorem op_GA (O : c.Ok) (hp : Txt.endswith c.path "drop" = true) (hg : c.guard = "mark") (W : Wf c s) (h : GA s) (eo : s.ops[k]? = some o) (a : Ahead s o w) : GA (doOp c s k o w) := by
  have hk := (List.getElem?_eq_some_iff.mp eo).1
  have mo := List.mem_of_getElem? eo
  unfold doOp
  by_cases fin : w = "stop"
  · rw [if_pos fin]
    refine h.keep (fun x hx => ?_) (Nat.le_of_eq so_end_mark.symm) fun u hu => ?_
    · rw [so_end_cache] at hx
      rw [so_end_mark]
      exact h.lo x hx
    · rw [end_ops] at hu
      rcases List.mem_or_eq_of_mem_set hu with z | z
      · exact .inl ⟨u, z, rfl, rfl, id⟩
      · refine .inr (.inr (.inl ?_))
        rw [z]
        show ¬ ("stopped" : Str) = "ended"
        decide +kernel
  rw [if_neg fin]
  by_cases kd : o.kind = "write"
  · rw [if_pos kd]
    obtain ⟨lt, ew⟩ := write_word O W eo a fin kd
    obtain ⟨nset, last⟩ := last_drop O hp lt
    rw [← ew] at nset last
    have eff : (w = "drop" ∧ (writeH c s k o w).cache = none ∧ (writeH c s k o w).mark = (if o.version.isSome then max s.mark (o.version.getD 0) else s.mark)) ∨ (¬ w = "drop" ∧ (writeH c s k o w).cache = s.cache ∧ (writeH c s k o w).mark = s.mark) := by
      rw [writeH_cache.1, writeH_cache.2]
      unfold wr3
      rw [if_neg nset]
      unfold wr2
      by_cases d : w = "drop"
      · have n2 : ¬ w = "store" := by rw [d]; decide +kernel
        have v1 : (wo1 s o w).version = o.version := by
          unfold wo1
          rw [if_neg n2]
          rfl
        rw [if_pos d, v1]
        refine .inl ⟨d, ?_, ?_⟩
        · split <;> rfl
        · cases hv : o.version with
          | none =>
            rw [if_neg (fun z => by cases z.2)]
            exact wr1_cache.2
          | some v =>
            rw [if_pos ⟨hg, rfl⟩]
            show max (wr1 s k o w).mark _ = _
            rw [wr1_cache.2]
            rfl
      · rw [if_neg d]
        exact .inr ⟨d, wr1_cache.1, wr1_cache.2⟩
    rcases eff with ⟨d, e1, e2⟩ | ⟨d, e1, e2⟩
    · have n2 : ¬ w = "store" := by rw [d]; decide +kernel
      have v1 : (wo1 s o w).version = o.version := by
        unfold wo1
        rw [if_neg n2]
        rfl
      refine h.keep (fun x hx => by rw [e1] at hx; cases hx) (by rw [e2]; split; exact Nat.le_max_left ..; exact Nat.le_refl _) fun u hu => ?_
      rcases writeH_mem hk u hu with ⟨o0, m0, z1, z2, z3, _⟩ | ⟨z1, z2, z3⟩
      · exact .inl ⟨o0, m0, z1, z2, fun y => z3.trans y⟩
      · refine .inr (.inr (.inr fun v hv => ?_))
        rw [z2, v1] at hv
        rw [e2, hv, if_pos (show (some v).isSome = true from rfl)]
        exact Nat.le_max_right ..
    · refine h.keep (fun x hx => by rw [e1] at hx; rw [e2]; exact h.lo x hx) (Nat.le_of_eq e2.symm) fun u hu => ?_
      rcases writeH_mem hk u hu with ⟨o0, m0, z1, z2, z3, _⟩ | ⟨z1, z2, z3⟩
      · exact .inl ⟨o0, m0, z1, z2, fun y => z3.trans y⟩
      · refine .inr (.inr (.inl ?_))
        rcases z3 with ⟨l, y⟩ | ⟨l, y⟩
        · exact absurd (last l).1 d
        · rw [y]
          by_cases lt2 : o.step + 1 < c.steps.length
          · rcases step_word O lt2 with q | q | q <;> rw [q] <;> decide +kernel
          · rw [List.getD_eq_getElem?_getD, List.getElem?_eq_none (by omega)]
            show ¬ ("" : Str) = "ended"
            decide +kernel
  · rw [if_neg kd]
    have ops : ∀ u ∈ (readH c s k o w).ops, (∃ o ∈ s.ops, o.kind = u.kind ∧ o.version = u.version ∧ (u.stage = "ended" → o.stage = "ended")) ∨ ¬ u.kind = "write" := fun u hu => by
      rcases readH_mem u hu with z | z
      · exact .inl ⟨u, z, rfl, rfl, id⟩
      · exact .inr (by rw [z]; exact kd)
    rcases readH_cache (c := c) (s := s) (k := k) (o := o) (w := w) with ⟨e1, e2⟩ | ⟨b, _, _, _, e1, e2⟩
    · exact h.keep (fun x hx => by rw [e1] at hx; rw [e2]; exact h.lo x hx) (Nat.le_of_eq e2.symm) fun u hu => by
        rcases ops u hu with z | z
        · exact .inl z
        · exact .inr (.inl z)
    · rw [if_pos hg] at e2
      have le : s.mark ≤ o.version.getD 0 := by
        unfold letsB at b
        rw [if_neg (by rw [hg]; decide +kernel), if_pos hg] at b
        exact of_decide_eq_true b
      rw [Nat.max_eq_right le] at e2
      refine h.keep (fun x hx => by rw [e1] at hx; rw [e2, Option.some.inj hx]; exact Nat.le_refl _) (by rw [e2]; exact le) fun u hu => ?_
      rcases ops u hu with z | z
      · exact .inl z
      · exact .inr (.inl z)
theorem GA_reach (O : c.Ok) (hp : Txt.endswith c.path "drop" = true) (hg : c.guard = "mark") (he : c.evict = "keeps") (r : Reach c s) : GA s := by
  refine reach_ind (Q := GA) O ⟨fun x h => (by cases h), fun o h => (by cases h)⟩ (fun s l q => ⟨q.lo, q.wr⟩) (fun s _ ce q => ?_) (fun s _ q => ⟨q.lo, q.wr⟩) (fun s w _ q hw => ?_) (fun s k o w W q eo a _ => op_GA O hp hg W q eo a) r
  · unfold canEvict at ce
    rw [he] at ce
    exact absurd (Bool.and_eq_true _ _ |>.mp ce).1 (by decide +kernel)
  · rw [pre_new]
    refine q.keep q.lo (Nat.le_refl _) fun u hu => ?_
    rcases List.mem_append.mp hu with z | z
    · exact .inl ⟨u, z, rfl, rfl, id⟩
    · refine .inr (.inr (.inl ?_))
      rw [List.mem_singleton.mp z]
      exact (new_next (s := s) (s' := s) O hw).1
/-- at rest each write has ended -/
theorem rest_ended (hf : m_finishes c = true) (O : c.Ok) (r : Reach c s) (hg : (going s).isEmpty = true) : ∀ w ∈ s.ops, w.stage = "ended" := fun w mw => by
  have ng : w ∉ going s := by
    rw [List.isEmpty_iff.mp hg]
    exact List.not_mem_nil
  by_cases z : w.stage = "ended"
  · exact z
  · exfalso
    refine ng (List.mem_filter.mpr ⟨mw, ?_⟩)
    unfold endedB
    rw [decide_eq_false z, decide_eq_false (stop_free O (finish_ne hf) r w mw)]
    rfl
theorem keep_rest_mark (O : c.Ok) (hp : Txt.endswith c.path "drop" = true) (hg : c.guard = "mark") (he : c.evict = "keeps") (hf : m_finishes c = true) (r : Reach c s) : brokenH c s .rest = false := by
  have G := GA_reach O hp hg he r
  have V := r.vi O
  unfold brokenH atRestH
  cases hr : (going s).isEmpty with
  | false => rfl
  | true =>
    show (true && behindH s) = false
    rw [Bool.true_and]
    unfold behindH
    cases hc : s.cache with
    | none => rfl
    | some x =>
      refine decide_eq_false fun lt => ?_
      obtain ⟨w, mw, kd, hv⟩ := V.has s.db (by omega) (Nat.le_refl _)
      have z1 := G.wr w mw kd (rest_ended hf O r hr w mw) s.db hv
      have z2 := G.lo x hc
      omega
end
end Ca

set_option Elab.async false
set_option linter.all false
set_option maxRecDepth 100000
set_option maxHeartbeats 4000000
namespace Ca
open PySem L2
/-! ### what holds is kept: tokens at rest -/
section
variable {c : Conf} {s s' : HS} {k : Nat} {o : OpS} {w : Str}
theorem so_end_db {st : Str} : (endH s k o st).db = s.db := by
  simp only [endH]
  split <;> rfl
theorem so_hold_db {v : Nat} : (holdH c s v).db = s.db := by
  unfold holdH
  split <;> rfl
theorem writeH_db : (writeH c s k o w).db = if w = "store" then s.db + 1 else s.db := by
  have e1 : (wr1 s k o w).db = if w = "store" then s.db + 1 else s.db := by
    unfold wr1
    split <;> rfl
  have e2 : (wr2 c (wr1 s k o w) (wo1 s o w) w).db = (wr1 s k o w).db := by
    unfold wr2
    split
    · split <;> rfl
    · rfl
  have e3 : (wr3 c (wr2 c (wr1 s k o w) (wo1 s o w) w) (wo1 s o w) w).db = (wr1 s k o w).db := by
    unfold wr3
    split
    · split
      · rw [so_hold_db, e2]
      · exact e2
    · exact e2
  unfold writeH wr4
  split
  · rw [so_end_db]
    show (wr3 c (wr2 c (wr1 s k o w) (wo1 s o w) w) (wo1 s o w) w).db = _
    rw [e3, e1]
  · show (wr3 c (wr2 c (wr1 s k o w) (wo1 s o w) w) (wo1 s o w) w).db = _
    rw [e3, e1]
theorem readH_db : (readH c s k o w).db = s.db := by
  unfold readH
  split
  · rw [so_end_db]; rfl
  split
  · rfl
  split
  · rfl
  split
  · split
    · rw [so_end_db]; rfl
    · rfl
  split
  · rw [so_end_db]; rfl
  · rw [so_end_db]
    split
    · exact so_hold_db
    · rfl
/-- the operations behind a read's step; what fills has just been fetched -/
theorem readH_fill : ∀ u ∈ (readH c s k o w).ops, u ∈ s.ops ∨ (u.kind = o.kind ∧ (u.stage = "fill" → u.version = some (if c.source = "replica" then s.rep else s.db))) := fun u hu => by
  have one : ∀ {o2 : OpS}, u ∈ s.ops.set k o2 → o2.kind = o.kind → (o2.stage = "fill" → o2.version = some (if c.source = "replica" then s.rep else s.db)) → u ∈ s.ops ∨ (u.kind = o.kind ∧ (u.stage = "fill" → u.version = some (if c.source = "replica" then s.rep else s.db))) := fun {o2} h e f => by
    rcases List.mem_or_eq_of_mem_set h with z | z
    · exact .inl z
    · rw [z]; exact .inr ⟨e, f⟩
  have ne : ¬ ("ended" : Str) = "fill" := by decide +kernel
  have two : ∀ {o2 : OpS}, u ∈ (endH (s.put k o2) k o2 "ended").ops → o2.kind = o.kind → u ∈ s.ops ∨ (u.kind = o.kind ∧ (u.stage = "fill" → u.version = some (if c.source = "replica" then s.rep else s.db))) := fun {o2} h e => by
    rw [end_ops] at h
    have h : u ∈ (s.ops.set k o2).set k _ := h
    rw [set_set'] at h
    exact one (o2 := { o2 with stage := "ended", over := some (s.put k o2).past.length }) h e fun z => absurd z ne
  unfold readH at hu
  by_cases c1 : w = "look" ∧ s.cache.isSome
  · rw [if_pos c1] at hu; exact two hu rfl
  rw [if_neg c1] at hu
  by_cases c2 : w = "look" ∧ s.opn.isSome
  · rw [if_pos c2] at hu; exact one (o2 := { o with stage := "waits", leader := s.opn }) hu rfl fun z => absurd z (show ¬ ("waits" : Str) = "fill" by decide +kernel)
  rw [if_neg c2] at hu
  by_cases c3 : w = "look"
  · rw [if_pos c3] at hu; exact one (o2 := { o with stage := "fetch" }) hu rfl fun z => absurd z (show ¬ ("fetch" : Str) = "fill" by decide +kernel)
  rw [if_neg c3] at hu
  by_cases c4 : w = "fetch"
  · rw [if_pos c4] at hu
    by_cases g : c.guard = "never"
    · rw [if_pos g] at hu; exact two hu rfl
    · rw [if_neg g] at hu; exact one (o2 := { o with version := some (if c.source = "replica" then s.rep else s.db), stage := "fill" }) hu rfl fun _ => rfl
  rw [if_neg c4] at hu
  by_cases c5 : w = "take"
  · rw [if_pos c5] at hu; exact two hu rfl
  rw [if_neg c5, end_ops] at hu
  by_cases b : letsB c s o (o.version.getD 0) = true
  · rw [if_pos b, hold_ops] at hu
    rcases List.mem_or_eq_of_mem_set hu with z | z
    · exact .inl z
    · rw [z]; exact .inr ⟨rfl, fun y => absurd y ne⟩
  · rw [if_neg b] at hu
    rcases List.mem_or_eq_of_mem_set hu with z | z
    · exact .inl z
    · rw [z]; exact .inr ⟨rfl, fun y => absurd y ne⟩
/-- no ended write is newer -/
def EW (s : HS) (v : Nat) : Prop := ∀ w ∈ s.ops, w.kind = "write" → w.stage = "ended" → ∀ u, w.version = some u → u ≤ v
structure GT (s : HS) : Prop where
  le : ∀ w ∈ s.ops, w.kind = "write" → ∀ u, w.version = some u → u ≤ s.db
  fl : ∀ o ∈ s.ops, o.kind = "read" → o.stage = "fill" → o.clean = true → ∀ v, o.version = some v → EW s v
  ca : ∀ x, s.cache = some x → EW s x
theorem op_GT (O : c.Ok) (hp : Txt.endswith c.path "drop" = true) (hg : c.guard = "token") (hs : ¬ c.source = "replica") (W : Wf c s) (h : GT s) (eo : s.ops[k]? = some o) (a : Ahead s o w) : GT (doOp c s k o w) := by
  have hk := (List.getElem?_eq_some_iff.mp eo).1
  have mo := List.mem_of_getElem? eo
  have p := W.ops k o eo
  have rw_ : ¬ ("read" : Str) = "write" := by decide +kernel
  unfold doOp
  by_cases fin : w = "stop"
  · rw [if_pos fin]
    have ne : ¬ ("stopped" : Str) = "ended" ∧ ¬ ("stopped" : Str) = "fill" := by decide +kernel
    have ew : ∀ v, EW s v → EW (endH s k o "stopped") v := fun v e u hu kd st x hx => by
      rw [end_ops] at hu
      rcases List.mem_or_eq_of_mem_set hu with z | z
      · exact e u z kd st x hx
      · rw [z] at st; exact absurd st ne.1
    refine ⟨fun u hu kd x hx => ?_, fun u hu kd st cl v hv => ?_, fun x hx => ?_⟩
    · rw [so_end_db]
      rw [end_ops] at hu
      rcases List.mem_or_eq_of_mem_set hu with z | z
      · exact h.le u z kd x hx
      · rw [z] at kd hx
        exact h.le o mo kd x hx
    · rw [end_ops] at hu
      rcases List.mem_or_eq_of_mem_set hu with z | z
      · exact ew v (h.fl u z kd st cl v hv)
      · rw [z] at st; exact absurd st ne.2
    · rw [so_end_cache] at hx
      exact ew x (h.ca x hx)
  rw [if_neg fin]
  by_cases kd : o.kind = "write"
  · rw [if_pos kd]
    obtain ⟨lt, ewd⟩ := write_word O W eo a fin kd
    obtain ⟨nset, last⟩ := last_drop O hp lt
    rw [← ewd] at nset last
    have le : ∀ u ∈ (writeH c s k o w).ops, u.kind = "write" → ∀ x, u.version = some x → x ≤ (writeH c s k o w).db := fun u hu kd2 x hx => by
      have dbm : s.db ≤ (writeH c s k o w).db := by
        rw [writeH_db]
        split <;> omega
      rcases writeH_mem hk u hu with ⟨o0, m0, z1, z2, _⟩ | ⟨z1, z2, _⟩
      · exact Nat.le_trans (h.le o0 m0 (z1.trans kd2) x (z2.trans hx)) dbm
      · rw [z2] at hx
        unfold wo1 at hx
        by_cases e : w = "store"
        · rw [if_pos e] at hx
          rw [writeH_db, if_pos e]
          exact Nat.le_of_eq (Option.some.inj hx).symm
        · rw [if_neg e] at hx
          exact Nat.le_trans (h.le o mo kd x hx) dbm
    have cache : (writeH c s k o w).cache = if w = "drop" then none else s.cache := by
      rw [writeH_cache.1]
      unfold wr3
      rw [if_neg nset]
      unfold wr2
      split
      · split <;> rfl
      · exact wr1_cache.1
    by_cases d : w = "drop"
    · have n2 : ¬ w = "store" := by rw [d]; decide +kernel
      refine ⟨le, fun u hu kr st cl v hv => ?_, fun x hx => ?_⟩
      · rcases writeH_mem hk u hu with ⟨o0, m0, z1, z2, z3, z4⟩ | ⟨z1, _⟩
        · rw [if_neg n2, cl] at z4
          cases z4
        · rw [z1, kd] at kr
          exact absurd kr.symm rw_
      · rw [cache, if_pos d] at hx
        cases hx
    · have nl : ¬ o.step + 1 = c.steps.length := fun z => d (last z).1
      have ew : ∀ v, EW s v → EW (writeH c s k o w) v := fun v e u hu kd2 st x hx => by
        rcases writeH_mem hk u hu with ⟨o0, m0, z1, z2, z3, _⟩ | ⟨_, _, ⟨z, _⟩ | ⟨_, z⟩⟩
        · exact e o0 m0 (z1.trans kd2) (z3.trans st) x (z2.trans hx)
        · exact absurd z nl
        · rw [z] at st
          exfalso
          rcases step_word O (show o.step + 1 < c.steps.length by omega) with q | q | q <;> rw [q] at st <;> exact absurd st (by decide +kernel)
      have isS : w = "store" := by
        have z := step_word O lt
        rw [← ewd] at z
        rcases z with z | z | z
        · exact absurd z d
        · exact z
        · exact absurd z nset
      refine ⟨le, fun u hu kr st cl v hv => ?_, fun x hx => ?_⟩
      · rcases writeH_mem hk u hu with ⟨o0, m0, z1, z2, z3, z4⟩ | ⟨z1, _⟩
        · rw [if_pos isS] at z4
          exact ew v (h.fl o0 m0 (z1.trans kr) (z3.trans st) (z4.symm.trans cl) v (z2.trans hv))
        · rw [z1, kd] at kr
          exact absurd kr.symm rw_
      · rw [cache, if_neg d] at hx
        exact ew x (h.ca x hx)
  · rw [if_neg kd]
    have kr : o.kind = "read" := p.kd.resolve_right kd
    have ew : ∀ v, EW s v → EW (readH c s k o w) v := fun v e u hu kd2 st x hx => by
      rcases readH_mem u hu with z | z
      · exact e u z kd2 st x hx
      · rw [z] at kd2; exact absurd kd2 kd
    refine ⟨fun u hu kd2 x hx => ?_, fun u hu kr2 st cl v hv => ?_, fun x hx => ?_⟩
    · rw [readH_db]
      rcases readH_mem u hu with z | z
      · exact h.le u z kd2 x hx
      · rw [z] at kd2; exact absurd kd2 kd
    · rcases readH_fill u hu with z | ⟨_, z⟩
      · exact ew v (h.fl u z kr2 st cl v hv)
      · have := z st
        rw [if_neg hs, hv] at this
        rw [Option.some.inj this]
        exact ew _ fun w mw kw _ x hx => h.le w mw kw x hx
    · rcases readH_cache (c := c) (s := s) (k := k) (o := o) (w := w) with ⟨e1, _⟩ | ⟨b, n1, n2, n3, e1, _⟩
      · rw [e1] at hx
        exact ew x (h.ca x hx)
      · rw [e1] at hx
        have st := (so_step_fill O W eo a fin kd n1 n2 n3).1
        have cl : o.clean = true := by
          unfold letsB at b
          rw [if_pos hg] at b
          exact b
        obtain ⟨v, hv⟩ : ∃ v, o.version = some v := by
          rcases p.rd kr with z | z | z | z | z | z
          · rw [st] at z; exact absurd z (by decide +kernel)
          · rw [st] at z; exact absurd z (by decide +kernel)
          · exact Option.isSome_iff_exists.mp z.2
          · rw [st] at z; exact absurd z.1 (by decide +kernel)
          · rw [st] at z; exact absurd z (by decide +kernel)
          · rw [st] at z; exact absurd z (by decide +kernel)
        rw [hv] at hx
        rw [← Option.some.inj hx]
        exact ew v (h.fl o mo kr st cl v hv)
theorem GT_reach (O : c.Ok) (hp : Txt.endswith c.path "drop" = true) (hg : c.guard = "token") (hs : ¬ c.source = "replica") (r : Reach c s) : GT s := by
  refine reach_ind (Q := GT) O ⟨fun w m => (by cases m), fun o m => (by cases m), fun x h => (by cases h)⟩ (fun s l q => ⟨q.le, q.fl, q.ca⟩) (fun s _ _ q => ⟨q.le, q.fl, fun x h => (by cases h)⟩) (fun s _ q => ⟨q.le, q.fl, q.ca⟩) (fun s w _ q hw => ?_) (fun s k o w W q eo a _ => op_GT O hp hg hs W q eo a) r
  rw [pre_new]
  have nx := new_next (s := s) (s' := s) O hw
  have nf : ¬ w = "fill" := by
    rcases hw with y | y
    · rw [y]; decide +kernel
    · have z : firstW c = "drop" ∨ firstW c = "store" := O.path.fst
      rw [y]
      rcases z with z | z <;> rw [z] <;> decide +kernel
  have ew : ∀ v, EW s v → EW { s with ops := s.ops ++ [newOp s w] } v := fun v e u hu kd st x hx => by
    rcases List.mem_append.mp hu with z | z
    · exact e u z kd st x hx
    · rw [List.mem_singleton.mp z] at st
      exact absurd st nx.1
  refine ⟨fun u hu kd x hx => ?_, fun u hu kd st cl v hv => ?_, fun x hx => ew x (q.ca x hx)⟩
  · rcases List.mem_append.mp hu with z | z
    · exact q.le u z kd x hx
    · rw [List.mem_singleton.mp z] at hx
      cases hx
  · rcases List.mem_append.mp hu with z | z
    · exact ew v (q.fl u z kd st cl v hv)
    · rw [List.mem_singleton.mp z] at st
      exact absurd st nf
theorem keep_rest_token (O : c.Ok) (hp : Txt.endswith c.path "drop" = true) (hg : c.guard = "token") (hs : ¬ c.source = "replica") (hf : m_finishes c = true) (r : Reach c s) : brokenH c s .rest = false := by
  have G := GT_reach O hp hg hs r
  have V := r.vi O
  unfold brokenH atRestH
  cases hr : (going s).isEmpty with
  | false => rfl
  | true =>
    show (true && behindH s) = false
    rw [Bool.true_and]
    unfold behindH
    cases hc : s.cache with
    | none => rfl
    | some x =>
      refine decide_eq_false fun lt => ?_
      obtain ⟨w, mw, kd, hv⟩ := V.has s.db (by omega) (Nat.le_refl _)
      have z1 := G.ca x hc w mw kd (rest_ended hf O r hr w mw) s.db hv
      omega
/-- rest: what holds is kept -/
theorem keep_rest (O : c.Ok) (h : progH c .rest = true) (r : Reach c s) : brokenH c s .rest = false := by
  have h : m_holds_rest c = true := h
  unfold m_holds_rest at h
  cases hb : m_passes_by c with
  | true => exact keep_rest_passes O hb r
  | false =>
    rw [hb] at h
    obtain ⟨hf, h⟩ := Bool.and_eq_true _ _ |>.mp (show (m_finishes c && _) = true from h)
    rcases Bool.or_eq_true _ _ |>.mp h with h | h
    · exact keep_rest_climbs O h hf r
    · obtain ⟨h1, h2⟩ := Bool.and_eq_true _ _ |>.mp h
      unfold m_guards at h1
      obtain ⟨hp, h1⟩ := Bool.and_eq_true _ _ |>.mp h1
      rcases Bool.or_eq_true _ _ |>.mp h1 with g | g
      · have g : c.guard = "token" := V.str.inj (of_decide_eq_true g)
        refine keep_rest_token O hp g (fun z => ?_) hf r
        rw [g] at h2
        unfold m_is_primary at h2
        rw [z] at h2
        exact absurd h2 (by decide +kernel)
      · obtain ⟨g, e⟩ := Bool.and_eq_true _ _ |>.mp g
        exact keep_rest_mark O hp (V.str.inj (of_decide_eq_true g)) (V.str.inj (of_decide_eq_true e)) hf r
end
end Ca

set_option Elab.async false
set_option linter.all false
set_option maxRecDepth 100000
set_option maxHeartbeats 4000000
namespace Ca
open PySem L2
/-! ### a read alone at rest -/
section
variable {c : Conf} {s : HS} {k : Nat} {o : OpS} {w : Str}
theorem doH_at (eo : (preH s w k).ops[k]? = some o) : doH c s (w, some (k : Int)) = { doOp c (preH s w k) k o w with past := s.past ++ [(w, some (k : Int))] } := by
  unfold doH
  rw [doE_at eo]
theorem new_at : (preH s w s.ops.length).ops[s.ops.length]? = some (newOp s w) := by
  rw [pre_new]
  show (s.ops ++ [newOp s w])[s.ops.length]? = _
  rw [List.getElem?_append_right (Nat.le_refl _), Nat.sub_self]
  rfl
theorem end_at {st : Str} {u : OpS} (hk : k < s.ops.length) : (endH s k u st).ops[k]? = some { u with stage := st, over := some s.past.length } := by
  rw [end_ops, List.getElem?_set_self hk]
theorem put_at {u : OpS} (hk : k < s.ops.length) : (s.put k u).ops[k]? = some u := List.getElem?_set_self hk
/-- an operation that has ended has no step left -/
theorem alone_end {n i : Nat} {s : HS} (eo : s.ops[n]? = some o) (h : o.stage = "ended") : ∀ j, iterA c n j s = s
  | 0 => rfl
  | j + 1 => by
    show stepA c n (iterA c n j s) = s
    rw [alone_end (i := i) eo h j]
    have : nextA s n = none := by
      unfold nextA
      rw [eo]
      show (if endedB o = true then none else nextOf s o) = none
      rw [if_pos (by unfold endedB; rw [h]; decide +kernel)]
    unfold stepA
    rw [this]
theorem alone_step {n : Nat} {s : HS} (eo : s.ops[n]? = some o) (h1 : endedB o = false) (h2 : ¬ o.stage = "waits") : stepA c n s = { doOp c s n o o.stage with past := s.past ++ [(o.stage, some (n : Int))] } := by
  have : nextA s n = some o.stage := by
    unfold nextA
    rw [eo]
    show (if endedB o = true then none else nextOf s o) = some o.stage
    rw [h1, if_neg Bool.false_ne_true]
    exact if_neg h2
  unfold stepA
  rw [this]
  show doH c s (o.stage, some (n : Int)) = _
  rw [doH_at (by rw [pre_old eo]; exact eo), pre_old eo]
theorem iter_add {n : Nat} {s : HS} : ∀ i j, iterA c n (i + j) s = iterA c n i (iterA c n j s)
  | 0, j => by rw [Nat.zero_add]; rfl
  | i + 1, j => by
    rw [Nat.add_right_comm]
    show stepA c n (iterA c n (i + j) s) = stepA c n (iterA c n i (iterA c n j s))
    rw [iter_add i j]
abbrev lookOp (s : HS) : OpS := newOp s "look"
structure LookAt (s s1 : HS) (o1 : OpS) : Prop where
  at_ : s1.ops[s.ops.length]? = some o1
  cl : o1.clean = true
  kd : o1.kind = "read"
  ca : s1.cache = none
  mrk : s1.mark = s.mark
  db : s1.db = s.db
  rp : s1.rep = s.rep
theorem look_kd : (newOp s "look").kind = "read" := by
  show (if ("look" : Str) = "look" then ("read" : Str) else "write") = "read"
  exact if_pos rfl
theorem len_new : s.ops.length < (s.ops ++ [newOp s w]).length := by
  rw [List.length_append]
  exact Nat.lt_succ_self _
theorem look_first (hc : s.cache = none) (ho : s.opn = none) : LookAt s (firstA c s "look") { newOp s "look" with stage := "fetch" } := by
  unfold firstA
  rw [doH_at new_at, pre_new]
  have n1 : ¬ ("look" : Str) = "stop" := by decide +kernel
  have kd : ¬ (newOp s "look").kind = "write" := by
    rw [look_kd]
    decide +kernel
  unfold doOp
  rw [if_neg n1, if_neg kd]
  unfold readH
  have e1 : ¬ (("look" : Str) = "look" ∧ ({ s with ops := s.ops ++ [newOp s "look"] } : HS).cache.isSome = true) := fun z => by
    have := z.2
    rw [show ({ s with ops := s.ops ++ [newOp s "look"] } : HS).cache = s.cache from rfl, hc] at this
    cases this
  have e2 : ¬ (("look" : Str) = "look" ∧ ({ s with ops := s.ops ++ [newOp s "look"] } : HS).opn.isSome = true) := fun z => by
    have := z.2
    rw [show ({ s with ops := s.ops ++ [newOp s "look"] } : HS).opn = s.opn from rfl, ho] at this
    cases this
  rw [if_neg e1, if_neg e2, if_pos rfl]
  exact ⟨List.getElem?_set_self len_new, rfl, look_kd (s := s), hc, rfl, rfl, rfl⟩
/-- what a read fetches -/
def fetchV (c : Conf) (s : HS) : Nat := if c.source = "replica" then s.rep else s.db
theorem look_fetch {s1 : HS} {o1 : OpS} (hg : ¬ c.guard = "never") (L : LookAt s s1 o1) (st : o1.stage = "fetch") : LookAt s (stepA c s.ops.length s1) { o1 with version := some (fetchV c s), stage := "fill" } := by
  have hk := (List.getElem?_eq_some_iff.mp L.at_).1
  have n1 : ¬ ("fetch" : Str) = "stop" := by decide +kernel
  have n2 : ¬ ("fetch" : Str) = "look" := by decide +kernel
  have kd : ¬ o1.kind = "write" := by rw [L.kd]; decide +kernel
  rw [alone_step L.at_ (by unfold endedB; rw [st]; decide +kernel) (by rw [st]; decide +kernel), st]
  unfold doOp
  rw [if_neg n1, if_neg kd]
  unfold readH
  rw [if_neg (fun z => n2 z.1), if_neg (fun z => n2 z.1), if_neg n2, if_pos rfl, if_neg hg]
  have v : (if c.source = "replica" then s1.rep else s1.db) = fetchV c s := by
    unfold fetchV
    rw [L.rp, L.db]
  rw [v]
  exact ⟨List.getElem?_set_self hk, L.cl, L.kd, L.ca, L.mrk, L.db, L.rp⟩
theorem look_fill {s1 : HS} {o1 : OpS} {v : Nat} (L : LookAt s s1 o1) (st : o1.stage = "fill") (hv : o1.version = some v) (lt : letsB c s1 o1 v = true) : ∃ o2, (stepA c s.ops.length s1).ops[s.ops.length]? = some o2 ∧ o2.stage = "ended" ∧ o2.version = some v ∧ (stepA c s.ops.length s1).cache = some v := by
  have hk := (List.getElem?_eq_some_iff.mp L.at_).1
  have n1 : ¬ ("fill" : Str) = "stop" := by decide +kernel
  have n2 : ¬ ("fill" : Str) = "look" := by decide +kernel
  have n3 : ¬ ("fill" : Str) = "fetch" := by decide +kernel
  have n4 : ¬ ("fill" : Str) = "take" := by decide +kernel
  have kd : ¬ o1.kind = "write" := by rw [L.kd]; decide +kernel
  have vd : o1.version.getD 0 = v := by rw [hv]; rfl
  rw [alone_step L.at_ (by unfold endedB; rw [st]; decide +kernel) (by rw [st]; decide +kernel), st]
  unfold doOp
  rw [if_neg n1, if_neg kd]
  unfold readH
  rw [if_neg (fun z => n2 z.1), if_neg (fun z => n2 z.1), if_neg n2, if_neg n3, if_neg n4, vd, if_pos lt]
  refine ⟨{ o1 with stage := "ended", over := some (holdH c s1 v).past.length }, ?_, rfl, hv, ?_⟩
  · exact end_at (by rw [hold_ops]; exact hk)
  · show (endH (holdH c s1 v) s.ops.length o1 "ended").cache = some v
    rw [so_end_cache]
    unfold holdH
    split <;> rfl
/-- a read alone, nothing in the cache, no flight: it ends and leaves what it returns -/
theorem alone_fills (hg : ¬ c.guard = "never") (hc : s.cache = none) (ho : s.opn = none) (hm : c.guard = "mark" → s.mark ≤ fetchV c s) (g6 : c.guard ∈ guardsL) : atRestH c s .filled = false := by
  have L1 := look_first (c := c) hc ho
  have L2 := look_fetch hg L1 rfl
  have lets : letsB c (stepA c s.ops.length (firstA c s "look")) { { newOp s "look" with stage := "fetch" } with version := some (fetchV c s), stage := "fill" } (fetchV c s) = true := by
    unfold letsB
    simp only [guardsL, List.mem_cons, List.not_mem_nil, or_false] at g6
    rcases g6 with z | z | z | z | z | z
    · rw [if_neg (by rw [z]; decide +kernel), if_neg (by rw [z]; decide +kernel), z]
      rfl
    · rw [if_neg (by rw [z]; decide +kernel), if_neg (by rw [z]; decide +kernel), if_neg (by rw [z]; decide +kernel), L2.ca, z]
      rfl
    · rw [if_neg (by rw [z]; decide +kernel), if_pos z, L2.mrk]
      exact decide_eq_true (hm z)
    · exact absurd z hg
    · rw [if_neg (by rw [z]; decide +kernel), if_neg (by rw [z]; decide +kernel), if_pos z, z]
      unfold newerB
      rw [L2.ca]
      rfl
    · rw [if_pos z]
      exact L2.cl
  obtain ⟨o2, e1, e2, e3, e4⟩ := look_fill (c := c) L2 rfl rfl lets
  have run : aloneH c s "look" = stepA c s.ops.length (stepA c s.ops.length (firstA c s "look")) := by
    unfold aloneH
    rw [show 4 = 2 + 2 from rfl, iter_add 2 2]
    exact alone_end (i := 0) e1 e2 2
  unfold atRestH
  rw [run, e1]
  show (!decide (o2.stage = ("ended" : Str)) || !decide (on _ = on o2.version)) = false
  rw [e4, e3, e2]
  simp
end
end Ca

set_option Elab.async false
set_option linter.all false
set_option maxRecDepth 100000
set_option maxHeartbeats 4000000
namespace Ca
open PySem L2
/-! ### what holds is kept: reads at rest fill the cache -/
section
variable {c : Conf} {s s' : HS} {k : Nat} {o : OpS} {w : Str}
/-- a read alone, a version in the cache -/
theorem alone_hit {x : Nat} (hc : s.cache = some x) : atRestH c s .filled = false := by
  have n1 : ¬ ("look" : Str) = "stop" := by decide +kernel
  have kd : ¬ (newOp s "look").kind = "write" := by
    rw [look_kd]
    decide +kernel
  have key : ∃ o2, (firstA c s "look").ops[s.ops.length]? = some o2 ∧ o2.stage = "ended" ∧ o2.version = some x ∧ (firstA c s "look").cache = some x := by
    unfold firstA
    rw [doH_at new_at, pre_new]
    unfold doOp
    rw [if_neg n1, if_neg kd]
    unfold readH
    have e1 : (("look" : Str) = "look" ∧ ({ s with ops := s.ops ++ [newOp s "look"] } : HS).cache.isSome = true) := ⟨rfl, by
      rw [show ({ s with ops := s.ops ++ [newOp s "look"] } : HS).cache = s.cache from rfl, hc]
      rfl⟩
    rw [if_pos e1]
    refine ⟨_, end_at (by rw [put_len]; exact len_new), rfl, hc, ?_⟩
    show (endH _ _ _ _).cache = some x
    rw [so_end_cache]
    exact hc
  obtain ⟨o2, e1, e2, e3, e4⟩ := key
  have run : aloneH c s "look" = firstA c s "look" := by
    unfold aloneH
    exact alone_end (i := 0) e1 e2 4
  unfold atRestH
  rw [run, e1]
  show (!decide (o2.stage = ("ended" : Str)) || !decide (on _ = on o2.version)) = false
  rw [e4, e3, e2]
  simp
/-- at rest no flight is open, where no read stops or none share -/
theorem rest_opn (O : c.Ok) (r : Reach c s) (h : (m_is_alone c || m_finishes c) = true) (hg : (going s).isEmpty = true) : s.opn = none := by
  rcases Bool.or_eq_true _ _ |>.mp h with a | f
  · exact (wait_free O (alone_ne O a) r).1
  · by_cases hf : c.flight = "shared"
    · have I := one_reach O hf r
      cases ho : s.opn with
      | none => rfl
      | some l =>
        exfalso
        have z := I.opn l ho
        obtain ⟨u, eu⟩ : ∃ u, s.ops[l]? = some u := ⟨_, List.getElem?_eq_getElem ((r.wf O).1.opn l ho)⟩
        have e := rest_ended f O r hg u (List.mem_of_getElem? eu)
        rw [stg_at eu, e] at z
        rcases z with z | z | z <;> exact absurd (Option.some.inj z) (by decide +kernel)
    · exact (wait_free O hf r).1
/-- the mark is never ahead of the database -/
structure MP (s : HS) : Prop where
  mk_ : s.mark ≤ s.db
  wv : ∀ o ∈ s.ops, o.kind = "write" → ∀ v, o.version = some v → v ≤ s.db
  fv : ∀ o ∈ s.ops, o.kind = "read" → o.stage = "fill" → ∀ v, o.version = some v → v ≤ s.db
theorem writeH_mark : (writeH c s k o w).mark ≤ max s.mark (if w = "store" then 0 else o.version.getD 0) := by
  rw [writeH_cache.2]
  have m1 : (wr1 s k o w).mark = s.mark := wr1_cache.2
  have v1 : ¬ w = "store" → (wo1 s o w).version = o.version := fun e => by
    unfold wo1
    rw [if_neg e]
    rfl
  by_cases d : w = "drop"
  · have n2 : ¬ w = "store" := by rw [d]; decide +kernel
    have n3 : ¬ w = "set" := by rw [d]; decide +kernel
    unfold wr3
    rw [if_neg n3]
    unfold wr2
    rw [if_pos d, if_neg n2, v1 n2]
    split
    · show max (wr1 s k o w).mark _ ≤ _
      rw [m1]
      exact Nat.le_refl _
    · show (wr1 s k o w).mark ≤ _
      rw [m1]
      exact Nat.le_max_left ..
  · have e2 : wr2 c (wr1 s k o w) (wo1 s o w) w = wr1 s k o w := by
      unfold wr2
      rw [if_neg d]
    rw [e2]
    by_cases e : w = "set"
    · have n2 : ¬ w = "store" := by rw [e]; decide +kernel
      unfold wr3
      rw [if_pos e, if_neg n2, v1 n2]
      split
      · unfold holdH
        split
        · show max (wr1 s k o w).mark _ ≤ _
          rw [m1]
          exact Nat.le_refl _
        · show (wr1 s k o w).mark ≤ _
          rw [m1]
          exact Nat.le_max_left ..
      · rw [m1]
        exact Nat.le_max_left ..
    · unfold wr3
      rw [if_neg e, m1]
      exact Nat.le_max_left ..
theorem op_MP (O : c.Ok) (hs : ¬ c.source = "replica") (W : Wf c s) (h : MP s) (eo : s.ops[k]? = some o) (a : Ahead s o w) : MP (doOp c s k o w) := by
  have hk := (List.getElem?_eq_some_iff.mp eo).1
  have mo := List.mem_of_getElem? eo
  have p := W.ops k o eo
  have rw_ : ¬ ("read" : Str) = "write" := by decide +kernel
  unfold doOp
  by_cases fin : w = "stop"
  · rw [if_pos fin]
    have mem : ∀ u ∈ (endH s k o "stopped").ops, u ∈ s.ops ∨ (u.kind = o.kind ∧ u.version = o.version ∧ u.stage = "stopped") := fun u hu => by
      rw [end_ops] at hu
      rcases List.mem_or_eq_of_mem_set hu with z | z
      · exact .inl z
      · rw [z]; exact .inr ⟨rfl, rfl, rfl⟩
    refine ⟨by rw [so_end_mark, so_end_db]; exact h.mk_, fun u hu kd v hv => ?_, fun u hu kd st v hv => ?_⟩
    · rw [so_end_db]
      rcases mem u hu with z | ⟨z1, z2, _⟩
      · exact h.wv u z kd v hv
      · exact h.wv o mo (z1.symm.trans kd) v (z2.symm.trans hv)
    · rw [so_end_db]
      rcases mem u hu with z | ⟨_, _, z3⟩
      · exact h.fv u z kd st v hv
      · rw [z3] at st; exact absurd st (by decide +kernel)
  rw [if_neg fin]
  by_cases kd : o.kind = "write"
  · rw [if_pos kd]
    have dbm : s.db ≤ (writeH c s k o w).db := by
      rw [writeH_db]
      split <;> omega
    have ov : o.version.getD 0 ≤ s.db := by
      cases hv : o.version with
      | none => exact Nat.zero_le _
      | some v => exact h.wv o mo kd v hv
    refine ⟨?_, fun u hu kd2 x hx => ?_, fun u hu kr st v hv => ?_⟩
    · refine Nat.le_trans writeH_mark (Nat.le_trans (Nat.max_le.mpr ⟨h.mk_, ?_⟩) dbm)
      split
      · exact Nat.zero_le _
      · exact ov
    · rcases writeH_mem hk u hu with ⟨o0, m0, z1, z2, _⟩ | ⟨z1, z2, _⟩
      · exact Nat.le_trans (h.wv o0 m0 (z1.trans kd2) x (z2.trans hx)) dbm
      · rw [z2] at hx
        unfold wo1 at hx
        by_cases e : w = "store"
        · rw [if_pos e] at hx
          rw [writeH_db, if_pos e]
          exact Nat.le_of_eq (Option.some.inj hx).symm
        · rw [if_neg e] at hx
          exact Nat.le_trans (h.wv o mo kd x hx) dbm
    · rcases writeH_mem hk u hu with ⟨o0, m0, z1, z2, z3, _⟩ | ⟨z1, _⟩
      · exact Nat.le_trans (h.fv o0 m0 (z1.trans kr) (z3.trans st) v (z2.trans hv)) dbm
      · rw [z1, kd] at kr
        exact absurd kr.symm rw_
  · rw [if_neg kd]
    have kr : o.kind = "read" := p.kd.resolve_right kd
    refine ⟨?_, fun u hu kd2 x hx => ?_, fun u hu kr2 st v hv => ?_⟩
    · rw [readH_db]
      rcases readH_cache (c := c) (s := s) (k := k) (o := o) (w := w) with ⟨_, e2⟩ | ⟨b, n1, n2, n3, _, e2⟩
      · rw [e2]; exact h.mk_
      · have st := (so_step_fill O W eo a fin kd n1 n2 n3).1
        rw [e2]
        split
        · refine Nat.max_le.mpr ⟨h.mk_, ?_⟩
          cases hv : o.version with
          | none => exact Nat.zero_le _
          | some v => exact h.fv o mo kr st v hv
        · exact h.mk_
    · rw [readH_db]
      rcases readH_mem u hu with z | z
      · exact h.wv u z kd2 x hx
      · rw [z] at kd2; exact absurd kd2 kd
    · rw [readH_db]
      rcases readH_fill u hu with z | ⟨_, z⟩
      · exact h.fv u z kr2 st v hv
      · have := z st
        rw [if_neg hs, hv] at this
        rw [Option.some.inj this]
        exact Nat.le_refl _
theorem MP_reach (O : c.Ok) (hs : ¬ c.source = "replica") (r : Reach c s) : MP s := by
  refine reach_ind (Q := MP) O ⟨Nat.le_refl _, fun w m => (by cases m), fun o m => (by cases m)⟩ (fun s l q => ⟨q.mk_, q.wv, q.fv⟩) (fun s _ _ q => ⟨Nat.zero_le _, q.wv, q.fv⟩) (fun s _ q => ⟨q.mk_, q.wv, q.fv⟩) (fun s w _ q hw => ?_) (fun s k o w W q eo a _ => op_MP O hs W q eo a) r
  rw [pre_new]
  refine ⟨q.mk_, fun u hu kd x hx => ?_, fun u hu kd st v hv => ?_⟩
  · rcases List.mem_append.mp hu with z | z
    · exact q.wv u z kd x hx
    · rw [List.mem_singleton.mp z] at hx
      cases hx
  · rcases List.mem_append.mp hu with z | z
    · exact q.fv u z kd st v hv
    · rw [List.mem_singleton.mp z] at hv
      cases hv
/-- filled: what holds is kept, where reads fetch from the database itself, or no mark guards -/
theorem keep_filled_P (O : c.Ok) (h : progH c .filled = true) (hm : c.guard = "mark" → ¬ c.source = "replica") (r : Reach c s) : brokenH c s .filled = false := by
  have h : m_holds_filled c = true := h
  unfold m_holds_filled at h
  have h2 : ((!decide (V.str c.guard = V.str "never")) && ((m_is_alone c) || (m_finishes c))) = true := by
    cases hb : ((decide (V.str c.guard = V.str "mark")) && ((Txt.endswith c.path "drop") && (!(m_is_primary c)))) with
    | true => rw [hb] at h; cases h
    | false => rw [hb] at h; exact h
  obtain ⟨ng, fl⟩ := Bool.and_eq_true _ _ |>.mp h2
  have ng : ¬ c.guard = "never" := fun z => by
    rw [z] at ng
    exact absurd ng (by decide +kernel)
  unfold brokenH
  cases hr : (going s).isEmpty with
  | false => rfl
  | true =>
    show (true && atRestH c s .filled) = false
    rw [Bool.true_and]
    cases hc : s.cache with
    | some x => exact alone_hit hc
    | none =>
      refine alone_fills ng hc (rest_opn O r fl hr) (fun g => ?_) O.g
      unfold fetchV
      rw [if_neg (hm g)]
      exact (MP_reach O (hm g) r).mk_
end
end Ca

set_option Elab.async false
set_option linter.all false
set_option maxRecDepth 100000
set_option maxHeartbeats 4000000
namespace Ca
open PySem L2
/-! ### what holds is kept: reads at rest fill the cache, by a replica -/
section
variable {c : Conf} {s s' : HS} {k : Nat} {o : OpS} {w : Str}
/-- events, case by case, for a property of the state -/
theorem reach_ind3 {Q : HS → Prop} (O : c.Ok) (h0 : Q HS.begin) (hp : ∀ (s : HS) (l : List Ev), Q s → Q { s with past := l }) (he : ∀ s : HS, Reach c s → canEvict c s = true → Q s → Q { s with cache := none, mark := 0 }) (hc : ∀ s : HS, Reach c s → Q s → Q { s with rep := s.rep + 1 })
    (hn : ∀ (s : HS) (w : Str), Reach c s → Q s → (w = "look" ∨ w = firstW c) → Q (preH s w s.ops.length)) (hs : ∀ (s : HS) (k : Nat) (o : OpS) (w : Str), Wf c s → Q s → s.ops[k]? = some o → Ahead s o w → (w = "stop" → c.stop = "stops") → (o.kind = "write" → o.step = 0 → o.version = none) → Q (doOp c s k o w)) {s : HS} (r : Reach c s) : Q s := by
  induction r with
  | begin => exact h0
  | @step s e r he' ih =>
    obtain ⟨W, _⟩ := r.wf O
    have key : ∀ (k : Nat) (w : Str) (o : OpS), (preH s w k).ops[k]? = some o → Q (preH s w k) → Wf c (preH s w k) → Ahead (preH s w k) o w → (w = "stop" → c.stop = "stops") → (o.kind = "write" → o.step = 0 → o.version = none) → Q (doH c s (w, some (k : Int))) := fun k w o eo h1 W1 a st nv => by
      have z := hs _ k o w W1 h1 eo a st nv
      rw [← doE_at eo] at z
      exact hp _ _ z
    have V := r.vi O
    have nv : ∀ {k : Nat} {o : OpS}, s.ops[k]? = some o → o.kind = "write" → o.step = 0 → o.version = none := fun {k o} eo kd st => by
      cases hv : o.version with
      | none => rfl
      | some v =>
        obtain ⟨j, lt, _⟩ := (V.ops o (List.mem_of_getElem? eo)).st kd (by rw [hv]; rfl)
        omega
    have nst : ∀ {w : Str} {k : Nat} {o : OpS}, s.ops[k]? = some o → ¬ o.stage = "ended" → ¬ o.stage = "stopped" → nextOf s o = some w → ¬ w = "stop" := fun {w k o} eo h1 h2 h3 z => by
      have p := W.ops k o eo
      by_cases hw : o.stage = "waits"
      · rw [ahead_take h3 hw] at z
        exact absurd z (by decide +kernel)
      · rw [← ahead_stage h3 hw] at z
        rcases p.kd with kd | kd
        · rcases p.rd kd with y | y | y | y | y | y
          · rw [y] at z; exact absurd z (by decide +kernel)
          · rw [y] at z; exact absurd z (by decide +kernel)
          · rw [y.1] at z; exact absurd z (by decide +kernel)
          · exact hw y.1
          · exact h1 y
          · exact h2 y
        · obtain ⟨lt, y, _⟩ := p.wr kd h1 h2
          rw [y] at z
          rcases step_word O lt with u | u | u <;> rw [u] at z <;> exact absurd z (by decide +kernel)
    cases ev_case W he' with
    | evict z =>
      have := hp _ (s.past ++ [evictE]) (he s r z ih)
      unfold doH doE
      rw [if_pos rfl]
      exact this
    | copy z =>
      have n : ¬ copyE = evictE := by decide +kernel
      have := hp _ (s.past ++ [copyE]) (hc s r ih)
      unfold doH doE
      rw [if_neg n, if_pos rfl]
      exact this
    | new w hw =>
      have eo : (preH s w s.ops.length).ops[s.ops.length]? = some (newOp s w) := by
        rw [pre_new]
        show (s.ops ++ [newOp s w])[s.ops.length]? = _
        rw [List.getElem?_append_right (Nat.le_refl _), Nat.sub_self]
        rfl
      refine key _ w _ eo (hn s w r ih hw) (W.pre O hw) (.inr (new_next O hw)) (fun z => ?_) fun _ _ => rfl
      rcases hw with y | y
      · rw [y] at z; exact absurd z (by decide +kernel)
      · rw [y] at z; exact absurd z (fst_ne O).2.2.2.2.2.2
    | step k o w eo h1 h2 h3 => exact key k w o (by rw [pre_old eo]; exact eo) (by rw [pre_old eo]; exact ih) (by rw [pre_old eo]; exact W) (by rw [pre_old eo]; exact .inr ⟨h1, h2, h3⟩) (fun z => absurd z (nst eo h1 h2 h3)) (nv eo)
    | stop k o eo h1 h2 h3 => exact key k "stop" o (by rw [pre_old eo]; exact eo) (by rw [pre_old eo]; exact ih) (by rw [pre_old eo]; exact W) (.inl rfl) (fun _ => h3) (nv eo)
theorem so_end_rep {st : Str} : (endH s k o st).rep = s.rep := by
  simp only [endH]
  split <;> rfl
theorem so_hold_rep {v : Nat} : (holdH c s v).rep = s.rep := by
  unfold holdH
  split <;> rfl
theorem writeH_rep : (writeH c s k o w).rep = s.rep := by
  have e1 : (wr1 s k o w).rep = s.rep := by
    unfold wr1
    split <;> rfl
  have e2 : (wr2 c (wr1 s k o w) (wo1 s o w) w).rep = s.rep := by
    unfold wr2
    split
    · split <;> exact e1
    · exact e1
  have e3 : (wr3 c (wr2 c (wr1 s k o w) (wo1 s o w) w) (wo1 s o w) w).rep = s.rep := by
    unfold wr3
    split
    · split
      · rw [so_hold_rep, e2]
      · exact e2
    · exact e2
  unfold writeH wr4
  split
  · rw [so_end_rep]
    exact e3
  · exact e3
theorem readH_rep : (readH c s k o w).rep = s.rep := by
  unfold readH
  split
  · rw [so_end_rep]; rfl
  split
  · rfl
  split
  · rfl
  split
  · split
    · rw [so_end_rep]; rfl
    · rfl
  split
  · rw [so_end_rep]; rfl
  · rw [so_end_rep]
    split
    · exact so_hold_rep
    · rfl
/-- the mark is never ahead of the replica, where no write raises it -/
structure MR (s : HS) : Prop where
  mk_ : s.mark ≤ s.rep
  fv : ∀ o ∈ s.ops, o.kind = "read" → o.stage = "fill" → ∀ v, o.version = some v → v ≤ s.rep
theorem first_drop (O : c.Ok) (hp : c.path = "store" ∨ c.path = "drop store") {st : Nat} (lt : st < c.steps.length) : ¬ c.steps.getD st "" = "set" ∧ (c.steps.getD st "" = "drop" → st = 0) := by
  have e : c.steps = ([("store" : Str)] : List Str) ∨ c.steps = ([("drop" : Str), "store"] : List Str) := by
    unfold Conf.steps
    rcases hp with z | z <;> rw [z]
    · exact .inl (by decide +kernel)
    · exact .inr (by decide +kernel)
  rcases e with e | e <;> rw [e] at lt ⊢
  · have lt : st < 1 := lt
    have : st = 0 := by omega
    subst this
    exact ⟨by decide +kernel, fun _ => rfl⟩
  · have lt : st < 2 := lt
    have : st = 0 ∨ st = 1 := by omega
    rcases this with z | z <;> subst z
    · exact ⟨by decide +kernel, fun _ => rfl⟩
    · exact ⟨by decide +kernel, fun z => absurd z (by decide +kernel)⟩
theorem op_MR (O : c.Ok) (hp : c.path = "store" ∨ c.path = "drop store") (hs : c.source = "replica") (W : Wf c s) (h : MR s) (eo : s.ops[k]? = some o) (a : Ahead s o w) (nv : o.kind = "write" → o.step = 0 → o.version = none) : MR (doOp c s k o w) := by
  have hk := (List.getElem?_eq_some_iff.mp eo).1
  have mo := List.mem_of_getElem? eo
  have p := W.ops k o eo
  have rw_ : ¬ ("read" : Str) = "write" := by decide +kernel
  unfold doOp
  by_cases fin : w = "stop"
  · rw [if_pos fin]
    refine ⟨by rw [so_end_mark, so_end_rep]; exact h.mk_, fun u hu kd st v hv => ?_⟩
    rw [so_end_rep]
    rw [end_ops] at hu
    rcases List.mem_or_eq_of_mem_set hu with z | z
    · exact h.fv u z kd st v hv
    · rw [z] at st
      exact absurd (show ("stopped" : Str) = "fill" from st) (by decide +kernel)
  rw [if_neg fin]
  by_cases kd : o.kind = "write"
  · rw [if_pos kd]
    obtain ⟨lt, ewd⟩ := write_word O W eo a fin kd
    obtain ⟨nset, z0⟩ := first_drop O hp lt
    rw [← ewd] at nset z0
    refine ⟨?_, fun u hu kr st v hv => ?_⟩
    · rw [writeH_rep]
      refine Nat.le_trans writeH_mark (Nat.max_le.mpr ⟨h.mk_, ?_⟩)
      split
      · exact Nat.zero_le _
      · rename_i ns
        have d : w = "drop" := by
          have z := step_word O lt
          rw [← ewd] at z
          rcases z with z | z | z
          · exact z
          · exact absurd z ns
          · exact absurd z nset
        rw [nv kd (z0 d)]
        exact Nat.zero_le _
    · rw [writeH_rep]
      rcases writeH_mem hk u hu with ⟨o0, m0, z1, z2, z3, _⟩ | ⟨z1, _⟩
      · exact h.fv o0 m0 (z1.trans kr) (z3.trans st) v (z2.trans hv)
      · rw [z1, kd] at kr
        exact absurd kr.symm rw_
  · rw [if_neg kd]
    have kr : o.kind = "read" := p.kd.resolve_right kd
    refine ⟨?_, fun u hu kr2 st v hv => ?_⟩
    · rw [readH_rep]
      rcases readH_cache (c := c) (s := s) (k := k) (o := o) (w := w) with ⟨_, e2⟩ | ⟨b, n1, n2, n3, _, e2⟩
      · rw [e2]; exact h.mk_
      · have st := (so_step_fill O W eo a fin kd n1 n2 n3).1
        rw [e2]
        split
        · refine Nat.max_le.mpr ⟨h.mk_, ?_⟩
          cases hv : o.version with
          | none => exact Nat.zero_le _
          | some v => exact h.fv o mo kr st v hv
        · exact h.mk_
    · rw [readH_rep]
      rcases readH_fill u hu with z | ⟨_, z⟩
      · exact h.fv u z kr2 st v hv
      · have := z st
        rw [if_pos hs, hv] at this
        rw [Option.some.inj this]
        exact Nat.le_refl _
theorem MR_reach (O : c.Ok) (hp : c.path = "store" ∨ c.path = "drop store") (hs : c.source = "replica") (r : Reach c s) : MR s := by
  refine reach_ind3 (Q := MR) O ⟨Nat.le_refl _, fun o m => (by cases m)⟩ (fun s l q => ⟨q.mk_, q.fv⟩) (fun s _ _ q => ⟨Nat.zero_le _, q.fv⟩) (fun s _ q => ⟨Nat.le_succ_of_le q.mk_, fun o m a b v e => Nat.le_succ_of_le (q.fv o m a b v e)⟩) (fun s w _ q hw => ?_) (fun s k o w W q eo a _ nv => op_MR O hp hs W q eo a nv) r
  rw [pre_new]
  refine ⟨q.mk_, fun u hu kd st v hv => ?_⟩
  rcases List.mem_append.mp hu with z | z
  · exact q.fv u z kd st v hv
  · rw [List.mem_singleton.mp z] at hv
    cases hv
end
end Ca

set_option Elab.async false
set_option linter.all false
set_option maxRecDepth 100000
set_option maxHeartbeats 4000000
namespace Ca
open PySem L2
/-! ### what holds is kept: filled -/
section
variable {c : Conf} {s s' : HS} {k : Nat} {o : OpS} {w : Str}
theorem op_mark (O : c.Ok) (hp : c.path = "store set") (hg : c.guard = "mark") (W : Wf c s) (h : MarkAt c s) (eo : s.ops[k]? = some o) (a : Ahead s o w) : MarkAt c (doOp c s k o w) := by
  intro _
  have h := h hg
  have p := W.ops k o eo
  unfold doOp
  by_cases fin : w = "stop"
  · rw [if_pos fin, so_end_cache, so_end_mark]
    exact h
  rw [if_neg fin]
  by_cases kd : o.kind = "write"
  · rw [if_pos kd]
    obtain ⟨lt, ewd⟩ := write_word O W eo a fin kd
    have nd : ¬ w = "drop" := by
      have e : c.steps = ([("store" : Str), "set"] : List Str) := by
        unfold Conf.steps
        rw [hp]
        decide +kernel
      rw [e] at lt ewd
      have lt : o.step < 2 := lt
      have : o.step = 0 ∨ o.step = 1 := by omega
      rw [ewd]
      rcases this with z | z <;> rw [z] <;> decide +kernel
    have e2 : wr2 c (wr1 s k o w) (wo1 s o w) w = wr1 s k o w := by
      unfold wr2
      rw [if_neg nd]
    rw [writeH_cache.1, writeH_cache.2, e2]
    have h1 : (wr1 s k o w).cache = none ∧ (wr1 s k o w).mark = 0 ∨ (wr1 s k o w).cache = some (wr1 s k o w).mark := by
      rw [wr1_cache.1, wr1_cache.2]
      exact h
    unfold wr3
    split
    · split
      · rename_i b
        unfold setsB at b
        rw [if_pos hg] at b
        have le := of_decide_eq_true b
        unfold holdH
        rw [if_pos hg]
        refine .inr ?_
        show some _ = some (max _ _)
        rw [Nat.max_eq_right le]
      · exact h1
    · exact h1
  · rw [if_neg kd]
    rcases readH_cache (c := c) (s := s) (k := k) (o := o) (w := w) with ⟨e1, e2⟩ | ⟨b, _, _, _, e1, e2⟩
    · rw [e1, e2]; exact h
    · unfold letsB at b
      rw [if_neg (by rw [hg]; decide +kernel), if_pos hg] at b
      have le := of_decide_eq_true b
      rw [e1, e2, if_pos hg, Nat.max_eq_right le]
      exact .inr rfl
theorem mark_reach (O : c.Ok) (hp : c.path = "store set") (hg : c.guard = "mark") (r : Reach c s) : MarkAt c s := by
  refine reach_ind (Q := MarkAt c) O (fun _ => .inl ⟨rfl, rfl⟩) (fun s l q => q) (fun s _ _ q => fun _ => .inl ⟨rfl, rfl⟩) (fun s _ q => q) (fun s w _ q hw => ?_) (fun s k o w W q eo a _ => op_mark O hp hg W q eo a) r
  rw [pre_new]
  exact q
theorem keep_filled (O : c.Ok) (h : progH c .filled = true) (r : Reach c s) : brokenH c s .filled = false := by
  by_cases hm : c.guard = "mark" → ¬ c.source = "replica"
  · exact keep_filled_P O h hm r
  have gm : c.guard = "mark" := Classical.byContradiction fun z => hm fun g => absurd g z
  have rp : c.source = "replica" := Classical.byContradiction fun z => hm fun _ => z
  have h : m_holds_filled c = true := h
  unfold m_holds_filled at h
  have pr : m_is_primary c = false := by
    unfold m_is_primary
    rw [rp]
    decide +kernel
  have nd : Txt.endswith c.path "drop" = false := by
    cases e : Txt.endswith c.path "drop" with
    | false => rfl
    | true =>
      have : ((decide (V.str c.guard = V.str "mark")) && ((Txt.endswith c.path "drop") && (!(m_is_primary c)))) = true := by
        rw [e, pr, gm]
        decide +kernel
      rw [this] at h
      cases h
  have fl : ((m_is_alone c) || (m_finishes c)) = true := by
    have : ((decide (V.str c.guard = V.str "mark")) && ((Txt.endswith c.path "drop") && (!(m_is_primary c)))) = false := by
      rw [nd, Bool.false_and, Bool.and_false]
    rw [this] at h
    exact (Bool.and_eq_true _ _ |>.mp (show (_ && _) = true from h)).2
  have ng : ¬ c.guard = "never" := by rw [gm]; decide +kernel
  unfold brokenH
  cases hr : (going s).isEmpty with
  | false => rfl
  | true =>
    show (true && atRestH c s .filled) = false
    rw [Bool.true_and]
    cases hc : s.cache with
    | some x => exact alone_hit hc
    | none =>
      refine alone_fills ng hc (rest_opn O r fl hr) (fun _ => ?_) O.g
      unfold fetchV
      rw [if_pos rp]
      have hp := O.p
      simp only [pathsL, List.mem_cons, List.not_mem_nil, or_false] at hp
      rcases hp with e | e | e | e | e
      · exact (MR_reach O (.inr e) rp r).mk_
      · rw [e] at nd; exact absurd nd (by decide +kernel)
      · exact (MR_reach O (.inl e) rp r).mk_
      · rw [e] at nd; exact absurd nd (by decide +kernel)
      · rcases mark_reach O e gm r gm with z | z
        · rw [z.2]; exact Nat.zero_le _
        · rw [hc] at z; cases z
end
end Ca

set_option Elab.async false
set_option linter.all false
set_option maxRecDepth 100000
set_option maxHeartbeats 4000000
namespace Ca
open PySem L2
/-! ### what holds is kept: a write alone at rest -/
section
variable {c : Conf} {s s1 : HS} {n k : Nat} {o : OpS} {w : Str}
theorem wr3_len : (wr3 c (wr2 c (wr1 s k o w) (wo1 s o w) w) (wo1 s o w) w).ops.length = s.ops.length := by
  rw [wr3_ops.1, wr2_ops.1, wr1_ops.1]
  split
  · rw [List.length_set]
  · rw [List.length_map]
theorem w_next (eo : s.ops[k]? = some o) : ∃ o2, (writeH c s k o w).ops[k]? = some o2 ∧ o2.kind = o.kind ∧ o2.step = o.step + 1 ∧ (o.step + 1 = c.steps.length → o2.stage = "ended") ∧ (¬ o.step + 1 = c.steps.length → o2.stage = c.steps.getD (o.step + 1) "") ∧ o2.version = (wo1 s o w).version := by
  have hk := (List.getElem?_eq_some_iff.mp eo).1
  have kd1 : (wo1 s o w).kind = o.kind := by
    unfold wo1
    split <;> rfl
  have sp1 : (wo1 s o w).step = o.step := by
    unfold wo1
    split <;> rfl
  unfold writeH wr4
  by_cases e : (wo1 s o w).step + 1 = c.steps.length
  · rw [if_pos e]
    refine ⟨_, end_at (by rw [put_len, wr3_len]; exact hk), kd1, ?_, fun _ => rfl, fun z => absurd (by rw [← sp1]; exact e) z, rfl⟩
    show (wo1 s o w).step + 1 = o.step + 1
    rw [sp1]
  · rw [if_neg e]
    refine ⟨_, put_at (by rw [wr3_len]; exact hk), kd1, ?_, fun z => absurd (by rw [sp1]; exact z) e, fun _ => ?_, rfl⟩
    · show (wo1 s o w).step + 1 = o.step + 1
      rw [sp1]
    · show c.steps.getD ((wo1 s o w).step + 1) "" = _
      rw [sp1]
theorem w_cache (ns : ¬ w = "set") : (writeH c s k o w).cache = if w = "drop" then none else s.cache := by
  rw [writeH_cache.1]
  unfold wr3
  rw [if_neg ns]
  unfold wr2
  split
  · split <;> rfl
  · exact wr1_cache.1
/-- a step of the write at n, done alone -/
theorem w_step (eo : s1.ops[n]? = some o) (kd : o.kind = "write") (st : o.stage = w) (hw : w = "drop" ∨ w = "store" ∨ w = "set") : ∃ p, stepA c n s1 = { writeH c s1 n o w with past := p } := by
  refine ⟨s1.past ++ [(o.stage, some (n : Int))], ?_⟩
  rw [alone_step eo (by unfold endedB; rw [st]; rcases hw with z | z | z <;> rw [z] <;> decide +kernel) (by rw [st]; rcases hw with z | z | z <;> rw [z] <;> decide +kernel)]
  unfold doOp
  rw [st, if_neg (by rcases hw with z | z | z <;> rw [z] <;> decide +kernel), if_pos kd]
theorem w_first (hw : w = "drop" ∨ w = "store") : ∃ p, firstA c s w = { writeH c { s with ops := s.ops ++ [newOp s w] } s.ops.length (newOp s w) w with past := p } := by
  refine ⟨s.past ++ [(w, some (s.ops.length : Int))], ?_⟩
  unfold firstA
  have kd : (newOp s w).kind = "write" := by
    show (if w = "look" then ("read" : Str) else "write") = "write"
    exact if_neg (by rcases hw with z | z <;> rw [z] <;> decide +kernel)
  rw [doH_at new_at, pre_new]
  unfold doOp
  rw [if_neg (by rcases hw with z | z <;> rw [z] <;> decide +kernel), if_pos kd]
theorem new_here : ({ s with ops := s.ops ++ [newOp s w] } : HS).ops[s.ops.length]? = some (newOp s w) := by
  show (s.ops ++ [newOp s w])[s.ops.length]? = _
  rw [List.getElem?_append_right (Nat.le_refl _), Nat.sub_self]
  rfl
theorem new_write (hw : w = "drop" ∨ w = "store") : (newOp s w).kind = "write" := by
  show (if w = "look" then ("read" : Str) else "write") = "write"
  exact if_neg (by rcases hw with z | z <;> rw [z] <;> decide +kernel)
/-- the last step of a write alone -/
theorem w_last {o1 : OpS} {b : Str} (e1 : s1.ops[n]? = some o1) (k1 : o1.kind = "write") (st : o1.stage = b) (hb : b = "drop" ∨ b = "store" ∨ b = "set") (last : o1.step + 1 = c.steps.length) (j : Nat) : ∃ p, iterA c n j (stepA c n s1) = { writeH c s1 n o1 b with past := p } := by
  obtain ⟨p1, f1⟩ := w_step (c := c) e1 k1 st hb
  obtain ⟨o2, e2, _, _, en, _, _⟩ := w_next (c := c) (w := b) e1
  refine ⟨p1, ?_⟩
  rw [f1]
  exact alone_end (s := { writeH c s1 n o1 b with past := p1 }) (o := o2) (i := 0) e2 (en last) j
/-- the first step of a write alone -/
theorem w_begin {a : Str} (ha : a = "drop" ∨ a = "store") (hs : ¬ 1 = c.steps.length) : ∃ (sA : HS) (oA : OpS), firstA c s a = sA ∧ sA.ops[s.ops.length]? = some oA ∧ oA.kind = "write" ∧ oA.step = 1 ∧ oA.stage = c.steps.getD 1 "" ∧ sA.cache = (if a = "drop" then none else s.cache) ∧ sA.db = (if a = "store" then s.db + 1 else s.db) ∧ (a = "store" → sA.mark = s.mark) ∧ (a = "store" → oA.version = some (s.db + 1)) := by
  obtain ⟨p0, f⟩ := w_first (c := c) (s := s) ha
  obtain ⟨o1, e1, k1, sp1, _, st1, v1⟩ := w_next (c := c) (w := a) (new_here (s := s) (w := a))
  have ns : ¬ a = "set" := by rcases ha with z | z <;> rw [z] <;> decide +kernel
  refine ⟨_, o1, f, e1, k1.trans (new_write ha), sp1, st1 hs, ?_, ?_, ?_, fun z => ?_⟩
  · exact w_cache ns
  · exact writeH_db
  · intro z
    have nd : ¬ a = "drop" := by rw [z]; decide +kernel
    show (writeH c _ _ _ a).mark = s.mark
    rw [writeH_cache.2]
    unfold wr3 wr2
    rw [if_neg ns, if_neg nd]
    exact wr1_cache.2
  · rw [v1]
    unfold wo1
    rw [if_pos z]
theorem mended_two {a b : Str} (e : c.steps = ([a, b] : List Str)) (ha : a = "drop" ∨ a = "store") (hb : b = "drop" ∨ (b = "store" ∧ a = "drop")) : behindH (aloneH c s a) = false := by
  have len : c.steps.length = 2 := by rw [e]; rfl
  obtain ⟨sA, oA, f, e1, k1, sp, st, ca, _⟩ := w_begin (c := c) (s := s) ha (by rw [len]; decide)
  rw [e] at st
  have st : oA.stage = b := st
  have hb3 : b = "drop" ∨ b = "store" ∨ b = "set" := by
    rcases hb with z | z
    · exact .inl z
    · exact .inr (.inl z.1)
  obtain ⟨p, r⟩ := w_last (c := c) e1 k1 st hb3 (by rw [sp, len]) 3
  have run : aloneH c s a = { writeH c sA s.ops.length oA b with past := p } := by
    unfold aloneH
    rw [show 4 = 3 + 1 from rfl, iter_add 3 1, f]
    exact r
  rw [run]
  refine behind_none ?_
  show (writeH c sA s.ops.length oA b).cache = none
  rcases hb with z | ⟨z, za⟩
  · rw [w_cache (by rw [z]; decide +kernel), if_pos z]
  · rw [w_cache (by rw [z]; decide +kernel), if_neg (by rw [z]; decide +kernel), ca, if_pos za]
theorem mended_set (O : c.Ok) (e : c.path = "store set") (V : VI c n s) (m : MarkAt c s) : behindH (aloneH c s "store") = false := by
  have es : c.steps = ([("store" : Str), "set"] : List Str) := by
    unfold Conf.steps
    rw [e]
    decide +kernel
  have len : c.steps.length = 2 := by rw [es]; rfl
  obtain ⟨sA, oA, f, e1, k1, sp, st, ca, db, mk, ver⟩ := w_begin (c := c) (s := s) (a := "store") (.inr rfl) (by rw [len]; decide)
  rw [es] at st
  have st : oA.stage = "set" := st
  obtain ⟨p, r⟩ := w_last (c := c) e1 k1 st (.inr (.inr rfl)) (by rw [sp, len]) 3
  have run : aloneH c s "store" = { writeH c sA s.ops.length oA "set" with past := p } := by
    unfold aloneH
    rw [show 4 = 3 + 1 from rfl, iter_add 3 1, f]
    exact r
  have nd : ¬ ("store" : Str) = "drop" := by decide +kernel
  have n1 : ¬ ("set" : Str) = "drop" := by decide +kernel
  have n2 : ¬ ("set" : Str) = "store" := by decide +kernel
  rw [if_neg nd] at ca
  rw [if_pos rfl] at db
  have mk := mk rfl
  have ver := ver rfl
  have v1 : (wo1 sA oA "set").version.getD 0 = s.db + 1 := by
    unfold wo1
    rw [if_neg n2]
    show oA.version.getD 0 = _
    rw [ver]
    rfl
  have c1 : (wr2 c (wr1 sA s.ops.length oA "set") (wo1 sA oA "set") "set").cache = s.cache ∧ (wr2 c (wr1 sA s.ops.length oA "set") (wo1 sA oA "set") "set").mark = s.mark := by
    unfold wr2
    rw [if_neg n1, wr1_cache.1, wr1_cache.2, ca, mk]
    exact ⟨rfl, rfl⟩
  have sets : setsB c (wr2 c (wr1 sA s.ops.length oA "set") (wo1 sA oA "set") "set") (s.db + 1) = true := by
    unfold setsB
    split
    · rename_i g
      rw [c1.2]
      refine decide_eq_true ?_
      rcases m g with z | z
      · rw [z.2]; exact Nat.zero_le _
      · exact Nat.le_succ_of_le (V.ca _ z)
    · unfold newerB
      rw [c1.1]
      cases hc : s.cache with
      | none => exact Bool.or_true _
      | some x =>
        show (_ || decide (x < s.db + 1)) = true
        rw [decide_eq_true (show x < s.db + 1 from Nat.lt_succ_of_le (V.ca x hc)), Bool.or_true]
  have cc : (writeH c sA s.ops.length oA "set").cache = some (s.db + 1) := by
    rw [writeH_cache.1]
    unfold wr3
    rw [if_pos rfl, v1, if_pos sets]
    unfold holdH
    split <;> rfl
  have dd : (writeH c sA s.ops.length oA "set").db = s.db + 1 := by
    rw [writeH_db, if_neg n2, db]
  rw [run]
  unfold behindH
  show (match (writeH c sA s.ops.length oA "set").cache with
    | none => false
    | some v => decide (v < (writeH c sA s.ops.length oA "set").db)) = false
  rw [cc, dd]
  exact decide_eq_false (by omega)
theorem mended_three (e : c.steps = ([("drop" : Str), "store", "drop"] : List Str)) : behindH (aloneH c s "drop") = false := by
  have len : c.steps.length = 3 := by rw [e]; rfl
  obtain ⟨sA, oA, f, e1, k1, sp, st, ca, _⟩ := w_begin (c := c) (s := s) (a := "drop") (.inl rfl) (by rw [len]; decide)
  rw [e] at st
  have st : oA.stage = "store" := st
  obtain ⟨p1, r1⟩ := w_step (c := c) e1 k1 st (.inr (.inl rfl))
  obtain ⟨o2, e2, k2, sp2, _, st2, _⟩ := w_next (c := c) (w := "store") e1
  have st2 := st2 (by rw [sp, len]; decide)
  rw [sp, e] at st2
  have st2 : o2.stage = "drop" := st2
  obtain ⟨p, r⟩ := w_last (c := c) (s1 := { writeH c sA s.ops.length oA "store" with past := p1 }) (o1 := o2) e2 (k2.trans k1) st2 (.inl rfl) (by rw [sp2, sp, len]) 2
  have run : aloneH c s "drop" = { writeH c { writeH c sA s.ops.length oA "store" with past := p1 } s.ops.length o2 "drop" with past := p } := by
    unfold aloneH
    rw [show 4 = 2 + 2 from rfl, iter_add 2 2, f]
    show iterA c s.ops.length 2 (stepA c s.ops.length (stepA c s.ops.length sA)) = _
    rw [r1]
    exact r
  rw [run]
  refine behind_none ?_
  show (writeH c _ s.ops.length o2 "drop").cache = none
  rw [w_cache (by decide +kernel), if_pos rfl]
theorem mended_one (e : c.steps = ([("store" : Str)] : List Str)) (hc : s.cache = none) : behindH (aloneH c s "store") = false := by
  have len : c.steps.length = 1 := by rw [e]; rfl
  obtain ⟨p0, f⟩ := w_first (c := c) (s := s) (w := "store") (.inr rfl)
  obtain ⟨o1, e1, _, _, en, _, _⟩ := w_next (c := c) (w := "store") (new_here (s := s) (w := "store"))
  have en := en (by rw [len]; rfl)
  have run : aloneH c s "store" = firstA c s "store" := by
    unfold aloneH
    exact alone_end (i := 0) (o := o1) (by rw [f]; exact e1) en 4
  rw [run, f]
  refine behind_none ?_
  show (writeH c _ s.ops.length _ "store").cache = none
  rw [w_cache (by decide +kernel), if_neg (by decide +kernel)]
  exact hc
theorem keep_mended (O : c.Ok) (h : progH c .mended = true) (r : Reach c s) : brokenH c s .mended = false := by
  have h : m_holds_mended c = true := h
  have VV := r.vi O
  have m : c.path = "store set" → MarkAt c s := fun e => by
    intro g
    exact mark_reach O e g r g
  unfold brokenH atRestH
  have key : behindH (aloneH c s (firstW c)) = false := by
    have hp := O.p
    have st : ∀ {l : List Str} {a : Str}, c.steps = l → l.getD 0 "" = a → firstW c = a := fun {l a} e1 e2 => by
      unfold firstW
      rw [e1, e2]
    simp only [pathsL, List.mem_cons, List.not_mem_nil, or_false] at hp
    rcases hp with e | e | e | e | e
    · have es : c.steps = ([("drop" : Str), "store"] : List Str) := by
        unfold Conf.steps
        rw [e]
        decide +kernel
      rw [st es (a := "drop") rfl]
      exact mended_two es (.inl rfl) (.inr ⟨rfl, rfl⟩)
    · have es : c.steps = ([("drop" : Str), "store", "drop"] : List Str) := by
        unfold Conf.steps
        rw [e]
        decide +kernel
      rw [st es (a := "drop") rfl]
      exact mended_three es
    · have es : c.steps = ([("store" : Str)] : List Str) := by
        unfold Conf.steps
        rw [e]
        decide +kernel
      rw [st es (a := "store") rfl]
      refine mended_one es (keep_rest_never O ?_ r)
      unfold m_holds_mended at h
      unfold m_passes_by
      rw [e] at h ⊢
      have g : decide (V.str c.guard = V.str "never") = true := by
        rcases Bool.or_eq_true _ _ |>.mp h with z | z
        · exact absurd z (by decide +kernel)
        · exact z
      rw [g]
      decide +kernel
    · have es : c.steps = ([("store" : Str), "drop"] : List Str) := by
        unfold Conf.steps
        rw [e]
        decide +kernel
      rw [st es (a := "store") rfl]
      exact mended_two es (.inr rfl) (.inl rfl)
    · have es : c.steps = ([("store" : Str), "set"] : List Str) := by
        unfold Conf.steps
        rw [e]
        decide +kernel
      rw [st es (a := "store") rfl]
      exact mended_set O e VV (m e)
  rw [key, Bool.and_false]
end
end Ca

set_option Elab.async false
set_option linter.all false
set_option maxRecDepth 100000
set_option maxHeartbeats 4000000
namespace Ca
open PySem L2
/-! ### what holds is kept: every step of an operation, told once -/
section
variable {c : Conf} {s s' : HS} {k : Nat} {o o' : OpS} {w : Str}
/-- a step of an operation that is at work: what becomes of it, of the cache, of the flight -/
inductive StK (c : Conf) (s : HS) (k : Nat) (o : OpS) (w : Str) (s' : HS) (o' : OpS) : Prop where
  | stop (h : o'.stage = "stopped") (v : o'.version = o.version) (ov : o'.over = some s.past.length) (e : s'.cache = s.cache) (m : s'.mark = s.mark) (p : s'.opn = s.opn) (d : s'.db = s.db)
  | write (kd : o.kind = "write") (n1 : ¬ o'.stage = "fetch") (n2 : ¬ o'.stage = "fill") (n3 : ¬ o'.stage = "waits") (n4 : ¬ o'.stage = "stopped") (ov : (o'.stage = "ended" ∧ o'.over = some s.past.length) ∨ (¬ o'.stage = "ended" ∧ o'.over = none)) (wd : w ∈ c.steps)
      (e : (w = "drop" ∧ s'.cache = none ∧ s.mark ≤ s'.mark) ∨ (w = "set" ∧ setsB c s (o.version.getD 0) = true ∧ s'.cache = some (o.version.getD 0) ∧ s'.mark = (if c.guard = "mark" then max s.mark (o.version.getD 0) else s.mark)) ∨ (¬ w = "drop" ∧ s'.cache = s.cache ∧ s'.mark = s.mark))
      (p : s'.opn = s.opn ∨ s'.opn = none) (v : (¬ w = "store" ∧ o'.version = o.version ∧ s'.db = s.db) ∨ (w = "store" ∧ o.version = none ∧ o'.version = some (s.db + 1) ∧ s'.db = s.db + 1))
  | hit (kd : o.kind = "read") (st : o.stage = "look") (x : Nat) (hc : s.cache = some x) (h : o'.stage = "ended") (v : o'.version = some x) (ov : o'.over = some s.past.length) (e : s'.cache = s.cache) (m : s'.mark = s.mark) (p : s'.opn = if s.opn = some k then none else s.opn) (d : s'.db = s.db)
  | wait (kd : o.kind = "read") (st : o.stage = "look") (hc : s.cache = none) (l : Nat) (hl : s.opn = some l) (h : o'.stage = "waits") (ol : o'.leader = some l) (v : o'.version = o.version) (ov : o'.over = none) (e : s'.cache = s.cache) (m : s'.mark = s.mark) (p : s'.opn = s.opn) (d : s'.db = s.db)
  | open (kd : o.kind = "read") (st : o.stage = "look") (hc : s.cache = none) (hl : s.opn = none) (h : o'.stage = "fetch") (v : o'.version = o.version) (ov : o'.over = none) (e : s'.cache = s.cache) (m : s'.mark = s.mark) (p : s'.opn = if c.flight = "shared" then some k else none) (d : s'.db = s.db)
  | fetch (kd : o.kind = "read") (st : o.stage = "fetch") (g : ¬ c.guard = "never") (h : o'.stage = "fill") (v : o'.version = some (fetchV c s)) (ov : o'.over = none) (e : s'.cache = s.cache) (m : s'.mark = s.mark) (p : s'.opn = s.opn) (d : s'.db = s.db)
  | bypass (kd : o.kind = "read") (st : o.stage = "fetch") (g : c.guard = "never") (h : o'.stage = "ended") (v : o'.version = some (fetchV c s)) (ov : o'.over = some s.past.length) (e : s'.cache = s.cache) (m : s'.mark = s.mark) (p : s'.opn = if s.opn = some k then none else s.opn) (d : s'.db = s.db)
  | take (kd : o.kind = "read") (st : o.stage = "waits") (l : Nat) (q : OpS) (hl : o.leader = some l) (eq : s.ops[l]? = some q) (qe : q.stage = "ended") (h : o'.stage = "ended") (v : o'.version = q.version) (ov : o'.over = some s.past.length) (e : s'.cache = s.cache) (m : s'.mark = s.mark) (p : s'.opn = if s.opn = some k then none else s.opn) (d : s'.db = s.db)
  | fill (kd : o.kind = "read") (st : o.stage = "fill") (h : o'.stage = "ended") (v : o'.version = o.version) (ov : o'.over = some s.past.length) (e : (letsB c s o (o.version.getD 0) = true ∧ s'.cache = some (o.version.getD 0) ∧ s'.mark = (if c.guard = "mark" then max s.mark (o.version.getD 0) else s.mark)) ∨ (letsB c s o (o.version.getD 0) = false ∧ s'.cache = s.cache ∧ s'.mark = s.mark))
      (p : s'.opn = if s.opn = some k then none else s.opn) (d : s'.db = s.db)
structure StpO (c : Conf) (s : HS) (k : Nat) (o : OpS) (w : Str) (s' : HS) (f : OpS → OpS) (o' : OpS) : Prop where
  hf : f = id ∨ f = cf
  ops : s'.ops = (s.ops.map f).set k o'
  kd : o'.kind = o.kind
  bg : o'.begun = o.begun
  rep : s'.rep = s.rep
  past : s'.past = s.past
  st : StK c s k o w s' o'
theorem take_ended (hn : nextOf s o = some w) (hw : o.stage = "waits") : ∃ l q, o.leader = some l ∧ s.ops[l]? = some q ∧ q.stage = "ended" := by
  unfold nextOf at hn
  rw [if_pos hw] at hn
  cases hl : o.leader with
  | none => rw [hl] at hn; cases hn
  | some l =>
    rw [hl] at hn
    cases eq : s.ops[l]? with
    | none =>
      simp only [eq] at hn
      cases hn
    | some q =>
      simp only [eq] at hn
      by_cases z : q.stage = "ended"
      · exact ⟨l, q, rfl, eq, z⟩
      · rw [if_neg z] at hn
        cases hn
theorem end_past' {st : Str} : (endH s k o st).past = s.past := end_past
theorem op_st (O : c.Ok) (W : Wf c s) (h : VI c s.past.length s) (eo : s.ops[k]? = some o) (n1 : ¬ o.stage = "ended") (n2 : ¬ o.stage = "stopped") (a : Ahead s o w) : ∃ f o', StpO c s k o w (doOp c s k o w) f o' := by
  have ho := h.ops o (List.mem_of_getElem? eo)
  have p := W.ops k o eo
  have ovn := ho.lv (endedB_not n1 n2)
  have num : o.number = k := p.num
  unfold doOp
  split
  · obtain ⟨f1, f2, f3, f4, f5⟩ := end_f (k := k) (o := o) (s := s) (st := "stopped")
    refine ⟨id, { o with stage := "stopped", over := some s.past.length }, .inl rfl, by rw [end_ops, List.map_id], rfl, rfl, f2, end_past', .stop rfl rfl rfl f3 f4 ?_ f1⟩
    rw [f5, if_neg (by decide +kernel)]
  rename_i ns
  rcases a with a | ⟨_, _, hnx⟩
  · exact absurd a ns
  split
  · rename_i kd
    obtain ⟨hs, ew, hst, hset⟩ := p.write O kd n1 n2 hnx
    have wm : w ∈ c.steps := by
      rw [ew, List.getD_eq_getElem?_getD, List.getElem?_eq_getElem hs]
      exact List.getElem_mem hs
    unfold writeH
    have pp := past_wr (c := c) (s := s) (k := k) (o := o) (wd := w)
    have hb : (wo1 s o w).begun = o.begun := by unfold wo1; split <;> rfl
    have hk : (wo1 s o w).kind = o.kind := by unfold wo1; split <;> rfl
    have hstp : (wo1 s o w).step = o.step := by unfold wo1; split <;> rfl
    have hnum : (wo1 s o w).number = o.number := by unfold wo1; split <;> rfl
    have ov1 : (wo1 s o w).over = none := by unfold wo1; split <;> exact ovn
    obtain ⟨g1, g2, g3, g4, g5, g6⟩ := wr4_f (c := c) (k := k) (s := wr3 c (wr2 c (wr1 s k o w) (wo1 s o w) w) (wo1 s o w) w) (o := wo1 s o w)
    have op3 : (wr3 c (wr2 c (wr1 s k o w) (wo1 s o w) w) (wo1 s o w) w).opn = s.opn := by rw [wr3_ops.2, wr2_ops.2, wr1_ops.2]
    have pf : (wr4 c (wr3 c (wr2 c (wr1 s k o w) (wo1 s o w) w) (wo1 s o w) w) k (wo1 s o w)).opn = s.opn ∨ (wr4 c (wr3 c (wr2 c (wr1 s k o w) (wo1 s o w) w) (wo1 s o w) w) k (wo1 s o w)).opn = none := by
      rw [g6, op3]
      split
      · split
        · exact .inr rfl
        · exact .inl rfl
      · exact .inl rfl
    have pa : (wr4 c (wr3 c (wr2 c (wr1 s k o w) (wo1 s o w) w) (wo1 s o w) w) k (wo1 s o w)).past = s.past := by
      unfold wr4
      split
      · rw [end_past]; exact pp
      · exact pp
    have stf : ∀ {s3 : HS} {u : OpS}, s3.past = s.past → u.over = none → u.step = o.step → ¬ (o5 c s3 u).stage = "fetch" ∧ ¬ (o5 c s3 u).stage = "fill" ∧ ¬ (o5 c s3 u).stage = "waits" ∧ ¬ (o5 c s3 u).stage = "stopped" ∧ (((o5 c s3 u).stage = "ended" ∧ (o5 c s3 u).over = some s.past.length) ∨ (¬ (o5 c s3 u).stage = "ended" ∧ (o5 c s3 u).over = none)) ∧ (o5 c s3 u).version = u.version ∧ (o5 c s3 u).kind = u.kind ∧ (o5 c s3 u).begun = u.begun := fun {s3 u} e1 e2 e3 => by
      unfold o5
      split
      · exact ⟨by show ¬ ("ended" : Str) = _; decide +kernel, by show ¬ ("ended" : Str) = _; decide +kernel, by show ¬ ("ended" : Str) = _; decide +kernel, by show ¬ ("ended" : Str) = _; decide +kernel, .inl ⟨rfl, by show some s3.past.length = _; rw [e1]⟩, rfl, rfl, rfl⟩
      · rename_i z
        have y : ¬ c.steps.getD (u.step + 1) "" = "fetch" ∧ ¬ c.steps.getD (u.step + 1) "" = "fill" ∧ ¬ c.steps.getD (u.step + 1) "" = "waits" ∧ ¬ c.steps.getD (u.step + 1) "" = "stopped" ∧ ¬ c.steps.getD (u.step + 1) "" = "ended" := by
          rcases step_word O (show u.step + 1 < c.steps.length by omega) with e | e | e <;> rw [e] <;> decide +kernel
        exact ⟨y.1, y.2.1, y.2.2.1, y.2.2.2.1, .inr ⟨y.2.2.2.2, e2⟩, rfl, rfl, rfl⟩
    obtain ⟨y1, y2, y3, y4, y5, y6, y7, y8⟩ := stf (s3 := wr3 c (wr2 c (wr1 s k o w) (wo1 s o w) w) (wo1 s o w) w) (u := wo1 s o w) pp ov1 hstp
    by_cases est : w = "store"
    · have nv : o.version = none := by
        cases ev : o.version with
        | none => rfl
        | some v =>
          obtain ⟨j, hj, ej⟩ := ho.st kd (by rw [ev]; rfl)
          have := one_store O ej (by rw [← ew]; exact est)
          omega
      have u1 : wo1 s o w = { o with version := some (s.db + 1) } := if_pos est
      have r1 : wr1 s k o w = { s with db := s.db + 1, ops := s.ops.set k { o with version := some (s.db + 1) } } := if_pos est
      have r2 : ∀ s1 o1, wr2 c s1 o1 w = s1 := fun s1 o1 => if_neg (by rw [est]; decide +kernel)
      have r3 : ∀ s1 o1, wr3 c s1 o1 w = s1 := fun s1 o1 => if_neg (by rw [est]; decide +kernel)
      refine ⟨id, _, .inl rfl, ?_, y7.trans hk, y8.trans hb, ?_, pa, .write kd y1 y2 y3 y4 y5 wm (.inr (.inr ⟨by rw [est]; decide +kernel, ?_, ?_⟩)) pf (.inr ⟨est, nv, ?_, ?_⟩)⟩
      · rw [g5, r3, r2, r1, List.map_id]
        show (s.ops.set k _).set k _ = _
        rw [List.set_set]
      · rw [g2, r3, r2, r1]
      · rw [g3, r3, r2, r1]
      · rw [g4, r3, r2, r1]
      · rw [y6, u1]
      · rw [g1, r3, r2, r1]
    · have u1 : wo1 s o w = cf o := if_neg est
      have r1 : wr1 s k o w = { s with ops := s.ops.map cf } := if_neg est
      have vv : (wo1 s o w).version = o.version := by rw [u1]; rfl
      have d1 : (wr1 s k o w).db = s.db ∧ (wr1 s k o w).rep = s.rep ∧ (wr1 s k o w).cache = s.cache ∧ (wr1 s k o w).mark = s.mark := by rw [r1]; exact ⟨rfl, rfl, rfl, rfl⟩
      have key : ∀ {s3 : HS}, wr3 c (wr2 c (wr1 s k o w) (wo1 s o w) w) (wo1 s o w) w = s3 → s3.db = s.db → s3.rep = s.rep →
          ((w = "drop" ∧ s3.cache = none ∧ s.mark ≤ s3.mark) ∨ (w = "set" ∧ setsB c s (o.version.getD 0) = true ∧ s3.cache = some (o.version.getD 0) ∧ s3.mark = (if c.guard = "mark" then max s.mark (o.version.getD 0) else s.mark)) ∨ (¬ w = "drop" ∧ s3.cache = s.cache ∧ s3.mark = s.mark)) →
          ∃ f o', StpO c s k o w (wr4 c (wr3 c (wr2 c (wr1 s k o w) (wo1 s o w) w) (wo1 s o w) w) k (wo1 s o w)) f o' := fun {s3} e3 e4 e5 e6 => by
        refine ⟨cf, _, .inr rfl, ?_, y7.trans hk, y8.trans hb, ?_, pa, .write kd y1 y2 y3 y4 y5 wm ?_ pf (.inl ⟨est, y6.trans vv, ?_⟩)⟩
        · rw [g5, wr3_ops.1, wr2_ops.1, r1]
        · rw [g2, e3, e5]
        · rw [g3, g4, e3]
          exact e6
        · rw [g1, e3, e4]
      by_cases ed : w = "drop"
      · have r3 : ∀ s1 o1, wr3 c s1 o1 w = s1 := fun s1 o1 => if_neg (by rw [ed]; decide +kernel)
        refine key rfl ?_ ?_ (.inl ⟨ed, ?_, ?_⟩)
        · rw [r3]; unfold wr2; rw [if_pos ed]; split <;> exact d1.1
        · rw [r3]; unfold wr2; rw [if_pos ed]; split <;> exact d1.2.1
        · rw [r3]; unfold wr2; rw [if_pos ed]; split <;> rfl
        · rw [r3]; unfold wr2; rw [if_pos ed]; split
          · show s.mark ≤ max (wr1 s k o w).mark _
            rw [d1.2.2.2]
            exact Nat.le_max_left ..
          · show s.mark ≤ (wr1 s k o w).mark
            rw [d1.2.2.2]
            exact Nat.le_refl _
      · have r2 : ∀ s1 o1, wr2 c s1 o1 w = s1 := fun s1 o1 => if_neg ed
        by_cases es : w = "set"
        · have sb : setsB c (wr1 s k o w) (o.version.getD 0) = setsB c s (o.version.getD 0) := by
            unfold setsB newerB
            rw [d1.2.2.1, d1.2.2.2]
          have r3 : wr3 c (wr1 s k o w) (wo1 s o w) w = if setsB c s (o.version.getD 0) = true then holdH c (wr1 s k o w) (o.version.getD 0) else wr1 s k o w := by
            unfold wr3
            rw [if_pos es, vv, sb]
          by_cases b : setsB c s (o.version.getD 0) = true
          · rw [if_pos b] at r3
            obtain ⟨a1, a2, a3, a4, _⟩ := hold_f (c := c) (s := wr1 s k o w) (v := o.version.getD 0)
            refine key rfl ?_ ?_ (.inr (.inl ⟨es, b, ?_, ?_⟩))
            · rw [r2, r3, a1]; exact d1.1
            · rw [r2, r3, a2]; exact d1.2.1
            · rw [r2, r3, a3]
            · rw [r2, r3, a4, d1.2.2.2]
          · rw [if_neg b] at r3
            refine key rfl ?_ ?_ (.inr (.inr ⟨ed, ?_, ?_⟩))
            · rw [r2, r3]; exact d1.1
            · rw [r2, r3]; exact d1.2.1
            · rw [r2, r3]; exact d1.2.2.1
            · rw [r2, r3]; exact d1.2.2.2
        · have r3 : ∀ s1 o1, wr3 c s1 o1 w = s1 := fun s1 o1 => if_neg es
          refine key rfl ?_ ?_ (.inr (.inr ⟨ed, ?_, ?_⟩))
          · rw [r3, r2]; exact d1.1
          · rw [r3, r2]; exact d1.2.1
          · rw [r3, r2]; exact d1.2.2.1
          · rw [r3, r2]; exact d1.2.2.2
  · rename_i kd
    have kr : o.kind = "read" := p.kd.resolve_right kd
    have rd := p.read O kd n1 n2 hnx
    have sL : ∀ {x : Str}, w = "look" → o.stage = "look" := fun {x} e => by
      rcases rd with ⟨_, y⟩ | ⟨y, _⟩ | ⟨y, _⟩ | ⟨y, _⟩
      · exact y
      · rw [y] at e; exact absurd e (by decide +kernel)
      · rw [y] at e; exact absurd e (by decide +kernel)
      · rw [y] at e; exact absurd e (by decide +kernel)
    unfold readH
    split
    · rename_i q1
      obtain ⟨x, hx⟩ := Option.isSome_iff_exists.mp q1.2
      obtain ⟨f1, f2, f3, f4, f5⟩ := end_f (k := k) (o := { o with version := s.cache }) (s := s.put k { o with version := s.cache }) (st := "ended")
      refine ⟨id, { o with version := s.cache, stage := "ended", over := some s.past.length }, .inl rfl, ?_, rfl, rfl, f2, end_past', .hit kr (sL (x := "") q1.1) x hx rfl hx rfl f3 f4 ?_ f1⟩
      · rw [end_ops, List.map_id]
        show (s.ops.set k _).set k _ = _
        rw [List.set_set]
        rfl
      · rw [f5, if_pos rfl]
        show (if s.opn = some o.number then none else s.opn) = _
        rw [num]
    rename_i q1
    have nc : w = "look" → s.cache = none := fun e => by
      cases hc : s.cache with
      | none => rfl
      | some x => exact absurd ⟨e, by rw [hc]; rfl⟩ q1
    split
    · rename_i q2
      obtain ⟨l, hl⟩ := Option.isSome_iff_exists.mp q2.2
      exact ⟨id, { o with stage := "waits", leader := s.opn }, .inl rfl, by show s.ops.set k _ = _; rw [List.map_id], rfl, rfl, rfl, rfl, .wait kr (sL (x := "") q2.1) (nc q2.1) l hl rfl hl rfl ovn rfl rfl rfl rfl⟩
    rename_i q2
    split
    · rename_i q3
      have no : s.opn = none := by
        cases hc : s.opn with
        | none => rfl
        | some x => exact absurd ⟨q3, by rw [hc]; rfl⟩ q2
      refine ⟨id, { o with stage := "fetch" }, .inl rfl, by show s.ops.set k _ = _; rw [List.map_id], rfl, rfl, rfl, rfl, .open kr (sL (x := "") q3) (nc q3) no rfl rfl ovn rfl rfl ?_ rfl⟩
      show (if c.flight = "shared" then some o.number else none) = _
      rw [num]
    rename_i q3
    split
    · rename_i q4
      have sf : o.stage = "fetch" := by
        rcases rd with ⟨y, _⟩ | ⟨_, y⟩ | ⟨y, _⟩ | ⟨y, _⟩
        · exact absurd y q3
        · exact y
        · rw [y] at q4; exact absurd q4 (by decide +kernel)
        · rw [y] at q4; exact absurd q4 (by decide +kernel)
      split
      · rename_i g
        obtain ⟨f1, f2, f3, f4, f5⟩ := end_f (k := k) (o := { o with version := some (if c.source = "replica" then s.rep else s.db), stage := "fill" }) (s := s.put k { o with version := some (if c.source = "replica" then s.rep else s.db), stage := "fill" }) (st := "ended")
        refine ⟨id, { o with version := some (if c.source = "replica" then s.rep else s.db), stage := "ended", over := some s.past.length }, .inl rfl, ?_, rfl, rfl, f2, end_past', .bypass kr sf g rfl rfl rfl f3 f4 ?_ f1⟩
        · rw [end_ops, List.map_id]
          show (s.ops.set k _).set k _ = _
          rw [List.set_set]
          rfl
        · rw [f5, if_pos rfl]
          show (if s.opn = some o.number then none else s.opn) = _
          rw [num]
      · rename_i g
        exact ⟨id, { o with version := some (if c.source = "replica" then s.rep else s.db), stage := "fill" }, .inl rfl, by show s.ops.set k _ = _; rw [List.map_id], rfl, rfl, rfl, rfl, .fetch kr sf g rfl rfl ovn rfl rfl rfl rfl⟩
    rename_i q4
    split
    · rename_i q5
      have sw : o.stage = "waits" := by
        rcases rd with ⟨y, _⟩ | ⟨y, _⟩ | ⟨y, _⟩ | ⟨_, y, _⟩
        · exact absurd y q3
        · exact absurd y q4
        · rw [y] at q5; exact absurd q5 (by decide +kernel)
        · exact y
      obtain ⟨l, q, hl, eq, qe⟩ := take_ended hnx sw
      have lv : leadV s o = q.version := by
        unfold leadV
        simp only [hl, eq]
      obtain ⟨f1, f2, f3, f4, f5⟩ := end_f (k := k) (o := { o with version := leadV s o }) (s := s.put k { o with version := leadV s o }) (st := "ended")
      refine ⟨id, { o with version := leadV s o, stage := "ended", over := some s.past.length }, .inl rfl, ?_, rfl, rfl, f2, end_past', .take kr sw l q hl eq qe rfl lv rfl f3 f4 ?_ f1⟩
      · rw [end_ops, List.map_id]
        show (s.ops.set k _).set k _ = _
        rw [List.set_set]
        rfl
      · rw [f5, if_pos rfl]
        show (if s.opn = some o.number then none else s.opn) = _
        rw [num]
    · rename_i q5
      have sf : o.stage = "fill" := by
        rcases rd with ⟨y, _⟩ | ⟨y, _⟩ | ⟨_, y, _⟩ | ⟨y, _⟩
        · exact absurd y q3
        · exact absurd y q4
        · exact y
        · exact absurd y q5
      by_cases b : letsB c s o (o.version.getD 0) = true
      · rw [if_pos b]
        obtain ⟨a1, a2, a3, a4, a5⟩ := hold_f (c := c) (s := s) (v := o.version.getD 0)
        obtain ⟨f1, f2, f3, f4, f5⟩ := end_f (k := k) (o := o) (s := holdH c s (o.version.getD 0)) (st := "ended")
        refine ⟨id, { o with stage := "ended", over := some s.past.length }, .inl rfl, ?_, rfl, rfl, f2.trans a2, end_past'.trans hold_past, .fill kr sf rfl rfl rfl (.inl ⟨b, f3.trans a3, f4.trans a4⟩) ?_ (f1.trans a1)⟩
        · rw [end_ops, hold_ops, hold_past, List.map_id]
        · rw [f5, if_pos rfl, a5, num]
      · rw [if_neg b]
        obtain ⟨f1, f2, f3, f4, f5⟩ := end_f (k := k) (o := o) (s := s) (st := "ended")
        refine ⟨id, { o with stage := "ended", over := some s.past.length }, .inl rfl, ?_, rfl, rfl, f2, end_past', .fill kr sf rfl rfl rfl (.inr ⟨Bool.eq_false_iff.mpr b, f3, f4⟩) ?_ f1⟩
        · rw [end_ops, List.map_id]
        · rw [f5, if_pos rfl, num]
end
end Ca

set_option Elab.async false
set_option linter.all false
set_option maxRecDepth 100000
set_option maxHeartbeats 4000000
namespace Ca
open PySem L2
/-! ### what holds is kept: what a read tells, against what ended before it began -/
section
variable {c : Conf} {s s' : HS} {k : Nat} {o o' : OpS} {w : Str} {f : OpS → OpS} {kd : Str} {b : Bool}
/-- a state that a run reaches, an operation added perhaps -/
def Near (c : Conf) (s : HS) : Prop := Reach c s ∨ ∃ (s0 : HS) (w : Str), Reach c s0 ∧ (w = "look" ∨ w = firstW c) ∧ s = { s0 with ops := s0.ops ++ [newOp s0 w] }
/-- events, case by case: the steps told once -/
theorem reach_ind4 {Q : HS → Prop} (O : c.Ok) (h0 : Q HS.begin) (hp : ∀ (s : HS) (e : Ev), Q s → Q { s with past := s.past ++ [e] }) (he : ∀ s : HS, Reach c s → canEvict c s = true → Q s → Q { s with cache := none, mark := 0 }) (hc : ∀ s : HS, Reach c s → canCopy c s = true → Q s → Q { s with rep := s.rep + 1 })
    (hn : ∀ (s : HS) (w : Str), Reach c s → Wf c s → VI c s.past.length s → Q s → (w = "look" ∨ w = firstW c) → Q { s with ops := s.ops ++ [newOp s w] })
    (hs : ∀ (s : HS) (k : Nat) (o : OpS) (w : Str) (s' : HS) (f : OpS → OpS) (o' : OpS), Near c s → Wf c s → VI c s.past.length s → Q s → s.ops[k]? = some o → ¬ o.stage = "ended" → ¬ o.stage = "stopped" → StpO c s k o w s' f o' → (w = "stop" → c.stop = "stops") → Q s') {s : HS} (r : Reach c s) : Q s := by
  induction r with
  | begin => exact h0
  | @step s e r he' ih =>
    obtain ⟨W, _⟩ := r.wf O
    have V := r.vi O
    have fin : Q (doE c s e) → Q (doH c s e) := fun z => by
      have := hp _ e z
      rw [doE_past] at this
      exact this
    have nst : ∀ {w : Str} {k : Nat} {o : OpS}, s.ops[k]? = some o → ¬ o.stage = "ended" → ¬ o.stage = "stopped" → nextOf s o = some w → ¬ w = "stop" := fun {w k o} eo h1 h2 h3 z => by
      have p := W.ops k o eo
      by_cases hw : o.stage = "waits"
      · rw [ahead_take h3 hw] at z
        exact absurd z (by decide +kernel)
      · rw [← ahead_stage h3 hw] at z
        rcases p.kd with kd | kd
        · rcases p.rd kd with y | y | y | y | y | y
          · rw [y] at z; exact absurd z (by decide +kernel)
          · rw [y] at z; exact absurd z (by decide +kernel)
          · rw [y.1] at z; exact absurd z (by decide +kernel)
          · exact hw y.1
          · exact h1 y
          · exact h2 y
        · obtain ⟨lt, y, _⟩ := p.wr kd h1 h2
          rw [y] at z
          rcases step_word O lt with u | u | u <;> rw [u] at z <;> exact absurd z (by decide +kernel)
    refine fin ?_
    cases ev_case W he' with
    | evict z =>
      unfold doE
      rw [if_pos rfl]
      exact he s r z ih
    | copy z =>
      have n : ¬ copyE = evictE := by decide +kernel
      unfold doE
      rw [if_neg n, if_pos rfl]
      exact hc s r z ih
    | new w hw =>
      have eo : (preH s w s.ops.length).ops[s.ops.length]? = some (newOp s w) := by
        rw [pre_new]
        show (s.ops ++ [newOp s w])[s.ops.length]? = _
        rw [List.getElem?_append_right (Nat.le_refl _), Nat.sub_self]
        rfl
      rw [doE_at eo]
      obtain ⟨a, b, d⟩ := new_next (s := s) (s' := preH s w s.ops.length) O hw
      have WP := W.pre O hw
      rw [pre_new] at eo d WP ⊢
      have V1 := V.new rfl hw
      obtain ⟨f, o', sp⟩ := op_st O WP V1 eo a b (.inr ⟨a, b, d⟩)
      refine hs _ _ _ w _ f o' (.inr ⟨s, w, r, hw, rfl⟩) WP V1 (hn s w r W V ih hw) eo a b sp fun z => ?_
      rcases hw with y | y
      · rw [y] at z; exact absurd z (by decide +kernel)
      · rw [y] at z; exact absurd z (fst_ne O).2.2.2.2.2.2
    | step k o w eo h1 h2 h3 =>
      rw [doE_at (by rw [pre_old eo]; exact eo), pre_old eo]
      obtain ⟨f, o', sp⟩ := op_st O W V eo h1 h2 (.inr ⟨h1, h2, h3⟩)
      exact hs s k o w _ f o' (.inl r) W V ih eo h1 h2 sp fun z => absurd z (nst eo h1 h2 h3)
    | stop k o eo h1 h2 h3 =>
      rw [doE_at (by rw [pre_old eo]; exact eo), pre_old eo]
      obtain ⟨f, o', sp⟩ := op_st O W V eo h1 h2 (.inl rfl)
      exact hs s k o "stop" _ f o' (.inl r) W V ih eo h1 h2 sp fun _ => h3
theorem StK.over (h : StK c s k o w s' o') (e : o'.stage = "ended" ∨ o'.stage = "stopped") : o'.over = some s.past.length := by
  cases h with
  | stop _ _ ov => exact ov
  | write _ _ _ _ n4 ov =>
    rcases ov with z | z
    · exact z.2
    · rcases e with e | e
      · exact absurd e z.1
      · exact absurd e n4
  | hit _ _ _ _ _ _ ov => exact ov
  | wait _ _ _ _ _ h => rw [h] at e; exact absurd e (by decide +kernel)
  | «open» _ _ _ _ h => rw [h] at e; exact absurd e (by decide +kernel)
  | fetch _ _ _ h => rw [h] at e; exact absurd e (by decide +kernel)
  | bypass _ _ _ _ _ ov => exact ov
  | take _ _ _ _ _ _ _ _ _ ov => exact ov
  | fill _ _ _ _ ov => exact ov
theorem StK.db (h : StK c s k o w s' o') : s.db ≤ s'.db := by
  cases h with
  | stop _ _ _ _ _ _ d => omega
  | write _ _ _ _ _ _ _ _ _ v => rcases v with z | z <;> omega
  | hit _ _ _ _ _ _ _ _ _ _ d => omega
  | wait _ _ _ _ _ _ _ _ _ _ _ _ d => omega
  | «open» _ _ _ _ _ _ _ _ _ _ d => omega
  | fetch _ _ _ _ _ _ _ _ _ d => omega
  | bypass _ _ _ _ _ _ _ _ _ d => omega
  | take _ _ _ _ _ _ _ _ _ _ _ _ _ d => omega
  | fill _ _ _ _ _ _ _ d => omega
theorem StpO.fetchV (h : StpO c s k o w s' f o') : Ca.fetchV c s ≤ Ca.fetchV c s' := by
  unfold Ca.fetchV
  have := h.st.db
  rw [h.rep]
  split <;> omega
theorem fst_same {f : OpS → OpS} (h : f = id ∨ f = cf) (u : OpS) : (f u).stage = u.stage ∧ (f u).leader = u.leader ∧ (f u).number = u.number := by
  rcases h with e | e <;> rw [e] <;> exact ⟨rfl, rfl, rfl⟩
/-- who has ended: of a kind; stopped ones too, if `b` -/
def Mk (kd : Str) (b : Bool) (u : OpS) : Prop := u.kind = kd ∧ (u.stage = "ended" ∨ (b = true ∧ u.stage = "stopped"))
theorem Mk.img (hf : f = id ∨ f = cf) {u : OpS} (h : Mk kd b (f u)) : Mk kd b u := by
  unfold Mk at h ⊢
  rw [(fver hf u).1, (fst_same hf u).1] at h
  exact h
/-- a read that can't tell less than a value -/
def Sure (c : Conf) (s : HS) (o : OpS) (y : Nat) : Prop := (o.stage = "fetch" → y ≤ fetchV c s) ∧ (o.stage = "fill" ∨ o.stage = "ended" → y ≤ o.version.getD 0)
def AtLeast (c : Conf) (s : HS) (o : OpS) (y : Nat) : Prop := Sure c s o y ∧ (o.stage = "waits" → ∀ l q, o.leader = some l → s.ops[l]? = some q → Sure c s q y)
def PP (c : Conf) (s : HS) (kd : Str) (b : Bool) : Prop := ∀ o ∈ s.ops, o.kind = "read" → ∀ u ∈ s.ops, Mk kd b u → ∀ t, u.over = some t → t < o.begun → AtLeast c s o (u.version.getD 0)
/-- what a read that begins now finds -/
structure SC (c : Conf) (s : HS) (kd : Str) (b : Bool) : Prop where
  hit : ∀ x, s.cache = some x → ∀ u ∈ s.ops, Mk kd b u → u.version.getD 0 ≤ x
  fet : s.cache = none → ∀ u ∈ s.ops, Mk kd b u → u.version.getD 0 ≤ fetchV c s
  led : s.cache = none → ∀ l q, s.opn = some l → s.ops[l]? = some q → q.stage = "fill" → ∀ u ∈ s.ops, Mk kd b u → u.version.getD 0 ≤ q.version.getD 0
/-- flights, and who is waited for -/
structure Bs (s : HS) : Prop where
  op : ∀ l q, s.opn = some l → s.ops[l]? = some q → q.kind = "read" ∧ (q.stage = "fetch" ∨ q.stage = "fill" ∨ q.stage = "stopped")
  ld : ∀ u ∈ s.ops, u.stage = "waits" → ∀ l q, u.leader = some l → s.ops[l]? = some q → q.kind = "read" ∧ (q.stage = "fetch" ∨ q.stage = "fill" ∨ q.stage = "stopped" ∨ q.stage = "ended")
/-- where a place of the changed list comes from -/
theorem StpO.at_ (h : StpO c s k o w s' f o') (eo : s.ops[k]? = some o) {j : Nat} {u : OpS} (e : s'.ops[j]? = some u) : (j = k ∧ u = o') ∨ (¬ j = k ∧ ∃ u0, s.ops[j]? = some u0 ∧ u = f u0) := by
  rw [h.ops] at e
  exact set_at eo e
theorem StpO.mem (h : StpO c s k o w s' f o') (eo : s.ops[k]? = some o) {u : OpS} (e : u ∈ s'.ops) : u = o' ∨ ∃ j u0, ¬ j = k ∧ s.ops[j]? = some u0 ∧ u = f u0 := by
  rw [h.ops] at e
  exact set_mem eo e
theorem Bs.step (h : Bs s) (W : Wf c s) (eo : s.ops[k]? = some o) (sp : StpO c s k o w s' f o') : Bs s' := by
  -- a place that was a flight's stays one
  have keep : ∀ {l : Nat} {q q' : OpS}, s.ops[l]? = some q → (q.kind = "read" ∧ (q.stage = "fetch" ∨ q.stage = "fill" ∨ q.stage = "stopped" ∨ q.stage = "ended")) → s'.ops[l]? = some q' → q'.kind = "read" ∧ (q'.stage = "fetch" ∨ q'.stage = "fill" ∨ q'.stage = "stopped" ∨ q'.stage = "ended") := fun {l q q'} e1 h1 e2 => by
    rcases sp.at_ eo e2 with ⟨rfl, rfl⟩ | ⟨_, u0, e3, rfl⟩
    · rw [eo] at e1
      cases e1
      refine ⟨sp.kd.trans h1.1, ?_⟩
      cases sp.st with
      | stop h => exact .inr (.inr (.inl h))
      | write kd => rw [kd] at h1; exact absurd h1.1 (by decide +kernel)
      | hit _ _ _ _ h => exact .inr (.inr (.inr h))
      | wait _ st => rw [st] at h1; exact absurd h1.2 (by decide +kernel)
      | «open» _ st => rw [st] at h1; exact absurd h1.2 (by decide +kernel)
      | fetch _ _ _ h => exact .inr (.inl h)
      | bypass _ _ _ h => exact .inr (.inr (.inr h))
      | take _ _ _ _ _ _ _ h => exact .inr (.inr (.inr h))
      | fill _ _ h => exact .inr (.inr (.inr h))
    · rw [e1] at e3
      cases e3
      rw [(fver sp.hf q).1, (fst_same sp.hf q).1]
      exact h1
  have wk : ∀ {l : Nat} {q : OpS}, (q.kind = "read" ∧ (q.stage = "fetch" ∨ q.stage = "fill" ∨ q.stage = "stopped")) → (q.kind = "read" ∧ (q.stage = "fetch" ∨ q.stage = "fill" ∨ q.stage = "stopped" ∨ q.stage = "ended")) := fun {l q} z => ⟨z.1, z.2.elim .inl fun y => y.elim (fun x => .inr (.inl x)) fun x => .inr (.inr (.inl x))⟩
  -- the open flight
  have same : s'.opn = s.opn → ¬ o'.stage = "ended" → ∀ l q, s'.opn = some l → s'.ops[l]? = some q → q.kind = "read" ∧ (q.stage = "fetch" ∨ q.stage = "fill" ∨ q.stage = "stopped") := fun e ne l q h1 h2 => by
    rw [e] at h1
    have lt := W.opn l h1
    have e0 : s.ops[l]? = some s.ops[l] := List.getElem?_eq_getElem lt
    have z0 := h.op l _ h1 e0
    obtain ⟨z1, z2⟩ := keep e0 (wk (l := l) z0) h2
    refine ⟨z1, ?_⟩
    rcases z2 with z | z | z | z
    · exact .inl z
    · exact .inr (.inl z)
    · exact .inr (.inr z)
    · rcases sp.at_ eo h2 with ⟨rfl, rfl⟩ | ⟨_, u0, e3, rfl⟩
      · exact absurd z ne
      · rw [e0] at e3
        cases e3
        rw [(fst_same sp.hf _).1] at z
        rw [z] at z0
        exact absurd z0.2 (by decide +kernel)
  have done : s'.opn = (if s.opn = some k then none else s.opn) → ∀ l q, s'.opn = some l → s'.ops[l]? = some q → q.kind = "read" ∧ (q.stage = "fetch" ∨ q.stage = "fill" ∨ q.stage = "stopped") := fun e l q h1 h2 => by
    by_cases y : s.opn = some k
    · rw [e, if_pos y] at h1
      cases h1
    · rw [e, if_neg y] at h1
      have lt := W.opn l h1
      have e0 : s.ops[l]? = some s.ops[l] := List.getElem?_eq_getElem lt
      have z0 := h.op l _ h1 e0
      rcases sp.at_ eo h2 with ⟨rfl, rfl⟩ | ⟨_, u0, e3, rfl⟩
      · exact absurd h1 y
      · rw [e0] at e3
        cases e3
        rw [(fver sp.hf _).1, (fst_same sp.hf _).1]
        exact z0
  refine ⟨?_, fun u mu su l q hl eq => ?_⟩
  · cases sp.st with
    | stop h _ _ _ _ p => exact same p (by rw [h]; decide +kernel)
    | write kd n1 n2 n3 n4 ov wd e p v =>
      intro l q h1 h2
      have h1' : s.opn = some l := by
        rcases p with z | z
        · rw [← z]; exact h1
        · rw [z] at h1; cases h1
      have lt := W.opn l h1'
      have e0 : s.ops[l]? = some s.ops[l] := List.getElem?_eq_getElem lt
      have z0 := h.op l _ h1' e0
      rcases sp.at_ eo h2 with ⟨rfl, rfl⟩ | ⟨_, u0, e3, rfl⟩
      · rw [eo] at e0
        rw [← Option.some.inj e0, kd] at z0
        exact absurd z0.1 (by decide +kernel)
      · rw [e0] at e3
        cases e3
        rw [(fver sp.hf _).1, (fst_same sp.hf _).1]
        exact z0
    | hit _ _ _ _ _ _ _ _ _ p => exact done p
    | wait _ _ _ _ _ h _ _ _ _ _ p => exact same p (by rw [h]; decide +kernel)
    | «open» kr _ _ hl h _ _ _ _ p =>
      intro l q h1 h2
      rw [p] at h1
      split at h1
      · cases h1
        rcases sp.at_ eo h2 with ⟨_, rfl⟩ | ⟨n, _⟩
        · exact ⟨sp.kd.trans kr, .inl h⟩
        · exact absurd rfl n
      · cases h1
    | fetch _ _ _ h _ _ _ _ p => exact same p (by rw [h]; decide +kernel)
    | bypass _ _ _ _ _ _ _ _ p => exact done p
    | take _ _ _ _ _ _ _ _ _ _ _ _ p => exact done p
    | fill _ _ _ _ _ _ p => exact done p
  · rcases sp.mem eo mu with rfl | ⟨j, u0, _, e0, rfl⟩
    · cases sp.st with
      | stop h => rw [h] at su; exact absurd su (by decide +kernel)
      | write _ _ _ n3 => exact absurd su n3
      | hit _ _ _ _ h => rw [h] at su; exact absurd su (by decide +kernel)
      | wait _ st _ l2 hl2 _ ol =>
        have e1 : l2 = l := Option.some.inj (ol.symm.trans hl)
        subst e1
        have lt := W.opn l2 hl2
        have e2 : s.ops[l2]? = some s.ops[l2] := List.getElem?_eq_getElem lt
        exact keep e2 (wk (l := l2) (h.op l2 _ hl2 e2)) eq
      | «open» _ _ _ _ h => rw [h] at su; exact absurd su (by decide +kernel)
      | fetch _ _ _ h => rw [h] at su; exact absurd su (by decide +kernel)
      | bypass _ _ _ h => rw [h] at su; exact absurd su (by decide +kernel)
      | take _ _ _ _ _ _ _ h => rw [h] at su; exact absurd su (by decide +kernel)
      | fill _ _ h => rw [h] at su; exact absurd su (by decide +kernel)
    · rw [(fst_same sp.hf _).1] at su
      rw [(fst_same sp.hf _).2.1] at hl
      have m0 := List.mem_of_getElem? e0
      have back : ∃ q0, s.ops[l]? = some q0 := by
        rcases sp.at_ eo eq with ⟨e1, _⟩ | ⟨_, q0, e1, _⟩
        · exact ⟨o, by rw [e1]; exact eo⟩
        · exact ⟨q0, e1⟩
      obtain ⟨q0, e1⟩ := back
      exact keep e1 (h.ld u0 m0 su l q0 hl e1) eq
end
end Ca

set_option Elab.async false
set_option linter.all false
set_option maxRecDepth 100000
set_option maxHeartbeats 4000000
namespace Ca
open PySem L2
/-! ### what holds is kept: no read tells less than what had ended when it began -/
section
variable {c : Conf} {s s' : HS} {k : Nat} {o o' : OpS} {w : Str} {f : OpS → OpS} {kd : Str} {b : Bool}
theorem Sure.mono {q : OpS} {y : Nat} (h : Sure c s q y) (hf : f = id ∨ f = cf) (le : fetchV c s ≤ fetchV c s') : Sure c s' (f q) y := by
  unfold Sure at h ⊢
  rw [(fst_same hf q).1, (fver hf q).2.1]
  exact ⟨fun z => Nat.le_trans (h.1 z) le, h.2⟩
/-- a flight's own step -/
theorem Sure.step {y : Nat} (h : Sure c s o y) (st0 : o.kind = "read" ∧ (o.stage = "fetch" ∨ o.stage = "fill" ∨ o.stage = "stopped" ∨ o.stage = "ended")) (sp : StpO c s k o w s' f o') : Sure c s' o' y := by
  unfold Sure at h ⊢
  cases sp.st with
  | stop h => rw [h]; exact ⟨fun z => absurd z (by decide +kernel), fun z => absurd z (by decide +kernel)⟩
  | write kd => rw [kd] at st0; exact absurd st0.1 (by decide +kernel)
  | hit _ st => rw [st] at st0; exact absurd st0.2 (by decide +kernel)
  | wait _ st => rw [st] at st0; exact absurd st0.2 (by decide +kernel)
  | «open» _ st => rw [st] at st0; exact absurd st0.2 (by decide +kernel)
  | fetch _ st _ h2 v => rw [h2, v]; exact ⟨fun z => absurd z (by decide +kernel), fun _ => h.1 st⟩
  | bypass _ st _ h2 v => rw [h2, v]; exact ⟨fun z => absurd z (by decide +kernel), fun _ => h.1 st⟩
  | take _ st => rw [st] at st0; exact absurd st0.2 (by decide +kernel)
  | fill _ st h2 v => rw [h2, v]; exact ⟨fun z => absurd z (by decide +kernel), fun _ => h.2 (.inl st)⟩
theorem PP.step (P : PP c s kd b) (S : SC c s kd b) (B : Bs s) (W : Wf c s) (V : VI c s.past.length s) (eo : s.ops[k]? = some o) (sp : StpO c s k o w s' f o') : PP c s' kd b := by
  have le := sp.fetchV
  intro r mr kr u mu mk t ht lt
  -- who ends now had not ended before anything began
  have bg : r.begun ≤ s.past.length := by
    rcases sp.mem eo mr with rfl | ⟨_, r0, _, e0, rfl⟩
    · rw [sp.bg]; exact (V.ops o (List.mem_of_getElem? eo)).bg
    · rw [(fver sp.hf r0).2.2.1]; exact (V.ops r0 (List.mem_of_getElem? e0)).bg
  rcases sp.mem eo mu with rfl | ⟨_, u0, _, eu, rfl⟩
  · have z := sp.st.over (mk.2.elim .inl fun y => .inr y.2)
    rw [ht] at z
    have := Option.some.inj z
    omega
  have mu0 := List.mem_of_getElem? eu
  have mk0 := mk.img sp.hf
  rw [(fver sp.hf u0).2.2.2.1] at ht
  rw [(fver sp.hf u0).2.1]
  rcases sp.mem eo mr with rfl | ⟨_, r0, _, e0, rfl⟩
  · have kr0 : o.kind = "read" := sp.kd.symm.trans kr
    rw [sp.bg] at lt
    have A := P o (List.mem_of_getElem? eo) kr0 u0 mu0 mk0 t ht lt
    unfold AtLeast Sure
    cases sp.st with
    | stop h => rw [h]; exact ⟨⟨fun z => absurd z (by decide +kernel), fun z => absurd z (by decide +kernel)⟩, fun z => absurd z (by decide +kernel)⟩
    | write kd2 => rw [kr0] at kd2; exact absurd kd2 (by decide +kernel)
    | hit _ st x hc h v =>
      rw [h, v]
      exact ⟨⟨fun z => absurd z (by decide +kernel), fun _ => S.hit x hc u0 mu0 mk0⟩, fun z => absurd z (by decide +kernel)⟩
    | wait _ st hc l hl h ol =>
      rw [h]
      refine ⟨⟨fun z => absurd z (by decide +kernel), fun z => absurd z (by decide +kernel)⟩, fun _ l2 q hl2 eq => ?_⟩
      have e1 : l = l2 := Option.some.inj (ol.symm.trans hl2)
      subst e1
      rcases sp.at_ eo eq with ⟨e2, rfl⟩ | ⟨_, q0, e2, rfl⟩
      · have := (B.op l o hl (by rw [e2]; exact eo)).2
        rw [st] at this
        exact absurd this (by decide +kernel)
      · have z := B.op l q0 hl e2
        refine Sure.mono (s := s) ⟨fun _ => S.fet hc u0 mu0 mk0, fun y => ?_⟩ sp.hf le
        rcases y with y | y
        · exact S.led hc l q0 hl e2 y u0 mu0 mk0
        · rw [y] at z; exact absurd z.2 (by decide +kernel)
    | «open» _ st hc _ h =>
      rw [h]
      exact ⟨⟨fun _ => Nat.le_trans (S.fet hc u0 mu0 mk0) le, fun z => absurd z (by decide +kernel)⟩, fun z => absurd z (by decide +kernel)⟩
    | fetch _ st _ h v =>
      rw [h, v]
      exact ⟨⟨fun z => absurd z (by decide +kernel), fun _ => A.1.1 st⟩, fun z => absurd z (by decide +kernel)⟩
    | bypass _ st _ h v =>
      rw [h, v]
      exact ⟨⟨fun z => absurd z (by decide +kernel), fun _ => A.1.1 st⟩, fun z => absurd z (by decide +kernel)⟩
    | take _ st l q hl eq qe h v =>
      rw [h, v]
      exact ⟨⟨fun z => absurd z (by decide +kernel), fun _ => (A.2 st l q hl eq).2 (.inr qe)⟩, fun z => absurd z (by decide +kernel)⟩
    | fill _ st h v =>
      rw [h, v]
      exact ⟨⟨fun z => absurd z (by decide +kernel), fun _ => A.1.2 (.inl st)⟩, fun z => absurd z (by decide +kernel)⟩
  · have m0 := List.mem_of_getElem? e0
    rw [(fver sp.hf r0).1] at kr
    rw [(fver sp.hf r0).2.2.1] at lt
    have A := P r0 m0 kr u0 mu0 mk0 t ht lt
    refine ⟨A.1.mono sp.hf le, fun su l q hl eq => ?_⟩
    rw [(fst_same sp.hf r0).1] at su
    rw [(fst_same sp.hf r0).2.1] at hl
    rcases sp.at_ eo eq with ⟨e2, rfl⟩ | ⟨_, q0, e2, rfl⟩
    · subst e2
      exact (A.2 su l o hl eo).step (B.ld r0 m0 su l o hl eo) sp
    · exact (A.2 su l q0 hl e2).mono sp.hf le
theorem new_stage (O : c.Ok) (hw : w = "look" ∨ w = firstW c) : ¬ (newOp s w).stage = "ended" ∧ ¬ (newOp s w).stage = "stopped" ∧ ¬ (newOp s w).stage = "waits" ∧ ¬ (newOp s w).stage = "fetch" ∧ ¬ (newOp s w).stage = "fill" ∧ ((newOp s w).kind = "read" → (newOp s w).stage = "look") := by
  show ¬ w = "ended" ∧ ¬ w = "stopped" ∧ ¬ w = "waits" ∧ ¬ w = "fetch" ∧ ¬ w = "fill" ∧ ((if w = "look" then ("read" : Str) else "write") = "read" → w = "look")
  have z : w = "look" ∨ w = "drop" ∨ w = "store" := by
    rcases hw with y | y
    · exact .inl y
    · rw [y]; exact .inr O.path.fst
  rcases z with z | z | z <;> rw [z] <;> decide +kernel
theorem app_at {a : OpS} {j : Nat} {u : OpS} (e : (s.ops ++ [a])[j]? = some u) : s.ops[j]? = some u ∨ (j = s.ops.length ∧ u = a) := by
  by_cases hj : j < s.ops.length
  · rw [List.getElem?_append_left hj] at e
    exact .inl e
  · rw [List.getElem?_append_right (by omega)] at e
    have m := List.mem_of_getElem? e
    rw [List.mem_singleton] at m
    have lt := (List.getElem?_eq_some_iff.mp e).1
    have lt : j - s.ops.length < 1 := lt
    exact .inr ⟨by omega, m⟩
theorem Bs.new (h : Bs s) (O : c.Ok) (W : Wf c s) (hw : w = "look" ∨ w = firstW c) : Bs { s with ops := s.ops ++ [newOp s w] } := by
  obtain ⟨n1, n2, n3, n4, n5, n6⟩ := new_stage (s := s) O hw
  refine ⟨fun l q h1 h2 => ?_, fun u mu su l q hl eq => ?_⟩
  · have lt := W.opn l h1
    rcases app_at h2 with z | ⟨z, _⟩
    · exact h.op l q h1 z
    · omega
  · rcases List.mem_append.mp mu with z | z
    · obtain ⟨j, hj, ej⟩ := List.getElem_of_mem z
      have p := W.ops j u (by rw [List.getElem?_eq_getElem hj, ej])
      have lt : l < s.ops.length := by
        rcases p.kd with kd | kd
        · rcases p.rd kd with y | y | y | y | y | y
          · rw [y] at su; exact absurd su (by decide +kernel)
          · rw [y] at su; exact absurd su (by decide +kernel)
          · rw [y.1] at su; exact absurd su (by decide +kernel)
          · obtain ⟨l2, h1, h2⟩ := y.2
            rw [hl] at h1
            cases h1
            exact h2
          · rw [y] at su; exact absurd su (by decide +kernel)
          · rw [y] at su; exact absurd su (by decide +kernel)
        · obtain ⟨lt, y, _⟩ := p.wr kd (by rw [su]; decide +kernel) (by rw [su]; decide +kernel)
          rw [su] at y
          exact absurd y.symm (not_wait O lt).1
      rcases app_at eq with e | ⟨e, _⟩
      · exact h.ld u z su l q hl e
      · omega
    · rw [List.mem_singleton.mp z] at su
      exact absurd su n3
theorem Mk.old (O : c.Ok) (hw : w = "look" ∨ w = firstW c) {u : OpS} (mu : u ∈ s.ops ++ [newOp s w]) (mk : Mk kd b u) : u ∈ s.ops := by
  obtain ⟨n1, n2, _⟩ := new_stage (s := s) O hw
  rcases List.mem_append.mp mu with z | z
  · exact z
  · rw [List.mem_singleton.mp z] at mk
    rcases mk.2 with y | y
    · exact absurd y n1
    · exact absurd y.2 n2
theorem SC.new (h : SC c s kd b) (O : c.Ok) (W : Wf c s) (hw : w = "look" ∨ w = firstW c) : SC c { s with ops := s.ops ++ [newOp s w] } kd b := by
  refine ⟨fun x hx u mu mk => h.hit x hx u (mk.old O hw mu) mk, fun hx u mu mk => h.fet hx u (mk.old O hw mu) mk, fun hx l q hl eq qs u mu mk => ?_⟩
  have lt := W.opn l hl
  rcases app_at eq with z | ⟨z, _⟩
  · exact h.led hx l q hl z qs u (mk.old O hw mu) mk
  · omega
theorem PP.new (P : PP c s kd b) (O : c.Ok) (B : Bs s) (W : Wf c s) (hw : w = "look" ∨ w = firstW c) : PP c { s with ops := s.ops ++ [newOp s w] } kd b := by
  obtain ⟨n1, n2, n3, n4, n5, n6⟩ := new_stage (s := s) O hw
  intro r mr kr u mu mk t ht lt
  have mu0 := mk.old O hw mu
  rcases List.mem_append.mp mr with z | z
  · have A := P r z kr u mu0 mk t ht lt
    refine ⟨A.1, fun su l q hl eq => ?_⟩
    have z2 := (B.new O W hw).ld r mr su l q hl eq
    rcases app_at eq with e | ⟨_, e⟩
    · exact A.2 su l q hl e
    · rw [e] at z2
      rcases z2.2 with y | y | y | y
      · exact absurd y n4
      · exact absurd y n5
      · exact absurd y n2
      · exact absurd y n1
  · rw [List.mem_singleton.mp z]
    exact ⟨⟨fun y => absurd y n4, fun y => y.elim (fun y => absurd y n5) fun y => absurd y n1⟩, fun y => absurd y n3⟩
/-- if what a read finds is so in every state -/
theorem pp_reach (O : c.Ok) (H : ∀ s : HS, Reach c s → SC c s kd b) (r : Reach c s) : Bs s ∧ PP c s kd b := by
  have near : ∀ {s : HS}, Near c s → SC c s kd b := fun {s} h => by
    rcases h with h | ⟨s0, w, h, hw, rfl⟩
    · exact H s h
    · exact (H s0 h).new O (h.wf O).1 hw
  refine reach_ind4 (Q := fun s => Bs s ∧ PP c s kd b) O ⟨⟨fun l q h => (by cases h), fun u m => (by cases m)⟩, fun o m => (by cases m)⟩ (fun s e q => ⟨⟨q.1.op, q.1.ld⟩, q.2⟩) (fun s r z q => ⟨⟨q.1.op, q.1.ld⟩, q.2⟩) (fun s r z q => ⟨⟨q.1.op, q.1.ld⟩, ?_⟩) (fun s w r W V q hw => ⟨q.1.new O W hw, q.2.new O q.1 W hw⟩) (fun s k o w s' f o' N W V q eo n1 n2 sp _ => ⟨q.1.step W eo sp, q.2.step (near N) q.1 W V eo sp⟩) r
  intro o mo ko u mu mk t ht lt
  have A := q.2 o mo ko u mu mk t ht lt
  have le : fetchV c s ≤ fetchV c { s with rep := s.rep + 1 } := by
    unfold fetchV
    split
    · exact Nat.le_succ _
    · exact Nat.le_refl _
  exact ⟨⟨fun z => Nat.le_trans (A.1.1 z) le, A.1.2⟩, fun su l q hl eq => ⟨fun z => Nat.le_trans ((A.2 su l q hl eq).1 z) le, (A.2 su l q hl eq).2⟩⟩
end
end Ca

set_option Elab.async false
set_option linter.all false
set_option maxRecDepth 100000
set_option maxHeartbeats 4000000
namespace Ca
open PySem L2
/-! ### what holds is kept: fresh, quiet -/
section
variable {c : Conf} {s : HS} {k : Nat} {o : OpS} {w : Str} {kd : Str} {b : Bool}
theorem val_le {u : OpS} {x : Nat} (h : ∀ v, u.version = some v → v ≤ x) : u.version.getD 0 ≤ x := by
  cases hv : u.version with
  | none => exact Nat.zero_le _
  | some v => exact h v hv
theorem prim_ne (h : m_is_primary c = true) : ¬ c.source = "replica" := fun z => by
  unfold m_is_primary at h
  rw [z] at h
  exact absurd h (by decide +kernel)
theorem val_db (O : c.Ok) (r : Reach c s) {u : OpS} (mu : u ∈ s.ops) : u.version.getD 0 ≤ s.db := val_le fun v hv => ((r.vi O).ops u mu).le v hv
theorem fet_db (O : c.Ok) (r : Reach c s) (hs : ¬ c.source = "replica") {u : OpS} (mu : u ∈ s.ops) : u.version.getD 0 ≤ fetchV c s := by
  unfold fetchV
  rw [if_neg hs]
  exact val_db O r mu
theorem sk_passes (O : c.Ok) (h : m_passes_by c = true) (hs : ¬ c.source = "replica") (r : Reach c s) : SC c s kd b := by
  have hc := keep_rest_never O h r
  refine ⟨fun x hx => (by rw [hc] at hx; cases hx), fun _ u mu _ => fet_db O r hs mu, fun _ l q _ eq st => absurd st (fill_free O (passes_of h).1 r q (List.mem_of_getElem? eq))⟩
theorem sk_climbs (O : c.Ok) (h : m_climbs c = true) (r : Reach c s) : SC c s "write" false := by
  have C := climb_reach O h r
  have no : ∀ u ∈ s.ops, Mk "write" false u → ∀ v, u.version = some v → ∃ x, s.cache = some x ∧ v ≤ x := fun u mu mk v hv => by
    rcases mk.2 with z | z
    · exact C.wr u mu mk.1 z v hv
    · cases z.1
  have empty : s.cache = none → ∀ u ∈ s.ops, Mk "write" false u → ∀ y, u.version.getD 0 ≤ y := fun hc u mu mk y => val_le fun v hv => by
    obtain ⟨x, hx, _⟩ := no u mu mk v hv
    rw [hc] at hx
    cases hx
  refine ⟨fun x hx u mu mk => val_le fun v hv => ?_, fun hc u mu mk => empty hc u mu mk _, fun hc _ _ _ _ _ u mu mk => empty hc u mu mk _⟩
  obtain ⟨y, hy, le⟩ := no u mu mk v hv
  rw [hx] at hy
  cases hy
  exact le
theorem sk_ew (O : c.Ok) (hf : ¬ c.flight = "shared") (hs : ¬ c.source = "replica") (r : Reach c s) (h : ∀ x, s.cache = some x → EW s x) : SC c s "write" false := by
  refine ⟨fun x hx u mu mk => val_le fun v hv => ?_, fun _ u mu _ => fet_db O r hs mu, fun _ l q hl => ?_⟩
  · rcases mk.2 with z | z
    · exact h x hx u mu mk.1 z v hv
    · cases z.1
  · rw [(wait_free O hf r).1] at hl
    cases hl
theorem sk_fresh (O : c.Ok) (h : progH c .fresh = true) : ∀ s : HS, Reach c s → SC c s "write" false := fun s r => by
  have h : m_holds_fresh c = true := h
  unfold m_holds_fresh at h
  cases hb : m_climbs c with
  | true => exact sk_climbs O hb r
  | false =>
    rw [hb] at h
    obtain ⟨hp, h⟩ := Bool.and_eq_true _ _ |>.mp (show (m_is_primary c && _) = true from h)
    have hs := prim_ne hp
    rcases Bool.or_eq_true _ _ |>.mp h with h | h
    · exact sk_passes O h hs r
    · obtain ⟨ha, h⟩ := Bool.and_eq_true _ _ |>.mp h
      have hf := alone_ne O ha
      unfold m_guards at h
      obtain ⟨hd, h⟩ := Bool.and_eq_true _ _ |>.mp h
      refine sk_ew O hf hs r fun x hx => ?_
      rcases Bool.or_eq_true _ _ |>.mp h with g | g
      · exact (GT_reach O hd (V.str.inj (of_decide_eq_true g)) hs r).ca x hx
      · obtain ⟨g, e⟩ := Bool.and_eq_true _ _ |>.mp g
        have G := GA_reach O hd (V.str.inj (of_decide_eq_true g)) (V.str.inj (of_decide_eq_true e)) r
        exact fun u mu ku eu v hv => Nat.le_trans (G.wr u mu ku eu v hv) (G.lo x hx)
theorem last_mem {o : OpS} {rest : List OpS} (h : lastL s = o :: rest) : o ∈ s.ops ∧ o.kind = "read" ∧ o.stage = "ended" ∧ o.over = some (s.past.length - 1) := by
  have m : o ∈ lastL s := by rw [h]; exact List.mem_cons_self ..
  unfold lastL at m
  obtain ⟨m, p⟩ := List.mem_filter.mp m
  rw [Bool.and_eq_true, Bool.and_eq_true, decide_eq_true_eq, decide_eq_true_eq, decide_eq_true_eq] at p
  exact ⟨m, p⟩
theorem foldl_le {l : List OpS} {x : Nat} : ∀ {m : Nat}, m ≤ x → (∀ u ∈ l, u.version.getD 0 ≤ x) → l.foldl (fun m u => max m (u.version.getD 0)) m ≤ x := by
  induction l with
  | nil => exact fun h _ => h
  | cons a r ih =>
    intro m h1 h2
    exact ih (Nat.max_le.mpr ⟨h1, h2 a (List.mem_cons_self ..)⟩) fun u hu => h2 u (List.mem_cons_of_mem _ hu)
/-- every ended read tells at least what had ended before it began -/
theorem pp_before (O : c.Ok) (r : Reach c s) (P : PP c s kd false) {o : OpS} (mo : o ∈ s.ops) (ko : o.kind = "read") (eo : o.stage = "ended") : beforeH s o kd ≤ o.version.getD 0 := by
  unfold beforeH
  refine foldl_le (Nat.zero_le _) fun u hu => ?_
  unfold beforeL at hu
  obtain ⟨hu, h3⟩ := List.mem_filter.mp hu
  obtain ⟨mu, h⟩ := List.mem_filter.mp hu
  rw [Bool.and_eq_true, decide_eq_true_eq, decide_eq_true_eq] at h
  obtain ⟨t, ht⟩ := Option.isSome_iff_exists.mp ((r.io O u mu).ov h.2)
  have h3 := of_decide_eq_true h3
  rw [ht] at h3
  exact (P o mo ko u mu ⟨h.1, .inl h.2⟩ t ht h3).1.2 (.inr eo)
theorem keep_fresh (O : c.Ok) (h : progH c .fresh = true) (r : Reach c s) : brokenH c s .fresh = false := by
  have P := (pp_reach O (sk_fresh O h) r).2
  unfold brokenH lastB
  cases hl : lastL s with
  | nil => rfl
  | cons o rest =>
    obtain ⟨mo, ko, eo, _⟩ := last_mem hl
    have := pp_before O r P mo ko eo
    exact decide_eq_false (by omega)
/-- times tell operations apart -/
theorem time_ne {i j : Nat} {x y : Str} {l : List Ev} {t : Nat} (h1 : l[t]? = some (x, some (i : Int))) (h2 : l[t]? = some (y, some (j : Int))) : i = j := by
  rw [h1] at h2
  have z : (some (i : Int)) = some (j : Int) := congrArg Prod.snd (Option.some.inj h2)
  exact Int.ofNat.inj (Option.some.inj z)
theorem quiet_of (O : c.Ok) (r : Reach c s) (P : PP c s "write" b) (hst : b = true ∨ AllSt s (fun st => ¬ st = "stopped")) : brokenH c s .quiet = false := by
  have TT := (reach_times O r).2
  unfold brokenH lastB
  cases hl : lastL s with
  | nil => rfl
  | cons o rest =>
    obtain ⟨mo, ko, eo, vo⟩ := last_mem hl
    show (wasQuiet s o && decide (o.version.getD 0 < s.db)) = false
    cases hq : wasQuiet s o with
    | false => rfl
    | true =>
      rw [Bool.true_and]
      refine decide_eq_false fun lt => ?_
      obtain ⟨u, mu, ku, hv⟩ := (r.vi O).has s.db (by omega) (Nat.le_refl _)
      obtain ⟨i, hi, ei⟩ := List.getElem_of_mem mo
      obtain ⟨j, hj, ej⟩ := List.getElem_of_mem mu
      have ei : s.ops[i]? = some o := by rw [List.getElem?_eq_getElem hi, ei]
      have ej : s.ops[j]? = some u := by rw [List.getElem?_eq_getElem hj, ej]
      have ne : ¬ i = j := fun z => by
        subst z
        rw [ei] at ej
        rw [← Option.some.inj ej, ko] at ku
        exact absurd ku (by decide +kernel)
      obtain ⟨_, b1⟩ := TT.bg j u ej
      obtain ⟨_, b2⟩ := TT.ov i o _ ei vo
      obtain ⟨_, b3⟩ := TT.bg i o ei
      have l1 := (List.getElem?_eq_some_iff.mp b1).1
      have n1 : ¬ u.begun = s.past.length - 1 := fun z => by
        rw [z] at b1
        exact ne (time_ne b2 b1)
      have nin : u ∉ quietL s o := fun z => by
        unfold wasQuiet at hq
        rw [List.isEmpty_iff.mp hq] at z
        cases z
      have old : ∃ t, u.over = some t ∧ t ≤ o.begun := by
        cases hu : u.over with
        | none =>
          refine absurd (List.mem_filter.mpr ⟨List.mem_filter.mpr ⟨mu, ?_⟩, ?_⟩) nin
          · rw [vo, Bool.and_eq_true]
            exact ⟨decide_eq_true ku, decide_eq_true (show u.begun < s.past.length - 1 by omega)⟩
          · rw [hu]; rfl
        | some t =>
          refine ⟨t, rfl, ?_⟩
          by_cases h : o.begun < t
          · refine absurd (List.mem_filter.mpr ⟨List.mem_filter.mpr ⟨mu, ?_⟩, ?_⟩) nin
            · rw [vo, Bool.and_eq_true]
              exact ⟨decide_eq_true ku, decide_eq_true (show u.begun < s.past.length - 1 by omega)⟩
            · rw [hu]
              exact Bool.or_eq_true _ _ |>.mpr (.inr (decide_eq_true h))
          · omega
      obtain ⟨t, ht, le⟩ := old
      obtain ⟨_, b4⟩ := TT.ov j u t ej ht
      have n2 : ¬ t = o.begun := fun z => by
        rw [z] at b4
        exact ne (time_ne b3 b4)
      have en : endedB u = true := by
        cases he : endedB u with
        | true => rfl
        | false =>
          have := (TT.lv j u ej).mpr he
          rw [ht] at this
          cases this
      have mk : Mk "write" b u := by
        refine ⟨ku, ?_⟩
        unfold endedB at en
        rcases Bool.or_eq_true _ _ |>.mp en with z | z
        · exact .inl (of_decide_eq_true z)
        · rcases hst with y | y
          · exact .inr ⟨y, of_decide_eq_true z⟩
          · exact absurd (of_decide_eq_true z) (y u mu)
      have z := (P o mo ko u mu mk t ht (by omega)).1.2 (.inr eo)
      rw [hv] at z
      have z : s.db ≤ o.version.getD 0 := z
      omega
theorem keep_quiet (O : c.Ok) (h : progH c .quiet = true) (r : Reach c s) : brokenH c s .quiet = false := by
  have h : m_holds_quiet c = true := h
  unfold m_holds_quiet at h
  cases hb : m_passes_by c with
  | true =>
    rw [hb] at h
    have hs := prim_ne (show m_is_primary c = true from h)
    exact quiet_of (b := true) O r (pp_reach O (fun s r => sk_passes O hb hs r) r).2 (.inl rfl)
  | false =>
    rw [hb] at h
    obtain ⟨hf, h⟩ := Bool.and_eq_true _ _ |>.mp (show (m_finishes c && m_holds_fresh c) = true from h)
    exact quiet_of (b := false) O r (pp_reach O (sk_fresh O h) r).2 (.inr (stop_free O (finish_ne hf) r))
end
end Ca

set_option Elab.async false
set_option linter.all false
set_option maxRecDepth 100000
set_option maxHeartbeats 4000000
namespace Ca
open PySem PySem.Spec PyProof.Rows L2
section
variable {P : Program} {w : World} {K : PySem.W.Frag} {mg : Str → Option Value} {base : Heap}
/-- numbers and words that a key tells -/
structure KeyOk (s : HS) : Prop where
  db : s.db ≤ 1000
  rep : s.rep ≤ 1000
  ca : ∀ v, s.cache = some v → v ≤ 1000
  mark : s.mark ≤ 1000
  opn : ∀ v, s.opn = some v → v ≤ 1000
  ver : ∀ o ∈ s.ops, ∀ v, o.version = some v → v ≤ 1000
  led : ∀ o ∈ s.ops, ∀ v, o.leader = some v → v ≤ 1000
  kd : ∀ o ∈ s.ops, o.kind.length ≤ 20 ∧ Small o.kind
  st : ∀ o ∈ s.ops, o.stage.length ≤ 20 ∧ Small o.stage
def onD : Option Nat → PyData
  | none => .none
  | some n => .int (n : Int)
theorem onD_dp {H : Hp} {v : Option Nat} : Dp K H (on v) (onD v) := by
  cases v with
  | none => exact .non
  | some n => exact .int _
structure SmD (d : PyData) : Prop where
  sh : d.showable = true
  nd : d.hasDict = false
  dp : d.depth = 0
  rm : roomD d ≤ 13
  ns : noStr d = true
theorem intD {n : Nat} (h : n ≤ 1000) : SmD (.int (n : Int)) := by
  refine ⟨?_, rfl, rfl, PyData.shown_int_le (by rw [Int.natAbs_natCast]; omega), rfl⟩
  simp only [PyData.showable, Int.natAbs_natCast]
  have := Nat.log2_le_self n
  exact decide_eq_true (by omega)
theorem onD_ok {v : Option Nat} (h : ∀ n, v = some n → n ≤ 1000) : SmD (onD v) := by
  cases v with
  | none => exact ⟨rfl, rfl, rfl, by decide, rfl⟩
  | some n => exact intD (h n rfl)
def KS (t : Str) : Prop := t.length ≤ 100 ∧ Small t
theorem KS.room {t : Str} (h : KS t) : roomD (.str t) ≤ 1002 := by
  have z := PySem.StrLaws.reprText_len t h.2
  have e : roomD (.str t) = (reprText t).length := by simp only [roomD, PyData.shown]
  rw [e]
  have := h.1
  omega
def RowsAt (H : Hp) (xs : List V) : Prop := ∀ x ∈ xs, ∃ t a b v f, x = .ref t ∧ H t = some (.tup [.str a, .str b, .str v, .str f]) ∧ KS a ∧ KS b ∧ KS v ∧ KS f
theorem rows_dp {H : Hp} : ∀ {xs : List V}, RowsAt H xs → ∃ ds, DpAll K H xs ds ∧ PyData.showableAll ds = true ∧ PyData.hasDictAll ds = false ∧ PyData.depthAll ds ≤ 1 ∧ roomA ds ≤ xs.length * 4100
  | [], _ => ⟨[], .nil, rfl, rfl, Nat.zero_le _, Nat.zero_le _⟩
  | x :: xs, h => by
    obtain ⟨ds, a1, a2, a3, a4, a5⟩ := rows_dp (xs := xs) fun y hy => h y (List.mem_cons_of_mem _ hy)
    obtain ⟨t, a, b, v, f, rfl, ht, k1, k2, k3, k4⟩ := h x (List.mem_cons_self ..)
    have r1 := k1.room
    have r2 := k2.room
    have r3 := k3.room
    have r4 := k4.room
    refine ⟨.tuple [.str a, .str b, .str v, .str f] :: ds, .cons (.tup (SqT.of ht) (.cons (.str _) (.cons (.str _) (.cons (.str _) (.cons (.str _) .nil))))) a1, ?_, ?_, ?_, ?_⟩
    · simp [PyData.showableAll, PyData.showable, a2]
    · simp [PyData.hasDictAll, PyData.hasDict, a3]
    · simp only [PyData.depthAll, PyData.depth]
      omega
    · simp only [roomA] at a5 ⊢
      rw [show roomD (.tuple [.str a, .str b, .str v, .str f]) = roomA [.str a, .str b, .str v, .str f] + 5 from by simp only [roomD]]
      simp only [roomA, List.length_cons]
      omega
theorem stron_i {H : Hp} {Q : VK} {v : Option Nat} (h : ∀ n, v = some n → n ≤ 1000) (q : ∀ t, KS t → Q (.str t) H) : rStrON [on v] H Q := by
  cases v with
  | none => exact .inl ⟨rfl, q _ ⟨by decide, small_good.lit "None"⟩⟩
  | some n =>
    have hn := h n rfl
    refine .inr ⟨(n : Int), rfl, ?_, q _ ⟨?_, small_good.lit _⟩⟩
    · rw [Int.natAbs_natCast]
      have := Nat.log2_le_self n
      omega
    · have z := PyData.shown_int_le (i := (n : Int)) (by rw [Int.natAbs_natCast]; omega)
      simp only [PyData.shown] at z
      exact Nat.le_trans z (by decide)
@[irreducible] def spKey : Sp := fun vs H Q _ => ∃ (c : Conf) (h : Addr) (A : LA) (s : HS), vs = [.ref h] ∧ LawAt c H h A s ∧ EndOk s ∧ KeyOk s ∧ s.ops.length ≤ 100 ∧ ∀ t H', Evl.Ex H H' → Q (.str t) H'
theorem ok_Lkey (T : Txt K mg) : FnOk P w K mg base CX0 3 T.f_Lkey T.fd_Lkey ["h"] spKey := by
  refine T.F_Lkey.ok sc_Lkey (fun vs H Q E h => ?_) (fun cdv A outer s H vs Q E hr h => ?_)
  · unfold spKey at h
    obtain ⟨c, h, A, s, rfl, _⟩ := h
    rfl
  · unfold spKey at h
    obtain ⟨c, h, A, s, rfl, L, io, ko, len, q⟩ := h
    have hu := hu_of hr
    refine ⟨_, (pss_cons (ps_set (i := 1) sc_Lkey.nd rfl (Or.inl rfl) (pe_lst pa_nil))
      (pss_cons (ps_for PassesOwn.never rfl (pi_list (pe_dget hu (pv 0) pe_str (fun _ _ => rfl))) (pg_name (i := 2) sc_Lkey.nd rfl (Or.inl rfl)) (pss_cons (ps_set (i := 3) sc_Lkey.nd rfl (Or.inl rfl) (pe_tup (pa_cons (pe_call (ok_Lbefore T) (hr.mono (by decide)) rfl T.m_Lbefore T.F_Lbefore.kp (b_Lbefore T) .nil pass0 (pa_cons (pv 0) (pa_cons (pv 2) (pa_cons pe_str pa_nil)))) (pa_cons (pe_call (ok_Lbefore T) (hr.mono (by decide)) rfl T.m_Lbefore T.F_Lbefore.kp (b_Lbefore T) .nil pass0 (pa_cons (pv 0) (pa_cons (pv 2) (pa_cons pe_str pa_nil)))) (pa_cons (pe_dget hu (pv 2) pe_str (fun _ _ => rfl)) (pa_cons (pe_dget hu (pv 2) pe_str (fun _ _ => rfl)) pa_nil))))))
      (pss_one (ps_expr (pe_bm PySem.F.plainAttrs_list PySem.F.slot_list_append PySem.F.type_list_append mt_append (pv 1) (pa_cons (pe_tup (pa_cons (pe_dget hu (pv 2) pe_str (fun _ _ => rfl)) (pa_cons (pe_dget hu (pv 2) pe_str (fun _ _ => rfl)) (pa_cons (pe_callTy call_strON (by rfl) T.n_str (by decide +kernel) (pa_cons (pe_dget hu (pv 2) pe_str (fun _ _ => rfl)) pa_nil)) (pa_cons (pe_callTy (call_strT (Nat.lt_of_le_of_lt (Nat.add_le_add_left (by decide : 30 ≤ 65) _) (un65 hr))) (by rfl) T.n_str (by decide +kernel) (pa_cons (pv 3) pa_nil)) pa_nil))))) pa_nil))))))
      (pss_one (ps_ret (pe_callTy (call_strT (Nat.lt_of_le_of_lt (Nat.add_le_add_left (by decide : 30 ≤ 65) _) (un65 hr))) (by rfl) T.n_str (by decide +kernel) (pa_cons (pe_tup (pa_cons (pe_dget hu (pv 0) pe_str (fun _ _ => rfl)) (pa_cons (pe_dget hu (pv 0) pe_str (fun _ _ => rfl)) (pa_cons (pe_dget hu (pv 0) pe_str (fun _ _ => rfl)) (pa_cons (pe_dget hu (pv 0) pe_str (fun _ _ => rfl)) (pa_cons (pe_dget hu (pv 0) pe_str (fun _ _ => rfl)) (pa_cons (pv 1) pa_nil))))))) pa_nil)))))), ?_⟩
    have ol : A.oas.length ≤ 100 := by rw [L.ol]; exact len
    have bf : ∀ (o : OpS) (kd : Str), beforeH s o kd ≤ 1000 := fun o kd => by
      unfold beforeH
      refine foldl_le (Nat.zero_le _) fun u hu => ?_
      unfold beforeL at hu
      have mu := (List.mem_filter.mp (List.mem_filter.mp hu).1).1
      exact val_le (ko.ver u mu)
    refine ⟨Nat.zero_le _, fun p np => ?_⟩
    have e1 := Evl.Ex.new (o := .lst []) np
    have hp1 : (upd H p (.lst [])) p = some (.lst []) := upd_same
    generalize upd H p (.lst []) = H1 at e1 hp1
    have L1 := L.same (fun b o z => e1 b o z)
    refine ⟨_, rfl, _, _, rfl, dget (L1.hd) rfl, A.lo, rfl, ⟨_, SqL.of L1.lo⟩, for_list (K := K) (a := A.lo) (xs := A.oas.map V.ref) (fun i σ' H' => ∃ x2 x3 xs, σ' = [some (.ref h), some (.ref p), x2, x3] ∧ LawAt c H' h A s ∧ Evl.Ex H H' ∧ H' p = some (.lst xs) ∧ xs.length = i ∧ RowsAt H' xs) ⟨none, none, [], rfl, L1, e1, hp1, rfl, fun x hx => (by cases hx)⟩ (fun i σ' H' _ ⟨_, _, _, _, L2, _⟩ => SqL.of L2.lo) ?_ ?_⟩
    · rintro i y σ' H' hi ⟨x2, x3, xs, rfl, L2, e2, hp2, hx, RW⟩
      rw [List.getElem?_map] at hi
      obtain ⟨b, eb, rfl⟩ : ∃ b, A.oas[i]? = some b ∧ V.ref b = y := by
        cases ez : A.oas[i]? with
        | none => rw [ez] at hi; cases hi
        | some b => rw [ez] at hi; exact ⟨b, rfl, Option.some.inj hi⟩
      obtain ⟨o, eo, _⟩ := L2.ofAt eb
      have mo := List.mem_of_getElem? eo
      refine ⟨_, rfl, _, rfl, ?_⟩
      refine before_i L2 eb eo io len fun H3 e3 => ?_
      have L3 := L2.same (fun b o z => e3 b o z)
      refine ⟨_, rfl, _, rfl, ?_⟩
      refine before_i L3 eb eo io len fun H4 e4 => ?_
      have L4 := L3.same (fun b o z => e4 b o z)
      have hb4 := L4.og i b o eb eo
      refine ⟨_, rfl, _, _, rfl, dget (hb4) rfl, _, rfl, _, _, rfl, dget (hb4) rfl, (by show 4 ≤ sizeLine; decide), fun t nt => ?_⟩
      have e5 := Evl.Ex.new (o := .tup [.int (beforeH s o "write" : Int), .int (beforeH s o "read" : Int), .bl o.clean, on o.leader]) nt
      have ht5 : (upd H4 t (.tup [.int (beforeH s o "write" : Int), .int (beforeH s o "read" : Int), .bl o.clean, on o.leader])) t = some (.tup [.int (beforeH s o "write" : Int), .int (beforeH s o "read" : Int), .bl o.clean, on o.leader]) := upd_same
      show gName 3 (.ref t) _ (upd H4 t (.tup [.int (beforeH s o "write" : Int), .int (beforeH s o "read" : Int), .bl o.clean, on o.leader])) _
      generalize upd H4 t (.tup [.int (beforeH s o "write" : Int), .int (beforeH s o "read" : Int), .bl o.clean, on o.leader]) = H5 at e5 ht5
      have L5 := L4.same (fun b o z => e5 b o z)
      have hb5 := L5.og i b o eb eo
      have e25 : Evl.Ex H' H5 := (e3.trans e4).trans e5
      have hp5 := e25 _ _ hp2
      -- what the floors' text is
      have d1 := intD (bf o "write")
      have d2 := intD (bf o "read")
      have d3 := onD_ok (ko.led o mo)
      have fr : roomA [.int (beforeH s o "write" : Int), .int (beforeH s o "read" : Int), .bool o.clean, onD o.leader] ≤ 60 := by
        have r1 := d1.rm
        have r2 := d2.rm
        have r3 := d3.rm
        have r4 : roomD (.bool o.clean) ≤ 5 := by cases o.clean <;> decide
        simp only [roomA]
        omega
      have fdp : Dp K H5 (.ref t) (.tuple [.int (beforeH s o "write" : Int), .int (beforeH s o "read" : Int), .bool o.clean, onD o.leader]) := .tup (SqT.of ht5) (.cons (.int _) (.cons (.int _) (.cons (.bl _) (.cons onD_dp .nil))))
      refine ⟨_, rfl, .inl ⟨rfl, _, SqL.of hp5⟩, _, rfl, _, _, rfl, dget (hb5) rfl, _, rfl, _, _, rfl, dget (hb5) rfl, _, rfl, _, _, rfl, dget (hb5) rfl, ?_⟩
      unfold tNil
      dsimp only
      refine stron_i (ko.ver o mo) fun vt kv => ?_
      refine ⟨_, rfl, t, _, rfl, fdp, ?_, ?_, ?_, Nat.le_trans (Nat.add_le_add_right fr 5) (by decide), fun ft fl fs => ?_⟩
      · simp only [PyData.showableAll, Bool.and_eq_true]
        exact ⟨d1.sh, d2.sh, by simp only [PyData.showable], d3.sh, trivial⟩
      · simp only [PyData.hasDictAll, d1.nd, d2.nd, d3.nd, PyData.hasDict, Bool.or_false]
      · simp only [PyData.depthAll, PyData.depth, d3.dp]
        decide
      have kf : KS ft := ⟨by omega, fs (by simp only [noStrs, d3.ns, noStr, Bool.and_true])⟩
      refine ⟨(by show 4 ≤ sizeLine; decide), fun u nu => ?_⟩
      have ka : KS o.kind := ⟨Nat.le_trans (ko.kd o mo).1 (by decide), (ko.kd o mo).2⟩
      have kb : KS o.stage := ⟨Nat.le_trans (ko.st o mo).1 (by decide), (ko.st o mo).2⟩
      have e6 := Evl.Ex.new (o := .tup [.str o.kind, .str o.stage, .str vt, .str ft]) nu
      have hu6 : (upd H5 u (.tup [.str o.kind, .str o.stage, .str vt, .str ft])) u = some (.tup [.str o.kind, .str o.stage, .str vt, .str ft]) := upd_same
      show rAppend (.ref p) [.ref u] (upd H5 u (.tup [.str o.kind, .str o.stage, .str vt, .str ft])) _
      generalize upd H5 u (.tup [.str o.kind, .str o.stage, .str vt, .str ft]) = H6 at e6 hu6
      have e26 := e25.trans e6
      have hp6 := e26 _ _ hp2
      have il : i < A.oas.length := (List.getElem?_eq_some_iff.mp eb).1
      refine ⟨p, xs, _, rfl, rfl, hp6, Nat.lt_of_le_of_lt (show xs.length ≤ 100 by omega) (by decide), ?_⟩
      have ex : Evl.Ex H (upd H6 p (.lst (xs ++ [.ref u]))) := fun b o z => by
        rw [upd_ne (ne_of_none z np)]
        exact e26 b o (e2 b o z)
      refine ⟨_, _, xs ++ [.ref u], rfl, L.same (fun b o z => ex b o z), ex, upd_same, by rw [List.length_append, hx]; rfl, fun y hy => ?_⟩
      have ne : ∀ {t : Addr} {l : List V}, H6 t = some (.tup l) → (upd H6 p (.lst (xs ++ [.ref u]))) t = some (.tup l) := fun {t l} z => by
        rw [upd_ne (fun e => by rw [e, hp6] at z; cases z)]
        exact z
      rcases List.mem_append.mp hy with z | z
      · obtain ⟨t2, a, b2, v, f, r1, r2, r3⟩ := RW y z
        exact ⟨t2, a, b2, v, f, r1, ne (e26 _ _ r2), r3⟩
      · exact ⟨u, _, _, _, _, List.mem_singleton.mp z, ne hu6, ka, kb, kv, kf⟩
    · rintro σ' H' ⟨x2, x3, xs, rfl, L2, e2, hp2, hx, RW⟩
      refine ⟨_, rfl, _, _, rfl, dget (L2.hd) rfl, _, rfl, _, _, rfl, dget (L2.hd) rfl, _, rfl, _, _, rfl, dget (L2.hd) rfl, _, rfl, _, _, rfl, dget (L2.hd) rfl, _, rfl, _, _, rfl, dget (L2.hd) rfl, _, rfl, (by show 6 ≤ sizeLine; decide), fun t nt => ?_⟩
      have e5 := Evl.Ex.new (o := .tup [.int (s.db : Int), .int (s.rep : Int), on s.cache, .int (s.mark : Int), on s.opn, .ref p]) nt
      have ht5 : (upd H' t (.tup [.int (s.db : Int), .int (s.rep : Int), on s.cache, .int (s.mark : Int), on s.opn, .ref p])) t = some (.tup [.int (s.db : Int), .int (s.rep : Int), on s.cache, .int (s.mark : Int), on s.opn, .ref p]) := upd_same
      show rStrT K [.ref t] (upd H' t (.tup [.int (s.db : Int), .int (s.rep : Int), on s.cache, .int (s.mark : Int), on s.opn, .ref p])) _
      have hp5 := e5 _ _ hp2
      generalize upd H' t (.tup [.int (s.db : Int), .int (s.rep : Int), on s.cache, .int (s.mark : Int), on s.opn, .ref p]) = H5 at e5 ht5 hp5
      have RW5 : RowsAt H5 xs := fun x hx => by
        obtain ⟨t2, a, b2, v, f, r1, r2, r3⟩ := RW x hx
        exact ⟨t2, a, b2, v, f, r1, e5 _ _ r2, r3⟩
      obtain ⟨ds, a0, a2, a3, a4, a5⟩ := rows_dp (K := K) RW5
      have d1 := intD ko.db
      have d2 := intD ko.rep
      have d3 := onD_ok ko.ca
      have d4 := intD ko.mark
      have d5 := onD_ok ko.opn
      have rb : roomA [.int (s.db : Int), .int (s.rep : Int), onD s.cache, .int (s.mark : Int), onD s.opn, .list ds] ≤ 420000 := by
        have r1 := d1.rm
        have r2 := d2.rm
        have r3 := d3.rm
        have r4 := d4.rm
        have r5 := d5.rm
        have xl : xs.length ≤ 100 := by rw [hx, List.length_map]; exact ol
        simp only [roomA] at a5 ⊢
        rw [show roomD (.list ds) = roomA ds + 5 from by simp only [roomD]]
        omega
      refine ⟨t, _, rfl, .tup (SqT.of ht5) (.cons (.int _) (.cons (.int _) (.cons onD_dp (.cons (.int _) (.cons onD_dp (.cons (.lst (SqL.of hp5) a0) .nil)))))), ?_, ?_, ?_, Nat.le_trans (Nat.add_le_add_right rb 5) (by decide), fun ft fl fs => q ft H5 fun b o z => e5 b o (e2 b o z)⟩
      · simp only [PyData.showableAll, Bool.and_eq_true]
        exact ⟨d1.sh, d2.sh, d3.sh, d4.sh, d5.sh, by simp only [PyData.showable]; exact a2, trivial⟩
      · simp only [PyData.hasDictAll, d1.nd, d2.nd, d3.nd, d4.nd, d5.nd, PyData.hasDict, a3, Bool.or_false]
      · simp only [PyData.depthAll, PyData.depth, d3.dp, d5.dp]
        omega
end
end Ca

set_option Elab.async false
set_option linter.all false
set_option maxRecDepth 100000
set_option maxHeartbeats 4000000
namespace Ca
open PySem L2
/-! ### what holds is kept: forward -/
section
variable {c : Conf} {s s' : HS} {k : Nat} {o o' : OpS} {w : Str} {f : OpS → OpS}
abbrev Rd : OpS → Prop := Mk "read" false
theorem Rd.of {u : OpS} (h : Rd u) : u.kind = "read" ∧ u.stage = "ended" := ⟨h.1, h.2.elim id fun z => by cases z.1⟩
theorem near_bs (O : c.Ok) (h : Near c s) : Bs s := by
  have B : ∀ {s : HS}, Reach c s → Bs s := fun {s} r => by
    refine reach_ind4 (Q := Bs) O ⟨fun l q h => (by cases h), fun u m => (by cases m)⟩ (fun s e q => ⟨q.op, q.ld⟩) (fun s r z q => ⟨q.op, q.ld⟩) (fun s r z q => ⟨q.op, q.ld⟩) (fun s w r W V q hw => q.new O W hw) (fun s k o w s' f o' N W V q eo n1 n2 sp _ => q.step W eo sp) r
  rcases h with h | ⟨s0, w, h, hw, rfl⟩
  · exact B h
  · exact (B h).new O (h.wf O).1 hw
theorem near_one (O : c.Ok) (hf : c.flight = "shared") (h : Near c s) : One s := by
  rcases h with h | ⟨s0, w, h, hw, rfl⟩
  · exact one_reach O hf h
  · have z := (one_reach O hf h).pre O (h.wf O).1 hw
    rw [pre_new] at z
    exact z
/-- who has told a value by now: the old ones, and who ends now -/
theorem rd_step (B : Bs s) (eo : s.ops[k]? = some o) (sp : StpO c s k o w s' f o') {u : OpS} (mu : u ∈ s'.ops) (hu : Rd u) : (∃ u0 ∈ s.ops, Rd u0 ∧ u.version = u0.version) ∨
    (u = o' ∧ o.kind = "read" ∧ ((∃ x, s.cache = some x ∧ o'.version = some x ∧ s'.cache = some x ∧ s'.mark = s.mark) ∨ (c.guard = "never" ∧ o.stage = "fetch" ∧ o'.version = some (fetchV c s) ∧ s'.cache = s.cache) ∨
      (o.stage = "fill" ∧ o'.version = o.version ∧ ((letsB c s o (o.version.getD 0) = true ∧ s'.cache = some (o.version.getD 0) ∧ s'.mark = (if c.guard = "mark" then max s.mark (o.version.getD 0) else s.mark)) ∨ (letsB c s o (o.version.getD 0) = false ∧ s'.cache = s.cache ∧ s'.mark = s.mark))))) := by
  rcases sp.mem eo mu with rfl | ⟨_, u0, _, eu, rfl⟩
  · obtain ⟨ku, su⟩ := hu.of
    have kr : o.kind = "read" := sp.kd.symm.trans ku
    cases sp.st with
    | stop h => rw [h] at su; exact absurd su (by decide +kernel)
    | write kd => rw [kr] at kd; exact absurd kd (by decide +kernel)
    | hit _ _ x hc h v _ e m => exact .inr ⟨rfl, kr, .inl ⟨x, hc, v, e.trans hc, m⟩⟩
    | wait _ _ _ _ _ h => rw [h] at su; exact absurd su (by decide +kernel)
    | «open» _ _ _ _ h => rw [h] at su; exact absurd su (by decide +kernel)
    | fetch _ _ _ h => rw [h] at su; exact absurd su (by decide +kernel)
    | bypass _ st g h v _ e => exact .inr ⟨rfl, kr, .inr (.inl ⟨g, st, v, e⟩)⟩
    | take _ st l q hl eq qe h v =>
      have z := B.ld o (List.mem_of_getElem? eo) st l q hl eq
      exact .inl ⟨q, List.mem_of_getElem? eq, ⟨z.1, .inl qe⟩, v⟩
    | fill _ st h v _ e => exact .inr ⟨rfl, kr, .inr (.inr ⟨st, v, e⟩)⟩
  · exact .inl ⟨u0, List.mem_of_getElem? eu, hu.img sp.hf, (fver sp.hf u0).2.1⟩
theorem rd_new (O : c.Ok) (hw : w = "look" ∨ w = firstW c) {u : OpS} (mu : u ∈ s.ops ++ [newOp s w]) (hu : Rd u) : u ∈ s.ops := hu.old O hw mu
/-- what the cache and the mark do at a step -/
theorem cache_step (sp : StpO c s k o w s' f o') : (s'.cache = s.cache ∧ s'.mark = s.mark) ∨ (w ∈ c.steps ∧ w = "drop" ∧ s'.cache = none ∧ s.mark ≤ s'.mark) ∨
    (∃ v, s'.cache = some v ∧ s'.mark = (if c.guard = "mark" then max s.mark v else s.mark) ∧ v = o.version.getD 0 ∧ ((w ∈ c.steps ∧ w = "set" ∧ setsB c s v = true) ∨ (o.kind = "read" ∧ o.stage = "fill" ∧ letsB c s o v = true))) := by
  cases sp.st with
  | stop _ _ _ e m => exact .inl ⟨e, m⟩
  | write _ _ _ _ _ _ wd e =>
    rcases e with ⟨e1, e2, e3⟩ | ⟨e1, e2, e3, e4⟩ | ⟨_, e2, e3⟩
    · exact .inr (.inl ⟨wd, e1, e2, e3⟩)
    · exact .inr (.inr ⟨_, e3, e4, rfl, .inl ⟨wd, e1, e2⟩⟩)
    · exact .inl ⟨e2, e3⟩
  | hit _ _ _ _ _ _ _ e m => exact .inl ⟨e, m⟩
  | wait _ _ _ _ _ _ _ _ _ e m => exact .inl ⟨e, m⟩
  | «open» _ _ _ _ _ _ _ e m => exact .inl ⟨e, m⟩
  | fetch _ _ _ _ _ _ e m => exact .inl ⟨e, m⟩
  | bypass _ _ _ _ _ _ e m => exact .inl ⟨e, m⟩
  | take _ _ _ _ _ _ _ _ _ _ e m => exact .inl ⟨e, m⟩
  | fill kr st _ _ _ e =>
    rcases e with ⟨e1, e2, e3⟩ | ⟨_, e2, e3⟩
    · exact .inr (.inr ⟨_, e2, e3, rfl, .inr ⟨kr, st, e1⟩⟩)
    · exact .inl ⟨e2, e3⟩
theorem lets_mark (g : c.guard = "mark") {v : Nat} : letsB c s o v = decide (s.mark ≤ v) := by
  unfold letsB
  rw [if_neg (by rw [g]; decide +kernel), if_pos g]
theorem lets_newer (g : c.guard = "newer") {v : Nat} : letsB c s o v = newerB s v := by
  unfold letsB
  rw [if_neg (by rw [g]; decide +kernel), if_neg (by rw [g]; decide +kernel), if_pos g, g]
  rfl
theorem sets_mark (g : c.guard = "mark") {v : Nat} : setsB c s v = decide (s.mark ≤ v) := by
  unfold setsB
  rw [if_pos g]
theorem sets_newer (g : c.guard = "newer") {v : Nat} : setsB c s v = newerB s v := by
  unfold setsB
  rw [if_neg (by rw [g]; decide +kernel), g]
  rfl
/-! a cache that only climbs -/
structure Top (c : Conf) (s : HS) : Prop where
  mark : MarkAt c s
  rd : ∀ u ∈ s.ops, Rd u → ∃ x, s.cache = some x ∧ u.version.getD 0 ≤ x
theorem top_near (O : c.Ok) (nd : ∀ w ∈ c.steps, ¬ w = "drop") (hg : c.guard = "mark" ∨ c.guard = "newer") (he : c.evict = "keeps") (r : Reach c s) : Top c s := by
  refine reach_ind4 (Q := Top c) O ⟨fun _ => .inl ⟨rfl, rfl⟩, fun u m => (by cases m)⟩ (fun s e q => ⟨q.mark, q.rd⟩) (fun s _ ce q => ?_) (fun s _ _ q => ⟨q.mark, q.rd⟩) (fun s w r W V q hw => ⟨q.mark, fun u mu hu => q.rd u (rd_new O hw mu hu) hu⟩) (fun s k o w s' f o' N W V q eo n1 n2 sp _ => ?_) r
  · unfold canEvict at ce
    rw [he] at ce
    exact absurd (Bool.and_eq_true _ _ |>.mp ce).1 (by decide +kernel)
  · -- the cache climbs
    have cl : MarkAt c s' ∧ CM s s' := by
      rcases cache_step sp with ⟨e, m⟩ | ⟨wm, wd, _⟩ | ⟨v, e, m, _, h⟩
      · refine ⟨fun g => ?_, CM.of e⟩
        rw [e, m]
        exact q.mark g
      · exact absurd wd (nd w wm)
      · have h1 : c.guard = "mark" → s.mark ≤ v := fun g => by
          rcases h with ⟨_, _, h⟩ | ⟨_, _, h⟩
          · rw [sets_mark g] at h; exact of_decide_eq_true h
          · rw [lets_mark g] at h; exact of_decide_eq_true h
        have h2 : c.guard = "newer" → newerB s v = true := fun g => by
          rcases h with ⟨_, _, h⟩ | ⟨_, _, h⟩
          · rw [sets_newer g] at h; exact h
          · rw [lets_newer g] at h; exact h
        obtain ⟨a1, a2, a3⟩ := hold_climb q.mark hg ⟨h1, h2⟩
        have em : (holdH c s v).mark = s'.mark := by rw [m]; exact hold_f.2.2.2.1
        refine ⟨fun g => ?_, fun x hx => ?_⟩
        · have z := a1 g
          rw [a3, em] at z
          rw [e]
          exact z
        · obtain ⟨y, h3, h4⟩ := a2 x hx
          rw [a3] at h3
          exact ⟨y, by rw [e]; exact h3, h4⟩
    refine ⟨cl.1, fun u mu hu => ?_⟩
    rcases rd_step (near_bs O N) eo sp mu hu with ⟨u0, m0, h0, ev⟩ | ⟨rfl, _, h | h | h⟩
    · obtain ⟨x, hx, le⟩ := q.rd u0 m0 h0
      obtain ⟨y, hy, le2⟩ := cl.2 x hx
      rw [ev]
      exact ⟨y, hy, Nat.le_trans le le2⟩
    · obtain ⟨x, _, h2, h3, _⟩ := h
      exact ⟨x, h3, by rw [h2]; exact Nat.le_refl _⟩
    · rcases hg with g | g <;> rw [g] at h <;> exact absurd h.1 (by decide +kernel)
    · obtain ⟨_, h2, h3 | h3⟩ := h
      · exact ⟨_, h3.2.1, by rw [h2]; exact Nat.le_refl _⟩
      · rw [h3.2.1, h2]
        rcases hg with g | g
        · have z := h3.1
          rw [lets_mark g] at z
          have z := of_decide_eq_false z
          rcases q.mark g with y | y
          · rw [y.2] at z
            exact absurd (Nat.zero_le _) z
          · exact ⟨_, y, by omega⟩
        · have z := h3.1
          rw [lets_newer g] at z
          unfold newerB at z
          cases hx : s.cache with
          | none => rw [hx] at z; cases z
          | some x =>
            rw [hx] at z
            have z : ¬ x < o.version.getD 0 := of_decide_eq_false z
            exact ⟨x, rfl, by omega⟩
theorem sk_top (T : Top c s) : SC c s "read" false := by
  have empty : s.cache = none → ∀ u ∈ s.ops, ¬ Rd u := fun hc u mu hu => by
    obtain ⟨x, hx, _⟩ := T.rd u mu hu
    rw [hc] at hx
    cases hx
  refine ⟨fun x hx u mu hu => ?_, fun hc u mu hu => absurd hu (empty hc u mu), fun hc _ _ _ _ _ u mu hu => absurd hu (empty hc u mu)⟩
  obtain ⟨y, hy, le⟩ := T.rd u mu hu
  rw [hx] at hy
  cases hy
  exact le
/-! a path that doesn't set: all that is told was fetched -/
structure FV (c : Conf) (s : HS) : Prop where
  ca : ∀ x, s.cache = some x → x ≤ fetchV c s
  rd : ∀ u ∈ s.ops, u.kind = "read" → u.version.getD 0 ≤ fetchV c s
theorem FV.step (q : FV c s) (ns : ∀ w ∈ c.steps, ¬ w = "set") (B : Bs s) (eo : s.ops[k]? = some o) (sp : StpO c s k o w s' f o') : FV c s' := by
  have le := sp.fetchV
  refine ⟨fun x hx => ?_, fun u mu hu => ?_⟩
  · rcases cache_step sp with ⟨e, _⟩ | ⟨_, _, e, _⟩ | ⟨v, e, _, ev, h⟩
    · rw [e] at hx; exact Nat.le_trans (q.ca x hx) le
    · rw [e] at hx; cases hx
    · rw [e] at hx
      cases hx
      rcases h with ⟨wm, ws, _⟩ | ⟨kr, _, _⟩
      · exact absurd ws (ns w wm)
      · rw [ev]; exact Nat.le_trans (q.rd o (List.mem_of_getElem? eo) kr) le
  · rcases sp.mem eo mu with rfl | ⟨_, u0, _, eu, rfl⟩
    · have kr : o.kind = "read" := sp.kd.symm.trans hu
      have ho := q.rd o (List.mem_of_getElem? eo) kr
      refine Nat.le_trans ?_ le
      cases sp.st with
      | stop _ v => rw [v]; exact ho
      | write kd => rw [kr] at kd; exact absurd kd (by decide +kernel)
      | hit _ _ x hc _ v => rw [v]; exact q.ca x hc
      | wait _ _ _ _ _ _ _ v => rw [v]; exact ho
      | «open» _ _ _ _ _ v => rw [v]; exact ho
      | fetch _ _ _ _ v => rw [v]; exact Nat.le_refl _
      | bypass _ _ _ _ v => rw [v]; exact Nat.le_refl _
      | take _ st l q2 hl eq _ _ v => rw [v]; exact q.rd q2 (List.mem_of_getElem? eq) (B.ld o (List.mem_of_getElem? eo) st l q2 hl eq).1
      | fill _ _ _ v => rw [v]; exact ho
    · rw [(fver sp.hf u0).1] at hu
      rw [(fver sp.hf u0).2.1]
      exact Nat.le_trans (q.rd u0 (List.mem_of_getElem? eu) hu) le
theorem FV.copy (q : FV c s) : FV c { s with rep := s.rep + 1 } := by
  have le : fetchV c s ≤ fetchV c { s with rep := s.rep + 1 } := by
    unfold fetchV
    split
    · exact Nat.le_succ _
    · exact Nat.le_refl _
  exact ⟨fun x hx => Nat.le_trans (q.ca x hx) le, fun u mu hu => Nat.le_trans (q.rd u mu hu) le⟩
theorem FV.new (q : FV c s) : FV c { s with ops := s.ops ++ [newOp s w] } := by
  refine ⟨q.ca, fun u mu hu => ?_⟩
  rcases List.mem_append.mp mu with z | z
  · exact q.rd u z hu
  · rw [List.mem_singleton.mp z]
    exact Nat.zero_le _
theorem fv_reach (O : c.Ok) (ns : ∀ w ∈ c.steps, ¬ w = "set") (r : Reach c s) : FV c s :=
  reach_ind4 (Q := FV c) O ⟨fun x h => (by cases h), fun u m => (by cases m)⟩ (fun s e q => ⟨q.ca, q.rd⟩) (fun s _ _ q => ⟨fun x h => (by cases h), q.rd⟩) (fun s _ _ q => q.copy) (fun s w r W V q hw => q.new) (fun s k o w s' f o' N W V q eo n1 n2 sp _ => q.step ns (near_bs O N) eo sp) r
theorem sk_passes2 (O : c.Ok) (h : m_passes_by c = true) (ns : ∀ w ∈ c.steps, ¬ w = "set") (r : Reach c s) : SC c s "read" false := by
  have hc := keep_rest_never O h r
  refine ⟨fun x hx => (by rw [hc] at hx; cases hx), fun _ u mu hu => (fv_reach O ns r).rd u mu hu.1, fun _ l q _ eq st => absurd st (fill_free O (passes_of h).1 r q (List.mem_of_getElem? eq))⟩
end
end Ca

set_option Elab.async false
set_option linter.all false
set_option maxRecDepth 100000
set_option maxHeartbeats 4000000
namespace Ca
open PySem L2
/-! ### what holds is kept: forward, guarded by the mark; one flight for all -/
section
variable {c : Conf} {s s' : HS} {k : Nat} {o o' : OpS} {w : Str} {f : OpS → OpS}
theorem fv_near (O : c.Ok) (ns : ∀ w ∈ c.steps, ¬ w = "set") (h : Near c s) : FV c s := by
  rcases h with h | ⟨s0, w, h, hw, rfl⟩
  · exact fv_reach O ns h
  · exact (fv_reach O ns h).new
structure MKd (s : HS) : Prop where
  eq : ∀ x, s.cache = some x → x = s.mark
  rd : ∀ u ∈ s.ops, Rd u → u.version.getD 0 ≤ s.mark
theorem mkd_reach (O : c.Ok) (hg : c.guard = "mark") (he : c.evict = "keeps") (ns : ∀ w ∈ c.steps, ¬ w = "set") (r : Reach c s) : MKd s := by
  refine reach_ind4 (Q := MKd) O ⟨fun x h => (by cases h), fun u m => (by cases m)⟩ (fun s e q => ⟨q.eq, q.rd⟩) (fun s _ ce q => ?_) (fun s _ _ q => ⟨q.eq, q.rd⟩) (fun s w r W V q hw => ⟨q.eq, fun u mu hu => q.rd u (rd_new O hw mu hu) hu⟩) (fun s k o w s' f o' N W V q eo n1 n2 sp _ => ?_) r
  · unfold canEvict at ce
    rw [he] at ce
    exact absurd (Bool.and_eq_true _ _ |>.mp ce).1 (by decide +kernel)
  · have cs := cache_step sp
    have up : s.mark ≤ s'.mark := by
      rcases cs with ⟨_, m⟩ | ⟨_, _, _, m⟩ | ⟨v, _, m, _⟩
      · omega
      · exact m
      · rw [m, if_pos hg]; exact Nat.le_max_left ..
    refine ⟨fun x hx => ?_, fun u mu hu => ?_⟩
    · rcases cs with ⟨e, m⟩ | ⟨_, _, e, _⟩ | ⟨v, e, m, _, h⟩
      · rw [m]; exact q.eq x (by rw [← e]; exact hx)
      · rw [e] at hx; cases hx
      · rw [e] at hx
        cases hx
        rcases h with ⟨wm, ws, _⟩ | ⟨_, _, h⟩
        · exact absurd ws (ns w wm)
        · rw [lets_mark hg] at h
          rw [m, if_pos hg, Nat.max_eq_right (of_decide_eq_true h)]
    · rcases rd_step (near_bs O N) eo sp mu hu with ⟨u0, m0, h0, ev⟩ | ⟨rfl, _, h | h | h⟩
      · rw [ev]; exact Nat.le_trans (q.rd u0 m0 h0) up
      · obtain ⟨x, h1, h2, _, _⟩ := h
        rw [h2]
        exact Nat.le_trans (Nat.le_of_eq (q.eq x h1)) up
      · rw [hg] at h; exact absurd h.1 (by decide +kernel)
      · obtain ⟨_, h2, h3 | h3⟩ := h
        · rw [h2, h3.2.2, if_pos hg]; exact Nat.le_max_right ..
        · have z := h3.1
          rw [lets_mark hg] at z
          have z := of_decide_eq_false z
          rw [h2]
          omega
theorem sk_mkd (O : c.Ok) (hf : ¬ c.flight = "shared") (hg : c.guard = "mark") (he : c.evict = "keeps") (ns : ∀ w ∈ c.steps, ¬ w = "set") (r : Reach c s) : SC c s "read" false := by
  have M := mkd_reach O hg he ns r
  refine ⟨fun x hx u mu hu => ?_, fun _ u mu hu => (fv_reach O ns r).rd u mu hu.1, fun _ l q hl => ?_⟩
  · rw [M.eq x hx]; exact M.rd u mu hu
  · rw [(wait_free O hf r).1] at hl
    cases hl
/-! one flight for all -/
structure Fl (s : HS) : Prop where
  on : ∀ l, s.opn = some l → s.cache = none
  hit : ∀ x, s.cache = some x → ∀ u ∈ s.ops, Rd u → u.version.getD 0 ≤ x
  led : ∀ l q, s.opn = some l → s.ops[l]? = some q → q.stage = "fill" → ∀ u ∈ s.ops, Rd u → u.version.getD 0 ≤ q.version.getD 0
theorem Fl.step (q : Fl s) (O : c.Ok) (hf : c.flight = "shared") (ns : ∀ w ∈ c.steps, ¬ w = "set") (N : Near c s) (eo : s.ops[k]? = some o) (sp : StpO c s k o w s' f o') : Fl s' := by
  have I := near_one O hf N
  have B := near_bs O N
  have F := fv_near O ns N
  have fly : o.stage = "fetch" ∨ o.stage = "fill" → s.opn = some k := fun h => I.fly k (by rw [stg_at eo]; exact h.imp (fun z => by rw [z]) fun z => by rw [z])
  have more : ∀ {l : Nat}, s'.opn = (if s.opn = some k then none else s.opn) → s'.opn = some l → s.opn = some l := fun {l} p h => by
    rw [p] at h
    split at h
    · cases h
    · exact h
  refine ⟨fun l hl => ?_, fun x hx u mu hu => ?_, fun l q' hl el st u mu hu => ?_⟩
  · cases sp.st with
    | stop _ _ _ e _ p => rw [e]; exact q.on l (by rw [← p]; exact hl)
    | write _ _ _ _ _ _ wd e p =>
      have h1 : s.opn = some l := by
        rcases p with z | z
        · rw [← z]; exact hl
        · rw [z] at hl; cases hl
      rcases e with ⟨_, e, _⟩ | ⟨ws, _⟩ | ⟨_, e, _⟩
      · exact e
      · exact absurd ws (ns w wd)
      · rw [e]; exact q.on l h1
    | hit _ _ x hc _ _ _ _ _ p =>
      have := q.on l (more p hl)
      rw [hc] at this
      cases this
    | wait _ _ hc _ _ _ _ _ _ e => rw [e]; exact hc
    | «open» _ _ hc _ _ _ _ e => rw [e]; exact hc
    | fetch _ _ _ _ _ _ e _ p => rw [e]; exact q.on l (by rw [← p]; exact hl)
    | bypass _ _ _ _ _ _ e _ p => rw [e]; exact q.on l (more p hl)
    | take _ _ _ _ _ _ _ _ _ _ e _ p => rw [e]; exact q.on l (more p hl)
    | fill _ st _ _ _ _ p =>
      rw [p, if_pos (fly (.inr st))] at hl
      cases hl
  · rcases cache_step sp with ⟨e, _⟩ | ⟨_, _, e, _⟩ | ⟨v, e, _, ev, h⟩
    · rw [e] at hx
      rcases rd_step B eo sp mu hu with ⟨u0, m0, h0, e0⟩ | ⟨rfl, _, h | h | h⟩
      · rw [e0]; exact q.hit x hx u0 m0 h0
      · obtain ⟨y, h1, h2, _, _⟩ := h
        rw [hx] at h1
        cases h1
        rw [h2]
        exact Nat.le_refl _
      · rw [q.on k (fly (.inl h.2.1))] at hx
        cases hx
      · rw [q.on k (fly (.inr h.1))] at hx
        cases hx
    · rw [e] at hx; cases hx
    · rw [e] at hx
      cases hx
      rcases h with ⟨wm, ws, _⟩ | ⟨kr, st, lt⟩
      · exact absurd ws (ns w wm)
      · have op := fly (.inr st)
        rcases rd_step B eo sp mu hu with ⟨u0, m0, h0, e0⟩ | ⟨rfl, _, h | h | h⟩
        · rw [e0, ev]; exact q.led k o op eo st u0 m0 h0
        · obtain ⟨y, h1, _⟩ := h
          rw [q.on k op] at h1
          cases h1
        · rw [h.2.1] at st
          exact absurd st (by decide +kernel)
        · rw [h.2.1, ev]
          exact Nat.le_refl _
  · rcases sp.at_ eo el with ⟨rfl, rfl⟩ | ⟨ne, q0, e0, rfl⟩
    · have old := rd_step B eo sp mu hu
      cases sp.st with
      | stop h => rw [h] at st; exact absurd st (by decide +kernel)
      | write _ _ n2 => exact absurd st n2
      | hit _ _ _ _ h => rw [h] at st; exact absurd st (by decide +kernel)
      | wait _ _ _ _ _ h => rw [h] at st; exact absurd st (by decide +kernel)
      | «open» _ _ _ _ h => rw [h] at st; exact absurd st (by decide +kernel)
      | fetch _ _ _ h v =>
        rw [v]
        rcases old with ⟨u0, m0, h0, e1⟩ | ⟨e1, _⟩
        · rw [e1]; exact F.rd u0 m0 h0.1
        · have := hu.of.2
          rw [e1, h] at this
          exact absurd this (by decide +kernel)
      | bypass _ _ _ h => rw [h] at st; exact absurd st (by decide +kernel)
      | take _ _ _ _ _ _ _ h => rw [h] at st; exact absurd st (by decide +kernel)
      | fill _ _ h => rw [h] at st; exact absurd st (by decide +kernel)
    · rw [(fst_same sp.hf q0).1] at st
      rw [(fver sp.hf q0).2.1]
      have op : s.opn = some l := I.fly l (by rw [stg_at e0, st]; exact .inr rfl)
      rcases rd_step B eo sp mu hu with ⟨u0, m0, h0, e1⟩ | ⟨rfl, _, h | h | h⟩
      · rw [e1]; exact q.led l q0 op e0 st u0 m0 h0
      · obtain ⟨y, h1, _⟩ := h
        rw [q.on l op] at h1
        cases h1
      · have z := fly (.inl h.2.1)
        rw [op] at z
        exact absurd (Option.some.inj z) ne
      · have z := fly (.inr h.1)
        rw [op] at z
        exact absurd (Option.some.inj z) ne
theorem fl_reach (O : c.Ok) (hf : c.flight = "shared") (ns : ∀ w ∈ c.steps, ¬ w = "set") (r : Reach c s) : Fl s := by
  refine reach_ind4 (Q := Fl) O ⟨fun l h => (by cases h), fun x h => (by cases h), fun l q h => (by cases h)⟩ (fun s e q => ⟨q.on, q.hit, q.led⟩) (fun s _ _ q => ⟨fun _ _ => rfl, fun x h => (by cases h), q.led⟩) (fun s _ _ q => ⟨q.on, q.hit, q.led⟩) (fun s w r W V q hw => ⟨q.on, fun x hx u mu hu => q.hit x hx u (rd_new O hw mu hu) hu, fun l q' hl el st u mu hu => ?_⟩) (fun s k o w s' f o' N W V q eo n1 n2 sp _ => q.step O hf ns N eo sp) r
  have lt := W.opn l hl
  rcases app_at el with z | ⟨z, _⟩
  · exact q.led l q' hl z st u (rd_new O hw mu hu) hu
  · omega
theorem sk_fl (O : c.Ok) (hf : c.flight = "shared") (ns : ∀ w ∈ c.steps, ¬ w = "set") (r : Reach c s) : SC c s "read" false := by
  have F := fl_reach O hf ns r
  exact ⟨F.hit, fun _ u mu hu => (fv_reach O ns r).rd u mu hu.1, fun _ => F.led⟩
theorem nset (O : c.Ok) (h : ¬ c.path = "store set") : ∀ w ∈ c.steps, ¬ w = "set" := no_set c.path O.p h
theorem sk_forward (O : c.Ok) (h : progH c .forward = true) : ∀ s : HS, Reach c s → SC c s "read" false := fun s r => by
  have h : m_holds_forward c = true := h
  unfold m_holds_forward at h
  cases hb : ((m_passes_by c) || ((!(m_is_alone c)) && (!decide (V.str c.path = V.str "store set")))) with
  | true =>
    rcases Bool.or_eq_true _ _ |>.mp hb with z | z
    · exact sk_passes2 O z (nset O (passes_of z).2) r
    · obtain ⟨h1, h2⟩ := Bool.and_eq_true _ _ |>.mp z
      have np : ¬ c.path = "store set" := fun y => by
        rw [y] at h2
        exact absurd h2 (by decide +kernel)
      by_cases hf : c.flight = "shared"
      · exact sk_fl O hf (nset O np) r
      · have g := O.f
        simp only [flightsL, List.mem_cons, List.not_mem_nil, or_false] at g
        unfold m_is_alone at h1
        rcases g with g | g <;> rw [g] at h1 hf <;> first | exact absurd h1 (by decide +kernel) | exact absurd rfl hf
  | false =>
    rw [hb] at h
    obtain ⟨he, h⟩ := Bool.and_eq_true _ _ |>.mp (show (m_keeps c && _) = true from h)
    have he : c.evict = "keeps" := V.str.inj (of_decide_eq_true he)
    obtain ⟨_, hb2⟩ := Bool.or_eq_false_iff.mp hb
    have nd1 : c.path = "store set" → ∀ w ∈ c.steps, ¬ w = "drop" := fun p => by
      unfold Conf.steps
      rw [p]
      decide +kernel
    have nd2 : c.path = "store" → ∀ w ∈ c.steps, ¬ w = "drop" := fun p => by
      unfold Conf.steps
      rw [p]
      decide +kernel
    rcases Bool.or_eq_true _ _ |>.mp h with g | g
    · have g : c.guard = "mark" := V.str.inj (of_decide_eq_true g)
      by_cases hp : c.path = "store set"
      · exact sk_top (top_near O (nd1 hp) (.inl g) he r)
      · have ha : m_is_alone c = true := by
          rw [decide_eq_false (show ¬ V.str c.path = V.str "store set" from fun z => hp (V.str.inj z))] at hb2
          cases ha : m_is_alone c with
          | true => rfl
          | false => rw [ha] at hb2; cases hb2
        exact sk_mkd O (alone_ne O ha) g he (nset O hp) r
    · obtain ⟨g, h2⟩ := Bool.and_eq_true _ _ |>.mp g
      have g : c.guard = "newer" := V.str.inj (of_decide_eq_true g)
      refine sk_top (top_near O ?_ (.inr g) he r)
      have hp := O.p
      simp only [pathsL, List.mem_cons, List.not_mem_nil, or_false] at hp
      rcases hp with p | p | p | p | p <;> first | exact nd1 p | exact nd2 p | (rw [p] at h2; exact absurd h2 (by decide +kernel))
theorem keep_forward (O : c.Ok) (h : progH c .forward = true) (r : Reach c s) : brokenH c s .forward = false := by
  have P := (pp_reach O (sk_forward O h) r).2
  unfold brokenH lastB
  cases hl : lastL s with
  | nil => rfl
  | cons o rest =>
    obtain ⟨mo, ko, eo, _⟩ := last_mem hl
    have := pp_before O r P mo ko eo
    exact decide_eq_false (by omega)
end
end Ca

set_option Elab.async false
set_option linter.all false
set_option maxRecDepth 100000
set_option maxHeartbeats 4000000
namespace Ca
open PySem L2
/-! ### what holds is kept: linear -/
section
variable {c : Conf} {s s' : HS} {k : Nat} {o o' : OpS} {w : Str} {f : OpS → OpS}
theorem StK.over2 (h : StK c s k o w s' o') : o'.over = some s.past.length ∨ o'.over = none := by
  cases h with
  | stop _ _ ov => exact .inl ov
  | write _ _ _ _ _ ov => exact ov.imp (·.2) (·.2)
  | hit _ _ _ _ _ _ ov => exact .inl ov
  | wait _ _ _ _ _ _ _ _ ov => exact .inr ov
  | «open» _ _ _ _ _ _ ov => exact .inr ov
  | fetch _ _ _ _ _ ov => exact .inr ov
  | bypass _ _ _ _ _ ov => exact .inl ov
  | take _ _ _ _ _ _ _ _ _ ov => exact .inl ov
  | fill _ _ _ _ ov => exact .inl ov
/-- what a write stores is newer than all that was told before it began -/
def Lt (s : HS) : Prop := ∀ u ∈ s.ops, ∀ x ∈ s.ops, ∀ v e, x.kind = "write" → x.version = some v → u.over = some e → e < x.begun → u.version.getD 0 ≤ v
theorem lt_reach (O : c.Ok) (r : Reach c s) : Lt s := by
  refine reach_ind4 (Q := Lt) O (fun u m => (by cases m)) (fun s e q => q) (fun s _ _ q => q) (fun s _ _ q => q) (fun s w r W V q hw => ?_) (fun s k o w s' f o' N W V q eo n1 n2 sp _ => ?_) r
  · intro u mu x mx v e kx vx ou lt
    rcases List.mem_append.mp mx with mx | z
    · rcases List.mem_append.mp mu with mu | z
      · exact q u mu x mx v e kx vx ou lt
      · rw [List.mem_singleton.mp z] at ou
        cases ou
    · rw [List.mem_singleton.mp z] at vx
      cases vx
  · intro u mu x mx v e kx vx ou lt
    have bx : x.begun ≤ s.past.length := by
      rcases sp.mem eo mx with rfl | ⟨_, x0, _, e0, rfl⟩
      · rw [sp.bg]; exact (V.ops o (List.mem_of_getElem? eo)).bg
      · rw [(fver sp.hf x0).2.2.1]; exact (V.ops x0 (List.mem_of_getElem? e0)).bg
    rcases sp.mem eo mu with rfl | ⟨_, u0, _, eu, rfl⟩
    · rcases sp.st.over2 with z | z
      · rw [z] at ou
        have := Option.some.inj ou
        omega
      · rw [z] at ou
        cases ou
    · rw [(fver sp.hf u0).2.2.2.1] at ou
      rw [(fver sp.hf u0).2.1]
      have mu0 := List.mem_of_getElem? eu
      rcases sp.mem eo mx with rfl | ⟨_, x0, _, ex, rfl⟩
      · have ko : o.kind = "write" := sp.kd.symm.trans kx
        rw [sp.bg] at lt
        have old : x.version = o.version → u0.version.getD 0 ≤ v := fun z => q u0 mu0 o (List.mem_of_getElem? eo) v e ko (by rw [← z]; exact vx) ou lt
        have nr : ¬ o.kind = "read" := fun z => by rw [z] at ko; exact absurd ko (by decide +kernel)
        cases sp.st with
        | stop _ h => exact old h
        | write _ _ _ _ _ _ _ _ _ h =>
          rcases h with ⟨_, h, _⟩ | ⟨_, _, h, _⟩
          · exact old h
          · rw [h] at vx
            have := Option.some.inj vx
            have := val_le (u := u0) fun v hv => (V.ops u0 mu0).le v hv
            omega
        | hit kd => exact absurd kd nr
        | wait kd => exact absurd kd nr
        | «open» kd => exact absurd kd nr
        | fetch kd => exact absurd kd nr
        | bypass kd => exact absurd kd nr
        | take kd => exact absurd kd nr
        | fill kd => exact absurd kd nr
      · rw [(fver sp.hf x0).1] at kx
        rw [(fver sp.hf x0).2.1] at vx
        rw [(fver sp.hf x0).2.2.1] at lt
        exact q u0 mu0 x0 (List.mem_of_getElem? ex) v e kx vx ou lt
theorem two_of (O : c.Ok) (r : Reach c s) (P1 : PP c s "read" false) (P2 : PP c s "write" false) : NoTwo 0 (lawL s) := by
  have L := lt_reach O r
  have mono : ∀ x ∈ lawL s, ∀ y ∈ lawL s, x.before y = true → x.ver ≤ y.ver := fun x hx y hy h => by
    have hx2 : ∃ u ∈ s.ops, x.ver = u.version.getD 0 ∧ ∀ e, x.over = some e → u.over = some e ∧ u.stage = "ended" ∧ (u.kind = "read" ∨ u.kind = "write") := by
      rcases mem_law.mp hx with ⟨u, mu, rfl⟩ | ⟨u, mu, rfl⟩
      · obtain ⟨m, k1, e1⟩ := mem_reads.mp mu
        exact ⟨u, m, rfl, fun e z => ⟨z, e1, .inl k1⟩⟩
      · obtain ⟨m, k1, _⟩ := mem_writes.mp mu
        refine ⟨u, m, rfl, fun e z => ?_⟩
        have z : (if u.stage = ("ended" : Str) then u.over else none) = some e := z
        by_cases g : u.stage = ("ended" : Str)
        · rw [if_pos g] at z
          exact ⟨z, g, .inr k1⟩
        · rw [if_neg g] at z
          cases z
    obtain ⟨u, mu, ev, ov⟩ := hx2
    unfold XOp.before at h
    cases ho : x.over with
    | none => rw [ho] at h; cases h
    | some e =>
      rw [ho] at h
      have lt : e < y.begun := of_decide_eq_true h
      obtain ⟨o1, st, kk⟩ := ov e ho
      rw [ev]
      rcases mem_law.mp hy with ⟨a, ma, rfl⟩ | ⟨a, ma, rfl⟩
      · obtain ⟨m, k1, e1⟩ := mem_reads.mp ma
        rcases kk with g | g
        · exact (P1 a m k1 u mu ⟨g, .inl st⟩ e o1 lt).1.2 (.inr e1)
        · exact (P2 a m k1 u mu ⟨g, .inl st⟩ e o1 lt).1.2 (.inr e1)
      · obtain ⟨m, k1, v1, _⟩ := mem_writes.mp ma
        obtain ⟨v, hv⟩ := Option.isSome_iff_exists.mp v1
        show _ ≤ a.version.getD 0
        rw [hv]
        exact L u mu a m v e k1 hv o1 lt
  refine ⟨fun y hy z hz e1 e2 => ?_, fun x1 h1 y1 h2 y2 h3 x2 h4 e1 e2 ne b1 b2 => ?_⟩
  · cases hb : y.before z with
    | false => rfl
    | true =>
      have := mono y hy z hz hb
      omega
  · have := mono x1 h1 y1 h2 b1
    have := mono y2 h3 x2 h4 b2
    omega
theorem keep_linear (O : c.Ok) (h : progH c .linear = true) (r : Reach c s) (l : s.past.length ≤ 14) : inOrderH s = true := by
  have h : m_holds_linear c = true := h
  unfold m_holds_linear at h
  obtain ⟨h1, h2⟩ := Bool.and_eq_true _ _ |>.mp h
  have hol := (r.wf O).2
  rw [inOrderH_eq]
  exact (ord_iff (Nat.le_trans (law_len s) (by omega)) (law_one (r.vi O)) (law_fit (r.vi O) (r.io O))).mpr (two_of O r (pp_reach O (sk_forward O h1) r).2 (pp_reach O (sk_fresh O h2) r).2)
/-- what holds is kept -/
theorem keep_all (O : c.Ok) {m : Pm} (h : progH c m = true) (r : Reach c s) (nl : m ≠ .linear) : brokenH c s m = false := by
  cases m with
  | ending => exact keep_ending O h r
  | filled => exact keep_filled O h r
  | forward => exact keep_forward O h r
  | fresh => exact keep_fresh O h r
  | linear => exact absurd rfl nl
  | mended => exact keep_mended O h r
  | moving => exact keep_moving O h r
  | quiet => exact keep_quiet O h r
  | rest => exact keep_rest O h r
  | single => exact keep_single O h r
end
end Ca

set_option Elab.async false
set_option linter.all false
set_option maxRecDepth 100000
set_option maxHeartbeats 4000000
namespace Ca
open PySem L2
/-! ### how great the numbers of a reached run are -/
section
variable {c : Conf} {s : HS} {k n : Nat} {o : OpS} {w : Str}
def LdB (n : Nat) (l : List OpS) : Prop := ∀ o ∈ l, ∀ v, o.leader = some v → v ≤ n
theorem LdB.set {l : List OpS} {o' : OpS} (h : LdB n l) (h' : ∀ v, o'.leader = some v → v ≤ n) : LdB n (l.set k o') := fun u m v e => by
  rcases List.mem_or_eq_of_mem_set m with z | z
  · exact h u z v e
  · rw [z] at e; exact h' v e
theorem LdB.cf {l : List OpS} (h : LdB n l) : LdB n (l.map Ca.cf) := fun u m v e => by
  obtain ⟨x, mx, rfl⟩ := List.mem_map.mp m
  exact h x mx v e
theorem LdB.app {l : List OpS} {o' : OpS} (h : LdB n l) (h' : ∀ v, o'.leader = some v → v ≤ n) : LdB n (l ++ [o']) := fun u m v e => by
  rcases List.mem_append.mp m with z | z
  · exact h u z v e
  · rw [List.mem_singleton.mp z] at e; exact h' v e
structure Nb (n : Nat) (s : HS) : Prop where
  db : s.db ≤ n
  mark : s.mark ≤ n
  led : LdB n s.ops
theorem hold_nb {v : Nat} : (holdH c s v).db = s.db ∧ (holdH c s v).mark ≤ max s.mark v := by
  unfold holdH
  split
  · exact ⟨rfl, Nat.le_refl _⟩
  · exact ⟨rfl, Nat.le_max_left _ _⟩
theorem Nb.fin (h : Nb n s) {st : Str} (h' : ∀ v, o.leader = some v → v ≤ n) : Nb n (endH s k o st) := by
  obtain ⟨a, b, d, e, f⟩ := end_f (k := k) (o := o) (s := s) (st := st)
  exact ⟨by rw [a]; exact h.db, by rw [e]; exact h.mark, by rw [end_ops]; exact h.led.set h'⟩
theorem Nb.put (h : Nb n s) (h' : ∀ v, o.leader = some v → v ≤ n) : Nb n (s.put k o) := ⟨h.db, h.mark, h.led.set h'⟩
theorem Nb.hold (h : Nb n s) {v : Nat} (hv : v ≤ n) : Nb n (holdH c s v) := by
  obtain ⟨a, b⟩ := hold_nb (c := c) (s := s) (v := v)
  have := h.mark
  exact ⟨by rw [a]; exact h.db, by omega, by rw [hold_ops]; exact h.led⟩
theorem Nb.mono (h : Nb n s) : Nb (n + 1) s := ⟨Nat.le_succ_of_le h.db, Nat.le_succ_of_le h.mark, fun u m v e => Nat.le_succ_of_le (h.led u m v e)⟩
theorem Nb.op (h : Nb n s) (hv : o.version.getD 0 ≤ n) (hl : ∀ v, o.leader = some v → v ≤ n) (ho : ∀ v, s.opn = some v → v ≤ n) : Nb (n + 1) (doOp c s k o w) := by
  have hl1 : ∀ v, o.leader = some v → v ≤ n + 1 := fun v e => Nat.le_succ_of_le (hl v e)
  unfold doOp
  split
  · exact h.mono.fin hl1
  split
  · unfold writeH
    have a1 : Nb (n + 1) (wr1 s k o w) := by
      unfold wr1
      split
      · exact ⟨Nat.succ_le_succ h.db, h.mono.mark, h.mono.led.set hl1⟩
      · exact ⟨h.mono.db, h.mono.mark, h.mono.led.cf⟩
    have av : (wo1 s o w).version.getD 0 ≤ n + 1 := by
      unfold wo1
      split
      · show (some (s.db + 1)).getD 0 ≤ n + 1
        exact Nat.succ_le_succ h.db
      · exact Nat.le_succ_of_le hv
    have al : ∀ v, (wo1 s o w).leader = some v → v ≤ n + 1 := fun v e => hl1 v (by
      unfold wo1 at e
      split at e <;> exact e)
    have a2 : Nb (n + 1) (wr2 c (wr1 s k o w) (wo1 s o w) w) := by
      unfold wr2
      split
      · split
        · have := a1.mark
          exact ⟨a1.db, by show max _ _ ≤ n + 1; omega, a1.led⟩
        · exact ⟨a1.db, a1.mark, a1.led⟩
      · exact a1
    have a3 : Nb (n + 1) (wr3 c (wr2 c (wr1 s k o w) (wo1 s o w) w) (wo1 s o w) w) := by
      unfold wr3
      split
      · split
        · exact a2.hold av
        · exact a2
      · exact a2
    unfold wr4
    split
    · exact (a3.put (o := { wo1 s o w with step := (wo1 s o w).step + 1 }) al).fin al
    · exact a3.put (o := { wo1 s o w with step := (wo1 s o w).step + 1, stage := c.steps.getD ((wo1 s o w).step + 1) "" }) al
  · have b := h.mono
    unfold readH
    split
    · exact (b.put (o := { o with version := s.cache }) hl1).fin hl1
    split
    · exact b.put (o := { o with stage := "waits", leader := s.opn }) fun v e => Nat.le_succ_of_le (ho v e)
    split
    · have z := b.put (k := k) (o := { o with stage := "fetch" }) hl1
      exact ⟨z.db, z.mark, z.led⟩
    split
    · split
      · exact (b.put (o := { o with version := some (if c.source = "replica" then s.rep else s.db), stage := "fill" }) hl1).fin hl1
      · exact b.put (o := { o with version := some (if c.source = "replica" then s.rep else s.db), stage := "fill" }) hl1
    split
    · exact (b.put (o := { o with version := leadV s o }) hl1).fin hl1
    · split
      · exact (b.hold (Nat.le_succ_of_le hv)).fin hl1
      · exact b.fin hl1
theorem nb_reach (O : c.Ok) (r : Reach c s) : Nb s.past.length s := by
  induction r with
  | begin => exact ⟨Nat.le_refl _, Nat.le_refl _, fun o m => nomatch m⟩
  | @step s e r h ih =>
    obtain ⟨W, hol⟩ := r.wf O
    have V := r.vi O
    have hv : ∀ u ∈ s.ops, u.version.getD 0 ≤ s.past.length := fun u mu => by
      have z := (V.ops u mu).le
      have := ih.db
      cases e : u.version with
      | none => exact Nat.zero_le _
      | some v => exact Nat.le_trans (z v e) this
    have ho : ∀ v, s.opn = some v → v ≤ s.past.length := fun v e => by
      have := W.opn v e
      omega
    have z : Nb (s.past.length + 1) (doE c s e) := by
      cases ev_case W h with
      | evict z =>
        have zL : doE c s evictE = { s with cache := none, mark := 0 } := if_pos rfl
        rw [zL]
        exact ⟨ih.mono.db, Nat.zero_le _, ih.mono.led⟩
      | copy z =>
        have zL : doE c s copyE = { s with rep := s.rep + 1 } := by
          unfold doE
          rw [if_neg (by decide +kernel), if_pos rfl]
        rw [zL]
        exact ⟨ih.mono.db, ih.mono.mark, ih.mono.led⟩
      | new w hw =>
        have eo : (preH s w s.ops.length).ops[s.ops.length]? = some (newOp s w) := by
          rw [pre_new]
          show (s.ops ++ [newOp s w])[s.ops.length]? = _
          rw [List.getElem?_append_right (Nat.le_refl _), Nat.sub_self]
          rfl
        rw [doE_at eo]
        rw [pre_new] at eo ⊢
        exact Nb.op (n := s.past.length) ⟨ih.db, ih.mark, ih.led.app fun v e => nomatch e⟩ (Nat.zero_le _) (fun v e => nomatch e) ho
      | step k o w eo h1 h2 h3 =>
        rw [doE_at (by rw [pre_old eo]; exact eo), pre_old eo]
        have m := List.mem_of_getElem? eo
        exact ih.op (hv o m) (ih.led o m) ho
      | stop k o eo h1 h2 h3 =>
        rw [doE_at (by rw [pre_old eo]; exact eo), pre_old eo]
        have m := List.mem_of_getElem? eo
        exact ih.op (hv o m) (ih.led o m) ho
    have el : (doH c s e).past.length = s.past.length + 1 := by
      show (s.past ++ [e]).length = _
      rw [List.length_append]
      rfl
    rw [el]
    exact ⟨z.db, z.mark, z.led⟩
def stagesL : List Str := ["look", "fetch", "fill", "waits", "ended", "stopped", "drop", "store", "set"]
theorem stage_in (O : c.Ok) {m : Nat} (p : OpWf c m k o) : o.stage ∈ stagesL := by
  unfold stagesL
  by_cases h1 : o.stage = "ended"
  · rw [h1]; simp
  by_cases h2 : o.stage = "stopped"
  · rw [h2]; simp
  rcases p.kd with kd | kd
  · rcases p.rd kd with y | y | y | y | y | y
    · rw [y]; simp
    · rw [y]; simp
    · rw [y.1]; simp
    · rw [y.1]; simp
    · exact absurd y h1
    · exact absurd y h2
  · obtain ⟨lt, y, _⟩ := p.wr kd h1 h2
    rw [y]
    rcases step_word O lt with u | u | u <;> rw [u] <;> simp
theorem key_ok (O : c.Ok) (r : Reach c s) (l : s.past.length ≤ 60) : KeyOk s := by
  obtain ⟨W, hol⟩ := r.wf O
  have V := r.vi O
  have N := nb_reach O r
  have d := N.db
  have wf : ∀ o ∈ s.ops, ∃ k, OpWf c s.ops.length k o := fun o m => by
    obtain ⟨k, hk, e⟩ := List.getElem_of_mem m
    exact ⟨k, W.ops k o (by rw [List.getElem?_eq_getElem hk, e])⟩
  have vr := V.rep
  have nm := N.mark
  refine ⟨by omega, by omega, fun v e => ?_, by omega, fun v e => ?_, fun o m v e => ?_, fun o m v e => ?_, fun o m => ?_, fun o m => ?_⟩
  · have := V.ca v e; omega
  · have := W.opn v e; omega
  · have := (V.ops o m).le v e; omega
  · have := N.led o m v e; omega
  · obtain ⟨k, p⟩ := wf o m
    rcases p.kd with z | z <;> rw [z]
    · exact ⟨by decide, small_good.lit "read"⟩
    · exact ⟨by decide, small_good.lit "write"⟩
  · obtain ⟨k, p⟩ := wf o m
    have z := stage_in O p
    unfold stagesL at z
    simp only [List.mem_cons, List.not_mem_nil, or_false] at z
    rcases z with z | z | z | z | z | z | z | z | z <;> rw [z] <;> exact ⟨by decide, small_good.lit _⟩
end
end Ca

set_option Elab.async false
set_option linter.all false
set_option maxRecDepth 100000
set_option maxHeartbeats 4000000
namespace Ca
open PySem PySem.Spec PyProof.Rows L2
/-! ### comprehensions of three clauses without tests -/
/-- a turn: the next item, its store, what comes then -/
def turnOf (p : Pos) (tg : Expr) (it : Value) (env : Env) (rest : Sem PySem.Fin) : Sem PySem.Fin := do
  standAt p
  match ← pyNext it with
  | none => pure (.done .next)
  | some v =>
    letOwnedTupleGo tg it v
    assign tg env v
    rest
/-- what comes then where a further clause stands -/
def deeper (e : Expr) (iter : Expr) (k : Nat) (it acc : Value) (env : Env) : Sem PySem.Fin := do
  let x ← eval iter env
  standAt iter.pos
  let y ← foldedSetIterable iter env x
  let _ ← runOwn (.compStart e (k + 1) (← holding [y] (pyIter y)) acc env) env
  again (.compLoop e k it acc env)
/-- .. where none does -/
def laid (e elt : Expr) (k : Nat) (it acc : Value) (env : Env) : Sem PySem.Fin := do
  (do let _ ← call (.builtin "list.append") [acc, ← eval elt env])
  again (.compLoop e k it acc env)
abbrev lc3 (elt t0 i0 t1 i1 t2 i2 : Expr) (scope : Scope) (pos : Pos) : Expr := .ListComp elt [⟨t0, i0, [], 0⟩, ⟨t1, i1, [], 0⟩, ⟨t2, i2, [], 0⟩] scope pos
section
variable {elt t0 i0 t1 i1 t2 i2 : Expr} {scope : Scope} {pos : Pos} {it acc : Value} {env : Env}
end
section
variable {prog : Program} {w : World} {A : Around} {R : Result → Shared → Prop} {s : Shared} {elt t0 i0 t1 i1 t2 i2 : Expr} {scope : Scope} {pos : Pos} {it acc : Value} {env : Env}
end
/-- what a further clause leaves: the block's slots but those of its own targets, and what was wished -/
def After (B : Cx) (pins : List (Addr × Obj)) (σ : L2.St) (vs : List Nat) (Nx : Hp → Prop) (s : Shared) : Prop :=
  ∃ (σ' : L2.St) (H' : Hp), Inv B pins σ' H' s ∧ σ'.length = σ.length ∧ (∀ (j : Nat) v, j ∉ vs → σ[j]? = some (some v) → σ'[j]? = some (some v)) ∧ Nx H'
/-- a clause's loop, by the reading of what a turn does -/
def tLoop (g : TG) (tb : L2.St → Hp → (Hp → Prop) → Prop) (vs : List Nat) (σ : L2.St) (J : It) (H : Hp) (Nx : Hp → Prop) : Prop :=
  ∃ W : Nat → Nat → Hp → Prop, (∃ m, W 0 m H) ∧ ∀ i m H, W i m H → (J.stop i H ∧ Nx H) ∨ (J.go i H ∧ ∃ N1 : Hp → Prop, (∀ H', N1 H' → ∃ m', m' < m ∧ W (i + 1) m' H') ∧
    ∀ x H', J.yld i H x H' → g x (wipe σ vs) H' fun σ2 H2 => wipe σ2 vs = wipe σ vs ∧ tb σ2 H2 N1)
section
variable {B : Cx} {pins : List (Addr × Obj)} {σ : L2.St} {H : Hp} {s : Shared} {R : Result → Shared → Prop} {Nx : Hp → Prop}
end

def tLast (D : Addr) (te : TE) : L2.St → Hp → (Hp → Prop) → Prop := fun σ H N => te σ H fun y H1 => ∃ acc, H1 D = some (.lst acc) ∧ acc.length < sizeLine ∧ N (upd H1 D (.lst (acc ++ [y])))
def tDeep (wi : TI) (g : TG) (tb : L2.St → Hp → (Hp → Prop) → Prop) (vs : List Nat) : L2.St → Hp → (Hp → Prop) → Prop := fun σ H N => wi σ H fun J H1 => tLoop g tb vs σ J H1 N
/-- [elt for .. in .. for .. in .. for .. in ..]: each clause's loop within the one ahead of it -/
def tLc3 (w0 : TI) (g0 : TG) (w1 : TI) (g1 : TG) (w2 : TI) (g2 : TG) (te : TE) (vs vs1 vs2 : List Nat) : TE := fun σ H Q => w0 σ H fun J H1 => ∀ D, H1 D = none → tLoop g0 (tDeep w1 g1 (tDeep w2 g2 (tLast D te) vs2) vs1) vs σ J (upd H1 D (.lst [])) fun H2 => Q (.ref D) H2
abbrev BlkA (X : Cx) (scope : Scope) (P : Cx → Prop) : Prop := ∀ (s : Shared) (H : Hp) (C : Addr) (cl : List (Str × Addr)) (fp : List Addr), P (X.blk s H scope (compEnvC scope cl C X.env) fp)
end Ca

set_option Elab.async false
set_option linter.all false
set_option maxRecDepth 100000
set_option maxHeartbeats 4000000
namespace Ca
open PySem L2
/-! ### the law's lists of all designs, all worlds -/
theorem prd_app {α β : Type} {R : α → β → Prop} : ∀ {xs ys : List α} {as bs : List β}, Paired R xs as → Paired R ys bs → Paired R (xs ++ ys) (as ++ bs)
  | _, _, _, _, .nil, h => h
  | _, _, _, _, .cons h t, r => .cons h (prd_app t r)
abbrev T3 := Str × Str × Str
abbrev tT (t : T3) : HO := .tup [.str t.1, .str t.2.1, .str t.2.2]
/-- the items are these triples, one after the other -/
abbrev TriX (H : Hp) (xs : List V) (l : List T3) : Prop := Paired (fun x t => ∃ a, x = V.ref a ∧ H a = some (tT t)) xs l
theorem TriX.ex {H H' : Hp} {xs : List V} {l : List T3} (h : TriX H xs l) (e : Evl.Ex H H') : TriX H' xs l := Paired.mapP h fun _ _ ⟨a, z, y⟩ => ⟨a, z, e _ _ y⟩
theorem TriX.app2 {H : Hp} {xs : List V} {l : List T3} {t1 t2 : Addr} {u v : T3} (h : TriX H xs l) (h1 : H t1 = some (tT u)) (h2 : H t2 = some (tT v)) : TriX H (xs ++ [.ref t1, .ref t2]) (l ++ [u, v]) := prd_app h (.cons ⟨_, rfl, h1⟩ (.cons ⟨_, rfl, h2⟩ .nil))
def tri2 (x : Str) (ys : List Str) (a b : Str) : List T3 := ys.flatMap fun y => [(x, y, a), (x, y, b)]
def tri3 (xs ys : List Str) (a b : Str) : List T3 := xs.flatMap fun x => tri2 x ys a b
theorem tri2_succ {x y a b : Str} {ys : List Str} {i : Nat} (h : ys[i]? = some y) : tri2 x (ys.take (i + 1)) a b = tri2 x (ys.take i) a b ++ [(x, y, a), (x, y, b)] := by
  unfold tri2
  rw [List.take_succ, h, List.flatMap_append]
  simp
theorem tri3_succ {x a b : Str} {xs ys : List Str} {i : Nat} (h : xs[i]? = some x) : tri3 (xs.take (i + 1)) ys a b = tri3 (xs.take i) ys a b ++ tri2 x ys a b := by
  unfold tri3
  rw [List.take_succ, h, List.flatMap_append]
  simp
theorem tri2_len {x a b : Str} : ∀ ys : List Str, (tri2 x ys a b).length = 2 * ys.length
  | [] => rfl
  | y :: ys => by
    have ih := tri2_len (x := x) (a := a) (b := b) ys
    unfold tri2 at ih ⊢
    rw [List.flatMap_cons, List.length_append, ih]
    show 2 + 2 * ys.length = 2 * (ys.length + 1)
    omega
theorem tri3_len {a b : Str} {ys : List Str} : ∀ xs : List Str, (tri3 xs ys a b).length = xs.length * (2 * ys.length)
  | [] => by simp [tri3]
  | x :: xs => by
    have ih := tri3_len (a := a) (b := b) (ys := ys) xs
    unfold tri3 at ih ⊢
    rw [List.flatMap_cons, List.length_append, ih, tri2_len]
    show _ = (xs.length + 1) * (2 * ys.length)
    rw [Nat.add_comm (2 * ys.length), Nat.add_mul, Nat.one_mul]
theorem map_at {l : List Str} {i : Nat} {x : V} (h : (l.map V.str)[i]? = some x) : ∃ s, l[i]? = some s ∧ x = .str s := by
  rw [List.getElem?_map, Option.map_eq_some_iff] at h
  obtain ⟨s, a, b⟩ := h
  exact ⟨s, a, b.symm⟩
def sourcesL : List Str := ["primary", "replica"]
def evictsL : List Str := ["evicts", "keeps"]
def stopsL : List Str := ["finishes", "stops"]
def designs3 : List T3 := tri3 pathsL guardsL "alone" "shared"
def worlds3 : List T3 := tri3 sourcesL evictsL "finishes" "stops"
@[irreducible] def spAllX (l : List T3) : Sp := fun vs H Q _ => vs = [] ∧ ∀ (p : Addr) (xs : List V) (H' : Hp), H p = none → Evl.Ex H H' → H' p = some (.lst xs) → TriX H' xs l → Q (.ref p) H'
theorem allX_i {l : List T3} {H : Hp} {Q : VK} {E : XK} (k : ∀ (p : Addr) (xs : List V) (H' : Hp), H p = none → Evl.Ex H H' → H' p = some (.lst xs) → TriX H' xs l → Q (.ref p) H') : spAllX l [] H Q E := by
  unfold spAllX
  exact ⟨rfl, k⟩
section
variable {P : Program} {w : World} {K : PySem.W.Frag} {mg : Str → Option Value} {base : Heap}
theorem ok_Ldesigns (T : Txt K mg) : FnOk P w K mg base CX0 2 T.f_Ldesigns T.fd_Ldesigns [] (spAllX designs3) := by
  refine T.F_Ldesigns.ok sc_Ldesigns (fun vs H Q E h => ?_) (fun cdv A outer s H vs Q E hr h => ?_)
  · unfold spAllX at h
    obtain ⟨rfl, _⟩ := h
    rfl
  · unfold spAllX at h
    obtain ⟨rfl, q⟩ := h
    refine ⟨_, (pss_cons (ps_set (i := 0) sc_Ldesigns.nd rfl (Or.inl rfl) (pe_lst pa_nil))
      (pss_cons (ps_for PassesOwn.never rfl (pi_list (pe_call0 (ok_Lpaths T) (hr.mono (by decide)) rfl T.m_Lpaths T.F_Lpaths.kp (b_Lpaths T) .nil pass0)) (pg_name (i := 1) sc_Ldesigns.nd rfl (Or.inl rfl)) (pss_one (ps_for PassesOwn.never rfl (pi_list (pe_lst (pa_cons pe_str (pa_cons pe_str (pa_cons pe_str (pa_cons pe_str (pa_cons pe_str (pa_cons pe_str pa_nil)))))))) (pg_name (i := 2) sc_Ldesigns.nd rfl (Or.inl rfl)) (pss_one (ps_set (i := 0) sc_Ldesigns.nd rfl (Or.inl rfl) (pe_op op_cat (pv 0) (pe_lst (pa_cons (pe_tup (pa_cons (pv 1) (pa_cons (pv 2) (pa_cons pe_str pa_nil)))) (pa_cons (pe_tup (pa_cons (pv 1) (pa_cons (pv 2) (pa_cons pe_str pa_nil)))) pa_nil)))))))))
      (pss_one (ps_ret (pv 0))))), ?_⟩
    refine ⟨by show 0 ≤ sizeLine; decide, fun f nf => ?_⟩
    refine paths_i fun l nl => ?_
    have x0 : Evl.Ex H (upd (upd H f (.lst [])) l (.lst [.str "drop store", .str "drop store drop", .str "store", .str "store drop", .str "store set"])) := (Evl.Ex.new nf).trans (Evl.Ex.new nl)
    have hl : (upd (upd H f (.lst [])) l (.lst [.str "drop store", .str "drop store drop", .str "store", .str "store drop", .str "store set"])) l = some (.lst (pathsL.map V.str)) := upd_same
    have hf : (upd (upd H f (.lst [])) l (.lst [.str "drop store", .str "drop store drop", .str "store", .str "store drop", .str "store set"])) f = some (.lst []) := by
      rw [upd_ne (ne_of_none upd_same nl)]
      exact upd_same
    generalize upd (upd H f (.lst [])) l (.lst [.str "drop store", .str "drop store drop", .str "store", .str "store drop", .str "store set"]) = G at x0 hl hf
    refine ⟨_, rfl, ⟨_, SqL.of hl⟩, for_list (xs := pathsL.map V.str) (fun i σ' H' => ∃ f xs y z, σ' = [some (.ref f), y, z] ∧ Evl.Ex G H' ∧ H f = none ∧ H' f = some (.lst xs) ∧ TriX H' xs (tri3 (pathsL.take i) guardsL "alone" "shared")) ⟨f, [], none, none, rfl, Evl.Ex.refl _, nf, hf, .nil⟩ ?_ ?_ ?_⟩
    · rintro i σ' H' hi ⟨f, xs, y, z, rfl, e, _⟩
      exact SqL.of (e _ _ hl)
    · rintro i x σ' H' hi ⟨f1, xs, y, z, rfl, e, n1, h1, t1⟩
      obtain ⟨pth, hp, rfl⟩ := map_at hi
      have ilt : i < 5 := (List.getElem?_eq_some_iff.mp hp).1
      refine ⟨by show 6 ≤ sizeLine; decide, fun l2 nl2 => ?_⟩
      have e2 : Evl.Ex H' (upd H' l2 (.lst [.str "always", .str "empty", .str "mark", .str "never", .str "newer", .str "token"])) := Evl.Ex.new nl2
      have hl2 : (upd H' l2 (.lst [.str "always", .str "empty", .str "mark", .str "never", .str "newer", .str "token"])) l2 = some (.lst (guardsL.map V.str)) := upd_same
      generalize upd H' l2 (.lst [.str "always", .str "empty", .str "mark", .str "never", .str "newer", .str "token"]) = G2 at e2 hl2
      refine ⟨_, rfl, ⟨_, SqL.of hl2⟩, for_list (xs := guardsL.map V.str) (fun j σ' H' => ∃ f xs z, σ' = [some (.ref f), some (.str pth), z] ∧ Evl.Ex G2 H' ∧ H f = none ∧ H' f = some (.lst xs) ∧ TriX H' xs (tri3 (pathsL.take i) guardsL "alone" "shared" ++ tri2 pth (guardsL.take j) "alone" "shared")) ⟨f1, xs, z, rfl, Evl.Ex.refl _, n1, e2 _ _ h1, ?_⟩ ?_ ?_ ?_⟩
      · show TriX G2 xs (_ ++ [])
        rw [List.append_nil]
        exact t1.ex e2
      · rintro j σ' H' hj ⟨f, xs, z, rfl, e, _⟩
        exact SqL.of (e _ _ hl2)
      · rintro j x σ' H3 hj ⟨f3, ys, z, rfl, e3, n3, h3, t3⟩
        obtain ⟨gd, hg, rfl⟩ := map_at hj
        have jlt : j < 6 := (List.getElem?_eq_some_iff.mp hg).1
        have yl : ys.length ≤ 100 := by
          rw [t3.length, List.length_append, tri3_len, tri2_len, List.length_take, List.length_take]
          show min i 5 * (2 * 6) + 2 * min j 6 ≤ 100
          omega
        refine ⟨_, rfl, _, rfl, _, rfl, by show 3 ≤ sizeLine; decide, fun ta na => ?_⟩
        refine ⟨_, rfl, _, rfl, by show 3 ≤ sizeLine; decide, fun tb nb => ?_⟩
        refine ⟨by show 2 ≤ sizeLine; decide, fun l4 nl4 => ?_⟩
        have ea := Evl.Ex.new (o := .tup [.str pth, .str gd, .str "alone"]) na
        have eb := Evl.Ex.new (o := .tup [.str pth, .str gd, .str "shared"]) nb
        have e4 := Evl.Ex.new (o := .lst [.ref ta, .ref tb]) nl4
        have ha : (upd H3 ta (.tup [.str pth, .str gd, .str "alone"])) ta = some (tT (pth, gd, "alone")) := upd_same
        have hb : (upd (upd H3 ta (.tup [.str pth, .str gd, .str "alone"])) tb (.tup [.str pth, .str gd, .str "shared"])) tb = some (tT (pth, gd, "shared")) := upd_same
        have hl4 : (upd (upd (upd H3 ta (.tup [.str pth, .str gd, .str "alone"])) tb (.tup [.str pth, .str gd, .str "shared"])) l4 (.lst [.ref ta, .ref tb])) l4 = some (.lst [.ref ta, .ref tb]) := upd_same
        have ha4 := e4 _ _ (eb _ _ ha)
        have hb4 := e4 _ _ hb
        have e34 := (ea.trans eb).trans e4
        have hf4 := e34 _ _ h3
        generalize upd (upd (upd H3 ta (.tup [.str pth, .str gd, .str "alone"])) tb (.tup [.str pth, .str gd, .str "shared"])) l4 (.lst [.ref ta, .ref tb]) = H4 at ha4 hb4 e34 hl4 hf4
        refine ⟨_, _, _, _, rfl, rfl, hf4, hl4, ?_, fun l5 nl5 => ?_⟩
        · show ys.length + 2 ≤ sizeLine
          exact Nat.le_trans (m := 1000) (by omega) (by decide)
        · have e5 := Evl.Ex.new (o := .lst (ys ++ [.ref ta, .ref tb])) nl5
          refine ⟨l5, ys ++ [.ref ta, .ref tb], _, rfl, (e3.trans e34).trans e5, ?_, upd_same, ?_⟩
          · exact Evl.fresh_back (((x0.trans e).trans e2).trans (e3.trans e34)) nl5
          · rw [tri2_succ hg, ← List.append_assoc]
            exact ((t3.ex e34).app2 ha4 hb4).ex e5
      · rintro σ' H3 ⟨f3, ys, z, rfl, e3, n3, h3, t3⟩
        refine ⟨f3, ys, _, _, rfl, (e.trans e2).trans e3, n3, h3, ?_⟩
        rw [tri3_succ hp]
        exact t3
    · rintro σ' H3 ⟨f3, ys, y, z, rfl, e3, n3, h3, t3⟩
      refine ⟨_, rfl, ?_⟩
      exact q f3 ys H3 n3 (x0.trans e3) h3 t3
theorem ok_Lworlds (T : Txt K mg) : FnOk P w K mg base CX0 1 T.f_Lworlds T.fd_Lworlds [] (spAllX worlds3) := by
  refine T.F_Lworlds.ok sc_Lworlds (fun vs H Q E h => ?_) (fun cdv A outer s H vs Q E hr h => ?_)
  · unfold spAllX at h
    obtain ⟨rfl, _⟩ := h
    rfl
  · unfold spAllX at h
    obtain ⟨rfl, q⟩ := h
    refine ⟨_, (pss_cons (ps_set (i := 0) sc_Lworlds.nd rfl (Or.inl rfl) (pe_lst pa_nil))
      (pss_cons (ps_for PassesOwn.never rfl (pi_list (pe_lst (pa_cons pe_str (pa_cons pe_str pa_nil)))) (pg_name (i := 1) sc_Lworlds.nd rfl (Or.inl rfl)) (pss_one (ps_for PassesOwn.never rfl (pi_list (pe_lst (pa_cons pe_str (pa_cons pe_str pa_nil)))) (pg_name (i := 2) sc_Lworlds.nd rfl (Or.inl rfl)) (pss_one (ps_set (i := 0) sc_Lworlds.nd rfl (Or.inl rfl) (pe_op op_cat (pv 0) (pe_lst (pa_cons (pe_tup (pa_cons (pv 1) (pa_cons (pv 2) (pa_cons pe_str pa_nil)))) (pa_cons (pe_tup (pa_cons (pv 1) (pa_cons (pv 2) (pa_cons pe_str pa_nil)))) pa_nil)))))))))
      (pss_one (ps_ret (pv 0))))), ?_⟩
    refine ⟨by show 0 ≤ sizeLine; decide, fun f nf => ?_⟩
    refine ⟨by show 2 ≤ sizeLine; decide, fun l nl => ?_⟩
    have x0 : Evl.Ex H (upd (upd H f (.lst [])) l (.lst [.str "primary", .str "replica"])) := (Evl.Ex.new nf).trans (Evl.Ex.new nl)
    have hl : (upd (upd H f (.lst [])) l (.lst [.str "primary", .str "replica"])) l = some (.lst (sourcesL.map V.str)) := upd_same
    have hf : (upd (upd H f (.lst [])) l (.lst [.str "primary", .str "replica"])) f = some (.lst []) := by
      rw [upd_ne (ne_of_none upd_same nl)]
      exact upd_same
    generalize upd (upd H f (.lst [])) l (.lst [.str "primary", .str "replica"]) = G at x0 hl hf
    refine ⟨_, rfl, ⟨_, SqL.of hl⟩, for_list (xs := sourcesL.map V.str) (fun i σ' H' => ∃ f xs y z, σ' = [some (.ref f), y, z] ∧ Evl.Ex G H' ∧ H f = none ∧ H' f = some (.lst xs) ∧ TriX H' xs (tri3 (sourcesL.take i) evictsL "finishes" "stops")) ⟨f, [], none, none, rfl, Evl.Ex.refl _, nf, hf, .nil⟩ ?_ ?_ ?_⟩
    · rintro i σ' H' hi ⟨f, xs, y, z, rfl, e, _⟩
      exact SqL.of (e _ _ hl)
    · rintro i x σ' H' hi ⟨f1, xs, y, z, rfl, e, n1, h1, t1⟩
      obtain ⟨pth, hp, rfl⟩ := map_at hi
      have ilt : i < 2 := (List.getElem?_eq_some_iff.mp hp).1
      refine ⟨by show 2 ≤ sizeLine; decide, fun l2 nl2 => ?_⟩
      have e2 : Evl.Ex H' (upd H' l2 (.lst [.str "evicts", .str "keeps"])) := Evl.Ex.new nl2
      have hl2 : (upd H' l2 (.lst [.str "evicts", .str "keeps"])) l2 = some (.lst (evictsL.map V.str)) := upd_same
      generalize upd H' l2 (.lst [.str "evicts", .str "keeps"]) = G2 at e2 hl2
      refine ⟨_, rfl, ⟨_, SqL.of hl2⟩, for_list (xs := evictsL.map V.str) (fun j σ' H' => ∃ f xs z, σ' = [some (.ref f), some (.str pth), z] ∧ Evl.Ex G2 H' ∧ H f = none ∧ H' f = some (.lst xs) ∧ TriX H' xs (tri3 (sourcesL.take i) evictsL "finishes" "stops" ++ tri2 pth (evictsL.take j) "finishes" "stops")) ⟨f1, xs, z, rfl, Evl.Ex.refl _, n1, e2 _ _ h1, ?_⟩ ?_ ?_ ?_⟩
      · show TriX G2 xs (_ ++ [])
        rw [List.append_nil]
        exact t1.ex e2
      · rintro j σ' H' hj ⟨f, xs, z, rfl, e, _⟩
        exact SqL.of (e _ _ hl2)
      · rintro j x σ' H3 hj ⟨f3, ys, z, rfl, e3, n3, h3, t3⟩
        obtain ⟨gd, hg, rfl⟩ := map_at hj
        have jlt : j < 2 := (List.getElem?_eq_some_iff.mp hg).1
        have yl : ys.length ≤ 100 := by
          rw [t3.length, List.length_append, tri3_len, tri2_len, List.length_take, List.length_take]
          show min i 2 * (2 * 2) + 2 * min j 2 ≤ 100
          omega
        refine ⟨_, rfl, _, rfl, _, rfl, by show 3 ≤ sizeLine; decide, fun ta na => ?_⟩
        refine ⟨_, rfl, _, rfl, by show 3 ≤ sizeLine; decide, fun tb nb => ?_⟩
        refine ⟨by show 2 ≤ sizeLine; decide, fun l4 nl4 => ?_⟩
        have ea := Evl.Ex.new (o := .tup [.str pth, .str gd, .str "finishes"]) na
        have eb := Evl.Ex.new (o := .tup [.str pth, .str gd, .str "stops"]) nb
        have e4 := Evl.Ex.new (o := .lst [.ref ta, .ref tb]) nl4
        have ha : (upd H3 ta (.tup [.str pth, .str gd, .str "finishes"])) ta = some (tT (pth, gd, "finishes")) := upd_same
        have hb : (upd (upd H3 ta (.tup [.str pth, .str gd, .str "finishes"])) tb (.tup [.str pth, .str gd, .str "stops"])) tb = some (tT (pth, gd, "stops")) := upd_same
        have hl4 : (upd (upd (upd H3 ta (.tup [.str pth, .str gd, .str "finishes"])) tb (.tup [.str pth, .str gd, .str "stops"])) l4 (.lst [.ref ta, .ref tb])) l4 = some (.lst [.ref ta, .ref tb]) := upd_same
        have ha4 := e4 _ _ (eb _ _ ha)
        have hb4 := e4 _ _ hb
        have e34 := (ea.trans eb).trans e4
        have hf4 := e34 _ _ h3
        generalize upd (upd (upd H3 ta (.tup [.str pth, .str gd, .str "finishes"])) tb (.tup [.str pth, .str gd, .str "stops"])) l4 (.lst [.ref ta, .ref tb]) = H4 at ha4 hb4 e34 hl4 hf4
        refine ⟨_, _, _, _, rfl, rfl, hf4, hl4, ?_, fun l5 nl5 => ?_⟩
        · show ys.length + 2 ≤ sizeLine
          exact Nat.le_trans (m := 1000) (by omega) (by decide)
        · have e5 := Evl.Ex.new (o := .lst (ys ++ [.ref ta, .ref tb])) nl5
          refine ⟨l5, ys ++ [.ref ta, .ref tb], _, rfl, (e3.trans e34).trans e5, ?_, upd_same, ?_⟩
          · exact Evl.fresh_back (((x0.trans e).trans e2).trans (e3.trans e34)) nl5
          · rw [tri2_succ hg, ← List.append_assoc]
            exact ((t3.ex e34).app2 ha4 hb4).ex e5
      · rintro σ' H3 ⟨f3, ys, z, rfl, e3, n3, h3, t3⟩
        refine ⟨f3, ys, _, _, rfl, (e.trans e2).trans e3, n3, h3, ?_⟩
        rw [tri3_succ hp]
        exact t3
    · rintro σ' H3 ⟨f3, ys, y, z, rfl, e3, n3, h3, t3⟩
      refine ⟨_, rfl, ?_⟩
      exact q f3 ys H3 n3 (x0.trans e3) h3 t3
end
end Ca

set_option Elab.async false
set_option linter.all false
set_option maxRecDepth 100000
set_option maxHeartbeats 4000000
namespace Ca
open PySem L2
/-! ### all triples of three tuples of words -/
def all1 (x y : Str) (zs : List Str) : List T3 := zs.map fun z => (x, y, z)
def all2 (x : Str) (ys zs : List Str) : List T3 := ys.flatMap fun y => all1 x y zs
def all3 (xs ys zs : List Str) : List T3 := xs.flatMap fun x => all2 x ys zs
theorem all1_len {x y : Str} {zs : List Str} : (all1 x y zs).length = zs.length := List.length_map _
theorem all2_len {x : Str} {zs : List Str} : ∀ ys : List Str, (all2 x ys zs).length = ys.length * zs.length
  | [] => by simp [all2]
  | y :: ys => by
    have ih := all2_len (x := x) (zs := zs) ys
    unfold all2 at ih ⊢
    rw [List.flatMap_cons, List.length_append, ih, all1_len]
    show _ = (ys.length + 1) * zs.length
    rw [Nat.add_mul, Nat.one_mul, Nat.add_comm]
@[irreducible] def spAll3 (K : PySem.W.Frag) : Sp := fun vs H Q _ => ∃ (a b c : Addr) (l1 l2 l3 : List Str), vs = [.ref a, .ref b, .ref c] ∧ SqT K H a (l1.map V.str) ∧ SqT K H b (l2.map V.str) ∧ SqT K H c (l3.map V.str) ∧ l1.length ≤ 9 ∧ l2.length ≤ 9 ∧ l3.length ≤ 9 ∧
  ∀ (p : Addr) (xs : List V) (H' : Hp), H p = none → Evl.Ex H H' → H' p = some (.tup xs) → TriX H' xs (all3 l1 l2 l3) → Q (.ref p) H'
@[irreducible] def spAllU (l : List T3) : Sp := fun vs H Q _ => vs = [] ∧ ∀ (p : Addr) (xs : List V) (H' : Hp), H p = none → Evl.Ex H H' → H' p = some (.tup xs) → TriX H' xs l → Q (.ref p) H'
section
variable {P : Program} {w : World} {K : PySem.W.Frag} {mg : Str → Option Value} {base : Heap}
end
theorem tri_at {H : Hp} {xs : List V} {l : List T3} {i : Nat} {x : V} (T : TriX H xs l) (h : xs[i]? = some x) : ∃ t a, l[i]? = some t ∧ x = .ref a ∧ H a = some (tT t) := by
  obtain ⟨t, e, a, r, z⟩ := pget T h
  exact ⟨t, a, e, r, z⟩
/-- a design's and a world's three words -/
def cf3 (d w : T3) : Conf := ⟨d.1, d.2.1, d.2.2, w.1, w.2.1, w.2.2⟩
theorem cf3_ok {d w : T3} (hd : d ∈ designs3) (hw : w ∈ worlds3) : (cf3 d w).Ok := by
  have d3 : ∀ d ∈ designs3, d.1 ∈ pathsL ∧ d.2.1 ∈ guardsL ∧ d.2.2 ∈ flightsL := by
    intro d h
    unfold designs3 tri3 at h
    obtain ⟨x, hx, h⟩ := List.mem_flatMap.mp h
    unfold tri2 at h
    obtain ⟨y, hy, h⟩ := List.mem_flatMap.mp h
    simp only [List.mem_cons, List.not_mem_nil, or_false] at h
    rcases h with rfl | rfl <;> exact ⟨hx, hy, by simp [flightsL]⟩
  have w3 : ∀ d ∈ worlds3, d.1 ∈ sourcesL ∧ d.2.1 ∈ evictsL ∧ d.2.2 ∈ stopsL := by
    intro d h
    unfold worlds3 tri3 at h
    obtain ⟨x, hx, h⟩ := List.mem_flatMap.mp h
    unfold tri2 at h
    obtain ⟨y, hy, h⟩ := List.mem_flatMap.mp h
    simp only [List.mem_cons, List.not_mem_nil, or_false] at h
    rcases h with rfl | rfl <;> exact ⟨hx, hy, by simp [stopsL]⟩
  obtain ⟨a, b, c⟩ := d3 d hd
  obtain ⟨e, f, g⟩ := w3 w hw
  have e : w.1 = "primary" ∨ w.1 = "replica" := by simpa [sourcesL] using e
  have f : w.2.1 = "evicts" ∨ w.2.1 = "keeps" := by simpa [evictsL] using f
  have g : w.2.2 = "finishes" ∨ w.2.2 = "stops" := by simpa [stopsL] using g
  exact ⟨a, b, c, e, f, g⟩
end Ca

set_option Elab.async false
set_option linter.all false
set_option maxRecDepth 100000
set_option maxHeartbeats 4000000
namespace Ca
open PySem L2
/-! ### what the law's search holds at each place -/
/-- tuples stand -/
def TK (H H' : Hp) : Prop := ∀ t xs, H t = some (.tup xs) → H' t = some (.tup xs)
theorem TK.ex {H H' : Hp} (e : Evl.Ex H H') : TK H H' := fun t xs h => e _ _ h
theorem TK.trans {H H1 H2 : Hp} (a : TK H H1) (b : TK H1 H2) : TK H H2 := fun t xs h => b _ _ (a _ _ h)
theorem LawAt.keepX {c : Conf} {H H' : Hp} {h : Addr} {A : LA} {s : HS} {F : Addr → Prop} (L : LawAt c H h A s) (k : Keep F H H') (tk : TK H H') (nf : ∀ b, F b → ¬ Fp h A b) : LawAt c H' h A s :=
  ⟨k _ _ L.hd fun z => nf _ z (.inl rfl), tk _ _ L.dd, tk _ _ L.ww, k _ _ L.lo fun z => nf _ z (.inr (.inl rfl)), k _ _ L.lp fun z => nf _ z (.inr (.inr (.inl rfl))), L.ol,
    fun j b o p q => k _ _ (L.og j b o p q) fun z => nf _ z (.inr (.inr (.inr (List.mem_of_getElem? p)))), L.el, fun i b e p q => tk _ _ (L.eg i b e p q), L.nd, L.nl⟩
theorem TK.put {H : Hp} {p : Addr} {u o : HO} (h : H p = some u) (n : ∀ xs, u ≠ .tup xs) : TK H (upd H p o) := fun t xs z => by
  rw [upd_ne (fun e => by rw [e, h] at z; exact n xs (Option.some.inj z))]
  exact z
theorem TK.row {K : PySem.W.Frag} {H0 H H' : Hp} {a r : Addr} (R : RowAt K H0 a r H) (k : Keep (fun b => b = r) H H') : TK H H' := fun t xs h => k _ _ h (R.ne_tup h)
/-- a list of runs, each a tuple of events that come one after the other -/
def Runs (c : Conf) (H : Hp) (xs : List V) (m : Nat) : Prop := ∀ x ∈ xs, ∃ t ys es, x = .ref t ∧ H t = some (.tup ys) ∧ EvsAt H ys es ∧ ChainH c es ∧ es.length ≤ m
theorem EvsAt.tk {H H' : Hp} {xs : List V} {es : List Ev} (X : EvsAt H xs es) (k : TK H H') : EvsAt H' xs es := Paired.mapP X fun _ _ ⟨t, e, h⟩ => ⟨t, e, k _ _ h⟩
theorem Runs.tk {c : Conf} {H H' : Hp} {xs : List V} {m : Nat} (R : Runs c H xs m) (k : TK H H') : Runs c H' xs m := fun x hx => by
  obtain ⟨t, ys, es, e1, e2, e3, e4, e5⟩ := R x hx
  exact ⟨t, ys, es, e1, k _ _ e2, e3.tk k, e4, e5⟩
/-- the search's state: the layer at L, the next at N, what was met at M -/
structure SS (K : PySem.W.Frag) (c : Conf) (H0 : Hp) (a r d w kl L M N : Addr) (kp xs ys : List V) (i n : Nat) (H : Hp) : Prop where
  row : RowAt K H0 a r H
  hd : H d = some (dT c)
  hw : H w = some (wT c)
  hk : H kl = some (.lst kp)
  lay : H L = some (.lst xs)
  rl : Runs c H xs i
  lat : H N = some (.lst ys)
  rt : Runs c H ys (i + 1)
  met : ∃ kvs : List (Key × V), H M = some (.dK kvs) ∧ kvs.length ≤ n
  ln : ys.length ≤ n
  kr : kl ≠ r
  lr : L ≠ r
  nr : N ≠ r
  nk : N ≠ kl
  nl : N ≠ L
  m0 : H0 M = none
  n0 : H0 N = none
section
variable {K : PySem.W.Frag} {c : Conf} {H0 H H' : Hp} {a r d w kl L M N : Addr} {kp xs ys : List V} {i n : Nat}
theorem SS.ex (S : SS K c H0 a r d w kl L M N kp xs ys i n H) (e : Evl.Ex H H') : SS K c H0 a r d w kl L M N kp xs ys i n H' := by
  obtain ⟨kvs, hm, hl⟩ := S.met
  exact ⟨S.row.keep (F := fun _ => False) (fun b o z _ => e b o z) (fun _ z => z.elim) id, e _ _ S.hd, e _ _ S.hw, e _ _ S.hk, e _ _ S.lay, S.rl.tk (.ex e), e _ _ S.lat, S.rt.tk (.ex e), ⟨kvs, e _ _ hm, hl⟩, S.ln, S.kr, S.lr, S.nr, S.nk, S.nl, S.m0, S.n0⟩
theorem SS.mr (S : SS K c H0 a r d w kl L M N kp xs ys i n H) : M ≠ r := fun z => by
  obtain ⟨kvs, hm, hl⟩ := S.met
  obtain ⟨o, e, _, _, _, eo, _⟩ := S.row.at_
  rw [z, e, eo] at hm
  cases hm
/-- where the search writes, something stands -/
theorem SS.no (S : SS K c H0 a r d w kl L M N kp xs ys i n H) : ∀ b, (b = r ∨ b = M ∨ b = N) → H b ≠ none := fun b hb z => by
  obtain ⟨kvs, hm, hl⟩ := S.met
  obtain ⟨o, e, _⟩ := S.row.at_
  rcases hb with y | y | y <;> rw [y] at z
  · rw [e] at z; cases z
  · rw [hm] at z; cases z
  · rw [S.lat] at z; cases z
theorem SS.turn (S : SS K c H0 a r d w kl L M N kp xs ys i n H) (R : RowAt K H0 a r H') (k : Keep (fun b => b = r) H H') : SS K c H0 a r d w kl L M N kp xs ys i n H' := by
  obtain ⟨kvs, hm, hl⟩ := S.met
  have tk := TK.row S.row k
  exact ⟨R, tk _ _ S.hd, tk _ _ S.hw, k _ _ S.hk S.kr, k _ _ S.lay S.lr, S.rl.tk tk, k _ _ S.lat S.nr, S.rt.tk tk, ⟨kvs, k _ _ hm S.mr, hl⟩, S.ln, S.kr, S.lr, S.nr, S.nk, S.nl, S.m0, S.n0⟩
/-- one more is met -/
theorem SS.note (S : SS K c H0 a r d w kl L M N kp xs ys i n H) {kvs : List (Key × V)} {k : Key} {v : V} (hm : H M = some (.dK kvs)) (hl : kvs.length ≤ n) : SS K c H0 a r d w kl L M N kp xs ys i (n + 1) (upd H M (.dK (putK kvs k v))) := by
  have tk : TK H (upd H M (.dK (putK kvs k v))) := TK.put hm fun xs z => by cases z
  have ls : ∀ {b : Addr} {zs : List V}, H b = some (.lst zs) → (upd H M (.dK (putK kvs k v))) b = some (.lst zs) := fun {b zs} h => by
    rw [upd_ne (fun z => by rw [z, hm] at h; cases h)]
    exact h
  have len := length_putK kvs k v
  refine ⟨S.row.keep (F := fun b => b = M) (Keep.refl.put rfl) (fun b z => by rw [z]; exact S.m0) (fun z => S.mr z.symm), tk _ _ S.hd, tk _ _ S.hw, ls S.hk, ls S.lay, S.rl.tk tk, ls S.lat, S.rt.tk tk, ⟨_, upd_same, by omega⟩, Nat.le_succ_of_le S.ln, S.kr, S.lr, S.nr, S.nk, S.nl, S.m0, S.n0⟩
/-- one more run -/
theorem SS.push (S : SS K c H0 a r d w kl L M N kp xs ys i n H) {t : Addr} {zs : List V} {es : List Ev} (hn : ys.length + 1 ≤ n) (ht : H t = some (.tup zs)) (X : EvsAt H zs es) (C : ChainH c es) (l : es.length ≤ i + 1) : SS K c H0 a r d w kl L M N kp xs (ys ++ [.ref t]) i n (upd H N (.lst (ys ++ [.ref t]))) := by
  obtain ⟨kvs, hm, hl⟩ := S.met
  have tk : TK H (upd H N (.lst (ys ++ [.ref t]))) := TK.put S.lat fun xs z => by cases z
  refine ⟨S.row.keep (F := fun b => b = N) (Keep.refl.put rfl) (fun b z => by rw [z]; exact S.n0) (fun z => S.nr z.symm), tk _ _ S.hd, tk _ _ S.hw, ?_, ?_, S.rl.tk tk, upd_same, fun y hy => ?_, ⟨kvs, ?_, hl⟩, by rw [List.length_append, List.length_singleton]; exact hn, S.kr, S.lr, S.nr, S.nk, S.nl, S.m0, S.n0⟩
  · rw [upd_ne S.nk.symm]; exact S.hk
  · rw [upd_ne S.nl.symm]; exact S.lay
  · rcases List.mem_append.mp hy with z | z
    · exact S.rt.tk tk y z
    · rw [List.mem_singleton.mp z]
      exact ⟨t, zs, es, rfl, tk _ _ ht, X.tk tk, C, l⟩
  · rw [upd_ne (fun z => by rw [z, S.lat] at hm; cases hm)]
    exact hm
end
/-- between two turns -/
structure SO (K : PySem.W.Frag) (c : Conf) (H0 : Hp) (a r d w kl L M : Addr) (kp xs : List V) (i n : Nat) (H : Hp) : Prop where
  row : RowAt K H0 a r H
  hd : H d = some (dT c)
  hw : H w = some (wT c)
  hk : H kl = some (.lst kp)
  lay : H L = some (.lst xs)
  rl : Runs c H xs i
  met : ∃ kvs : List (Key × V), H M = some (.dK kvs) ∧ kvs.length ≤ n
  kr : kl ≠ r
  lr : L ≠ r
  m0 : H0 M = none
section
variable {K : PySem.W.Frag} {c : Conf} {H0 H H' : Hp} {a r d w kl L M N : Addr} {kp xs ys : List V} {i n : Nat}
theorem SS.out (S : SS K c H0 a r d w kl L M N kp xs ys i n H) : SO K c H0 a r d w kl N M kp ys (i + 1) n H := ⟨S.row, S.hd, S.hw, S.hk, S.lat, S.rt, S.met, S.kr, S.nr, S.m0⟩
theorem SO.new (S : SO K c H0 a r d w kl L M kp xs i n H) {p : Addr} (np : H p = none) : SS K c H0 a r d w kl L M p kp xs [] i n (upd H p (.lst [])) := by
  have e := Evl.Ex.new (o := .lst []) np
  obtain ⟨kvs, hm, hl⟩ := S.met
  exact ⟨S.row.keep (F := fun _ => False) (fun b o z _ => e b o z) (fun _ z => z.elim) id, e _ _ S.hd, e _ _ S.hw, e _ _ S.hk, e _ _ S.lay, S.rl.tk (.ex e), upd_same, fun y hy => (by cases hy), ⟨kvs, e _ _ hm, hl⟩, Nat.zero_le _, S.kr, S.lr, S.row.ne np, (fun z => by rw [z, S.hk] at np; cases np), (fun z => by rw [z, S.lay] at np; cases np), S.m0, S.row.sm.free np⟩
end
theorem snoc_ch {c : Conf} {es : List Ev} {e : Ev} (C : ChainH c es) (h : e ∈ evList c (runH c es)) : ChainH c (es ++ [e]) := ⟨fun i f hf => by
  by_cases hi : i < es.length
  · rw [List.getElem?_append_left hi] at hf
    rw [List.take_append_of_le_length (by omega)]
    exact C.step i f hf
  · have hl := (List.getElem?_eq_some_iff.mp hf).1
    rw [List.length_append, List.length_singleton] at hl
    have e0 : i = es.length := by omega
    subst e0
    rw [List.getElem?_append_right (Nat.le_refl _), Nat.sub_self] at hf
    cases hf
    rw [List.take_append_of_le_length (Nat.le_refl _), List.take_length]
    exact h⟩
theorem paired_takeS {α β : Type} {R : α → β → Prop} : ∀ (i : Nat) {xs : List α} {ys : List β}, Paired R xs ys → Paired R (xs.take i) (ys.take i)
  | 0, _, _, _ => by rw [List.take_zero, List.take_zero]; exact .nil
  | _ + 1, _, _, .nil => .nil
  | i + 1, _, _, .cons h r => .cons h (paired_takeS i r)
theorem past_atS {c : Conf} {H : Hp} {h : Addr} {A : LA} {s : HS} (L : LawAt c H h A s) : EvsAt H (A.eas.map V.ref) s.past := by
  have key : ∀ (n : Nat) (as : List Addr) (es : List Ev), as.length = es.length → (∀ (i : Nat) (a : Addr) (e : Ev), as[i]? = some a → es[i]? = some e → H a = some (.tup (evV e))) → EvsAt H (as.map V.ref) es := by
    intro n as
    induction as with
    | nil =>
      intro es hl _
      cases es with
      | nil => exact .nil
      | cons _ _ => cases hl
    | cons a as ih =>
      intro es hl hg
      cases es with
      | nil => cases hl
      | cons e es => exact .cons ⟨a, rfl, hg 0 a e rfl rfl⟩ (ih es (by simpa using hl) fun i x y p q => hg (i + 1) x y p q)
  exact key 0 _ _ L.el L.eg
theorem cat_i {K : PySem.W.Frag} {a b : Addr} {xs ys : List V} {H : Hp} {Q : VK} (h1 : H a = some (.tup xs)) (h2 : H b = some (.tup ys)) (l : xs.length + ys.length ≤ sizeLine) (q : ∀ p H', Evl.Ex H H' → H' p = some (.tup (xs ++ ys)) → Q (.ref p) H') : rCatA K (.ref a) (.ref b) H Q := by
  refine ⟨a, b, xs, ys, rfl, rfl, SqT.of h1, SqT.of h2, l, fun z => ?_, fun _ z => ?_, fun _ _ p np => q p _ (Evl.Ex.new np) upd_same⟩
  · subst z
    exact q b H (Evl.Ex.refl _) h2
  · subst z
    exact q a H (Evl.Ex.refl _) (by rw [List.append_nil]; exact h1)
/-- a reached run: what has ended has a version -/
theorem end_ok {c : Conf} {s : HS} (O : c.Ok) (r : Reach c s) : EndOk s := fun u hu eu => by
  obtain ⟨W, _⟩ := r.wf O
  have io := r.io O
  obtain ⟨ku, hku, eku⟩ := List.getElem_of_mem hu
  obtain ⟨v', ev'⟩ := Option.isSome_iff_exists.mp ((io u hu).ended O (W.ops ku u (by rw [List.getElem?_eq_getElem hku, eku])).kd eu)
  obtain ⟨x', ex'⟩ := Option.isSome_iff_exists.mp ((io u hu).ov eu)
  exact ⟨v', x', ev', ex'⟩
theorem key_i {c : Conf} {h : Addr} {A : LA} {s : HS} {H : Hp} {Q : VK} {E : XK} (O : c.Ok) (L : LawAt c H h A s) (r : Reach c s) (l : s.past.length ≤ 60) (q : ∀ t H', Evl.Ex H H' → Q (.str t) H') : spKey [.ref h] H Q E := by
  unfold spKey
  exact ⟨c, h, A, s, rfl, L, end_ok O r, key_ok O r l, by have := (r.wf O).2; omega, q⟩
/-- the events, or none -/
theorem for_ifL {K : PySem.W.Frag} {tA : TT} {ta tb : TE} {g : TG} {bd : TS} {D : Ends} {σ : L2.St} {H : Hp} (Pr : Addr → Hp → Prop) (b : Bool) (hA : ∀ R : Bool → Hp → Prop, R b H → tA σ H R) (h1 : b = true → ∀ R : VK, (∀ f H', Pr f H' → R (.ref f) H') → ta σ H R) (h0 : b = false → ∀ R : VK, (∀ f H', Pr f H' → R (.ref f) H') → tb σ H R)
    (q : ∀ f H', Pr f H' → tFor (iList K (fun _ _ R => R (.ref f) H')) g bd D σ H) : tFor (iList K (tIf tA ta tb)) g bd D σ H := by
  refine hA _ ?_
  cases b with
  | true => exact iteT (h1 rfl _ fun f H' p => q f H' p)
  | false => exact iteF (h0 rfl _ fun f H' p => q f H' p)
/-! ### tests -/
theorem or_pure {t u : TT} {σ : L2.St} {H : Hp} {Q : Bool → Hp → Prop} (b1 : Bool) (h1 : ∀ Q' : Bool → Hp → Prop, Q' b1 H → t σ H Q') (h2 : b1 = false → ∀ Q' : Bool → Hp → Prop, (∀ b, Q' b H) → u σ H Q') (q : ∀ b, Q b H) : tOr t u σ H Q := by
  refine h1 _ ?_
  cases b1 with
  | true => exact iteT (q true)
  | false => exact iteF (h2 rfl _ q)
/-- nothing of what is kept is broken -/
theorem kept_none {c : Conf} (O : c.Ok) {s : HS} (r : Reach c s) (l : s.past.length ≤ 14) {m : Pm} (h : progH c m = true) : brokenA c s m = false := by
  unfold brokenA
  split
  · rename_i e
    rw [e] at h
    rw [keep_linear O h r l]
    rfl
  · rename_i e
    exact keep_all O h r e
theorem kept_at {c : Conf} {i : Nat} {x : V} (h : ((allPm.filter (progH c)).map pmV)[i]? = some x) : ∃ m, x = pmV m ∧ progH c m = true := by
  rw [List.getElem?_map, Option.map_eq_some_iff] at h
  obtain ⟨m, h1, h2⟩ := h
  exact ⟨m, h2.symm, (List.mem_filter.mp (List.mem_of_getElem? h1)).2⟩
end Ca

set_option Elab.async false
set_option linter.all false
set_option maxRecDepth 100000
set_option maxHeartbeats 4000000
namespace Ca
open PySem L2
@[irreducible] def spProms : Sp := fun vs H Q _ => vs = [] ∧ ∀ p, H p = none → Q (.ref p) (upd H p (.lst (allPm.map pmV)))
theorem proms_i {H : Hp} {Q : VK} {E : XK} (k : ∀ p, H p = none → Q (.ref p) (upd H p (.lst (allPm.map pmV)))) : spProms [] H Q E := by
  unfold spProms
  exact ⟨rfl, k⟩
section
variable {P : Program} {w : World} {K : PySem.W.Frag} {mg : Str → Option Value} {base : Heap}
theorem ok_Lpromises (T : Txt K mg) : FnOk P w K mg base CX0 1 T.f_Lpromises T.fd_Lpromises [] spProms := by
  refine T.F_Lpromises.ok sc_Lpromises (fun vs H Q E h => ?_) (fun cdv A outer s H vs Q E hr h => ?_)
  · unfold spProms at h
    obtain ⟨rfl, _⟩ := h
    rfl
  · unfold spProms at h
    obtain ⟨rfl, k⟩ := h
    refine ⟨_, (pss_one (ps_ret (pe_lst (pa_cons pe_str (pa_cons pe_str (pa_cons pe_str (pa_cons pe_str (pa_cons pe_str (pa_cons pe_str (pa_cons pe_str (pa_cons pe_str (pa_cons pe_str (pa_cons pe_str pa_nil))))))))))))), ?_⟩
    exact ⟨by show 10 ≤ sizeLine; decide, fun p hp => k p hp⟩
end
/-- a comprehension over the list of the promises, those of which a test says yes -/
theorem lcP {K : PySem.W.Frag} {a : Addr} {g : TG} {tt : TT} {te : TE} {vs : List Nat} {σ : St} {H : Hp} {D : Addr} {Qd : Hp → Prop} {j : Nat} (f : Pm → Bool) (nD : H D = none) (hs : SqL K H a (allPm.map pmV))
    (hg : g = gName j) (hw : ∀ x, wipe ((wipe σ vs).set j (some x)) vs = wipe σ vs)
    (ht : ∀ m, Evl.EvT tt ((wipe σ vs).set j (some (pmV m))) H (f m)) (he : ∀ m, Evl.Ev te ((wipe σ vs).set j (some (pmV m))) H (pmV m))
    (hq : ∀ H', Evl.Ex H H' → H' D = some (.lst ((allPm.filter f).map pmV)) → Qd H') :
    ∃ W : Nat → Nat → Hp → Prop, (∃ m, W 0 m (upd H D (.lst []))) ∧ ∀ i m H', W i m H' →
      ((Itl K a).stop i H' ∧ Qd H') ∨ ((Itl K a).go i H' ∧ ∃ Nx : Hp → Prop, (∀ H', Nx H' → ∃ m', m' < m ∧ W (i + 1) m' H') ∧ ∀ x H'', (Itl K a).yld i H' x H'' → g x (wipe σ vs) H'' fun σ2 H2 => wipe σ2 vs = wipe σ vs ∧ tt σ2 H2 fun b H3 =>
        if b = true then te σ2 H3 fun y H4 => ∃ acc, H4 D = some (.lst acc) ∧ acc.length < sizeLine ∧ Nx (upd H4 D (.lst (acc ++ [y]))) else Nx H3) := by
  subst hg
  refine lc_list (xs := allPm.map pmV) (Evl.Cw H (fun i => f (allPm.getD i default)) (fun i => pmV (allPm.getD i default)) D) ⟨nD, Evl.Ex.new nD, upd_same⟩ (fun i H' _ p => Evl.ex_l p.2.1 hs) (fun i x H' hi p => ⟨?_, ?_⟩) fun H' p => ?_
  · exact hw x
  · have hlt : i < 10 := by
      have := (List.getElem?_eq_some_iff.mp hi).1
      rw [List.length_map] at this
      exact this
    rw [pm_at hi]
    exact Evl.cw_turn p (by omega) (ht _) (fun _ => he _)
  · obtain ⟨np, e1, hp⟩ := p
    have hl : (allPm.map pmV).length = allPm.length := List.length_map _
    rw [hl, given_map allPm f pmV] at hp
    exact hq H' e1 hp
end Ca

set_option Elab.async false
set_option linter.all false
set_option maxRecDepth 100000
set_option maxHeartbeats 4000000
namespace Ca
open PySem L2
/-- the law's own promise: True for every script -/
@[irreducible] def spLaw (K : PySem.W.Frag) : Sp := fun vs H Q _ => ∃ (a : Addr) (ns : List Int), vs = [.ref a] ∧ SqL K H a (ns.map V.int) ∧ ∀ H', Q (.bl true) H'
end Ca

set_option Elab.async false
set_option linter.all false
set_option maxRecDepth 100000
set_option maxHeartbeats 4000000
namespace Ca
open PySem PySem.Spec PyProof.Rows L2
theorem Keep.tup {K : PySem.W.Frag} {H0 H H' : Hp} {a r t : Addr} {xs : List V} (R : RowAt K H0 a r H) (k : Keep (fun b => b = r) H H') (h : H t = some (.tup xs)) : H' t = some (.tup xs) := k _ _ h fun z => by
  obtain ⟨o, e, i, x, y, eo, _⟩ := R.at_
  rw [z, e, eo] at h
  cases h
theorem RowAt.ex' {K : PySem.W.Frag} {H0 H H' : Hp} {a r : Addr} (R : RowAt K H0 a r H) (S : Evl.Ex H H') : RowAt K H0 a r H' := R.keep (F := fun _ => False) (fun b o e _ => S b o e) (fun _ z => z.elim) id
section
variable {P : Program} {w : World} {K : PySem.W.Frag} {mg : Str → Option Value} {base : Heap}
theorem ok_law (T : Txt K mg) (U : TxtC K mg) (Y : TxtD_HOLDS K w mg T) : FnOk P w K mg base CX0 24 T.f_law T.fd_law ["script"] (spLaw K) := by
  refine T.F_law.ok sc_law (fun vs H Q E h => ?_) (fun cdv A outer s H vs Q E hr h => ?_)
  · unfold spLaw at h
    obtain ⟨a, ns, rfl, _⟩ := h
    rfl
  · unfold spLaw at h
    obtain ⟨a, ns, rfl, hs, q⟩ := h
    have hu := hu_of hr
    refine ⟨_, (pss_cons (ps_set (i := 1) sc_law.nd rfl (Or.inl rfl) (pe_lst (pa_cons (pv 0) (pa_cons pe_int (pa_cons pe_int (pa_cons pe_int pa_nil))))))
      (pss_cons (ps_asg (pe_tup (pa_cons (pe_call (ok_Lpick T) (hr.mono (by decide)) rfl T.m_Lpick T.F_Lpick.kp (b_Lpick T) .nil pass0 (pa_cons (pv 1) (pa_cons (pe_call0 (ok_Ldesigns T) (hr.mono (by decide)) rfl T.m_Ldesigns T.F_Ldesigns.kp (b_Ldesigns T) .nil pass0) pa_nil))) (pa_cons (pe_call (ok_Lpick T) (hr.mono (by decide)) rfl T.m_Lpick T.F_Lpick.kp (b_Lpick T) .nil pass0 (pa_cons (pv 1) (pa_cons (pe_call0 (ok_Lworlds T) (hr.mono (by decide)) rfl T.m_Lworlds T.F_Lworlds.kp (b_Lworlds T) .nil pass0) pa_nil))) pa_nil))) (pg_tup rfl (pgs_cons (pg_name (i := 2) sc_law.nd rfl (Or.inr rfl)) (pgs_cons (pg_name (i := 3) sc_law.nd rfl (Or.inr rfl)) pgs_nil))))
      (pss_cons (ps_setLc (i := 4) (own := [("one", 17)]) rfl sc_law.nd rfl rfl (sw_true rfl rfl rfl (by decide +kernel)) (pi_list (pe_call0 (ok_Lpromises T) (hr.mono (by decide)) rfl T.m_Lpromises T.F_Lpromises.kp (b_Lpromises T) .nil pass0)) (blkOk_by (N := ["script", "row", "design", "world", "kept", "layer", "met", "count", "turn", "later", "events", "h", "event", "kind", "many", "after", "short", "one"]) (sc := defScope s_law) (by decide +kernel)) (fun _ _ _ _ _ => (pg_name (i := 17) sc_law.nd rfl (Or.inl rfl))) (fun _ _ _ _ _ => (pts_one (pt_val (pe_call (ok_holds T U Y) (hr.mono (by decide)) rfl T.m_holds T.F_holds.kp (b_holds T) .nil pass0 (pa_cons (pv 2) (pa_cons (pv 3) (pa_cons (pv 17) pa_nil))))))) (fun _ _ _ _ _ => (pv 17)))
      (pss_cons (ps_par3 (i := 5) (j := 6) (l := 7) rfl sc_law.nd rfl rfl rfl (by decide) (by decide) (by decide) rfl rfl rfl (pa_cons (pe_lst (pa_cons (pe_tup pa_nil) pa_nil)) (pa_cons pe_dnewK (pa_cons pe_int pa_nil))) (by rfl))
      (pss_cons (ps_for PassesOwn.never rfl (pi_range1 rfl T.n_range (pa_cons pe_int pa_nil)) (pg_name (i := 8) sc_law.nd rfl (Or.inl rfl)) (pss_cons (ps_set (i := 9) sc_law.nd rfl (Or.inl rfl) (pe_lst pa_nil))
      (pss_cons (ps_for PassesOwn.never rfl (pi_list (pv 5)) (pg_name (i := 10) sc_law.nd rfl (Or.inl rfl)) (pss_cons (ps_set (i := 11) sc_law.nd rfl (Or.inl rfl) (pe_call (ok_Lrun T) (hr.mono (by decide)) rfl T.m_Lrun T.F_Lrun.kp (b_Lrun T) .nil pass0 (pa_cons (pv 2) (pa_cons (pv 3) (pa_cons (pv 10) pa_nil)))))
      (pss_one (ps_for PassesOwn.never rfl (pi_list (pe_ifExp (pt_cmpR op_lt (pv 7) pe_int (nomark _)) (pe_call (ok_Levents T) (hr.mono (by decide)) rfl T.m_Levents T.F_Levents.kp (b_Levents T) .nil pass0 (pa_cons (pv 11) pa_nil)) (pe_lst pa_nil))) (pg_name (i := 12) sc_law.nd rfl (Or.inl rfl)) (Evl.pss_cut (ps_set (i := 13) sc_law.nd rfl (Or.inr rfl) (pe_ifExp (pt_cmpR op_eq (pe_ix ix_tup (pv 12) pe_int (fun _ _ => rfl)) pe_str (nomark _)) pe_str pe_str))
      (pss_cons (ps_set (i := 14) sc_law.nd rfl (Or.inl rfl) (pe_callB call_len_seq (by rfl) T.n_len (by decide +kernel) (pa_cons (pe_lc (own := [("one", 17)]) rfl sc_law.nd (pi_list (pe_dget hu (pv 11) pe_str (fun _ _ => rfl))) (blkOk_by (N := ["script", "row", "design", "world", "kept", "layer", "met", "count", "turn", "later", "events", "h", "event", "kind", "many", "after", "short", "one"]) (sc := defScope s_law) (by decide +kernel)) (fun _ _ _ _ _ => (pg_name (i := 17) sc_law.nd rfl (Or.inl rfl))) (fun _ _ _ _ _ => (pts_one (pt_cmpR op_eq (pe_cmpR op_eq (pe_dget hu (pv 17) pe_str (fun _ _ => rfl)) pe_str (nomark _)) (pe_cmpR op_eq (pv 13) pe_str (nomark _)) (nomark _)))) (fun _ _ _ _ _ => (pv 17))) pa_nil)))
      (pss_one (ps_if (PW.pt (pw_or (pt_cmpR op_eq (pe_callB call_len_seq (by rfl) T.n_len (by decide +kernel) (pa_cons (pv 12) pa_nil)) pe_int (nomark _)) (pw_or (pt_cmpR op_lt (pe_ix ix_tup (pv 12) pe_int (fun _ _ => rfl)) (pe_callB call_len_seq (by rfl) T.n_len (by decide +kernel) (pa_cons (pe_dget hu (pv 11) pe_str (fun _ _ => rfl)) pa_nil)) (nomark _)) (pw_or1 (pt_cmpR op_lt (pv 14) (pe_ifExp (pt_cmpR op_eq (pv 13) pe_str (nomark _)) pe_int pe_int) (nomark _)))))) (pss_cons (ps_set (i := 15) sc_law.nd rfl (Or.inr rfl) (pe_call (ok_Lrun T) (hr.mono (by decide)) rfl T.m_Lrun T.F_Lrun.kp (b_Lrun T) .nil pass0 (pa_cons (pv 2) (pa_cons (pv 3) (pa_cons (pe_op op_catA (pv 10) (pe_tup (pa_cons (pv 12) pa_nil))) pa_nil)))))
      (pss_cons (ps_if (pt_cmpR (op_neNil (un1 hr)) (pe_lc (own := [("one", 17)]) rfl sc_law.nd (pi_list (pv 4)) (blkOk_by (N := ["script", "row", "design", "world", "kept", "layer", "met", "count", "turn", "later", "events", "h", "event", "kind", "many", "after", "short", "one"]) (sc := defScope s_law) (by decide +kernel)) (fun _ _ _ _ _ => (pg_name (i := 17) sc_law.nd rfl (Or.inl rfl))) (fun _ _ _ _ _ => (pts_one (pt_val (pe_call (ok_LbrokenA T) (hr.mono (by decide)) rfl T.m_Lbroken T.F_Lbroken.kp (b_Lbroken T) .nil pass0 (pa_cons (pv 15) (pa_cons (pv 17) pa_nil)))))) (fun _ _ _ _ _ => (pv 17))) (pe_lst pa_nil) (nomark _)) (pss_one (ps_ret pe_bl)) pss_nil)
      (pss_one (ps_if (PW.pt (pw_and (pt_cmp (pc_dnotin hu (pe_call (ok_Lkey T) (hr.mono (by decide)) rfl T.m_Lkey T.F_Lkey.kp (b_Lkey T) .nil pass0 (pa_cons (pv 15) pa_nil)) (pv 6))) (pw_and1 (pt_cmpR op_gt (pe_call (ok_Ltaken T) (hr.mono (by decide)) rfl T.m_Ltaken T.F_Ltaken.kp (b_Ltaken T) .nil pass0 (pa_cons (pv 1) (pa_cons pe_int pa_nil))) pe_int (nomark _))))) (pss_cons (ps_asg (pe_tup (pa_cons pe_bl (pa_cons (pe_op op_add (pv 7) pe_int) pa_nil))) (pg_tup rfl (pgs_cons (pg_sub (pv 6) (pe_call (ok_Lkey T) (hr.mono (by decide)) rfl T.m_Lkey T.F_Lkey.kp (b_Lkey T) .nil pass0 (pa_cons (pv 15) pa_nil)) (set_dict hu)) (pgs_cons (pg_name (i := 7) sc_law.nd rfl (Or.inl rfl)) pgs_nil))))
      (pss_one (ps_expr (pe_bm PySem.F.plainAttrs_list PySem.F.slot_list_append PySem.F.type_list_append mt_append (pv 9) (pa_cons (pe_op op_catA (pv 10) (pe_tup (pa_cons (pv 12) pa_nil))) pa_nil))))) pss_nil)))) pss_nil))))))))
      (pss_one (ps_set (i := 5) sc_law.nd rfl (Or.inl rfl) (pv 9))))))
      (pss_cons (ps_for PassesOwn.never rfl (pi_range1 rfl T.n_range (pa_cons pe_int pa_nil)) (pg_name (i := 8) sc_law.nd rfl (Or.inl rfl)) (pss_cons (ps_set (i := 11) sc_law.nd rfl (Or.inl rfl) (pe_call (ok_Lwalk T) (hr.mono (by decide)) rfl T.m_Lwalk T.F_Lwalk.kp (b_Lwalk T) .nil pass0 (pa_cons (pv 1) (pa_cons (pv 2) (pa_cons (pv 3) (pa_cons pe_int pa_nil))))))
      (pss_one (ps_for PassesOwn.never rfl (pi_range1 rfl T.n_range (pa_cons (pe_op op_add (pe_callB call_len_seq (by rfl) T.n_len (by decide +kernel) (pa_cons (pe_dget hu (pv 11) pe_str (fun _ _ => rfl)) pa_nil)) pe_int) pa_nil)) (pg_name (i := 14) sc_law.nd rfl (Or.inl rfl)) (pss_cons (ps_set (i := 16) sc_law.nd rfl (Or.inr rfl) (pe_call (ok_Lrun T) (hr.mono (by decide)) rfl T.m_Lrun T.F_Lrun.kp (b_Lrun T) .nil pass0 (pa_cons (pv 2) (pa_cons (pv 3) (pa_cons (pe_slice sl_list (pe_dget hu (pv 11) pe_str (fun _ _ => rfl)) po_none (po_some (pv 14))) pa_nil)))))
      (pss_one (ps_if (pt_cmpR (op_neNil (un1 hr)) (pe_lc (own := [("one", 17)]) rfl sc_law.nd (pi_list (pv 4)) (blkOk_by (N := ["script", "row", "design", "world", "kept", "layer", "met", "count", "turn", "later", "events", "h", "event", "kind", "many", "after", "short", "one"]) (sc := defScope s_law) (by decide +kernel)) (fun _ _ _ _ _ => (pg_name (i := 17) sc_law.nd rfl (Or.inl rfl))) (fun _ _ _ _ _ => (pts_one (PW.pt (pw_and (pt_cmpR op_ne (pv 17) pe_str (nomark _)) (pw_and1 (pt_val (pe_call (ok_Lbroken T) (hr.mono (by decide)) rfl T.m_Lbroken T.F_Lbroken.kp (b_Lbroken T) .nil pass0 (pa_cons (pv 16) (pa_cons (pv 17) pa_nil))))))))) (fun _ _ _ _ _ => (pv 17))) (pe_lst pa_nil) (nomark _)) (pss_one (ps_ret pe_bl)) pss_nil)))))))
      (pss_one (ps_ret pe_bl)))))))), ?_⟩
    refine ⟨_, rfl, (by show 4 ≤ sizeLine; decide), fun r nr => ?_⟩
    have R0 : RowAt K H a r (upd H r (.lst [.ref a, .int 0, .int 15551, .int 0])) := ⟨⟨ns, hs⟩, nr, same_new nr, _, upd_same, _, _, _, rfl, by decide, by decide, by decide⟩
    generalize upd H r (.lst [.ref a, .int 0, .int 15551, .int 0]) = H1 at R0
    refine ⟨_, rfl, ?_⟩
    refine allX_i fun l1 xs1 H3 n1 e1 h1 t1 => ?_
    have R3 := R0.ex' e1
    refine pick_i xs1 R3 h1 (R0.ne n1) (fun z => by rw [z] at t1; exact absurd t1.length (by decide)) (by rw [t1.length]; decide) fun x H4 mx R4 K4 => ?_
    obtain ⟨j1, hj1, ex1⟩ := List.getElem_of_mem mx
    obtain ⟨dv, d, hdv, rfl, hd⟩ := tri_at t1 (show xs1[j1]? = some x by rw [List.getElem?_eq_getElem hj1, ex1])
    have md := List.mem_of_getElem? hdv
    have hd4 := K4.tup R3 hd
    refine ⟨_, rfl, ?_⟩
    refine allX_i fun l2 xs2 H5 n2 e2 h2 t2 => ?_
    have R5 := R4.ex' e2
    refine pick_i xs2 R5 h2 (R4.ne n2) (fun z => by rw [z] at t2; exact absurd t2.length (by decide)) (by rw [t2.length]; decide) fun x H6 mx2 R6 K6 => ?_
    obtain ⟨j2, hj2, ex2⟩ := List.getElem_of_mem mx2
    obtain ⟨wv, w', hwv, rfl, hw⟩ := tri_at t2 (show xs2[j2]? = some x by rw [List.getElem?_eq_getElem hj2, ex2])
    have mw := List.mem_of_getElem? hwv
    have hw6 := K6.tup R5 hw
    have hd6 := K6.tup R5 (e2 _ _ hd4)
    clear hd hw hd4 t1 t2 mx mx2 ex1 ex2 hj1 hj2 hdv hwv
    refine ⟨(by show 2 ≤ sizeLine; decide), fun t nt => ?_⟩
    refine ⟨t, _, rfl, SqT.of upd_same, rfl, _, _, rfl, _, _, rfl, rfl, ?_⟩
    have e7 := Evl.Ex.new (o := .tup [.ref d, .ref w']) nt
    have R7 := R6.ex' e7
    have hd7 := e7 _ _ hd6
    have hw7 := e7 _ _ hw6
    generalize upd H6 t (.tup [.ref d, .ref w']) = H7 at e7 R7 hd7 hw7
    clear hd6 hw6 R6 K6 R5 e2 R4 K4 R3 e1 R0 h1 h2 n1 n2 e7
    -- the promises that hold
    have O := cf3_ok md mw
    generalize ec : cf3 dv wv = cf at O
    have hd7 : H7 d = some (dT cf) := by subst ec; exact hd7
    have hw7 : H7 w' = some (wT cf) := by subst ec; exact hw7
    clear ec md mw
    refine proms_i fun p np => ?_
    have e8 := Evl.Ex.new (o := .lst (allPm.map pmV)) np
    have hp8 : (upd H7 p (.lst (allPm.map pmV))) p = some (.lst (allPm.map pmV)) := upd_same
    have R8 := R7.ex' e8
    have hd8 := e8 _ _ hd7
    have hw8 := e8 _ _ hw7
    generalize upd H7 p (.lst (allPm.map pmV)) = H8 at e8 R8 hd8 hw8 hp8
    refine ⟨p, rfl, ⟨_, SqL.of hp8⟩, fun D nD => lcP (progH cf) nD (SqL.of hp8) rfl (fun _ => rfl) (fun m => ?_) (fun m => Evl.ev_var rfl) fun H9 e9 hD => ?_⟩
    · refine Evl.et_B (Evl.ev_call (Evl.ea_cons (Evl.ev_var rfl) (Evl.ea_cons (Evl.ev_var rfl) (Evl.ea_cons (Evl.ev_var rfl) Evl.ea_nil))) fun H2 e2 Q2 q2 E2 => ?_)
      exact dwp_i (e2 _ _ hd8) (e2 _ _ hw8) O q2
    have R9 := R8.ex' e9
    have hd9 := e9 _ _ hd8
    have hw9 := e9 _ _ hw8
    have Dr := R8.ne nD
    clear e9 e8 hp8 hd8 hw8 R8 np nD hd7 hw7 R7 nt
    generalize ek : (allPm.filter (progH cf)).map pmV = kp at hD
    refine ⟨(by show 0 ≤ sizeLine; decide), fun p0 np0 => ⟨(by show 1 ≤ sizeLine; decide), fun p1 np1 p2 np2 => ⟨_, _, _, rfl, ?_⟩⟩⟩
    have S0 : SO K cf H a r d w' D p1 p2 kp [.ref p0] 0 0 (upd (upd (upd H9 p0 (.tup [])) p1 (.lst [.ref p0])) p2 (.dK [])) := by
      have f1 := Evl.Ex.new (o := .tup []) np0
      have f2 := Evl.Ex.new (o := .lst [.ref p0]) np1
      have f3 := Evl.Ex.new (o := .dK []) np2
      have f := (f1.trans f2).trans f3
      have R1 := R9.ex' (f1.trans f2)
      refine ⟨R9.ex' f, f _ _ hd9, f _ _ hw9, f _ _ hD, f3 _ _ upd_same, fun x hx => ?_, ⟨[], upd_same, Nat.le_refl _⟩, Dr, (R9.ex' f1).ne np1, R1.sm.free np2⟩
      rw [List.mem_singleton.mp hx]
      exact ⟨p0, [], [], rfl, f3 _ _ (f2 _ _ upd_same), .nil, ⟨fun i e h => by simp at h⟩, Nat.zero_le _⟩
    generalize upd (upd (upd H9 p0 (.tup [])) p1 (.lst [.ref p0])) p2 (.dK []) = H10 at S0
    clear hd9 hw9 hD Dr R9 np0 np1 np2
    show tSeq _ _ _ [some (.ref a), some (.ref r), some (.ref d), some (.ref w'), some (.ref D), some (.ref p1), some (.ref p2), some (.int 0), none, none, none, none, none, none, none, none, none, none] H10
    refine ⟨8, rfl, by decide, by decide, for_range (lo := 0) (n := 8) (fun i σ' H' => ∃ L xs n x8 x9 x10 x11 x12 x13 x14 x15, σ' = [some (.ref a), some (.ref r), some (.ref d), some (.ref w'), some (.ref D), some (.ref L), some (.ref p2), some (.int ((n : Nat) : Int)), x8, x9, x10, x11, x12, x13, x14, x15, none, none] ∧ SO K cf H a r d w' D L p2 kp xs i n H' ∧ n ≤ 300) ⟨_, _, 0, none, none, none, none, none, none, none, none, rfl, S0, Nat.zero_le _⟩ ?_ ?_⟩
    · rintro i σ' H11 hi ⟨L, xs, n, x8, x9, x10, x11, x12, x13, x14, x15, rfl, S, nn⟩
      refine ⟨Nat.zero_le _, fun N nN => ?_⟩
      have S1 := S.new nN
      generalize upd H11 N (.lst []) = H12 at S1
      clear S nN
      show tSeq _ _ _ [some (.ref a), some (.ref r), some (.ref d), some (.ref w'), some (.ref D), some (.ref L), some (.ref p2), some (.int (n : Int)), some (.int (0 + (i : Int))), some (.ref N), x10, x11, x12, x13, x14, x15, none, none] H12
      refine ⟨_, rfl, L, rfl, ⟨_, SqL.of S1.lay⟩, for_list (xs := xs) (fun j σ' H' => ∃ ys n x10 x11 x12 x13 x14 x15, σ' = [some (.ref a), some (.ref r), some (.ref d), some (.ref w'), some (.ref D), some (.ref L), some (.ref p2), some (.int ((n : Nat) : Int)), some (.int (0 + (i : Int))), some (.ref N), x10, x11, x12, x13, x14, x15, none, none] ∧ SS K cf H a r d w' D L p2 N kp xs ys i n H' ∧ n ≤ 300) ⟨_, n, _, _, _, _, _, _, rfl, S1, nn⟩ (fun j σ' H' _ ⟨_, _, _, _, _, _, _, _, _, S, _⟩ => SqL.of S.lay) ?_ ?_⟩
      · clear S1 nn
        rintro j x σ' H13 hj ⟨ys, n, x10, x11, x12, x13, x14, x15, rfl, S, nn⟩
        obtain ⟨t, us, es, rfl, ht, X, C, l⟩ := S.rl x (List.mem_of_getElem? hj)
        refine ⟨_, rfl, _, rfl, _, rfl, ?_⟩
        refine run_i S.hd S.hw O (.inr ht) X C (by omega) fun h A H14 e14 Lh ed ew fr => ?_
        obtain ⟨re, rp⟩ := C.all
        obtain ⟨W, hol⟩ := re.wf O
        have pl : (runH cf es).past.length ≤ 7 := by rw [rp]; omega
        have S2 := S.ex e14
        have nfh : ∀ b, (b = r ∨ b = p2 ∨ b = N) → ¬ Fp h A b := fun b hb z => S.no b hb (fr b z)
        have ht14 := e14 _ _ ht
        have X14 := X.tk (.ex e14)
        clear S e14 ht X fr
        show Ends.nx _ [some (.ref a), some (.ref r), some (.ref d), some (.ref w'), some (.ref D), some (.ref L), some (.ref p2), some (.int (n : Int)), some (.int (0 + (i : Int))), some (.ref N), some (.ref t), some (.ref h), x12, x13, x14, x15, none, none] H14
        dsimp only
        refine for_ifL (fun f H' => Evl.Ex H14 H' ∧ H14 f = none ∧ ∃ zs fs, H' f = some (.lst zs) ∧ EvsAt H' zs fs ∧ (∀ e ∈ fs, e ∈ evList cf (runH cf es)) ∧ (zs.length = 0 ∨ n < 260) ∧ zs.length ≤ 40) (decide ((n : Int) < 260)) (fun R q => ⟨_, rfl, _, _, rfl, rfl, _, rfl, q⟩) (fun hb R q => ?_) (fun hb R q => ⟨Nat.zero_le _, fun f nf => q f _ ⟨Evl.Ex.new nf, nf, [], [], upd_same, .nil, (fun e he => by cases he), .inl rfl, Nat.zero_le _⟩⟩) ?_
        · have hb := of_decide_eq_true hb
          refine ⟨_, rfl, ?_⟩
          refine events_i O Lh (by omega) (wait_all W O) fun f zs fs H15 S15 nf hf X15 so pm => q f H15 ⟨S15, nf, zs, fs, hf, X15, fun e he => pm.mem_iff.mp he, .inr (by omega), ?_⟩
          rw [X15.length, pm.length_eq]
          have := evList_len (c := cf) (s := runH cf es)
          omega
        rintro f H15 ⟨e15, ff, zs, fs, hf, X15, mem, zn, zl⟩
        have S3 := S2.ex e15
        have nff : ∀ b, (b = r ∨ b = p2 ∨ b = N) → f ≠ b := fun b hb z => S2.no b hb (by rw [← z]; exact ff)
        have L3 := Lh.same e15
        have ht15 := e15 _ _ ht14
        have X15' := X14.tk (.ex e15)
        clear S2 ht14 X14 Lh e15
        refine ⟨f, rfl, ⟨_, SqL.of hf⟩, for_list (xs := zs) (fun j σ' H' => ∃ ys n' x12 x13 x14 x15, σ' = [some (.ref a), some (.ref r), some (.ref d), some (.ref w'), some (.ref D), some (.ref L), some (.ref p2), some (.int ((n' : Nat) : Int)), some (.int (0 + (i : Int))), some (.ref N), some (.ref t), some (.ref h), x12, x13, x14, x15, none, none] ∧ SS K cf H a r d w' D L p2 N kp xs ys i n' H' ∧ n' ≤ n + j ∧ H' f = some (.lst zs) ∧ EvsAt H' zs fs ∧ LawAt cf H' h A (runH cf es) ∧ H' t = some (.tup us) ∧ EvsAt H' us es) ⟨_, n, _, _, _, _, rfl, S3, Nat.le_refl _, hf, X15, L3, ht15, X15'⟩ (fun j σ' H' _ ⟨_, _, _, _, _, _, _, _, _, hf, _⟩ => SqL.of hf) ?_ ?_⟩
        · clear S3 L3 ht15 X15' hf X15
          rintro q x σ' H16 hq ⟨ys, n', x12, x13, x14, x15, rfl, S, nle, hf, X, Lh, ht, Xt⟩
          obtain ⟨ev, eev, te, rfl, hte⟩ := Ca.pget X hq
          have mev := mem ev (List.mem_of_getElem? eev)
          have ql : q < zs.length := (List.getElem?_eq_some_iff.mp hq).1
          have hops : (runH cf es).ops.length ≤ 7 := by omega
          have dk := do_ok W O mev
          -- its kind
          refine ⟨fun σ' H' => ∃ kd : Str, σ' = [some (.ref a), some (.ref r), some (.ref d), some (.ref w'), some (.ref D), some (.ref L), some (.ref p2), some (.int (n' : Int)), some (.int (0 + (i : Int))), some (.ref N), some (.ref t), some (.ref h), some (.ref te), some (.str kd), x14, x15, none, none] ∧ H' = H16, ?_, ?_⟩
          · refine ⟨_, rfl, ?_⟩
            obtain ⟨w0, k0⟩ := ev
            cases k0 with
            | none => exact ⟨_, _, _, _, rfl, rfl, SqT.of (hte), rfl, rfl, _, rfl, iteB (fun _ => ⟨_, rfl, rfl⟩) (fun _ => ⟨_, rfl, rfl⟩)⟩
            | some k0 => exact ⟨_, _, _, _, rfl, rfl, SqT.of (hte), rfl, rfl, _, rfl, iteB (fun _ => ⟨_, rfl, rfl⟩) (fun _ => ⟨_, rfl, rfl⟩)⟩
          rintro σ' H17 ⟨kd, rfl, rfl⟩
          -- how many of its kind
          have ol : (A.oas.map V.ref).length ≤ 200 := by
            rw [List.length_map, Lh.ol]
            omega
          refine ⟨_, rfl, _, _, rfl, dget (Lh.hd) rfl, A.lo, rfl, ⟨_, SqL.of Lh.lo⟩, fun D1 nD1 => lcOps (A := A) (s := runH cf es) (fun u => decide (V.bl (decide (V.str u.kind = V.str "read")) = V.bl (decide (V.str kd = V.str "look")))) nD1 (SqL.of Lh.lo) (all_refs Lh) ol rfl (fun _ => rfl) (fun k' b u eb eu mu => ?_) (fun b => Evl.ev_var rfl) fun H18 acc e18 hD1 Racc => ?_⟩
          · have hb := Lh.og k' b u eb eu
            exact Evl.et_test (Evl.ev_op (Evl.ev_op (ev_dg rfl hb rfl) Evl.ev_c (Evl.rv_eq rfl)) (Evl.ev_op (Evl.ev_var rfl) Evl.ev_c (Evl.rv_eq rfl)) (Evl.rv_eq rfl))
          refine ⟨D1, acc, rfl, .inl (SqL.of hD1), ?_⟩
          have S5 := S.ex e18
          have hf5 := e18 _ _ hf
          have X5 := X.tk (.ex e18)
          have L5 := Lh.same (same_ex e18)
          have ht5 := e18 _ _ ht
          have Xt5 := Xt.tk (.ex e18)
          have hte5 := e18 _ _ hte
          clear S hf X Lh ht Xt hte hD1 Racc e18
          generalize acc.length = many
          show Ends.nx _ [some (.ref a), some (.ref r), some (.ref d), some (.ref w'), some (.ref D), some (.ref L), some (.ref p2), some (.int (n' : Int)), some (.int (0 + (i : Int))), some (.ref N), some (.ref t), some (.ref h), some (.ref te), some (.str kd), some (.int (many : Int)), x15, none, none] H18
          dsimp only
          refine or_pure (decide (V.int ((evV ev).length : Int) = V.int 1)) (fun Q' hq => ⟨_, rfl, te, _, rfl, .inr (SqT.of hte5), rfl, _, rfl, hq⟩) (fun hb Q' hq => or_pure (decide ((ev.2.getD 0 : Int) < (((A.oas.map V.ref).length : Nat) : Int))) (fun Q2 hq2 => ?_) (fun _ Q2 hq2 => ⟨_, rfl, ?_⟩) hq) fun b => ?_
          · obtain ⟨w0, k0⟩ := ev
            cases k0 with
            | none => exact absurd hb (by show ¬ decide (V.int ((1 : Nat) : Int) = V.int 1) = false; decide)
            | some k0 => exact ⟨_, rfl, _, _, _, _, rfl, rfl, SqT.of (hte5), rfl, _, rfl, _, _, rfl, dget (L5.hd) rfl, _, _, rfl, .inl (SqL.of L5.lo), _, _, rfl, rfl, _, rfl, hq2⟩
          · refine ⟨_, rfl, rfl, _, rfl, ?_⟩
            exact iteB (fun _ => ⟨_, _, rfl, rfl, _, rfl, hq2 _⟩) (fun _ => ⟨_, _, rfl, rfl, _, rfl, hq2 _⟩)
          have skip : ∃ ys n'' x12 x13 x14 x15', [some (.ref a), some (.ref r), some (.ref d), some (.ref w'), some (.ref D), some (.ref L), some (.ref p2), some (.int (n' : Int)), some (.int (0 + (i : Int))), some (.ref N), some (.ref t), some (.ref h), some (.ref te), some (.str kd), some (.int (many : Int)), x15, none, none] = [some (.ref a), some (.ref r), some (.ref d), some (.ref w'), some (.ref D), some (.ref L), some (.ref p2), some (.int ((n'' : Nat) : Int)), some (.int (0 + (i : Int))), some (.ref N), some (.ref t), some (.ref h), x12, x13, x14, x15', none, none] ∧ SS K cf H a r d w' D L p2 N kp xs ys i n'' H18 ∧ n'' ≤ n + (q + 1) ∧ H18 f = some (.lst zs) ∧ EvsAt H18 zs fs ∧ LawAt cf H18 h A (runH cf es) ∧ H18 t = some (.tup us) ∧ EvsAt H18 us es := ⟨ys, n', _, _, _, _, rfl, S5, by omega, hf5, X5, L5, ht5, Xt5⟩
          refine iteB (fun _ => ?_) (fun _ => skip)
          clear skip
          -- the run behind it
          have C2 := snoc_ch C mev
          refine ⟨_, rfl, _, rfl, _, rfl, _, rfl, (by show 1 ≤ sizeLine; decide), fun p3 np3 => ?_⟩
          have f3 := Evl.Ex.new (o := .tup [.ref te]) np3
          have hp3 : (upd H18 p3 (.tup [.ref te])) p3 = some (.tup [.ref te]) := upd_same
          generalize upd H18 p3 (.tup [.ref te]) = H19 at f3 hp3
          have usl : us.length ≤ 7 := by rw [Xt5.length, ← rp]; exact pl
          refine cat_i (f3 _ _ ht5) hp3 (Nat.le_of_lt (small9 (by show us.length + 1 ≤ 100; omega))) fun p4 H20 e20 hp4 => ?_
          have f20 := f3.trans e20
          have X20 : EvsAt H20 (us ++ [.ref te]) (es ++ [ev]) := Paired.app (Xt5.tk (.ex f20)) (.cons ⟨te, rfl, f20 _ _ hte5⟩ .nil)
          have el2 : (es ++ [ev]).length ≤ i + 1 := by rw [List.length_append, List.length_singleton]; omega
          refine run_i (f20 _ _ S5.hd) (f20 _ _ S5.hw) O (.inr hp4) X20 C2 (by omega) fun h2 A2 H21 e21 L21 ed2 ew2 fr2 => ?_
          obtain ⟨re2, rp2⟩ := C2.all
          have pl2 : (runH cf (es ++ [ev])).past.length ≤ 8 := by rw [rp2]; omega
          have e5 := f20.trans e21
          have nf2 : ∀ b, (b = r ∨ b = p2 ∨ b = N) → ¬ Fp h2 A2 b := fun b hb z => (S5.ex f20).no b hb (fr2 b z)
          have hte21 := e5 _ _ hte5
          have ht21 := e5 _ _ ht5
          have Xt21 := Xt5.tk (.ex e5)
          clear X20 hp4 hp3 np3 f3 e20 f20 e21 fr2
          -- nothing that is kept is broken
          refine ⟨_, rfl, D, rfl, ⟨_, SqL.of (e5 _ _ S5.hk)⟩, fun D2 nD2 => lc_list (xs := kp) (fun j H' => Evl.Ex H21 H' ∧ H' D2 = some (.lst [])) ⟨Evl.Ex.new nD2, upd_same⟩ (fun j H' _ p => SqL.of (p.1 _ _ (e5 _ _ S5.hk))) ?_ ?_⟩
          · rintro j x H22 hj ⟨e22, hD2⟩
            rw [← ek] at hj
            obtain ⟨m, rfl, hm⟩ := kept_at hj
            refine ⟨rfl, _, rfl, _, rfl, ?_⟩
            refine brokenA_i O (L21.same (same_ex e22)) re2 (by omega) fun H23 e23 => ⟨_, rfl, ?_⟩
            rw [kept_none O re2 (by omega) hm]
            exact iteF ⟨e22.trans e23, e23 _ _ hD2⟩
          rintro H22 ⟨e22, hD2⟩
          refine ⟨Nat.zero_le _, fun p5 np5 => ⟨D2, p5, [], rfl, rfl, SqL.of (Evl.Ex.new np5 _ _ hD2), SqL.of upd_same, _, rfl, ?_⟩⟩
          refine iteF ?_
          have e24 := e22.trans (Evl.Ex.new (o := .lst []) np5)
          have e6 := e5.trans e24
          have L24 := L21.same (same_ex e24)
          generalize upd H22 p5 (.lst []) = H24 at e24 e6 L24
          clear e22 hD2 np5 nD2 L21
          show Ends.nx _ [some (.ref a), some (.ref r), some (.ref d), some (.ref w'), some (.ref D), some (.ref L), some (.ref p2), some (.int (n' : Int)), some (.int (0 + (i : Int))), some (.ref N), some (.ref t), some (.ref h), some (.ref te), some (.str kd), some (.int (many : Int)), some (.ref h2), none, none] H24
          dsimp only
          -- met?
          have fin : ∀ (n2 : Nat) (ys2 : List V) (H' : Hp), SS K cf H a r d w' D L p2 N kp xs ys2 i n2 H' → n2 ≤ n' + 1 → Keep (fun b => b = r ∨ b = p2 ∨ b = N) H18 H' → TK H18 H' → ∃ ys n'' x12 x13 x14 x15, ([some (.ref a), some (.ref r), some (.ref d), some (.ref w'), some (.ref D), some (.ref L), some (.ref p2), some (.int (n2 : Int)), some (.int (0 + (i : Int))), some (.ref N), some (.ref t), some (.ref h), some (.ref te), some (.str kd), some (.int (many : Int)), some (.ref h2), none, none] : L2.St) = [some (.ref a), some (.ref r), some (.ref d), some (.ref w'), some (.ref D), some (.ref L), some (.ref p2), some (.int ((n'' : Nat) : Int)), some (.int (0 + (i : Int))), some (.ref N), some (.ref t), some (.ref h), x12, x13, x14, x15, none, none] ∧ SS K cf H a r d w' D L p2 N kp xs ys i n'' H' ∧ n'' ≤ n + (q + 1) ∧ H' f = some (.lst zs) ∧ EvsAt H' zs fs ∧ LawAt cf H' h A (runH cf es) ∧ H' t = some (.tup us) ∧ EvsAt H' us es := fun n2 ys2 H' S' hn k tk =>
            ⟨ys2, n2, _, _, _, _, rfl, S', by omega, k _ _ hf5 (fun z => nff _ z rfl), X5.tk tk, L5.keepX k tk nfh, tk _ _ ht5, Xt5.tk tk⟩
          have kx : ∀ {H1 H2 : Hp}, Evl.Ex H1 H2 → Keep (fun b => b = r ∨ b = p2 ∨ b = N) H1 H2 := fun e b o z _ => e b o z
          refine ⟨_, rfl, ?_⟩
          refine key_i O L24 re2 (by omega) fun tx H25 e25 => ?_
          have S25 := S5.ex (e6.trans e25)
          have L25 := L24.same (same_ex e25)
          have e7 := e6.trans e25
          obtain ⟨kvs, hm, hl⟩ := S25.met
          refine ⟨_, rfl, p2, _, rfl, DGet.k (k := Sum.inr tx) hm, _, rfl, ?_⟩
          refine iteB (fun _ => ?_) (fun _ => fin n' ys H25 S25 (by omega) (kx e7) (.ex e7))
          refine ⟨_, rfl, ?_⟩
          refine taken_i S25.row (by decide) (by decide) fun k H26 k0 k1 R26 K26 _ => ⟨_, _, rfl, rfl, _, rfl, ?_⟩
          have S26 := S25.turn R26 K26
          have K7 : Keep (fun b => b = r ∨ b = p2 ∨ b = N) H18 H26 := (kx e7).trans (K26.mono fun _ z => .inl z)
          have T7 : TK H18 H26 := (TK.ex e7).trans (TK.row S25.row K26)
          have L26 := L25.keepX (K26.mono (G := fun b => b = r ∨ b = p2 ∨ b = N) fun _ z => .inl z) (TK.row S25.row K26) nf2
          refine iteB (fun _ => ?_) (fun _ => fin n' ys H26 S26 (by omega) K7 T7)
          clear S25 L25 L24 e25 e24 e7 K26 R26 hm hl
          refine ⟨_, rfl, _, _, rfl, rfl, (by show 2 ≤ sizeLine; decide), fun p6 np6 => ?_⟩
          refine ⟨p6, _, rfl, SqT.of upd_same, rfl, _, _, rfl, _, rfl, _, rfl, ?_⟩
          have e27 := Evl.Ex.new (o := .tup [.bl true, .int ((n' : Int) + 1)]) np6
          have S27 := S26.ex e27
          have L27 := L26.same (same_ex e27)
          have K8 := K7.trans (kx e27)
          have T8 := T7.trans (.ex e27)
          clear S26 L26 K7 T7
          refine key_i O L27 re2 (by omega) fun tx2 H28 e28 => ?_
          have S28 := S27.ex e28
          have K9 := K8.trans (kx e28)
          have T9 := T8.trans (.ex e28)
          clear S27 L27 K8 T8 e28 e27
          obtain ⟨kv2, hm2, hl2⟩ := S28.met
          refine ⟨p2, _, rfl, DPut.k (k := Sum.inr tx2) hm2 (Nat.lt_of_le_of_lt (show kv2.length ≤ 1000 by omega) (by decide)), _, _, rfl, rfl, ?_⟩
          have S29 := S28.note (k := Sum.inr tx2) (v := .bl true) hm2 hl2
          have K10 : Keep (fun b => b = r ∨ b = p2 ∨ b = N) H18 (upd H28 p2 (.dK (putK kv2 (Sum.inr tx2) (.bl true)))) := K9.put (.inr (.inl rfl))
          have T10 := T9.trans (TK.put (o := .dK (putK kv2 (Sum.inr tx2) (.bl true))) hm2 fun xs z => by cases z)
          generalize upd H28 p2 (.dK (putK kv2 (Sum.inr tx2) (.bl true))) = H29 at S29 K10 T10
          clear S28 K9 T9 hm2 hl2
          show Ends.nx _ [some (.ref a), some (.ref r), some (.ref d), some (.ref w'), some (.ref D), some (.ref L), some (.ref p2), some (.int ((n' : Int) + 1)), some (.int (0 + (i : Int))), some (.ref N), some (.ref t), some (.ref h), some (.ref te), some (.str kd), some (.int (many : Int)), some (.ref h2), none, none] H29
          dsimp only
          refine ⟨_, rfl, .inl ⟨rfl, _, SqL.of S29.lat⟩, _, rfl, _, rfl, (by show 1 ≤ sizeLine; decide), fun p7 np7 => ?_⟩
          have f7 := Evl.Ex.new (o := .tup [.ref te]) np7
          have hp7 : (upd H29 p7 (.tup [.ref te])) p7 = some (.tup [.ref te]) := upd_same
          have ht29 := T10 _ _ ht5
          have Xt29 := Xt5.tk T10
          have hte29 := T10 _ _ hte5
          generalize upd H29 p7 (.tup [.ref te]) = H30 at f7 hp7
          refine cat_i (f7 _ _ ht29) hp7 (Nat.le_of_lt (small9 (by show us.length + 1 ≤ 100; omega))) fun p8 H31 e31 hp8 => ?_
          have f31 := f7.trans e31
          have S31 := S29.ex f31
          have X31 : EvsAt H31 (us ++ [.ref te]) (es ++ [ev]) := Paired.app (Xt29.tk (.ex f31)) (.cons ⟨te, rfl, f31 _ _ hte29⟩ .nil)
          unfold tNil
          dsimp only
          refine ⟨N, ys, _, rfl, rfl, S31.lat, Nat.lt_of_le_of_lt (show ys.length ≤ 1000 by have := S5.ln; omega) (by decide), ?_⟩
          have S32 := S31.push (by have := S5.ln; omega) hp8 X31 C2 el2
          exact fin (n' + 1) _ _ S32 (Nat.le_refl _) ((K10.trans (kx f31)).put (.inr (.inr rfl))) ((T10.trans (.ex f31)).trans (TK.put S31.lat fun xs z => by cases z))
        · rintro σ' H16 ⟨ys, n', x12, x13, x14, x15, rfl, S, nle, _⟩
          exact ⟨_, n', _, _, _, _, _, _, rfl, S, by omega⟩
      · rintro σ' H13 ⟨ys, n, x10, x11, x12, x13, x14, x15, rfl, S, nn⟩
        refine ⟨_, rfl, ?_⟩
        exact ⟨N, ys, n, _, _, _, _, _, _, _, _, rfl, S.out, nn⟩
    · rintro σ' H11 ⟨L, xs, n, x8, x9, x10, x11, x12, x13, x14, x15, rfl, S, nn⟩
      -- drawn runs
      clear S0
      refine ⟨3, rfl, by decide, by decide, for_range (lo := 0) (n := 3) (fun i σ' H' => ∃ x8 x11 x14 x16, σ' = [some (.ref a), some (.ref r), some (.ref d), some (.ref w'), some (.ref D), some (.ref L), some (.ref p2), some (.int ((n : Nat) : Int)), x8, x9, x10, x11, x12, x13, x14, x15, x16, none] ∧ RowAt K H a r H' ∧ H' d = some (dT cf) ∧ H' w' = some (wT cf) ∧ H' D = some (.lst kp)) ⟨_, _, _, _, rfl, S.row, S.hd, S.hw, S.hk⟩ ?_ ?_⟩
      · have Dr := S.kr
        clear S
        rintro i σ' H12 hi ⟨x8, x11, x14, x16, rfl, R, hd, hw, hk⟩
        refine ⟨_, rfl, _, rfl, _, rfl, ?_⟩
        refine walk_i (m := 40) O R (by decide) hd hw fun h A st H13 rch lp Lh eqd eqw R13 K13 fp => ?_
        have hd13 := K13.tup R hd
        have hw13 := K13.tup R hw
        have hk13 := K13 _ _ hk Dr
        have pl : (A.eas.map V.ref).length = st.past.length := by rw [List.length_map, Lh.el]
        have C := rch.run.2
        clear hd hw hk K13 R fp
        show Ends.nx _ [some (.ref a), some (.ref r), some (.ref d), some (.ref w'), some (.ref D), some (.ref L), some (.ref p2), some (.int (n : Int)), some (.int (0 + (i : Int))), x9, x10, some (.ref h), x12, x13, x14, x15, x16, none] H13
        dsimp only
        refine ⟨_, rfl, _, _, rfl, dget (Lh.hd) rfl, _, _, rfl, .inl (SqL.of Lh.lp), _, _, rfl, rfl, _, rfl, (by omega), (by omega), ?_⟩
        refine for_range (lo := 0) (n := (((A.eas.map V.ref).length : Int) + 1).toNat) (fun j σ' H' => ∃ x14 x16, σ' = [some (.ref a), some (.ref r), some (.ref d), some (.ref w'), some (.ref D), some (.ref L), some (.ref p2), some (.int (n : Int)), some (.int (0 + (i : Int))), x9, x10, some (.ref h), x12, x13, x14, x15, x16, none] ∧ Evl.Ex H13 H') ⟨_, _, rfl, Evl.Ex.refl _⟩ ?_ ?_
        · rintro j σ' H14 hj ⟨x14, x16, rfl, e14⟩
          have L14 := Lh.same (same_ex e14)
          refine ⟨_, rfl, _, rfl, _, rfl, _, _, rfl, dget (L14.hd) rfl, _, rfl, _, rfl, _, _, rfl, SqL.of L14.lp, fun q1 nq1 => ?_⟩
          have ecut : cutV (A.eas.map V.ref) none (some (0 + (j : Int))) = (A.eas.map V.ref).take j := by rw [Int.zero_add, cut_to]
          have e15 := Evl.Ex.new (o := .lst (cutV (A.eas.map V.ref) none (some (0 + (j : Int))))) nq1
          have hq1 : (upd H14 q1 (.lst (cutV (A.eas.map V.ref) none (some (0 + (j : Int)))))) q1 = some (.lst ((A.eas.map V.ref).take j)) := by rw [← ecut]; exact upd_same
          have X15 : EvsAt (upd H14 q1 (.lst (cutV (A.eas.map V.ref) none (some (0 + (j : Int)))))) ((A.eas.map V.ref).take j) (st.past.take j) := EvsAt.tk (paired_takeS _ (past_atS L14)) (.ex e15)
          generalize upd H14 q1 (.lst (cutV (A.eas.map V.ref) none (some (0 + (j : Int))))) = H15 at e15 hq1 X15
          have e5 := e14.trans e15
          refine run_i (e5 _ _ hd13) (e5 _ _ hw13) O (.inl hq1) X15 (C.take j) (by rw [List.length_take]; omega) fun h2 A2 H16 e16 L16 ed ew fr16 => ?_
          obtain ⟨re2, rp2⟩ := (C.take j).all
          have pl2 : (runH cf (st.past.take j)).past.length ≤ 40 := by rw [rp2, List.length_take]; omega
          have e6 := e5.trans e16
          refine ⟨_, rfl, D, rfl, ⟨_, SqL.of (e6 _ _ hk13)⟩, fun D2 nD2 => lc_list (xs := kp) (fun j H' => Evl.Ex H16 H' ∧ H' D2 = some (.lst [])) ⟨Evl.Ex.new nD2, upd_same⟩ (fun j H' _ p => SqL.of (p.1 _ _ (e6 _ _ hk13))) ?_ ?_⟩
          · rintro j2 x H17 hj ⟨e17, hD2⟩
            rw [← ek] at hj
            obtain ⟨m, rfl, hm⟩ := kept_at hj
            refine ⟨rfl, _, rfl, rfl, _, rfl, ?_⟩
            rw [show V.str "linear" = pmV .linear from rfl, pmEq]
            by_cases hl : m = .linear
            · rw [decide_eq_true hl]
              exact iteF (iteF ⟨e17, hD2⟩)
            · rw [decide_eq_false hl]
              refine iteT ⟨_, rfl, _, rfl, ?_⟩
              refine broken_i O (L16.same (same_ex e17)) re2 (by omega) hl fun H18 e18 => ⟨_, rfl, ?_⟩
              rw [keep_all O hm re2 hl]
              exact iteF ⟨e17.trans e18, e18 _ _ hD2⟩
          · rintro H17 ⟨e17, hD2⟩
            refine ⟨Nat.zero_le _, fun p5 np5 => ⟨D2, p5, [], rfl, rfl, SqL.of (Evl.Ex.new np5 _ _ hD2), SqL.of upd_same, _, rfl, ?_⟩⟩
            refine iteF ⟨_, _, rfl, (e6.trans e17).trans (Evl.Ex.new np5)⟩
        · rintro σ' H14 ⟨x14, x16, rfl, e14⟩
          exact ⟨_, _, _, _, rfl, R13.ex' e14, e14 _ _ hd13, e14 _ _ hw13, e14 _ _ hk13⟩
      · rintro σ' H12 ⟨x8, x11, x14, x16, rfl, R, hd, hw, hk⟩
        exact q _
end
end Ca

set_option Elab.async false
set_option linter.all false
set_option maxRecDepth 100000
set_option maxHeartbeats 4000000
namespace Ca
open PySem L2
/-! ### the facts of the head, piece by piece -/
def DefP (K : PySem.W.Frag) (mg : Str → Option Value) (x : Str) (st : Stmt) : Prop := ∃ f fd, Fun K x x st f fd ∧ mg x = some (.ref f)
theorem def_mk {K : PySem.W.Frag} {h : Heap} {mg : Str → Option Value} {x : Str} {st : Stmt} {f : Addr} {od an : Option Addr} {sl : Array (Option Value)} {oc kV dc pm cd ct : Value} (X : K.In h) (G : h.Ns mainGlobals mg)
    (a : PySem.W.nsIn K mainGlobals x = some (some (.ref f))) (l : K.lookup f = some ⟨oc, od, .func (PySem.W.fnOf x x (defArgs st) (defBody st) (defScope st) .none kV dc pm an cd ct), sl⟩) (c : PySem.W.codeIn K cd x = true) (k : PySem.W.keepIn K (.ref f) = true) : DefP K mg x st :=
  ⟨f, _, fun_mk (st := st) l c k, PySem.W.mg_of X G a⟩
def ConP (K : PySem.W.Frag) (mg : Str → Option Value) (x : Str) (xs : List V) : Prop := ∃ v, mg x = some (.ref v) ∧ ∀ H, SqT K H v xs
theorem con_mk {K : PySem.W.Frag} {h : Heap} {mg : Str → Option Value} {x : Str} {xs : List V} {v : Addr} {dd : Option Addr} {its : Array Value} {n : Nat} {sl : Array (Option Value)} (X : K.In h) (G : h.Ns mainGlobals mg) (a : PySem.W.nsIn K mainGlobals x = some (some (.ref v))) (l : K.lookup v = some ⟨.type "tuple", dd, .seq its n, sl⟩) (hz : its.size ≤ sizeLine) (r : Vals xs its.toList) : ConP K mg x xs :=
  ⟨v, PySem.W.mg_of X G a, fun _ => .inr ⟨_, its, n, l, rfl, rfl, hz, r⟩⟩
def IntP (mg : Str → Option Value) (x : Str) (i : Int) : Prop := ∃ tk, mg x = some (.int i tk)
def DctP_HOLDS (K : PySem.W.Frag) (w : World) (mg : Str → Option Value) : Prop := ∃ v, mg "HOLDS" = some (.ref v) ∧ (∃ f, mg "holds_ending" = some (.ref f) ∧ KDct K w v "ending" (.ref f)) ∧ (∃ f, mg "holds_filled" = some (.ref f) ∧ KDct K w v "filled" (.ref f)) ∧ (∃ f, mg "holds_forward" = some (.ref f) ∧ KDct K w v "forward" (.ref f)) ∧ (∃ f, mg "holds_fresh" = some (.ref f) ∧ KDct K w v "fresh" (.ref f)) ∧ (∃ f, mg "holds_linear" = some (.ref f) ∧ KDct K w v "linear" (.ref f)) ∧ (∃ f, mg "holds_mended" = some (.ref f) ∧ KDct K w v "mended" (.ref f)) ∧ (∃ f, mg "holds_moving" = some (.ref f) ∧ KDct K w v "moving" (.ref f)) ∧ (∃ f, mg "holds_quiet" = some (.ref f) ∧ KDct K w v "quiet" (.ref f)) ∧ (∃ f, mg "holds_rest" = some (.ref f) ∧ KDct K w v "rest" (.ref f)) ∧ (∃ f, mg "holds_single" = some (.ref f) ∧ KDct K w v "single" (.ref f))
theorem dct_HOLDS_mk {K : PySem.W.Frag} {w : World} {h : Heap} {mg : Str → Option Value} {v : Addr} {es : Array DictEntry} {n : Nat} {f0 : Addr} {f1 : Addr} {f2 : Addr} {f3 : Addr} {f4 : Addr} {f5 : Addr} {f6 : Addr} {f7 : Addr} {f8 : Addr} {f9 : Addr} (X : K.In h) (G : h.Ns mainGlobals mg) (a : PySem.W.nsIn K mainGlobals "HOLDS" = some (some (.ref v))) (l : K.lookup v = some ⟨.type "dict", none, .dict es n, #[]⟩) (kl : PySem.W.KeysLit w.params es.toList)
    (a0 : PySem.W.nsIn K mainGlobals "holds_ending" = some (some (.ref f0))) (e0 : PySem.W.nsIn K v "ending" = some (some (.ref f0)))
    (a1 : PySem.W.nsIn K mainGlobals "holds_filled" = some (some (.ref f1))) (e1 : PySem.W.nsIn K v "filled" = some (some (.ref f1)))
    (a2 : PySem.W.nsIn K mainGlobals "holds_forward" = some (some (.ref f2))) (e2 : PySem.W.nsIn K v "forward" = some (some (.ref f2)))
    (a3 : PySem.W.nsIn K mainGlobals "holds_fresh" = some (some (.ref f3))) (e3 : PySem.W.nsIn K v "fresh" = some (some (.ref f3)))
    (a4 : PySem.W.nsIn K mainGlobals "holds_linear" = some (some (.ref f4))) (e4 : PySem.W.nsIn K v "linear" = some (some (.ref f4)))
    (a5 : PySem.W.nsIn K mainGlobals "holds_mended" = some (some (.ref f5))) (e5 : PySem.W.nsIn K v "mended" = some (some (.ref f5)))
    (a6 : PySem.W.nsIn K mainGlobals "holds_moving" = some (some (.ref f6))) (e6 : PySem.W.nsIn K v "moving" = some (some (.ref f6)))
    (a7 : PySem.W.nsIn K mainGlobals "holds_quiet" = some (some (.ref f7))) (e7 : PySem.W.nsIn K v "quiet" = some (some (.ref f7)))
    (a8 : PySem.W.nsIn K mainGlobals "holds_rest" = some (some (.ref f8))) (e8 : PySem.W.nsIn K v "rest" = some (some (.ref f8)))
    (a9 : PySem.W.nsIn K mainGlobals "holds_single" = some (some (.ref f9))) (e9 : PySem.W.nsIn K v "single" = some (some (.ref f9)))
    : DctP_HOLDS K w mg :=
  ⟨v, PySem.W.mg_of X G a, ⟨f0, PySem.W.mg_of X G a0, es, n, _, l, kl, e0, rfl⟩, ⟨f1, PySem.W.mg_of X G a1, es, n, _, l, kl, e1, rfl⟩, ⟨f2, PySem.W.mg_of X G a2, es, n, _, l, kl, e2, rfl⟩, ⟨f3, PySem.W.mg_of X G a3, es, n, _, l, kl, e3, rfl⟩, ⟨f4, PySem.W.mg_of X G a4, es, n, _, l, kl, e4, rfl⟩, ⟨f5, PySem.W.mg_of X G a5, es, n, _, l, kl, e5, rfl⟩, ⟨f6, PySem.W.mg_of X G a6, es, n, _, l, kl, e6, rfl⟩, ⟨f7, PySem.W.mg_of X G a7, es, n, _, l, kl, e7, rfl⟩, ⟨f8, PySem.W.mg_of X G a8, es, n, _, l, kl, e8, rfl⟩, ⟨f9, PySem.W.mg_of X G a9, es, n, _, l, kl, e9, rfl⟩⟩
theorem fin {P : Program} {w : World} {K : PySem.W.Frag} {mg : Str → Option Value} {fa : Addr} (hmg : mg "law" = some (.ref fa))
    (D_is_design : DefP K mg "is_design" s_is_design)
    (D_is_world : DefP K mg "is_world" s_is_world)
    (D_is_triple : DefP K mg "is_triple" s_is_triple)
    (D_check_design : DefP K mg "check_design" s_check_design)
    (D_check_world : DefP K mg "check_world" s_check_world)
    (D_check_question : DefP K mg "check_question" s_check_question)
    (D_check_promise : DefP K mg "check_promise" s_check_promise)
    (D_holds : DefP K mg "holds" s_holds)
    (D_passes_by : DefP K mg "passes_by" s_passes_by)
    (D_climbs : DefP K mg "climbs" s_climbs)
    (D_guards : DefP K mg "guards" s_guards)
    (D_is_alone : DefP K mg "is_alone" s_is_alone)
    (D_is_primary : DefP K mg "is_primary" s_is_primary)
    (D_keeps : DefP K mg "keeps" s_keeps)
    (D_finishes : DefP K mg "finishes" s_finishes)
    (D_holds_ending : DefP K mg "holds_ending" s_holds_ending)
    (D_holds_filled : DefP K mg "holds_filled" s_holds_filled)
    (D_holds_forward : DefP K mg "holds_forward" s_holds_forward)
    (D_holds_fresh : DefP K mg "holds_fresh" s_holds_fresh)
    (D_holds_linear : DefP K mg "holds_linear" s_holds_linear)
    (D_holds_mended : DefP K mg "holds_mended" s_holds_mended)
    (D_holds_moving : DefP K mg "holds_moving" s_holds_moving)
    (D_holds_quiet : DefP K mg "holds_quiet" s_holds_quiet)
    (D_holds_rest : DefP K mg "holds_rest" s_holds_rest)
    (D_holds_single : DefP K mg "holds_single" s_holds_single)
    (D_Ltaken : DefP K mg "_law_taken" s_Ltaken)
    (D_Lpick : DefP K mg "_law_pick" s_Lpick)
    (D_Lpaths : DefP K mg "_law_paths" s_Lpaths)
    (D_Lbegin : DefP K mg "_law_begin" s_Lbegin)
    (D_Lgoing : DefP K mg "_law_going" s_Lgoing)
    (D_Lnext : DefP K mg "_law_next" s_Lnext)
    (D_Levents : DefP K mg "_law_events" s_Levents)
    (D_Lend : DefP K mg "_law_end" s_Lend)
    (D_Lhold : DefP K mg "_law_hold" s_Lhold)
    (D_Lnewer : DefP K mg "_law_newer" s_Lnewer)
    (D_Llets : DefP K mg "_law_lets" s_Llets)
    (D_Lwrite : DefP K mg "_law_write" s_Lwrite)
    (D_Lread : DefP K mg "_law_read" s_Lread)
    (D_Ldo : DefP K mg "_law_do" s_Ldo)
    (D_Lrun : DefP K mg "_law_run" s_Lrun)
    (D_Lwalk : DefP K mg "_law_walk" s_Lwalk)
    (D_Lbehind : DefP K mg "_law_behind" s_Lbehind)
    (D_Lbefore : DefP K mg "_law_before" s_Lbefore)
    (D_Lwas_quiet : DefP K mg "_law_was_quiet" s_Lwas_quiet)
    (D_Lordered : DefP K mg "_law_ordered" s_Lordered)
    (D_Lin_order : DefP K mg "_law_in_order" s_Lin_order)
    (D_Lalone : DefP K mg "_law_alone" s_Lalone)
    (D_Lat_rest : DefP K mg "_law_at_rest" s_Lat_rest)
    (D_Lbroken : DefP K mg "_law_broken" s_Lbroken)
    (D_Lpromises : DefP K mg "_law_promises" s_Lpromises)
    (D_Ldesigns : DefP K mg "_law_designs" s_Ldesigns)
    (D_Lworlds : DefP K mg "_law_worlds" s_Lworlds)
    (D_Lkey : DefP K mg "_law_key" s_Lkey)
    (D_law : DefP K mg "law" s_law)
    (K_PATHS : ConP K mg "PATHS" (pathsL.map V.str))
    (K_GUARDS : ConP K mg "GUARDS" (guardsL.map V.str))
    (K_FLIGHTS : ConP K mg "FLIGHTS" (flightsL.map V.str))
    (K_SOURCES : ConP K mg "SOURCES" ((["primary", "replica"] : List Str).map V.str))
    (K_EVICTIONS : ConP K mg "EVICTIONS" ((["evicts", "keeps"] : List Str).map V.str))
    (K_STOPS : ConP K mg "STOPS" ((["finishes", "stops"] : List Str).map V.str))
    (K_PROMISES : ConP K mg "PROMISES" ((["ending", "filled", "forward", "fresh", "linear", "mended", "moving", "quiet", "rest", "single"] : List Str).map V.str))
    (n_len : mg "len" = none)
    (n_isinstance : mg "isinstance" = none)
    (n_max : mg "max" = none)
    (n_min : mg "min" = none)
    (n_any : mg "any" = none)
    (n_all : mg "all" = none)
    (n_sorted : mg "sorted" = none)
    (n_range : mg "range" = none)
    (n_enumerate : mg "enumerate" = none)
    (n_int : mg "int" = none)
    (n_str : mg "str" = none)
    (n_bool : mg "bool" = none)
    (n_tuple : mg "tuple" = none)
    (n_list : mg "list" = none)
    (n_dict : mg "dict" = none)
    (d_HOLDS : DctP_HOLDS K w mg)
    :
    ∃ fd : FuncData, (∀ (s : Shared) (u : Value), BindsTo s fd ⟨[u], []⟩ [("script", u)]) ∧ ∀ base : Heap, K.In base → base.Ns mainGlobals mg → FnOk P w K mg base CX0 24 fa fd ["script"] (spLaw K) := by
  obtain ⟨f_is_design, fd_is_design, F_is_design, m_is_design⟩ := D_is_design
  obtain ⟨f_is_world, fd_is_world, F_is_world, m_is_world⟩ := D_is_world
  obtain ⟨f_is_triple, fd_is_triple, F_is_triple, m_is_triple⟩ := D_is_triple
  obtain ⟨f_check_design, fd_check_design, F_check_design, m_check_design⟩ := D_check_design
  obtain ⟨f_check_world, fd_check_world, F_check_world, m_check_world⟩ := D_check_world
  obtain ⟨f_check_question, fd_check_question, F_check_question, m_check_question⟩ := D_check_question
  obtain ⟨f_check_promise, fd_check_promise, F_check_promise, m_check_promise⟩ := D_check_promise
  obtain ⟨f_holds, fd_holds, F_holds, m_holds⟩ := D_holds
  obtain ⟨f_passes_by, fd_passes_by, F_passes_by, m_passes_by⟩ := D_passes_by
  obtain ⟨f_climbs, fd_climbs, F_climbs, m_climbs⟩ := D_climbs
  obtain ⟨f_guards, fd_guards, F_guards, m_guards⟩ := D_guards
  obtain ⟨f_is_alone, fd_is_alone, F_is_alone, m_is_alone⟩ := D_is_alone
  obtain ⟨f_is_primary, fd_is_primary, F_is_primary, m_is_primary⟩ := D_is_primary
  obtain ⟨f_keeps, fd_keeps, F_keeps, m_keeps⟩ := D_keeps
  obtain ⟨f_finishes, fd_finishes, F_finishes, m_finishes⟩ := D_finishes
  obtain ⟨f_holds_ending, fd_holds_ending, F_holds_ending, m_holds_ending⟩ := D_holds_ending
  obtain ⟨f_holds_filled, fd_holds_filled, F_holds_filled, m_holds_filled⟩ := D_holds_filled
  obtain ⟨f_holds_forward, fd_holds_forward, F_holds_forward, m_holds_forward⟩ := D_holds_forward
  obtain ⟨f_holds_fresh, fd_holds_fresh, F_holds_fresh, m_holds_fresh⟩ := D_holds_fresh
  obtain ⟨f_holds_linear, fd_holds_linear, F_holds_linear, m_holds_linear⟩ := D_holds_linear
  obtain ⟨f_holds_mended, fd_holds_mended, F_holds_mended, m_holds_mended⟩ := D_holds_mended
  obtain ⟨f_holds_moving, fd_holds_moving, F_holds_moving, m_holds_moving⟩ := D_holds_moving
  obtain ⟨f_holds_quiet, fd_holds_quiet, F_holds_quiet, m_holds_quiet⟩ := D_holds_quiet
  obtain ⟨f_holds_rest, fd_holds_rest, F_holds_rest, m_holds_rest⟩ := D_holds_rest
  obtain ⟨f_holds_single, fd_holds_single, F_holds_single, m_holds_single⟩ := D_holds_single
  obtain ⟨f_Ltaken, fd_Ltaken, F_Ltaken, m_Ltaken⟩ := D_Ltaken
  obtain ⟨f_Lpick, fd_Lpick, F_Lpick, m_Lpick⟩ := D_Lpick
  obtain ⟨f_Lpaths, fd_Lpaths, F_Lpaths, m_Lpaths⟩ := D_Lpaths
  obtain ⟨f_Lbegin, fd_Lbegin, F_Lbegin, m_Lbegin⟩ := D_Lbegin
  obtain ⟨f_Lgoing, fd_Lgoing, F_Lgoing, m_Lgoing⟩ := D_Lgoing
  obtain ⟨f_Lnext, fd_Lnext, F_Lnext, m_Lnext⟩ := D_Lnext
  obtain ⟨f_Levents, fd_Levents, F_Levents, m_Levents⟩ := D_Levents
  obtain ⟨f_Lend, fd_Lend, F_Lend, m_Lend⟩ := D_Lend
  obtain ⟨f_Lhold, fd_Lhold, F_Lhold, m_Lhold⟩ := D_Lhold
  obtain ⟨f_Lnewer, fd_Lnewer, F_Lnewer, m_Lnewer⟩ := D_Lnewer
  obtain ⟨f_Llets, fd_Llets, F_Llets, m_Llets⟩ := D_Llets
  obtain ⟨f_Lwrite, fd_Lwrite, F_Lwrite, m_Lwrite⟩ := D_Lwrite
  obtain ⟨f_Lread, fd_Lread, F_Lread, m_Lread⟩ := D_Lread
  obtain ⟨f_Ldo, fd_Ldo, F_Ldo, m_Ldo⟩ := D_Ldo
  obtain ⟨f_Lrun, fd_Lrun, F_Lrun, m_Lrun⟩ := D_Lrun
  obtain ⟨f_Lwalk, fd_Lwalk, F_Lwalk, m_Lwalk⟩ := D_Lwalk
  obtain ⟨f_Lbehind, fd_Lbehind, F_Lbehind, m_Lbehind⟩ := D_Lbehind
  obtain ⟨f_Lbefore, fd_Lbefore, F_Lbefore, m_Lbefore⟩ := D_Lbefore
  obtain ⟨f_Lwas_quiet, fd_Lwas_quiet, F_Lwas_quiet, m_Lwas_quiet⟩ := D_Lwas_quiet
  obtain ⟨f_Lordered, fd_Lordered, F_Lordered, m_Lordered⟩ := D_Lordered
  obtain ⟨f_Lin_order, fd_Lin_order, F_Lin_order, m_Lin_order⟩ := D_Lin_order
  obtain ⟨f_Lalone, fd_Lalone, F_Lalone, m_Lalone⟩ := D_Lalone
  obtain ⟨f_Lat_rest, fd_Lat_rest, F_Lat_rest, m_Lat_rest⟩ := D_Lat_rest
  obtain ⟨f_Lbroken, fd_Lbroken, F_Lbroken, m_Lbroken⟩ := D_Lbroken
  obtain ⟨f_Lpromises, fd_Lpromises, F_Lpromises, m_Lpromises⟩ := D_Lpromises
  obtain ⟨f_Ldesigns, fd_Ldesigns, F_Ldesigns, m_Ldesigns⟩ := D_Ldesigns
  obtain ⟨f_Lworlds, fd_Lworlds, F_Lworlds, m_Lworlds⟩ := D_Lworlds
  obtain ⟨f_Lkey, fd_Lkey, F_Lkey, m_Lkey⟩ := D_Lkey
  obtain ⟨f_law, fd_law, F_law, m_law⟩ := D_law
  obtain ⟨v_PATHS, m_PATHS, s_PATHS⟩ := K_PATHS
  obtain ⟨v_GUARDS, m_GUARDS, s_GUARDS⟩ := K_GUARDS
  obtain ⟨v_FLIGHTS, m_FLIGHTS, s_FLIGHTS⟩ := K_FLIGHTS
  obtain ⟨v_SOURCES, m_SOURCES, s_SOURCES⟩ := K_SOURCES
  obtain ⟨v_EVICTIONS, m_EVICTIONS, s_EVICTIONS⟩ := K_EVICTIONS
  obtain ⟨v_STOPS, m_STOPS, s_STOPS⟩ := K_STOPS
  obtain ⟨v_PROMISES, m_PROMISES, s_PROMISES⟩ := K_PROMISES
  let T : Txt K mg := {
    f_is_design := f_is_design, fd_is_design := fd_is_design, F_is_design := F_is_design, m_is_design := m_is_design, f_is_world := f_is_world, fd_is_world := fd_is_world, F_is_world := F_is_world, m_is_world := m_is_world, f_is_triple := f_is_triple, fd_is_triple := fd_is_triple, F_is_triple := F_is_triple, m_is_triple := m_is_triple, f_check_design := f_check_design, fd_check_design := fd_check_design, F_check_design := F_check_design, m_check_design := m_check_design, f_check_world := f_check_world, fd_check_world := fd_check_world, F_check_world := F_check_world, m_check_world := m_check_world, f_check_question := f_check_question, fd_check_question := fd_check_question, F_check_question := F_check_question, m_check_question := m_check_question, f_check_promise := f_check_promise, fd_check_promise := fd_check_promise, F_check_promise := F_check_promise, m_check_promise := m_check_promise, f_holds := f_holds, fd_holds := fd_holds, F_holds := F_holds, m_holds := m_holds, f_passes_by := f_passes_by, fd_passes_by := fd_passes_by, F_passes_by := F_passes_by, m_passes_by := m_passes_by, f_climbs := f_climbs, fd_climbs := fd_climbs, F_climbs := F_climbs, m_climbs := m_climbs, f_guards := f_guards, fd_guards := fd_guards, F_guards := F_guards, m_guards := m_guards, f_is_alone := f_is_alone, fd_is_alone := fd_is_alone, F_is_alone := F_is_alone, m_is_alone := m_is_alone, f_is_primary := f_is_primary, fd_is_primary := fd_is_primary, F_is_primary := F_is_primary, m_is_primary := m_is_primary, f_keeps := f_keeps, fd_keeps := fd_keeps, F_keeps := F_keeps, m_keeps := m_keeps, f_finishes := f_finishes, fd_finishes := fd_finishes, F_finishes := F_finishes, m_finishes := m_finishes, f_holds_ending := f_holds_ending, fd_holds_ending := fd_holds_ending, F_holds_ending := F_holds_ending, m_holds_ending := m_holds_ending, f_holds_filled := f_holds_filled, fd_holds_filled := fd_holds_filled, F_holds_filled := F_holds_filled, m_holds_filled := m_holds_filled, f_holds_forward := f_holds_forward, fd_holds_forward := fd_holds_forward, F_holds_forward := F_holds_forward, m_holds_forward := m_holds_forward, f_holds_fresh := f_holds_fresh, fd_holds_fresh := fd_holds_fresh, F_holds_fresh := F_holds_fresh, m_holds_fresh := m_holds_fresh, f_holds_linear := f_holds_linear, fd_holds_linear := fd_holds_linear, F_holds_linear := F_holds_linear, m_holds_linear := m_holds_linear, f_holds_mended := f_holds_mended, fd_holds_mended := fd_holds_mended, F_holds_mended := F_holds_mended, m_holds_mended := m_holds_mended, f_holds_moving := f_holds_moving, fd_holds_moving := fd_holds_moving, F_holds_moving := F_holds_moving, m_holds_moving := m_holds_moving, f_holds_quiet := f_holds_quiet, fd_holds_quiet := fd_holds_quiet, F_holds_quiet := F_holds_quiet, m_holds_quiet := m_holds_quiet, f_holds_rest := f_holds_rest, fd_holds_rest := fd_holds_rest, F_holds_rest := F_holds_rest, m_holds_rest := m_holds_rest, f_holds_single := f_holds_single, fd_holds_single := fd_holds_single, F_holds_single := F_holds_single, m_holds_single := m_holds_single, f_Ltaken := f_Ltaken, fd_Ltaken := fd_Ltaken, F_Ltaken := F_Ltaken, m_Ltaken := m_Ltaken, f_Lpick := f_Lpick, fd_Lpick := fd_Lpick, F_Lpick := F_Lpick, m_Lpick := m_Lpick, f_Lpaths := f_Lpaths, fd_Lpaths := fd_Lpaths, F_Lpaths := F_Lpaths, m_Lpaths := m_Lpaths, f_Lbegin := f_Lbegin, fd_Lbegin := fd_Lbegin, F_Lbegin := F_Lbegin, m_Lbegin := m_Lbegin, f_Lgoing := f_Lgoing, fd_Lgoing := fd_Lgoing, F_Lgoing := F_Lgoing, m_Lgoing := m_Lgoing, f_Lnext := f_Lnext, fd_Lnext := fd_Lnext, F_Lnext := F_Lnext, m_Lnext := m_Lnext, f_Levents := f_Levents, fd_Levents := fd_Levents, F_Levents := F_Levents, m_Levents := m_Levents, f_Lend := f_Lend, fd_Lend := fd_Lend, F_Lend := F_Lend, m_Lend := m_Lend, f_Lhold := f_Lhold, fd_Lhold := fd_Lhold, F_Lhold := F_Lhold, m_Lhold := m_Lhold, f_Lnewer := f_Lnewer, fd_Lnewer := fd_Lnewer, F_Lnewer := F_Lnewer, m_Lnewer := m_Lnewer, f_Llets := f_Llets, fd_Llets := fd_Llets, F_Llets := F_Llets, m_Llets := m_Llets, f_Lwrite := f_Lwrite, fd_Lwrite := fd_Lwrite, F_Lwrite := F_Lwrite, m_Lwrite := m_Lwrite, f_Lread := f_Lread, fd_Lread := fd_Lread, F_Lread := F_Lread, m_Lread := m_Lread, f_Ldo := f_Ldo, fd_Ldo := fd_Ldo, F_Ldo := F_Ldo, m_Ldo := m_Ldo, f_Lrun := f_Lrun, fd_Lrun := fd_Lrun, F_Lrun := F_Lrun, m_Lrun := m_Lrun, f_Lwalk := f_Lwalk, fd_Lwalk := fd_Lwalk, F_Lwalk := F_Lwalk, m_Lwalk := m_Lwalk, f_Lbehind := f_Lbehind, fd_Lbehind := fd_Lbehind, F_Lbehind := F_Lbehind, m_Lbehind := m_Lbehind, f_Lbefore := f_Lbefore, fd_Lbefore := fd_Lbefore, F_Lbefore := F_Lbefore, m_Lbefore := m_Lbefore, f_Lwas_quiet := f_Lwas_quiet, fd_Lwas_quiet := fd_Lwas_quiet, F_Lwas_quiet := F_Lwas_quiet, m_Lwas_quiet := m_Lwas_quiet, f_Lordered := f_Lordered, fd_Lordered := fd_Lordered, F_Lordered := F_Lordered, m_Lordered := m_Lordered, f_Lin_order := f_Lin_order, fd_Lin_order := fd_Lin_order, F_Lin_order := F_Lin_order, m_Lin_order := m_Lin_order, f_Lalone := f_Lalone, fd_Lalone := fd_Lalone, F_Lalone := F_Lalone, m_Lalone := m_Lalone, f_Lat_rest := f_Lat_rest, fd_Lat_rest := fd_Lat_rest, F_Lat_rest := F_Lat_rest, m_Lat_rest := m_Lat_rest, f_Lbroken := f_Lbroken, fd_Lbroken := fd_Lbroken, F_Lbroken := F_Lbroken, m_Lbroken := m_Lbroken, f_Lpromises := f_Lpromises, fd_Lpromises := fd_Lpromises, F_Lpromises := F_Lpromises, m_Lpromises := m_Lpromises, f_Ldesigns := f_Ldesigns, fd_Ldesigns := fd_Ldesigns, F_Ldesigns := F_Ldesigns, m_Ldesigns := m_Ldesigns, f_Lworlds := f_Lworlds, fd_Lworlds := fd_Lworlds, F_Lworlds := F_Lworlds, m_Lworlds := m_Lworlds, f_Lkey := f_Lkey, fd_Lkey := fd_Lkey, F_Lkey := F_Lkey, m_Lkey := m_Lkey, f_law := f_law, fd_law := fd_law, F_law := F_law, m_law := m_law, n_len := n_len, n_isinstance := n_isinstance, n_max := n_max, n_min := n_min, n_any := n_any, n_all := n_all, n_sorted := n_sorted, n_range := n_range, n_enumerate := n_enumerate, n_int := n_int, n_str := n_str, n_bool := n_bool, n_tuple := n_tuple, n_list := n_list, n_dict := n_dict }
  let U : TxtC K mg := { v_PATHS := v_PATHS, m_PATHS := m_PATHS, s_PATHS := s_PATHS, v_GUARDS := v_GUARDS, m_GUARDS := m_GUARDS, s_GUARDS := s_GUARDS, v_FLIGHTS := v_FLIGHTS, m_FLIGHTS := m_FLIGHTS, s_FLIGHTS := s_FLIGHTS, v_SOURCES := v_SOURCES, m_SOURCES := m_SOURCES, s_SOURCES := s_SOURCES, v_EVICTIONS := v_EVICTIONS, m_EVICTIONS := m_EVICTIONS, s_EVICTIONS := s_EVICTIONS, v_STOPS := v_STOPS, m_STOPS := m_STOPS, s_STOPS := s_STOPS, v_PROMISES := v_PROMISES, m_PROMISES := m_PROMISES, s_PROMISES := s_PROMISES }
  obtain ⟨v_HOLDS, m_HOLDS, ⟨q0, r0, p0⟩, ⟨q1, r1, p1⟩, ⟨q2, r2, p2⟩, ⟨q3, r3, p3⟩, ⟨q4, r4, p4⟩, ⟨q5, r5, p5⟩, ⟨q6, r6, p6⟩, ⟨q7, r7, p7⟩, ⟨q8, r8, p8⟩, ⟨q9, r9, p9⟩⟩ := d_HOLDS
  have p0 : KDct K w v_HOLDS "ending" (.ref f_holds_ending) := by
    have z := m_holds_ending.symm.trans r0
    cases z
    exact p0
  have p1 : KDct K w v_HOLDS "filled" (.ref f_holds_filled) := by
    have z := m_holds_filled.symm.trans r1
    cases z
    exact p1
  have p2 : KDct K w v_HOLDS "forward" (.ref f_holds_forward) := by
    have z := m_holds_forward.symm.trans r2
    cases z
    exact p2
  have p3 : KDct K w v_HOLDS "fresh" (.ref f_holds_fresh) := by
    have z := m_holds_fresh.symm.trans r3
    cases z
    exact p3
  have p4 : KDct K w v_HOLDS "linear" (.ref f_holds_linear) := by
    have z := m_holds_linear.symm.trans r4
    cases z
    exact p4
  have p5 : KDct K w v_HOLDS "mended" (.ref f_holds_mended) := by
    have z := m_holds_mended.symm.trans r5
    cases z
    exact p5
  have p6 : KDct K w v_HOLDS "moving" (.ref f_holds_moving) := by
    have z := m_holds_moving.symm.trans r6
    cases z
    exact p6
  have p7 : KDct K w v_HOLDS "quiet" (.ref f_holds_quiet) := by
    have z := m_holds_quiet.symm.trans r7
    cases z
    exact p7
  have p8 : KDct K w v_HOLDS "rest" (.ref f_holds_rest) := by
    have z := m_holds_rest.symm.trans r8
    cases z
    exact p8
  have p9 : KDct K w v_HOLDS "single" (.ref f_holds_single) := by
    have z := m_holds_single.symm.trans r9
    cases z
    exact p9
  let Y : TxtD_HOLDS K w mg T := { v_ := v_HOLDS, m_ := m_HOLDS, k_ending := p0, k_filled := p1, k_forward := p2, k_fresh := p3, k_linear := p4, k_mended := p5, k_moving := p6, k_quiet := p7, k_rest := p8, k_single := p9 }
  have e : f_law = fa := by
    have z := m_law.symm.trans hmg
    cases z
    rfl
  subst e
  refine ⟨fd_law, fun s u => ?_, fun base _ _ => ok_law T U Y⟩
  obtain ⟨oc, od, kV, doc, pm, an, cdv, ct, osl, ef, _, _⟩ := F_law.ex
  rw [ef]
  exact .of_eq rfl
theorem walk {l : PySem.W.OpenLaw} {q : Program} {loose : List Str} {XP : (Str → Option Value) → Heap → Prop} {YP : World → Heap → Prop} {d : DefRec} {K : Params → PySem.W.Frag} (hn : l.most = some 63) (hdf : d.params.defaults = [])
    (hY : ∀ (w : World) (h : Heap), YP w h → (K w.params).In h)
    (F : ∀ (w : World) (mg : Str → Option Value) (fa : Addr) (h : Heap), (K w.params).In h → h.Ns mainGlobals mg → mg d.name = some (.ref fa) →
      ∃ fd : FuncData, (∀ (s : Shared) (u : Value), BindsTo s fd ⟨[u], []⟩ [("script", u)]) ∧ ∀ base : Heap, (K w.params).In base → base.Ns mainGlobals mg → FnOk l.prog w (K w.params) mg base CX0 24 fa fd ["script"] (spLaw (K w.params))) :
    PySem.W.WalkO q loose XP YP l.row.toRowW d [] (fun f vs => PySem.call f vs) :=
  L2.walk_of (n := 63) (k := 24) (x := "script") (CX := fun _ => CX0) (sp := fun w => spLaw (K w.params)) hn (by decide) hdf ⟨rfl, by decide, by decide⟩ hY F (fun _ _ a ns hl _ hS => by unfold spLaw; exact ⟨a, ns, rfl, hS, fun _ => rfl⟩) fun _ _ _ _ _ z => z
end Ca

open PySem PySem.W PyProof.Rows
set_option Elab.async false
set_option maxRecDepth 100000 in
set_option maxHeartbeats 0 in
theorem PySem.Challenge.cw_cacheheld_k04_whole_short_runs_holds : PySem.Challenge.rw_cacheheld_k04_whole_short_runs.Holds := by
  w_on; o_law; k_head; (case hw => w_witness2)
  k_fill
  refine Ca.walk (l := PySem.Challenge.rw_cacheheld_k04_whole_short_runs) rfl rfl (fun w h Y => PySem.W.kIn_of Y) ?F
  case F =>
    intro w mg fa h KX G hmg
    refine' Ca.fin hmg ?D_is_design ?D_is_world ?D_is_triple ?D_check_design ?D_check_world ?D_check_question ?D_check_promise ?D_holds ?D_passes_by ?D_climbs ?D_guards ?D_is_alone ?D_is_primary ?D_keeps ?D_finishes ?D_holds_ending ?D_holds_filled ?D_holds_forward ?D_holds_fresh ?D_holds_linear ?D_holds_mended ?D_holds_moving ?D_holds_quiet ?D_holds_rest ?D_holds_single ?D_Ltaken ?D_Lpick ?D_Lpaths ?D_Lbegin ?D_Lgoing ?D_Lnext ?D_Levents ?D_Lend ?D_Lhold ?D_Lnewer ?D_Llets ?D_Lwrite ?D_Lread ?D_Ldo ?D_Lrun ?D_Lwalk ?D_Lbehind ?D_Lbefore ?D_Lwas_quiet ?D_Lordered ?D_Lin_order ?D_Lalone ?D_Lat_rest ?D_Lbroken ?D_Lpromises ?D_Ldesigns ?D_Lworlds ?D_Lkey ?D_law ?K_PATHS ?K_GUARDS ?K_FLIGHTS ?K_SOURCES ?K_EVICTIONS ?K_STOPS ?K_PROMISES ?n_len ?n_isinstance ?n_max ?n_min ?n_any ?n_all ?n_sorted ?n_range ?n_enumerate ?n_int ?n_str ?n_bool ?n_tuple ?n_list ?n_dict ?d_HOLDS
    case D_is_design =>
      refine' Ca.def_mk KX G ?z1_a ?z1_l ?z1_c ?z1_k
      (case z1_a => k_is)
      (case z1_l => k_is)
      (case z1_c => k_is)
      (case z1_k => k_is)
    case D_is_world =>
      refine' Ca.def_mk KX G ?z2_a ?z2_l ?z2_c ?z2_k
      (case z2_a => k_is)
      (case z2_l => k_is)
      (case z2_c => k_is)
      (case z2_k => k_is)
    case D_is_triple =>
      refine' Ca.def_mk KX G ?z3_a ?z3_l ?z3_c ?z3_k
      (case z3_a => k_is)
      (case z3_l => k_is)
      (case z3_c => k_is)
      (case z3_k => k_is)
    case D_check_design =>
      refine' Ca.def_mk KX G ?z4_a ?z4_l ?z4_c ?z4_k
      (case z4_a => k_is)
      (case z4_l => k_is)
      (case z4_c => k_is)
      (case z4_k => k_is)
    case D_check_world =>
      refine' Ca.def_mk KX G ?z5_a ?z5_l ?z5_c ?z5_k
      (case z5_a => k_is)
      (case z5_l => k_is)
      (case z5_c => k_is)
      (case z5_k => k_is)
    case D_check_question =>
      refine' Ca.def_mk KX G ?z6_a ?z6_l ?z6_c ?z6_k
      (case z6_a => k_is)
      (case z6_l => k_is)
      (case z6_c => k_is)
      (case z6_k => k_is)
    case D_check_promise =>
      refine' Ca.def_mk KX G ?z7_a ?z7_l ?z7_c ?z7_k
      (case z7_a => k_is)
      (case z7_l => k_is)
      (case z7_c => k_is)
      (case z7_k => k_is)
    case D_holds =>
      refine' Ca.def_mk KX G ?z8_a ?z8_l ?z8_c ?z8_k
      (case z8_a => k_is)
      (case z8_l => k_is)
      (case z8_c => k_is)
      (case z8_k => k_is)
    case D_passes_by =>
      refine' Ca.def_mk KX G ?z9_a ?z9_l ?z9_c ?z9_k
      (case z9_a => k_is)
      (case z9_l => k_is)
      (case z9_c => k_is)
      (case z9_k => k_is)
    case D_climbs =>
      refine' Ca.def_mk KX G ?z10_a ?z10_l ?z10_c ?z10_k
      (case z10_a => k_is)
      (case z10_l => k_is)
      (case z10_c => k_is)
      (case z10_k => k_is)
    case D_guards =>
      refine' Ca.def_mk KX G ?z11_a ?z11_l ?z11_c ?z11_k
      (case z11_a => k_is)
      (case z11_l => k_is)
      (case z11_c => k_is)
      (case z11_k => k_is)
    case D_is_alone =>
      refine' Ca.def_mk KX G ?z12_a ?z12_l ?z12_c ?z12_k
      (case z12_a => k_is)
      (case z12_l => k_is)
      (case z12_c => k_is)
      (case z12_k => k_is)
    case D_is_primary =>
      refine' Ca.def_mk KX G ?z13_a ?z13_l ?z13_c ?z13_k
      (case z13_a => k_is)
      (case z13_l => k_is)
      (case z13_c => k_is)
      (case z13_k => k_is)
    case D_keeps =>
      refine' Ca.def_mk KX G ?z14_a ?z14_l ?z14_c ?z14_k
      (case z14_a => k_is)
      (case z14_l => k_is)
      (case z14_c => k_is)
      (case z14_k => k_is)
    case D_finishes =>
      refine' Ca.def_mk KX G ?z15_a ?z15_l ?z15_c ?z15_k
      (case z15_a => k_is)
      (case z15_l => k_is)
      (case z15_c => k_is)
      (case z15_k => k_is)
    case D_holds_ending =>
      refine' Ca.def_mk KX G ?z16_a ?z16_l ?z16_c ?z16_k
      (case z16_a => k_is)
      (case z16_l => k_is)
      (case z16_c => k_is)
      (case z16_k => k_is)
    case D_holds_filled =>
      refine' Ca.def_mk KX G ?z17_a ?z17_l ?z17_c ?z17_k
      (case z17_a => k_is)
      (case z17_l => k_is)
      (case z17_c => k_is)
      (case z17_k => k_is)
    case D_holds_forward =>
      refine' Ca.def_mk KX G ?z18_a ?z18_l ?z18_c ?z18_k
      (case z18_a => k_is)
      (case z18_l => k_is)
      (case z18_c => k_is)
      (case z18_k => k_is)
    case D_holds_fresh =>
      refine' Ca.def_mk KX G ?z19_a ?z19_l ?z19_c ?z19_k
      (case z19_a => k_is)
      (case z19_l => k_is)
      (case z19_c => k_is)
      (case z19_k => k_is)
    case D_holds_linear =>
      refine' Ca.def_mk KX G ?z20_a ?z20_l ?z20_c ?z20_k
      (case z20_a => k_is)
      (case z20_l => k_is)
      (case z20_c => k_is)
      (case z20_k => k_is)
    case D_holds_mended =>
      refine' Ca.def_mk KX G ?z21_a ?z21_l ?z21_c ?z21_k
      (case z21_a => k_is)
      (case z21_l => k_is)
      (case z21_c => k_is)
      (case z21_k => k_is)
    case D_holds_moving =>
      refine' Ca.def_mk KX G ?z22_a ?z22_l ?z22_c ?z22_k
      (case z22_a => k_is)
      (case z22_l => k_is)
      (case z22_c => k_is)
      (case z22_k => k_is)
    case D_holds_quiet =>
      refine' Ca.def_mk KX G ?z23_a ?z23_l ?z23_c ?z23_k
      (case z23_a => k_is)
      (case z23_l => k_is)
      (case z23_c => k_is)
      (case z23_k => k_is)
    case D_holds_rest =>
      refine' Ca.def_mk KX G ?z24_a ?z24_l ?z24_c ?z24_k
      (case z24_a => k_is)
      (case z24_l => k_is)
      (case z24_c => k_is)
      (case z24_k => k_is)
    case D_holds_single =>
      refine' Ca.def_mk KX G ?z25_a ?z25_l ?z25_c ?z25_k
      (case z25_a => k_is)
      (case z25_l => k_is)
      (case z25_c => k_is)
      (case z25_k => k_is)
    case D_Ltaken =>
      refine' Ca.def_mk KX G ?z26_a ?z26_l ?z26_c ?z26_k
      (case z26_a => k_is)
      (case z26_l => k_is)
      (case z26_c => k_is)
      (case z26_k => k_is)
    case D_Lpick =>
      refine' Ca.def_mk KX G ?z27_a ?z27_l ?z27_c ?z27_k
      (case z27_a => k_is)
      (case z27_l => k_is)
      (case z27_c => k_is)
      (case z27_k => k_is)
    case D_Lpaths =>
      refine' Ca.def_mk KX G ?z28_a ?z28_l ?z28_c ?z28_k
      (case z28_a => k_is)
      (case z28_l => k_is)
      (case z28_c => k_is)
      (case z28_k => k_is)
    case D_Lbegin =>
      refine' Ca.def_mk KX G ?z29_a ?z29_l ?z29_c ?z29_k
      (case z29_a => k_is)
      (case z29_l => k_is)
      (case z29_c => k_is)
      (case z29_k => k_is)
    case D_Lgoing =>
      refine' Ca.def_mk KX G ?z30_a ?z30_l ?z30_c ?z30_k
      (case z30_a => k_is)
      (case z30_l => k_is)
      (case z30_c => k_is)
      (case z30_k => k_is)
    case D_Lnext =>
      refine' Ca.def_mk KX G ?z31_a ?z31_l ?z31_c ?z31_k
      (case z31_a => k_is)
      (case z31_l => k_is)
      (case z31_c => k_is)
      (case z31_k => k_is)
    case D_Levents =>
      refine' Ca.def_mk KX G ?z32_a ?z32_l ?z32_c ?z32_k
      (case z32_a => k_is)
      (case z32_l => k_is)
      (case z32_c => k_is)
      (case z32_k => k_is)
    case D_Lend =>
      refine' Ca.def_mk KX G ?z33_a ?z33_l ?z33_c ?z33_k
      (case z33_a => k_is)
      (case z33_l => k_is)
      (case z33_c => k_is)
      (case z33_k => k_is)
    case D_Lhold =>
      refine' Ca.def_mk KX G ?z34_a ?z34_l ?z34_c ?z34_k
      (case z34_a => k_is)
      (case z34_l => k_is)
      (case z34_c => k_is)
      (case z34_k => k_is)
    case D_Lnewer =>
      refine' Ca.def_mk KX G ?z35_a ?z35_l ?z35_c ?z35_k
      (case z35_a => k_is)
      (case z35_l => k_is)
      (case z35_c => k_is)
      (case z35_k => k_is)
    case D_Llets =>
      refine' Ca.def_mk KX G ?z36_a ?z36_l ?z36_c ?z36_k
      (case z36_a => k_is)
      (case z36_l => k_is)
      (case z36_c => k_is)
      (case z36_k => k_is)
    case D_Lwrite =>
      refine' Ca.def_mk KX G ?z37_a ?z37_l ?z37_c ?z37_k
      (case z37_a => k_is)
      (case z37_l => k_is)
      (case z37_c => k_is)
      (case z37_k => k_is)
    case D_Lread =>
      refine' Ca.def_mk KX G ?z38_a ?z38_l ?z38_c ?z38_k
      (case z38_a => k_is)
      (case z38_l => k_is)
      (case z38_c => k_is)
      (case z38_k => k_is)
    case D_Ldo =>
      refine' Ca.def_mk KX G ?z39_a ?z39_l ?z39_c ?z39_k
      (case z39_a => k_is)
      (case z39_l => k_is)
      (case z39_c => k_is)
      (case z39_k => k_is)
    case D_Lrun =>
      refine' Ca.def_mk KX G ?z40_a ?z40_l ?z40_c ?z40_k
      (case z40_a => k_is)
      (case z40_l => k_is)
      (case z40_c => k_is)
      (case z40_k => k_is)
    case D_Lwalk =>
      refine' Ca.def_mk KX G ?z41_a ?z41_l ?z41_c ?z41_k
      (case z41_a => k_is)
      (case z41_l => k_is)
      (case z41_c => k_is)
      (case z41_k => k_is)
    case D_Lbehind =>
      refine' Ca.def_mk KX G ?z42_a ?z42_l ?z42_c ?z42_k
      (case z42_a => k_is)
      (case z42_l => k_is)
      (case z42_c => k_is)
      (case z42_k => k_is)
    case D_Lbefore =>
      refine' Ca.def_mk KX G ?z43_a ?z43_l ?z43_c ?z43_k
      (case z43_a => k_is)
      (case z43_l => k_is)
      (case z43_c => k_is)
      (case z43_k => k_is)
    case D_Lwas_quiet =>
      refine' Ca.def_mk KX G ?z44_a ?z44_l ?z44_c ?z44_k
      (case z44_a => k_is)
      (case z44_l => k_is)
      (case z44_c => k_is)
      (case z44_k => k_is)
    case D_Lordered =>
      refine' Ca.def_mk KX G ?z45_a ?z45_l ?z45_c ?z45_k
      (case z45_a => k_is)
      (case z45_l => k_is)
      (case z45_c => k_is)
      (case z45_k => k_is)
    case D_Lin_order =>
      refine' Ca.def_mk KX G ?z46_a ?z46_l ?z46_c ?z46_k
      (case z46_a => k_is)
      (case z46_l => k_is)
      (case z46_c => k_is)
      (case z46_k => k_is)
    case D_Lalone =>
      refine' Ca.def_mk KX G ?z47_a ?z47_l ?z47_c ?z47_k
      (case z47_a => k_is)
      (case z47_l => k_is)
      (case z47_c => k_is)
      (case z47_k => k_is)
    case D_Lat_rest =>
      refine' Ca.def_mk KX G ?z48_a ?z48_l ?z48_c ?z48_k
      (case z48_a => k_is)
      (case z48_l => k_is)
      (case z48_c => k_is)
      (case z48_k => k_is)
    case D_Lbroken =>
      refine' Ca.def_mk KX G ?z49_a ?z49_l ?z49_c ?z49_k
      (case z49_a => k_is)
      (case z49_l => k_is)
      (case z49_c => k_is)
      (case z49_k => k_is)
    case D_Lpromises =>
      refine' Ca.def_mk KX G ?z50_a ?z50_l ?z50_c ?z50_k
      (case z50_a => k_is)
      (case z50_l => k_is)
      (case z50_c => k_is)
      (case z50_k => k_is)
    case D_Ldesigns =>
      refine' Ca.def_mk KX G ?z51_a ?z51_l ?z51_c ?z51_k
      (case z51_a => k_is)
      (case z51_l => k_is)
      (case z51_c => k_is)
      (case z51_k => k_is)
    case D_Lworlds =>
      refine' Ca.def_mk KX G ?z52_a ?z52_l ?z52_c ?z52_k
      (case z52_a => k_is)
      (case z52_l => k_is)
      (case z52_c => k_is)
      (case z52_k => k_is)
    case D_Lkey =>
      refine' Ca.def_mk KX G ?z53_a ?z53_l ?z53_c ?z53_k
      (case z53_a => k_is)
      (case z53_l => k_is)
      (case z53_c => k_is)
      (case z53_k => k_is)
    case D_law =>
      refine' Ca.def_mk KX G ?z54_a ?z54_l ?z54_c ?z54_k
      (case z54_a => k_is)
      (case z54_l => k_is)
      (case z54_c => k_is)
      (case z54_k => k_is)
    case K_PATHS =>
      refine' Ca.con_mk KX G ?z55_a ?z55_l ?z55_z ?z55_r
      (case z55_a => k_is)
      (case z55_l => k_is)
      (case z55_z => first | decide +kernel | decide)
      (case z55_r => exact (.cons ⟨_, rfl⟩ (.cons ⟨_, rfl⟩ (.cons ⟨_, rfl⟩ (.cons ⟨_, rfl⟩ (.cons ⟨_, rfl⟩ .nil))))))
    case K_GUARDS =>
      refine' Ca.con_mk KX G ?z56_a ?z56_l ?z56_z ?z56_r
      (case z56_a => k_is)
      (case z56_l => k_is)
      (case z56_z => first | decide +kernel | decide)
      (case z56_r => exact (.cons ⟨_, rfl⟩ (.cons ⟨_, rfl⟩ (.cons ⟨_, rfl⟩ (.cons ⟨_, rfl⟩ (.cons ⟨_, rfl⟩ (.cons ⟨_, rfl⟩ .nil)))))))
    case K_FLIGHTS =>
      refine' Ca.con_mk KX G ?z57_a ?z57_l ?z57_z ?z57_r
      (case z57_a => k_is)
      (case z57_l => k_is)
      (case z57_z => first | decide +kernel | decide)
      (case z57_r => exact (.cons ⟨_, rfl⟩ (.cons ⟨_, rfl⟩ .nil)))
    case K_SOURCES =>
      refine' Ca.con_mk KX G ?z58_a ?z58_l ?z58_z ?z58_r
      (case z58_a => k_is)
      (case z58_l => k_is)
      (case z58_z => first | decide +kernel | decide)
      (case z58_r => exact (.cons ⟨_, rfl⟩ (.cons ⟨_, rfl⟩ .nil)))
    case K_EVICTIONS =>
      refine' Ca.con_mk KX G ?z59_a ?z59_l ?z59_z ?z59_r
      (case z59_a => k_is)
      (case z59_l => k_is)
      (case z59_z => first | decide +kernel | decide)
      (case z59_r => exact (.cons ⟨_, rfl⟩ (.cons ⟨_, rfl⟩ .nil)))
    case K_STOPS =>
      refine' Ca.con_mk KX G ?z60_a ?z60_l ?z60_z ?z60_r
      (case z60_a => k_is)
      (case z60_l => k_is)
      (case z60_z => first | decide +kernel | decide)
      (case z60_r => exact (.cons ⟨_, rfl⟩ (.cons ⟨_, rfl⟩ .nil)))
    case K_PROMISES =>
      refine' Ca.con_mk KX G ?z61_a ?z61_l ?z61_z ?z61_r
      (case z61_a => k_is)
      (case z61_l => k_is)
      (case z61_z => first | decide +kernel | decide)
      (case z61_r => exact (.cons ⟨_, rfl⟩ (.cons ⟨_, rfl⟩ (.cons ⟨_, rfl⟩ (.cons ⟨_, rfl⟩ (.cons ⟨_, rfl⟩ (.cons ⟨_, rfl⟩ (.cons ⟨_, rfl⟩ (.cons ⟨_, rfl⟩ (.cons ⟨_, rfl⟩ (.cons ⟨_, rfl⟩ .nil)))))))))))
    case n_len =>
      refine' PySem.W.mg_none_of KX G ?z62_a
      (case z62_a => k_is)
    case n_isinstance =>
      refine' PySem.W.mg_none_of KX G ?z63_a
      (case z63_a => k_is)
    case n_max =>
      refine' PySem.W.mg_none_of KX G ?z64_a
      (case z64_a => k_is)
    case n_min =>
      refine' PySem.W.mg_none_of KX G ?z65_a
      (case z65_a => k_is)
    case n_any =>
      refine' PySem.W.mg_none_of KX G ?z66_a
      (case z66_a => k_is)
    case n_all =>
      refine' PySem.W.mg_none_of KX G ?z67_a
      (case z67_a => k_is)
    case n_sorted =>
      refine' PySem.W.mg_none_of KX G ?z68_a
      (case z68_a => k_is)
    case n_range =>
      refine' PySem.W.mg_none_of KX G ?z69_a
      (case z69_a => k_is)
    case n_enumerate =>
      refine' PySem.W.mg_none_of KX G ?z70_a
      (case z70_a => k_is)
    case n_int =>
      refine' PySem.W.mg_none_of KX G ?z71_a
      (case z71_a => k_is)
    case n_str =>
      refine' PySem.W.mg_none_of KX G ?z72_a
      (case z72_a => k_is)
    case n_bool =>
      refine' PySem.W.mg_none_of KX G ?z73_a
      (case z73_a => k_is)
    case n_tuple =>
      refine' PySem.W.mg_none_of KX G ?z74_a
      (case z74_a => k_is)
    case n_list =>
      refine' PySem.W.mg_none_of KX G ?z75_a
      (case z75_a => k_is)
    case n_dict =>
      refine' PySem.W.mg_none_of KX G ?z76_a
      (case z76_a => k_is)
    case d_HOLDS =>
      refine' Ca.dct_HOLDS_mk KX G ?z77_a ?z77_l ?z77_kl ?z77_a0 ?z77_e0 ?z77_a1 ?z77_e1 ?z77_a2 ?z77_e2 ?z77_a3 ?z77_e3 ?z77_a4 ?z77_e4 ?z77_a5 ?z77_e5 ?z77_a6 ?z77_e6 ?z77_a7 ?z77_e7 ?z77_a8 ?z77_e8 ?z77_a9 ?z77_e9
      (case z77_a => k_is)
      (case z77_l => k_is)
      (case z77_kl => exact ⟨⟨_, _, rfl, rfl⟩, ⟨_, _, rfl, rfl⟩, ⟨_, _, rfl, rfl⟩, ⟨_, _, rfl, rfl⟩, ⟨_, _, rfl, rfl⟩, ⟨_, _, rfl, rfl⟩, ⟨_, _, rfl, rfl⟩, ⟨_, _, rfl, rfl⟩, ⟨_, _, rfl, rfl⟩, ⟨_, _, rfl, rfl⟩, trivial⟩)
      (case z77_a0 => k_is)
      (case z77_e0 => k_is)
      (case z77_a1 => k_is)
      (case z77_e1 => k_is)
      (case z77_a2 => k_is)
      (case z77_e2 => k_is)
      (case z77_a3 => k_is)
      (case z77_e3 => k_is)
      (case z77_a4 => k_is)
      (case z77_e4 => k_is)
      (case z77_a5 => k_is)
      (case z77_e5 => k_is)
      (case z77_a6 => k_is)
      (case z77_e6 => k_is)
      (case z77_a7 => k_is)
      (case z77_e7 => k_is)
      (case z77_a8 => k_is)
      (case z77_e8 => k_is)
      (case z77_a9 => k_is)
      (case z77_e9 => k_is)


import PyProof.Rows.All
import Wide.All
import OpenK.AllK
import Wide.FinOn
import HandS.ForMost
import HandS.ForExc
import HandS.IsInst
import HandS.ClsMeth
import HandS.ExcInit
import HandS.ExcField
import KE.KExcIs
import HandS.ExcIs
import HandS.Style
import PySem.Challenge.RW_elderlogs_k25_chains_put_together
import HandS.SetKeys
import HandS.Strs
import HandS.SetBool
import PyProof.IsiHeapPairs
import HandS.Text
import HandS.Star
import HandS.RaiseMore
import KE.GoesMore
import KE.GoesEnum
import HandS.HeadEnd
import PyProof.ReprRoads
import HandS.Defaults
import KE.KCallOwn
import HandS.Zip
import KE.KStateDown
import HandS.Head0
import HandS.Head1
import HandS.Head2
import HandS.HeadHook1
import HandS.HeadHook2
import HandS.Set
import HandS.SetTxt0
import HandS.More
import PyProof.Rows.SortStr
import PyProof.Rows.SortShellK
import HandS.DictComp
import HandS.Dict
import KE.SortData
import PyProof.Rows.StrMeet
import HandS.Rev
import PyProof.LetGo
import PyProof.SliceSyntax
import KE.KDictZip
import HandS.OwnIter
import KE.GoesEnumKw
import HandS.CallLocal
import HandS.List
import OpenK.KMeth
import HandS.Iter
import HandS.Walk
import HandS.TupAny
import HandS.HeadNt
import HandS.OwnEq
import KE.GoesNew
import KE.GoesZip
import KE.SortKeyHeap
import HandS.SortKw
import OpenK.KOps
set_option Elab.async false
set_option linter.all false
set_option maxRecDepth 100000
set_option maxHeartbeats 4000000
/-! What the laws' own helpers draw from; data. -/
namespace Lw
open PySem L2
/-! ### data -/
theorem ints_data {K : PySem.W.Frag} {H : Hp} : ∀ ns : List Int, DpAll K H (ns.map V.int) (ns.map PyData.int)
  | [] => .nil
  | n :: ns => .cons (.int n) (ints_data ns)
theorem ints_lay : ∀ ns : List Int, PyData.canLayAll0 (ns.map PyData.int) = true
  | [] => by simp [PyData.canLayAll0]
  | n :: ns => by simp [PyData.canLayAll0, PyData.canLay0, ints_lay ns]
theorem ints_depth : ∀ ns : List Int, PyData.depthAll (ns.map PyData.int) = 0
  | [] => by simp [PyData.depthAll]
  | n :: ns => by simp [PyData.depthAll, PyData.depth, ints_depth ns]
theorem ints_shaped (ns : List Int) : SeqAt.shaped (.list (ns.map PyData.int)) = true := by
  simp [SeqAt.shaped, PyData.canLay0, PyData.depth, ints_lay, ints_depth]
theorem nil_shaped : SeqAt.shaped (.list []) = true := by simp [SeqAt.shaped, PyData.canLay0, PyData.depth, PyData.canLayAll0, PyData.depthAll]
theorem eqv_nil (ds : List PyData) : PyData.eqv (.list ds) (.list []) = ds.isEmpty := by
  cases ds <;> simp [PyData.eqv, PyData.eqvAll]

/-! ### a deal: great numbers to draw from, and a mixed one -/
/-- at d the deal, its list ns at l, its mixed number m -/
structure At (H : Hp) (d l : Addr) (ns : List Int) (m : Int) : Prop where
  hd : H d = some (.lst [.ref l, .int m])
  hl : H l = some (.lst (ns.map V.int))
  len : ns.length ≤ 63
  nn : ∀ n ∈ ns, 0 ≤ n
  m0 : 0 ≤ m
  m1 : m < 2147483647
/-- H is G and a deal -/
structure Deal (G H : Hp) (d l : Addr) : Prop where
  same : Same G H
  gd : G d = none
  gl : G l = none
  ne : l ≠ d
  it : ∃ ns m, At H d l ns m
theorem Deal.put {G H : Hp} {d l : Addr} (D : Deal G H d l) {p : Addr} {o : HO} (h : H p = none) : Deal (upd G p o) (upd H p o) d l := by
  obtain ⟨ns, m, h1, h2, r1, r2, r3, r4⟩ := D.it
  have nd : d ≠ p := ne_of_none h1 h
  have nl : l ≠ p := ne_of_none h2 h
  refine ⟨fun b u e => ?_, by rw [upd_ne nd]; exact D.gd, by rw [upd_ne nl]; exact D.gl, D.ne, ns, m, by rw [upd_ne nd]; exact h1, by rw [upd_ne nl]; exact h2, r1, r2, r3, r4⟩
  by_cases q : b = p
  · subst q
    rw [upd_same] at e ⊢
    exact e
  · rw [upd_ne q] at e ⊢
    exact D.same b u e
/-- something new beside it -/
theorem At.put {H : Hp} {d l : Addr} {ns : List Int} {m : Int} (a : At H d l ns m) {p : Addr} {o : HO} (h : H p = none) : At (upd H p o) d l ns m :=
  ⟨by rw [upd_ne (ne_of_none a.hd h)]; exact a.hd, by rw [upd_ne (ne_of_none a.hl h)]; exact a.hl, a.len, a.nn, a.m0, a.m1⟩
theorem Deal.more {G H : Hp} {d l : Addr} (D : Deal G H d l) {p : Addr} {o : HO} (h : H p = none) : Deal G (upd H p o) d l :=
  ⟨fun b u e => by rw [upd_ne (ne_of_none (D.same b u e) h)]; exact D.same b u e, D.gd, D.gl, D.ne, let ⟨ns, m, a⟩ := D.it; ⟨ns, m, a.put h⟩⟩
/-- only the deal's own two lists change -/
theorem Deal.set {G H : Hp} {d l : Addr} (D : Deal G H d l) {H' : Hp} {ns : List Int} {m : Int} (k : ∀ b, b ≠ d → b ≠ l → H' b = H b) (a : At H' d l ns m) : Deal G H' d l :=
  ⟨fun b u e => by
    have nd : b ≠ d := fun z => by rw [z, D.gd] at e; cases e
    have nl : b ≠ l := fun z => by rw [z, D.gl] at e; cases e
    rw [k b nd nl]; exact D.same b u e, D.gd, D.gl, D.ne, ns, m, a⟩
/-- its list is another -/
theorem Deal.list {G H : Hp} {d l : Addr} {ns ns' : List Int} {m : Int} (D : Deal G H d l) (a : At H d l ns m) (h1 : ns'.length ≤ 63) (h2 : ∀ n ∈ ns', 0 ≤ n) : Deal G (upd H l (.lst (ns'.map V.int))) d l ∧ At (upd H l (.lst (ns'.map V.int))) d l ns' m := by
  have a' : At (upd H l (.lst (ns'.map V.int))) d l ns' m := ⟨by rw [upd_ne D.ne.symm]; exact a.hd, upd_same, h1, h2, a.m0, a.m1⟩
  exact ⟨D.set (fun b _ hb => upd_ne hb) a', a'⟩
/-- its mixed number is another -/
theorem Deal.mix {G H : Hp} {d l : Addr} {ns : List Int} {m m' : Int} (D : Deal G H d l) (a : At H d l ns m) (h1 : 0 ≤ m') (h2 : m' < 2147483647) : Deal G (upd H d (.lst [.ref l, .int m'])) d l ∧ At (upd H d (.lst [.ref l, .int m'])) d l ns m' := by
  have a' : At (upd H d (.lst [.ref l, .int m'])) d l ns m' := ⟨upd_same, by rw [upd_ne D.ne]; exact a.hl, a.len, a.nn, h1, h2⟩
  exact ⟨D.set (fun b hb _ => upd_ne hb) a', a'⟩
/-- the promise of a draw below k -/
def spDraw : Sp := fun vs H Q _ => ∃ (G : Hp) (d l : Addr) (k : Int), vs = [.ref d, .int k] ∧ Deal G H d l ∧ 0 < k ∧ k < 1000000 ∧ ∀ (H' : Hp) (r : Int), Deal G H' d l → 0 ≤ r → r < k → Q (.int r) H'

/-- what follows a statement, shown once -/
theorem seq_cut {t rest : TS} {D : Ends} {σ : St} {H : Hp} (Post : St → Hp → Prop) (after : ∀ σ1 H1, Post σ1 H1 → rest D σ1 H1) (go : (∀ σ1 H1, Post σ1 H1 → rest D σ1 H1) → t { D with nx := rest D } σ H) : tSeq t rest D σ H := go after

theorem at0 {a b : V} : atI [a, b] 0 = some a := rfl
theorem at1 {a b : V} : atI [a, b] 1 = some b := rfl
theorem set0 : ixN 2 0 = some 0 := rfl
theorem set1 : ixN 2 1 = some 1 := rfl
theorem split_end {ns : List Int} (h : ns ≠ []) : ∃ r n, ns = r ++ [n] := ⟨ns.dropLast, ns.getLast h, (List.dropLast_concat_getLast h).symm⟩
theorem at_end (r : List Int) (n : Int) : atI ((r ++ [n]).map V.int) (-1) = some (.int n) := by
  rw [List.map_append]
  exact atI_last _ _
theorem get_end (r : List Int) (n : Int) : ((r ++ [n]).map V.int)[((r ++ [n]).map V.int).length - 1]? = some (.int n) := by simp
theorem drop_end (r : List Int) (n : Int) : ((r ++ [n]).map V.int).dropLast = r.map V.int := by simp

/-! ### comprehensions whose turns leave what stood -/
/-- what a turn adds -/
def outOf (out : List (Option V)) : List V := out.filterMap id
theorem outOf_take {out : List (Option V)} {j : Nat} {o : Option V} (h : out[j]? = some o) : outOf (out.take (j + 1)) = outOf (out.take j) ++ o.toList := by
  unfold outOf
  rw [List.take_add_one, h, List.filterMap_append]
  cases o <;> rfl
theorem outOf_len (out : List (Option V)) : (outOf out).length ≤ out.length := List.length_filterMap_le _ _
/-- a turn: the test, then the element -/
structure Turns (H1 : Hp) (i : Nat) (σ : L2.St) (xs : List V) (out : List (Option V)) (tt : TT) (te : TE) : Prop where
  len : out.length = xs.length
  few : xs.length ≤ 100000
  keep : ∀ (j : Nat) (x y : V) (H : Hp) (Q : VK), xs[j]? = some x → out[j]? = some (some y) → Same H1 H → (∀ H', Same H H' → Q y H') → tt (σ.set i (some x)) H fun b H3 => b = true ∧ Same H H3 ∧ te (σ.set i (some x)) H3 Q
  drop : ∀ (j : Nat) (x : V) (H : Hp), xs[j]? = some x → out[j]? = some none → Same H1 H → tt (σ.set i (some x)) H fun b H3 => b = false ∧ Same H H3
/-- a test's reading grows with what is wanted -/
def MonoT (tt : TT) : Prop := ∀ σ H (Q Q' : Bool → Hp → Prop), (∀ b H1, Q b H1 → Q' b H1) → tt σ H Q → tt σ H Q'
theorem mono_yes : MonoT tYes := fun _ _ _ _ f h => f _ _ h
theorem turn_core {H1 H : Hp} {D : Addr} {i : Nat} {σ : L2.St} {xs : List V} {out : List (Option V)} {tt : TT} {te : TE} (T : Turns H1 i (σ.set i none) xs out tt te) (mono : MonoT tt) {j : Nat} {x : V} (hx : xs[j]? = some x)
    (s1 : Same H1 H) (hD : H D = some (.lst (outOf (out.take j)))) (un : H1 D = none) {Nx : Hp → Prop} (fin : ∀ H', Same H1 H' → H' D = some (.lst (outOf (out.take (j + 1)))) → Nx H') :
    gName i x (wipe σ [i]) H fun σ2 H2 => wipe σ2 [i] = wipe σ [i] ∧ tt σ2 H2 fun b H3 => if b = true then te σ2 H3 fun y H4 => ∃ acc, H4 D = some (.lst acc) ∧ acc.length < sizeLine ∧ Nx (upd H4 D (.lst (acc ++ [y]))) else Nx H3 := by
  refine ⟨by simp [wipe], ?_⟩
  show tt ((σ.set i none).set i (some x)) H _
  have hj : j < out.length := by rw [T.len]; exact (List.getElem?_eq_some_iff.mp hx).1
  have ho : out[j]? = some out[j] := List.getElem?_eq_getElem hj
  cases e : out[j] with
  | none =>
    rw [e] at ho
    refine mono _ _ _ _ (fun b H3 ⟨eb, s3⟩ => ?_) (T.drop j x H hx ho s1)
    subst eb
    refine iteF (fin H3 (s1.trans s3) ?_)
    rw [outOf_take ho, Option.toList_none, List.append_nil]
    exact s3 _ _ hD
  | some y =>
    rw [e] at ho
    refine mono _ _ _ _ ?_ (T.keep j x y H (fun y H4 => ∃ acc, H4 D = some (.lst acc) ∧ acc.length < sizeLine ∧ Nx (upd H4 D (.lst (acc ++ [y])))) hx ho s1 ?_)
    · rintro b H3 ⟨eb, s3, q⟩
      subst eb
      exact iteT q
    · intro H4 s4
      refine ⟨_, s4 _ _ hD, ?_, fin _ (fun b o eb => ?_) ?_⟩
      · have := outOf_len (out.take j)
        rw [List.length_take] at this
        have l2 := T.few
        have l3 := T.len
        have : (outOf (out.take j)).length ≤ 100000 := by omega
        exact Nat.lt_of_le_of_lt this (by decide)
      · rw [upd_ne (ne_of_none eb un)]
        exact s4 _ _ (s1 _ _ eb)
      · rw [upd_same, outOf_take ho]
        rfl
theorem same_new {H : Hp} {p : Addr} {o : HO} (un : H p = none) : Same H (upd H p o) := fun b u e => by rw [upd_ne (ne_of_none e un)]; exact e
theorem outOf_zero (out : List (Option V)) : outOf (out.take 0) = [] := by simp [outOf]
/-- over a list -/
theorem lc_of_list {K : PySem.W.Frag} {a : Addr} {H1 : Hp} {D : Addr} {i : Nat} {σ : L2.St} {xs : List V} (out : List (Option V)) {tt : TT} {te : TE} {Qd : Hp → Prop} (hl : SqL K H1 a xs) (un : H1 D = none) (T : Turns H1 i (σ.set i none) xs out tt te) (mono : MonoT tt)
    (fin : ∀ H', Same H1 H' → H' D = some (.lst (outOf out)) → Qd H') :
    ∃ W : Nat → Nat → Hp → Prop, (∃ m, W 0 m (upd H1 D (.lst []))) ∧ ∀ i' m H, W i' m H →
      ((Itl K a).stop i' H ∧ Qd H) ∨ ((Itl K a).go i' H ∧ ∃ Nx : Hp → Prop, (∀ H', Nx H' → ∃ m', m' < m ∧ W (i' + 1) m' H') ∧ ∀ x H', (Itl K a).yld i' H x H' → gName i x (wipe σ [i]) H' fun σ2 H2 => wipe σ2 [i] = wipe σ [i] ∧ tt σ2 H2 fun b H3 =>
        if b = true then te σ2 H3 fun y H4 => ∃ acc, H4 D = some (.lst acc) ∧ acc.length < sizeLine ∧ Nx (upd H4 D (.lst (acc ++ [y]))) else Nx H3) := by
  refine lc_list (K := K) (a := a) (xs := xs) (fun j H => Same H1 H ∧ H D = some (.lst (outOf (out.take j)))) ⟨same_new un, by rw [upd_same, outOf_zero]⟩ (fun j H _ q => q.1.seq hl) (fun j x H hx q => ?_) fun H q => fin H q.1 ?_
  · exact turn_core T mono hx q.1 q.2 un fun H' a b => ⟨a, b⟩
  · have q2 := q.2
    rw [← T.len, List.take_length] at q2
    exact q2
theorem same_tup {K : PySem.W.Frag} {H H' : Hp} {a : Addr} {xs : List V} (e : Same H H') (h : SqT K H a xs) : SqT K H' a xs := by
  rcases h with (h | ⟨o, h⟩) | h
  · exact .inl (.inl (e _ _ h))
  · exact .inl (.inr ⟨o, e _ _ h⟩)
  · exact .inr h
/-- over a tuple -/
theorem lc_of_tup {K : PySem.W.Frag} {a : Addr} {H1 : Hp} {D : Addr} {i : Nat} {σ : L2.St} {xs : List V} (out : List (Option V)) {tt : TT} {te : TE} {Qd : Hp → Prop} (hl : SqT K H1 a xs) (un : H1 D = none) (T : Turns H1 i (σ.set i none) xs out tt te) (mono : MonoT tt)
    (fin : ∀ H', Same H1 H' → H' D = some (.lst (outOf out)) → Qd H') :
    ∃ W : Nat → Nat → Hp → Prop, (∃ m, W 0 m (upd H1 D (.lst []))) ∧ ∀ i' m H, W i' m H →
      ((Itt K a).stop i' H ∧ Qd H) ∨ ((Itt K a).go i' H ∧ ∃ Nx : Hp → Prop, (∀ H', Nx H' → ∃ m', m' < m ∧ W (i' + 1) m' H') ∧ ∀ x H', (Itt K a).yld i' H x H' → gName i x (wipe σ [i]) H' fun σ2 H2 => wipe σ2 [i] = wipe σ [i] ∧ tt σ2 H2 fun b H3 =>
        if b = true then te σ2 H3 fun y H4 => ∃ acc, H4 D = some (.lst acc) ∧ acc.length < sizeLine ∧ Nx (upd H4 D (.lst (acc ++ [y]))) else Nx H3) := by
  refine lc_tup (K := K) (a := a) (xs := xs) (fun j H => Same H1 H ∧ H D = some (.lst (outOf (out.take j)))) ⟨same_new un, by rw [upd_same, outOf_zero]⟩ (fun j H _ q => same_tup q.1 hl) (fun j x H hx q => ?_) fun H q => fin H q.1 ?_
  · exact turn_core T mono hx q.1 q.2 un fun H' a b => ⟨a, b⟩
  · have q2 := q.2
    rw [← T.len, List.take_length] at q2
    exact q2
theorem outOf_some (ys : List V) : outOf (ys.map some) = ys := by simp [outOf]
theorem out_map (f : V → V) : ∀ xs : List V, outOf (xs.map fun x => some (f x)) = xs.map f
  | [] => rfl
  | x :: r => by
    have ih := out_map f r
    unfold outOf at ih ⊢
    rw [List.map_cons, List.map_cons, List.filterMap_cons]
    exact congrArg _ ih
/-- no test -/
theorem turns_map {H1 : Hp} {i : Nat} {σ : L2.St} {xs : List V} (f : V → V) {te : TE} (few : xs.length ≤ 100000)
    (el : ∀ x H (Q : VK), x ∈ xs → Same H1 H → (∀ H', Same H H' → Q (f x) H') → te (σ.set i (some x)) H Q) : Turns H1 i σ xs (xs.map fun x => some (f x)) tYes te where
  len := by simp
  few := few
  keep := fun j x y H Q hx hy s1 q => by
    rw [List.getElem?_map, hx] at hy
    simp only [Option.map_some, Option.some.injEq] at hy
    subst hy
    exact ⟨rfl, Same.refl H, el x H Q (List.mem_of_getElem? hx) s1 q⟩
  drop := fun j x H hx hy _ => by
    rw [List.getElem?_map, hx] at hy
    cases hy

/-! ### readings grow with what is wanted -/
def MonoE (t : TE) : Prop := ∀ σ H (Q Q' : VK), (∀ v H1, Q v H1 → Q' v H1) → t σ H Q → t σ H Q'
def MonoR (r : R2) : Prop := ∀ x y H (Q Q' : VK), (∀ v H1, Q v H1 → Q' v H1) → r x y H Q → r x y H Q'
theorem mono_var {i : Nat} : MonoE (tVar i) := fun _ _ _ _ f ⟨v, e, q⟩ => ⟨v, e, f _ _ q⟩
theorem mono_c {v : V} : MonoE (tC v) := fun _ _ _ _ f q => f _ _ q
theorem mono_op {r : R2} {ta tb : TE} (hr : MonoR r) (ha : MonoE ta) (hb : MonoE tb) : MonoE (tOp r ta tb) := fun σ H Q Q' f q => ha _ _ _ _ (fun x H1 q1 => hb _ _ _ _ (fun y H2 q2 => hr _ _ _ _ _ f q2) q1) q
theorem mono_rI {C : Int → Int → Prop} {g : Int → Int → V} : MonoR (rI C g) := fun _ _ _ _ _ f ⟨i, j, e1, e2, c, q⟩ => ⟨i, j, e1, e2, c, f _ _ q⟩
theorem mono_rI0 {g : Int → Int → V} : MonoR (rI0 g) := fun _ _ _ _ _ f ⟨i, j, e1, e2, q⟩ => ⟨i, j, e1, e2, f _ _ q⟩
theorem mono_rEq : MonoR rEq := fun _ _ _ _ _ f ⟨e, q⟩ => ⟨e, f _ _ q⟩
theorem mono_rNe : MonoR rNe := fun _ _ _ _ _ f ⟨e, q⟩ => ⟨e, f _ _ q⟩
theorem mono_test {t : TE} (h : MonoE t) : MonoT (tTest t) := fun _ _ _ _ f q => h _ _ _ _ (fun _ _ ⟨k, e, q1⟩ => ⟨k, e, f _ _ q1⟩) q
theorem mono_tB {t : TE} (h : MonoE t) : MonoT (tB t) := fun _ _ _ _ f q => h _ _ _ _ (fun _ _ ⟨k, e, q1⟩ => ⟨k, e, f _ _ q1⟩) q

/-! ### a deal's making, a pick -/
def mag (i : Int) : Int := if i < 0 then -i else i
theorem mag_nn (i : Int) : 0 ≤ mag i := by unfold mag; split <;> omega
theorem cut_ints (ns : List Int) (lo hi : Option Int) : ∃ ms : List Int, cutV (ns.map V.int) lo hi = ms.map V.int ∧ ms.length ≤ ns.length := by
  refine ⟨(ns.drop (HT.sIx ns.length 0 lo)).take (HT.sIx ns.length ns.length hi - HT.sIx ns.length 0 lo), ?_, ?_⟩
  · unfold cutV
    rw [List.length_map, List.map_take, List.map_drop]
  · rw [List.length_take, List.length_drop]
    omega
theorem mem_ints {x : V} {ns : List Int} (h : x ∈ ns.map V.int) : ∃ n, n ∈ ns ∧ x = V.int n := by
  obtain ⟨n, hn, e⟩ := List.mem_map.mp h
  exact ⟨n, hn, e.symm⟩
/-- a deal that is made: b a number from 0 on -/
def spDeal (K : PySem.W.Frag) : Sp := fun vs H Q _ => ∃ (a : Addr) (ns : List Int) (b : Int), vs = [.ref a, .int b] ∧ SqL K H a (ns.map V.int) ∧ ns.length ≤ 63 ∧ 0 ≤ b ∧ b < 1000 ∧
  ∀ (H' : Hp) (d l : Addr), Deal H H' d l → Q (.ref d) H'
/-- one of these, a list or a tuple of at least one -/
def spPick (K : PySem.W.Frag) : Sp := fun vs H Q _ => ∃ (G : Hp) (d l a : Addr) (xs : List V), vs = [.ref d, .ref a] ∧ Deal G H d l ∧ SqL K G a xs ∧ xs ≠ [] ∧ xs.length < 1000 ∧ ∀ (H' : Hp) (x : V), Deal G H' d l → x ∈ xs → Q x H'
theorem at_int {xs : List V} {r : Int} (h0 : 0 ≤ r) (h1 : r < xs.length) : ∃ x, x ∈ xs ∧ atI xs r = some x := by
  have h : r.toNat < xs.length := by omega
  refine ⟨xs[r.toNat], List.getElem_mem h, ?_⟩
  have q := atI_nat (List.getElem?_eq_getElem h)
  rwa [Int.toNat_of_nonneg h0] at q
def magV : V → V
  | .int i => .int (mag i)
  | v => v
theorem magV_map (ms : List Int) : (ms.map V.int).map magV = (ms.map mag).map V.int := by
  rw [List.map_map, List.map_map]; rfl
def bigV : V → Option V
  | .int i => if decide ((10 : Int) ^ (18 : Int).toNat ≤ i) = true then some (.int i) else none
  | _ => none
theorem big_out (ms : List Int) : outOf ((ms.map V.int).map bigV) = (ms.filter fun i => decide ((10 : Int) ^ (18 : Int).toNat ≤ i)).map V.int := by
  unfold outOf
  induction ms with
  | nil => rfl
  | cons m r ih =>
    rw [List.map_cons, List.map_cons, List.filterMap_cons, List.filter_cons]
    by_cases h : decide ((10 : Int) ^ (18 : Int).toNat ≤ m) = true
    · have e : bigV (.int m) = some (.int m) := if_pos h
      rw [if_pos h, List.map_cons, e]
      exact congrArg _ ih
    · have e : bigV (.int m) = none := if_neg h
      rw [if_neg h, e]
      exact ih

/-! ### data: what stands stays; its type -/
mutual
theorem dp_same {K : PySem.W.Frag} {H H' : Hp} (e : Same H H') : ∀ (d : PyData) (v : V), Dp K H v d → Dp K H' v d
  | .none, _, h => by cases h; exact .non
  | .bool b, _, h => by cases h; exact .bl b
  | .int i, _, h => by cases h; exact .int i
  | .str x, _, h => by cases h; exact .str x
  | .list ds, _, h => by
    cases h with
    | lst h1 h2 => exact .lst (e.seq h1) (dpAll_same e ds _ h2)
  | .tuple ds, _, h => by
    cases h with
    | tup h1 h2 => exact .tup (same_tup e h1) (dpAll_same e ds _ h2)
  | .dict _, _, h => by cases h
theorem dpAll_same {K : PySem.W.Frag} {H H' : Hp} (e : Same H H') : ∀ (ds : List PyData) (vs : List V), DpAll K H vs ds → DpAll K H' vs ds
  | [], _, h => by cases h; exact .nil
  | d :: ds, _, h => by
    cases h with
    | cons h1 h2 => exact .cons (dp_same e d _ h1) (dpAll_same e ds _ h2)
end
theorem dpAll_len {K : PySem.W.Frag} {H : Hp} : ∀ {vs : List V} {ds : List PyData}, DpAll K H vs ds → vs.length = ds.length
  | _, _, .nil => rfl
  | _, _, .cons _ t => congrArg (· + 1) (dpAll_len t)
theorem dpAll_at {K : PySem.W.Frag} {H : Hp} : ∀ {vs : List V} {ds : List PyData} {i : Nat} {v : V}, DpAll K H vs ds → vs[i]? = some v → ∃ d, ds[i]? = some d ∧ Dp K H v d
  | _, _, _, _, .nil, e => by simp at e
  | _, _, 0, _, .cons h _, e => by
    have e' := Option.some.inj e
    subst e'
    exact ⟨_, rfl, h⟩
  | _, _, i + 1, _, .cons _ t, e => dpAll_at (i := i) t (by simpa using e)
theorem dpAll_mem {K : PySem.W.Frag} {H : Hp} {vs : List V} {ds : List PyData} {v : V} (h : DpAll K H vs ds) (m : v ∈ vs) : ∃ d, d ∈ ds ∧ Dp K H v d := by
  obtain ⟨i, hi⟩ := List.getElem?_of_mem m
  obtain ⟨d, e, q⟩ := dpAll_at h hi
  exact ⟨d, List.mem_of_getElem? e, q⟩
def tyD : PyData → String
  | .none => "NoneType" | .bool _ => "bool" | .int _ => "int" | .str _ => "str" | .list _ => "list" | .tuple _ => "tuple" | .dict _ => "dict"
theorem ty_data {K : PySem.W.Frag} {H : Hp} {v : V} {d : PyData} (h : Dp K H v d) : TyX K H v (.type (tyD d)) := by
  cases h with
  | non => exact .base .non
  | bl b => exact .base (.bl b)
  | int i => exact .base (.int i)
  | str x => exact .base (.str x)
  | lst hs _ =>
    rcases hs with (hs | ⟨o, hs⟩) | ⟨o, _, _, hs, hc, _⟩
    · exact .base (.lst hs)
    · exact .base (.frz hs)
    · exact .kList hs hc
  | tup hs _ =>
    rcases hs with (hs | ⟨o, hs⟩) | ⟨o, _, _, hs, hc, _⟩
    · exact .base (.tup hs)
    · exact .fTuple hs
    · exact .kTuple hs hc
def isStr : PyData → Bool | .str _ => true | _ => false
def isTup : PyData → Bool | .tuple _ => true | _ => false
def isSeq : PyData → Bool | .list _ => true | .tuple _ => true | _ => false
theorem kit_str {K : PySem.W.Frag} {d : PyData} (h : ∀ kvs, d ≠ .dict kvs) : PySem.W.kitOne K (.type (tyD d)) (.type "str") = some (isStr d) := by
  cases d with
  | dict kvs => exact absurd rfl (h kvs)
  | _ => exact kit_ty (by dsimp only [tyD, isStr, isTup]; decide +kernel)
theorem kit_tup {K : PySem.W.Frag} {d : PyData} (h : ∀ kvs, d ≠ .dict kvs) : PySem.W.kitOne K (.type (tyD d)) (.type "tuple") = some (isTup d) := by
  cases d with
  | dict kvs => exact absurd rfl (h kvs)
  | _ => exact kit_ty (by dsimp only [tyD, isStr, isTup]; decide +kernel)
theorem kit_seq {K : PySem.W.Frag} {d : PyData} (h : ∀ kvs, d ≠ .dict kvs) : PySem.W.kitAny K (.type (tyD d)) [.type "list", .type "tuple"] = some (isSeq d) := by
  cases d with
  | dict kvs => exact absurd rfl (h kvs)
  | list _ => exact kitAny_cons (b := true) (kit_ty (by dsimp only [tyD, isStr, isTup]; decide +kernel)) (fun z => nomatch z) (fun _ => rfl)
  | tuple _ => exact kitAny_cons (b := false) (kit_ty (by dsimp only [tyD, isStr, isTup]; decide +kernel)) (fun _ => kitAny_cons (b := true) (kit_ty (by dsimp only [tyD, isStr, isTup]; decide +kernel)) (fun z => nomatch z) (fun _ => rfl)) (fun z => nomatch z)
  | _ => exact kitAny_cons (b := false) (kit_ty (by dsimp only [tyD, isStr, isTup]; decide +kernel)) (fun _ => kitAny_cons (b := false) (kit_ty (by dsimp only [tyD, isStr, isTup]; decide +kernel)) (fun _ => kitAny_nil) (fun z => nomatch z)) (fun z => nomatch z)
theorem no_dict {K : PySem.W.Frag} {H : Hp} {v : V} {d : PyData} (h : Dp K H v d) : ∀ kvs, d ≠ .dict kvs := fun kvs z => by
  subst z
  cases h

mutual
/-- no dict in it, no long text, no long list -/
def fine : PyData → Bool
  | .str x => decide (x.length ≤ 1000) && PyData.strOk x
  | .list ds => decide (ds.length ≤ 1000) && fineAll ds
  | .tuple ds => decide (ds.length ≤ 1000) && fineAll ds
  | .dict _ => false
  | .none => true
  | .bool _ => true
  | .int _ => true
def fineAll : List PyData → Bool
  | [] => true
  | d :: ds => fine d && fineAll ds
end
theorem fineAll_mem : ∀ {ds : List PyData} {d : PyData}, fineAll ds = true → d ∈ ds → fine d = true
  | e :: ds, d, h, m => by
    have h' : (fine e && fineAll ds) = true := by rw [fineAll] at h; exact h
    obtain ⟨h1, h2⟩ := Bool.and_eq_true_iff.mp h'
    rcases List.mem_cons.mp m with q | q
    · rw [q]; exact h1
    · exact fineAll_mem h2 q

theorem fine_str {z : Str} (h : fine (.str z) = true) : z.length ≤ 1000 ∧ PyData.strOk z = true := by
  rw [fine] at h
  obtain ⟨h1, h2⟩ := Bool.and_eq_true_iff.mp h
  exact ⟨of_decide_eq_true h1, h2⟩
theorem strs_lay : ∀ zs : List Str, (∀ z ∈ zs, PyData.strOk z = true) → PyData.canLayAll0 (zs.map PyData.str) = true
  | [], _ => by simp [PyData.canLayAll0]
  | z :: r, h => by
    have h1 := h z List.mem_cons_self
    have h2 := strs_lay r fun y hy => h y (List.mem_cons_of_mem _ hy)
    simp [PyData.canLayAll0, PyData.canLay0, h1, h2]
theorem strs_depth : ∀ zs : List Str, PyData.depthAll (zs.map PyData.str) = 0
  | [] => by simp [PyData.depthAll]
  | z :: r => by simp [PyData.depthAll, PyData.depth, strs_depth r]
theorem strs_shaped {zs : List Str} (h : ∀ z ∈ zs, PyData.strOk z = true) : SeqAt.shaped (.list (zs.map PyData.str)) = true := by
  simp [SeqAt.shaped, PyData.canLay0, PyData.depth, strs_lay zs h, strs_depth]
theorem strs_data {K : PySem.W.Frag} {H : Hp} : ∀ zs : List Str, DpAll K H (zs.map V.str) (zs.map PyData.str)
  | [] => .nil
  | z :: r => .cons (.str z) (strs_data r)

/-! ### a comprehension over a text -/
abbrev signsOf (z : Str) : List V := z.cps.toList.map fun c => V.str ⟨#[c]⟩
theorem lc_of_str {z : Str} {H1 : Hp} {D : Addr} {i : Nat} {σ : L2.St} (out : List (Option V)) {tt : TT} {te : TE} {Qd : Hp → Prop} (un : H1 D = none) (T : Turns H1 i (σ.set i none) (signsOf z) out tt te) (mono : MonoT tt)
    (fin : ∀ H', Same H1 H' → H' D = some (.lst (outOf out)) → Qd H') :
    ∃ W : Nat → Nat → Hp → Prop, (∃ m, W 0 m (upd H1 D (.lst []))) ∧ ∀ i' m H, W i' m H →
      ((Its z).stop i' H ∧ Qd H) ∨ ((Its z).go i' H ∧ ∃ Nx : Hp → Prop, (∀ H', Nx H' → ∃ m', m' < m ∧ W (i' + 1) m' H') ∧ ∀ x H', (Its z).yld i' H x H' → gName i x (wipe σ [i]) H' fun σ2 H2 => wipe σ2 [i] = wipe σ [i] ∧ tt σ2 H2 fun b H3 =>
        if b = true then te σ2 H3 fun y H4 => ∃ acc, H4 D = some (.lst acc) ∧ acc.length < sizeLine ∧ Nx (upd H4 D (.lst (acc ++ [y]))) else Nx H3) := by
  refine ⟨fun j m H => m = z.cps.size - j ∧ j ≤ z.cps.size ∧ Same H1 H ∧ H D = some (.lst (outOf (out.take j))), ⟨z.cps.size, rfl, Nat.zero_le _, same_new un, by rw [upd_same, outOf_zero]⟩, ?_⟩
  rintro j m H ⟨rfl, hj, s1, hD⟩
  have ol : out.length = z.cps.size := by rw [T.len, List.length_map, Array.length_toList]
  by_cases lt : j < z.cps.size
  · refine .inr ⟨lt, fun H' => Same H1 H' ∧ H' D = some (.lst (outOf (out.take (j + 1)))), fun H' q => ⟨z.cps.size - (j + 1), by omega, rfl, lt, q⟩, fun x H' y => ?_⟩
    obtain ⟨rfl, c, hc, rfl⟩ := y
    refine turn_core T mono (j := j) ?_ s1 hD un fun H'' a b => ⟨a, b⟩
    rw [List.getElem?_map, Array.getElem?_toList, hc]
    rfl
  · have e : j = z.cps.size := by omega
    subst e
    refine .inl ⟨Nat.le_refl _, fin H s1 ?_⟩
    rw [← ol, List.take_length] at hD
    exact hD
end Lw

set_option Elab.async false
set_option linter.all false
set_option maxRecDepth 100000
set_option maxHeartbeats 1000000
/-! What a law's top leaves, told by names: the parts that do not hang on the law. -/
namespace Hd
open PySem PySem.Spec PyProof.Rows L2
theorem fun_of {K : PySem.W.Frag} {x qual : PySem.Str} {st : Stmt} {f : Addr} {fd : FuncData} (F : FunD K x qual (defArgs st) (defBody st) (defScope st) [] [] f fd) : Fun K x qual st f fd := by
  obtain ⟨oc, od, dV, kV, doc, pm, an, cdv, ct, osl, h1, h2, h3, h4, _⟩ := F.ex
  have e : dV = .none := by
    rcases h4 with ⟨_, h⟩ | ⟨h, _⟩
    · exact h
    · exact absurd rfl h
  subst e
  exact ⟨⟨oc, od, kV, doc, pm, an, cdv, ct, osl, h1, h2, h3⟩, F.kp⟩
def fnTop (x : PySem.Str) (st : Stmt) : He.DefD := ⟨(x, none), x, x, defArgs st, defBody st, defScope st, [], []⟩
def fnIn (C m qual : PySem.Str) (st : Stmt) : He.DefD := ⟨(C, some m), m, qual, defArgs st, defBody st, defScope st, [], []⟩
noncomputable def fdOf (K : PySem.W.Frag) (f : Addr) : FuncData := match K.lookup f with
  | some ⟨_, _, .func fd, _⟩ => fd
  | _ => PySem.W.fnOf Str.empty Str.empty (defArgs (.Pass ⟨0, 0, 0, 0⟩)) [] (defScope (.Pass ⟨0, 0, 0, 0⟩)) .none .none .none .none none .none .none
theorem fdOf_eq {K : PySem.W.Frag} {x qual : PySem.Str} {st : Stmt} {f : Addr} {fd : FuncData} (F : Fun K x qual st f fd) : fdOf K f = fd := by
  obtain ⟨oc, od, kV, doc, pm, an, cdv, ct, osl, h1, h2, h3⟩ := F.ex
  unfold fdOf
  rw [h2]
/-- a def of the top -/
structure Top (K : PySem.W.Frag) (mg : PySem.Str → Option Value) (x : PySem.Str) (st : Stmt) (ps : List PySem.Str) : Prop where
  F : Fun K x x st (He.ga K x) (fdOf K (He.ga K x))
  g : mg x = some (.ref (He.ga K x))
  b : Binds K (fdOf K (He.ga K x)) ps []
section
variable {K : PySem.W.Frag} {h : Heap} {mg : PySem.Str → Option Value} {fas : List He.Fa} {fns : List He.DefD}
theorem free_mem (X : K.In h) (G : h.Ns mainGlobals mg) (c : He.SaysD fas fns K) {x : PySem.Str} (m : He.Fa.free x ∈ fas) : mg x = none := by
  obtain ⟨i, e⟩ := List.getElem?_of_mem m
  exact He.free_ok X G (c.fact i e)
theorem glo_mem (X : K.In h) (G : h.Ns mainGlobals mg) (c : He.SaysD fas fns K) {x : PySem.Str} (m : He.Fa.glo x ∈ fas) : mg x = some (.ref (He.ga K x)) := by
  obtain ⟨i, e⟩ := List.getElem?_of_mem m
  exact He.glo_ok X G (c.fact i e)
theorem top_mem (X : K.In h) (G : h.Ns mainGlobals mg) (c : He.SaysD fas fns K) {x : PySem.Str} {st : Stmt} {ps : List PySem.Str} (md : fnTop x st ∈ fns) (mf : He.Fa.glo x ∈ fas)
    (hb : ∀ (kV doc pm : Value) (an : Option Addr) (cdv ct : Value) (us : List Value), us.length = ps.length → bindArgs (PySem.W.fnOf x x (defArgs st) (defBody st) (defScope st) .none kV doc pm an cdv ct) ⟨us, []⟩ = pure (ps.zip us)) : Top K mg x st ps := by
  obtain ⟨i, e⟩ := List.getElem?_of_mem md
  obtain ⟨fd, F⟩ := c.def_ i e
  have F1 : Fun K x x st (He.ga K x) fd := fun_of (st := st) F
  have ed := fdOf_eq F1
  rw [← ed] at F1
  exact ⟨F1, glo_mem X G c mf, F1.binds hb⟩
end
end Hd

set_option Elab.async false
set_option linter.all false
set_option maxRecDepth 100000
set_option maxHeartbeats 4000000
/-! Two rules: C.f(e, ..) of a class's plain def; C(e, ..) that may raise, in a try. An own error's making. -/
namespace Lw
open PySem PySem.Spec PyProof.Rows L2
section
variable {X : Cx} {CX : CXT} {k : Nat} {f C : Addr} {fd : FuncData} {ps : List Str} {sp : Sp} {dvs : List V} {ds : List Value} {E : XK} {x m : Str} {p pos apos : Pos} {e o : Expr} {es : List Expr} {ta : TE} {t : TA} {mc : Value} {pl : Sem Bool}
/-- C.f(e, ..), C a class, f a def of it -/
def tCFun (C : Addr) (sp : Sp) (E : XK) (ta : TE) (t : TA) : TE := fun σ H Q => ta σ H fun x H1 => x = .ref C ∧ t σ H1 fun vs H2 => sp vs H2 Q E
theorem pe_cfun (he : PE X o ta) (r : ClX.CRead X.K C mc) (c : ClX.CVal X.K C mc m (.ref f) (.ref f)) (F : FnOk X.prog X.w X.K X.mg X.base CX k f fd ps sp) (hr : Room k X.A) (hk : PySem.W.keepIn X.K (.ref f) = true) (hb : Binds X.K fd ps []) (hx : Passes CX X E) (ha : PA X (e :: es) t)
    (hst : starEach (e :: es) X.env = (false, eval e X.env) :: starEach es X.env := by rfl) (hpl : (backTo pos (starEach es X.env)).any (·.1) = false := by rfl)
    (ht : eval (.Call (.Attribute o m apos) (e :: es) [] pos) X.env = (do
      let ov ← eval o X.env
      standAt apos.atName
      let (f, first) ← holding [ov] (getMethod ov m pl)
      callWith pos f first (backTo pos (starEach (e :: es) X.env)) (backToKw pos (keywordEach [] X.env))) := by rfl) :
    PE X (.Call (.Attribute o m apos) (e :: es) [] pos) (tCFun C sp E ta t) := by
  refine ⟨fun pins s σ H Q I h => ?_⟩
  refine PySem.W.methodCall_KW (pl := pl) (thn (he.run pins s σ H _ I h) fun u s1 ⟨x, H1, I1, rx, ex, q⟩ => ?_) ht
  subst ex
  obtain rfl : u = Value.ref C := rx
  refine PySem.W.method_cls I1.kIn r.ga (ClX.getcval_ok I1 r c fun s2 I2 => ?_)
  refine PySem.W.callWith_K (h₀ := X.base) I2.ok.mod.kin hk (thn (ha.run pos pins s2 σ H1 _ I2 q) fun us s3 ⟨vs, H2, I3, r3, q3⟩ => ⟨I3.kIn, ?_⟩) hst hpl
  exact run_fn F hr hb .nil hx I3 r3 (by rw [List.append_nil]; exact q3)
/-- C(e, ..), what it raises wished for at the slots -/
def tMakeS (C : Addr) (sp : Sp) (dvs : List V) (E : L2.St → XK) (t : TA) : TE := fun σ H Q => t σ H fun vs H1 => ∀ x dx, H1 x = none → H1 dx = none → dx ≠ x →
  sp (.ref x :: (vs ++ dvs)) (upd (upd H1 dx (.own x)) x (.ins C dx [])) (fun v H2 => v = .non ∧ Q (.ref x) H2) (E σ)
theorem pe_makeS {E : L2.St → XK} (M : Mk X.K C f) (F : FnOk X.prog X.w X.K X.mg X.base CX k f fd ps sp) (hr : Room (k + 1) X.A) (hg : Gl X x) (hm : X.mg x = some (.ref C)) (hb : Binds X.K fd ps ds) (hd : Vals dvs ds) (hx : ∀ σ, PassesAt CX X σ (E σ))
    (ha : PA X (e :: es) t) (hdb : (x == ("__debug__" : Str)) = false := by decide) (he : starEach (e :: es) X.env = (false, eval e X.env) :: starEach es X.env := by rfl) (hpl : (backTo pos (starEach es X.env)).any (·.1) = false := by rfl) :
    PE X (.Call (.Name x p) (e :: es) [] pos) (tMakeS C sp dvs E t) := by
  refine ⟨fun pins s σ H Q I h => ?_⟩
  refine wpAny_Call_Name_kw (ld_glob I hg hm ?_ hdb)
  refine PySem.W.callWith_K (h₀ := X.base) I.ok.mod.kin M.kp (thn (ha.run pos pins s σ H _ I h) fun us s1 ⟨vs, H1, I1, r, q⟩ => ⟨I1.kIn, ?_⟩) he hpl
  have hq := q (s1.heap.objs.size + 1) s1.heap.objs.size (I1.hok.fresh (Nat.le_succ _)) (I1.hok.fresh (Nat.le_refl _)) (Nat.ne_of_lt (Nat.lt_succ_self _))
  have I2 := Inv.made (C := C) I1
  have r2 : Vals (V.ref (s1.heap.objs.size + 1) :: (vs ++ dvs)) (Value.ref (s1.heap.objs.size + 1) :: (us ++ ds)) := .cons rfl (r.append hd)
  have hl : (Value.ref (s1.heap.objs.size + 1) :: us ++ ds).length = ps.length := by
    have e := r2.length
    rw [F.len _ _ _ _ hq] at e
    exact e.symm
  refine wpAny_call (make_map (f := f) I1.kIn M.makes M.init (beq_iff_eq.mp M.fn) (codeAny_mono (F.run _ X.stack _ _ ⟨Value.ref (s1.heap.objs.size + 1) :: us, []⟩ (Value.ref (s1.heap.objs.size + 1) :: (us ++ ds)) _ _ (E σ) (hr.make C us [])
    (I2.env0.make C us []) (hb _ (Value.ref (s1.heap.objs.size + 1) :: us) I2.kIn hl) r2 hq) fun r s' hq' => ?_))
  cases r with
  | error e => exact hx σ pins _ _ e s' I2 hq'
  | ok fl =>
    cases fl with
    | ret u =>
      obtain ⟨v, H', I3, rv, ev, q3⟩ := I2.after hq'
      subst ev
      exact ⟨rv, ⟨V.ref (s1.heap.objs.size + 1), H', I3, rfl, q3⟩⟩
    | next => exact False.elim hq'
    | brk => exact False.elim hq'
    | cont => exact False.elim hq'
end
/-- the promise of an own error's __init__ that keeps one argument -/
def spErr (C : Addr) (f : Str) : Sp := fun vs H Q _ => ∃ (a : Addr) (x : V), vs = [.ref a, x] ∧ H a = some (exo a C none) ∧ (∀ dx, H dx = none → dx ≠ a → Q .non (upd (upd H dx (exd dx [(f, x)])) a (exo a C (some dx))))
/-- what is asked of the heap behind the making of an own error -/
theorem err_heap {H : Hp} {a d : Addr} {C : Addr} {f : Str} {x : V} (ha : H a = none) (hd : (upd H a (exo a C none)) d = none) (ne : d ≠ a) :
    upd (del (upd (upd (upd H a (exo a C none)) d (exd d [(f, x)])) a (exo a C (some d))) a) d (.xd [(f, x)]) = upd H d (.xd [(f, x)]) := by
  funext b
  by_cases e : b = d
  · subst e
    rw [upd_same, upd_same]
  · rw [upd_ne e, upd_ne e]
    by_cases e2 : b = a
    · subst e2
      rw [del_same, ha]
    · rw [del_ne e2, upd_ne e2, upd_ne e, upd_ne e2]
end Lw

set_option Elab.async false
set_option linter.all false
set_option maxRecDepth 100000
set_option maxHeartbeats 1000000
/-! What the top leaves of own errors and of the rows' classes. -/
namespace Hd
open PySem PySem.Spec PyProof.Rows L2 Lw
def oexB (K : PySem.W.Frag) (C : Addr) : Bool := match K.lookup C with
  | some ⟨.type "type", _, .cls cd, sl⟩ => (match cd.mro, sl.toList with
    | .ref D :: bm, [_, _, _, _, some (.builtin n), _] => (D == C && n == "ValueError.__new__") && (!cd.hasDel && (cd.hasDict && PySem.HandSPX.refsVE bm))
    | _, _ => false)
  | _ => false
theorem oexB_ok {K : PySem.W.Frag} {C : Addr} (q : oexB K C = true) : ∃ nm qn N bs bm sn sub ab col dd k0 k1 k2 k3 k5, K.lookup C = some (excClassObj nm qn C N bs bm true sn sub ab col dd k0 k1 k2 k3 k5 "ValueError.__new__") ∧ PySem.HandSPX.refsVE bm = true := by
  unfold oexB at q
  split at q
  · rename_i dd cd sl ho
    split at q
    · rename_i D bm k0 k1 k2 k3 n k5 hm hs
      simp only [Bool.and_eq_true, beq_iff_eq, Bool.not_eq_true'] at q
      obtain ⟨⟨rfl, rfl⟩, hdel, hdict, ht⟩ := q
      obtain ⟨nm, bs, mro, ns, qn, hd, sn, sub, ab, col, del⟩ := cd
      dsimp only at hm hdel hdict
      subst hm hdel hdict
      obtain ⟨lst⟩ := sl
      dsimp only at hs
      subst hs
      exact ⟨nm, qn, ns, bs, bm, sn, sub, ab, col, dd, k0, k1, k2, k3, k5, ho, ht⟩
    · cases q
  · cases q

/-- an own error whose __init__ keeps one thing under this name -/
structure ErrC (K : PySem.W.Frag) (x f : PySem.Str) : Prop where
  ex : OexC K (He.ga K x)
  I : PySem.W.findIn K (.ref (He.ga K x)) "__init__" = some (some (.ref (He.ma K (He.ga K x) "__init__")))
  T : PySem.W.typeIn K (.ref (He.ma K (He.ga K x) "__init__")) = some (.type "function")
  W : PySem.W.findIn K (.ref (He.ga K x)) f = some none
  X : XfC K (He.ga K x)
def errB (K : PySem.W.Frag) (x f : PySem.Str) : Bool :=
  oexB K (He.ga K x) && (decide (PySem.W.findIn K (.ref (He.ga K x)) "__setattr__" = some (some (.builtin "object.__setattr__"))) && (decide (PySem.W.subIn K (.ref (He.ga K x)) (.type "BaseException") = some true) && (decide (PySem.W.typeIn K (.ref (He.ga K x)) = some (.type "type")) && (PySem.W.keepIn K (.ref (He.ga K x)) &&
  (decide (PySem.W.findIn K (.ref (He.ga K x)) "__init__" = some (some (.ref (He.ma K (He.ga K x) "__init__")))) && (decide (PySem.W.typeIn K (.ref (He.ma K (He.ga K x) "__init__")) = some (.type "function")) && (decide (PySem.W.findIn K (.ref (He.ga K x)) f = some none) && xfB K (He.ga K x))))))))
theorem errB_ok {K : PySem.W.Frag} {x f : PySem.Str} (q : errB K x f = true) : ErrC K x f := by
  unfold errB at q
  simp only [Bool.and_eq_true] at q
  obtain ⟨q1, q2, q3, q4, q5, q6, q7, q8, q9⟩ := q
  exact ⟨⟨oexB_ok q1, of_decide_eq_true q2, of_decide_eq_true q3, of_decide_eq_true q4, q5⟩, of_decide_eq_true q6, of_decide_eq_true q7, of_decide_eq_true q8, xfB_ok q9⟩
/-! ### the rows' classes -/
def rowsN : List PySem.Str := ["Ask", "Note", "Gate", "End"]
def attrsN : List PySem.Str := ["place", "name", "ways", "word", "then", "mark", "newer", "elder", "_text"]
def otherT : List String := ["tuple", "str", "int"]
structure RowsC (K : PySem.W.Frag) : Prop where
  isA : ∀ x ∈ rowsN, PySem.W.findIn K (.ref (He.ga K x)) "__class__" = some (some (.builtin "object.__class__"))
  get : PySem.W.specialIn K (.builtin "object.__class__") "__get__" = some (some (.builtin "getset_descriptor.__get__"))
  tak : PySem.W.takesIn K (.builtin "object.__class__") = some true
  obj : ∀ x ∈ rowsN, PySem.W.mroIn K (He.ga K x) (.type "object") = some true
  row : ∀ x ∈ rowsN, PySem.W.kitOne K (.ref (He.ga K x)) (.ref (He.ga K "Row")) = some true
  own : ∀ x ∈ rowsN, ∀ y ∈ rowsN, PySem.W.kitOne K (.ref (He.ga K x)) (.ref (He.ga K y)) = some (decide (x = y))
  noRow : ∀ t ∈ otherT, PySem.W.kitOne K (.type t) (.ref (He.ga K "Row")) = some false
  eqAt : ∀ x ∈ rowsN, PySem.W.findIn K (.ref (He.ga K x)) "__eq__" = some (some (.ref (He.ma K (He.ga K "Row") "__eq__")))
  neAt : ∀ x ∈ rowsN, PySem.W.findIn K (.ref (He.ga K x)) "__ne__" = some (some (.builtin "object.__ne__"))
  strAt : ∀ x ∈ rowsN, PySem.W.findIn K (.ref (He.ga K x)) "__str__" = some (some (.ref (He.ma K (He.ga K "Row") "__str__")))
  first : ∀ x ∈ rowsN, ∀ y ∈ rowsN, PySem.W.notFirst K (He.ga K x) (.ref (He.ga K y)) = true
  firstT : ∀ x ∈ rowsN, ∀ t ∈ otherT, PySem.W.notFirst K (He.ga K x) (.type t) = true
  eqI : PySem.W.isFn K (.ref (He.ma K (He.ga K "Row") "__eq__")) = true
  strI : PySem.W.isFn K (.ref (He.ma K (He.ga K "Row") "__str__")) = true
def rowsB (K : PySem.W.Frag) : Bool :=
  (decide (PySem.W.specialIn K (.builtin "object.__class__") "__get__" = some (some (.builtin "getset_descriptor.__get__"))) && (decide (PySem.W.takesIn K (.builtin "object.__class__") = some true) && (PySem.W.isFn K (.ref (He.ma K (He.ga K "Row") "__eq__")) && PySem.W.isFn K (.ref (He.ma K (He.ga K "Row") "__str__"))))) &&
  ((otherT.all fun t => decide (PySem.W.kitOne K (.type t) (.ref (He.ga K "Row")) = some false)) &&
  (rowsN.all fun x => decide (PySem.W.findIn K (.ref (He.ga K x)) "__class__" = some (some (.builtin "object.__class__"))) && (decide (PySem.W.mroIn K (He.ga K x) (.type "object") = some true) && (decide (PySem.W.kitOne K (.ref (He.ga K x)) (.ref (He.ga K "Row")) = some true) &&
    (decide (PySem.W.findIn K (.ref (He.ga K x)) "__eq__" = some (some (.ref (He.ma K (He.ga K "Row") "__eq__")))) && (decide (PySem.W.findIn K (.ref (He.ga K x)) "__ne__" = some (some (.builtin "object.__ne__"))) && (decide (PySem.W.findIn K (.ref (He.ga K x)) "__str__" = some (some (.ref (He.ma K (He.ga K "Row") "__str__")))) &&
    ((rowsN.all fun y => decide (PySem.W.kitOne K (.ref (He.ga K x)) (.ref (He.ga K y)) = some (decide (x = y)))) && ((rowsN.all fun y => PySem.W.notFirst K (He.ga K x) (.ref (He.ga K y))) && otherT.all fun t => PySem.W.notFirst K (He.ga K x) (.type t)))))))))) 
theorem rowsB_ok {K : PySem.W.Frag} (q : rowsB K = true) : RowsC K := by
  unfold rowsB at q
  simp only [Bool.and_eq_true, List.all_eq_true] at q
  obtain ⟨⟨a1, a2, a3, a4⟩, b1, c⟩ := q
  exact ⟨fun x hx => of_decide_eq_true (c x hx).1, of_decide_eq_true a1, of_decide_eq_true a2, fun x hx => of_decide_eq_true (c x hx).2.1, fun x hx => of_decide_eq_true (c x hx).2.2.1, fun x hx y hy => of_decide_eq_true ((c x hx).2.2.2.2.2.2.1 y hy), fun t ht => of_decide_eq_true (b1 t ht),
    fun x hx => of_decide_eq_true (c x hx).2.2.2.1, fun x hx => of_decide_eq_true (c x hx).2.2.2.2.1, fun x hx => of_decide_eq_true (c x hx).2.2.2.2.2.1, fun x hx y hy => (c x hx).2.2.2.2.2.2.2.1 y hy, fun x hx t ht => (c x hx).2.2.2.2.2.2.2.2 t ht, a3, a4⟩
def rowI (K : PySem.W.Frag) : Bool := PySem.W.readsIn K (He.ga K "Row") (.type "type") && (decide (PySem.W.specialIn K (.ref (He.ga K "Row")) "__getattribute__" = some (some (.builtin "type.__getattribute__"))) &&
  (match PySem.W.findCls K (.ref (He.ga K "Row")) (.type "type") "__init__" with
    | some (.val v) => decide (v = .ref (He.ma K (He.ga K "Row") "__init__"))
    | _ => false))
theorem rowI_ok {K : PySem.W.Frag} (q : rowI K = true) : ClX.CRead K (He.ga K "Row") (.type "type") ∧ ClX.CVal K (He.ga K "Row") (.type "type") "__init__" (.ref (He.ma K (He.ga K "Row") "__init__")) (.ref (He.ma K (He.ga K "Row") "__init__")) := by
  unfold rowI at q
  simp only [Bool.and_eq_true] at q
  obtain ⟨q1, q2, q3⟩ := q
  refine ⟨⟨q1, of_decide_eq_true q2⟩, ?_, rfl⟩
  cases e : PySem.W.findCls K (.ref (He.ga K "Row")) (.type "type") "__init__" with
  | none => rw [e] at q3; cases q3
  | some z =>
    rw [e] at q3
    cases z with
    | val v => rw [of_decide_eq_true q3]
    | get a b c d => cases q3
section
variable {K : PySem.W.Frag} {h : Heap} {mg : PySem.Str → Option Value} {fas : List He.Fa} {fns : List He.DefD}
theorem in_mem (c : He.SaysD fas fns K) {C m qual : PySem.Str} {st : Stmt} (i : Nat) (md : fns[i]? = some (fnIn C m qual st)) : Fun K m qual st (He.ma K (He.ga K C) m) (fdOf K (He.ma K (He.ga K C) m)) := by
  obtain ⟨fd, F⟩ := c.def_ i md
  have F1 : Fun K m qual st (He.ma K (He.ga K C) m) fd := fun_of (st := st) F
  have ed := fdOf_eq F1
  rw [← ed] at F1
  exact F1
theorem cls_mem (c : He.SaysD fas fns K) {x : PySem.Str} (m : He.Fa.cls x ∈ fas) : Cls K (He.ga K x) := by
  obtain ⟨i, e⟩ := List.getElem?_of_mem m
  exact He.cls_ok (c.fact i e)
theorem mkr_mem (c : He.SaysD fas fns K) {x : PySem.Str} (m : He.Fa.mkr x ∈ fas) : Mk K (He.ga K x) (He.ma K (He.ga K x) "__init__") := by
  obtain ⟨i, e⟩ := List.getElem?_of_mem m
  exact He.mkr_ok (c.fact i e)
theorem noat_mem (c : He.SaysD fas fns K) {x n : PySem.Str} (m : He.Fa.noat x n ∈ fas) : NoAttr K (He.ga K x) n := by
  obtain ⟨i, e⟩ := List.getElem?_of_mem m
  exact He.noat_ok (c.fact i e)
end
end Hd

set_option Elab.async false
set_option linter.all false
set_option maxRecDepth 100000
set_option maxHeartbeats 4000000
namespace K2
open PySem L2 Lw
def top (i : Nat) : Stmt := PySem.Challenge.pw_elderlogs_k25_chains_put_together.main.body.getD i (.Pass ⟨0, 0, 0, 0⟩)
end K2

set_option Elab.async false
set_option linter.all false
set_option maxRecDepth 100000
set_option maxHeartbeats 4000000
namespace Lw
open PySem PySem.Spec PyProof.Rows L2
/-- the class has no operator of its own for this name -/
def noNum (K : PySem.W.Frag) (D : Addr) (nm : String) : Bool := (match PySem.W.clsIn K D with
  | some cd => cd.mro == [.ref D, .type "object"]
  | none => false) && (PySem.W.findIn K (.ref D) (PySem.dunder nm) == some none && (PySem.W.findIn K (.ref D) (dunderR nm) == some none && (PySem.W.findIn K (.type "object") (PySem.dunder nm) == some none && PySem.W.findIn K (.type "object") (dunderR nm) == some none)))
/-- neither of x's class has an in-place operator -/
def noInp (K : PySem.W.Frag) (C : Addr) (nm : String) : Bool := (match PySem.W.clsIn K C with
  | some cd => cd.mro == [.ref C, .type "object"]
  | none => false) && (PySem.W.findIn K (.ref C) (dunderI nm) == some none && PySem.W.findIn K (.type "object") (dunderI nm) == some none)
end Lw

set_option Elab.async false
set_option linter.all false
set_option maxRecDepth 100000
set_option maxHeartbeats 0
namespace TL
end TL
namespace SxT
end SxT
namespace K2
open PySem L2 Lw
abbrev sIsName : Stmt := top 11
def abc : Str := "abcdefghijklmnopqrstuvwxyz"
abbrev sIr : Stmt := inClass (top 3) 0
abbrev sRow : Stmt := inClass (top 15) 0
abbrev sAsk : Stmt := inClass (top 16) 0
abbrev sNote : Stmt := inClass (top 17) 0
abbrev sGate : Stmt := inClass (top 18) 0
abbrev sEnd : Stmt := inClass (top 19) 0
abbrev sExpect : Stmt := top 20
abbrev sWays : Stmt := top 21
abbrev sWay : Stmt := top 22
abbrev sEq : Stmt := inClass (top 15) 4
abbrev sStr : Stmt := inClass (top 15) 5
abbrev sLeadsR : Stmt := inClass (top 15) 2
abbrev sLeadsA : Stmt := inClass (top 16) 1
abbrev sLeadsN : Stmt := inClass (top 17) 1
abbrev sLeadsG : Stmt := inClass (top 18) 1
abbrev sUnlike : Stmt := top 12
abbrev sAreRows : Stmt := top 28
abbrev sRing : Stmt := top 29
abbrev sWrong : Stmt := top 27
abbrev sEd : Stmt := inClass (top 25) 0
abbrev sIe : Stmt := inClass (top 4) 0
abbrev edFields : List Str := ["rows", "drops", "first", "names", "marks", "words", "_table", "_text"]
abbrev sEdRow : Stmt := inClass (top 25) 2
abbrev sEdLen : Stmt := inClass (top 25) 6
abbrev sEdEq : Stmt := inClass (top 25) 7
abbrev sEdStr : Stmt := inClass (top 25) 8
abbrev sBehind : Stmt := top 13
abbrev sRowOf : Stmt := top 23
abbrev sRowRead : Stmt := inClass (top 15) 1
abbrev sReadRow : Stmt := top 30
abbrev sParts : Stmt := top 26
abbrev sEdRead : Stmt := inClass (top 25) 1
abbrev sCh : Stmt := inClass (top 32) 0
abbrev sAreEds : Stmt := top 33
abbrev chFields : List Str := ["editions", "due", "marks", "_text"]
abbrev sChNum : Stmt := inClass (top 32) 4
abbrev sChLen : Stmt := inClass (top 32) 5
abbrev sChGet : Stmt := inClass (top 32) 6
abbrev sChEq : Stmt := inClass (top 32) 9
abbrev sChStr : Stmt := inClass (top 32) 10
abbrev sChRead : Stmt := inClass (top 32) 1
abbrev sReadEds : Stmt := top 34
abbrev sPut : Stmt := inClass (top 25) 3
abbrev sChWithout : Stmt := inClass (top 32) 2
abbrev sChNewest : Stmt := inClass (top 32) 3
abbrev sChAdd : Stmt := inClass (top 32) 8
abbrev sDeal : Stmt := top 36
abbrev sDraw : Stmt := top 37
abbrev sPick : Stmt := top 38
abbrev sMixed : Stmt := top 39
abbrev sSize : Stmt := top 40
abbrev sBase : Stmt := top 41
abbrev sNear1 : Stmt := top 42
abbrev sLines : Stmt := top 43
abbrev sLot : Stmt := top 44
abbrev sLots : Stmt := top 45
abbrev sOwed : Stmt := top 46
abbrev sLT : Stmt := top 47
abbrev sLotT : Stmt := top 48
abbrev sMadeK : Stmt := top 49
abbrev sLaw : Stmt := top 50
end K2
namespace K2
open PySem PySem.Spec PyProof.Rows L2 Lw TL SxT Hd
def dTop (x : Str) (st : Stmt) : He5.DefA := ⟨fun K => He.ga K x, x, x, defArgs st, defBody st, defScope st, [], []⟩
def dIn (C m qual : Str) (st : Stmt) : He5.DefA := ⟨fun K => He.ma K (He.ga K C) m, m, qual, defArgs st, defBody st, defScope st, [], []⟩
def dCm (C m qual : Str) (st : Stmt) : He5.DefA := ⟨fun K => He5.wf K (He.ga K C) "classmethod" m, m, qual, defArgs st, defBody st, defScope st, [], []⟩
def dEdI : He5.DefA := ⟨fun K => He.ma K (He.ga K "Edition") "__init__", "__init__", "Edition.__init__", defArgs sEd, defBody sEd, defScope sEd, [.adr (He.dflAt ("Edition", some "__init__") 0)], []⟩
def dChI : He5.DefA := ⟨fun K => He.ma K (He.ga K "Chain") "__init__", "__init__", "Chain.__init__", defArgs sCh, defBody sCh, defScope sCh, [.adr (He.dflAt ("Chain", some "__init__") 0)], []⟩
def fnsP : List He5.DefA := dEdI :: dChI :: dTop "is_name" sIsName :: dTop "_expect_names" sExpect :: dTop "_are_ways" sWays :: dTop "_is_way" sWay :: dTop "_are_rows" sAreRows :: dTop "are_unlike_names" sUnlike :: dTop "_has_ring" sRing :: dTop "_wrong" sWrong :: dTop "_row_of" sRowOf :: dTop "_read_row" sReadRow :: dTop "names_behind" sBehind :: dTop "read_parts" sParts :: dTop "_are_editions" sAreEds :: dTop "_read_editions" sReadEds :: dIn "InvalidRow" "__init__" "InvalidRow.__init__" sIr :: dIn "Row" "__init__" "Row.__init__" sRow :: dIn "Ask" "__init__" "Ask.__init__" sAsk :: dIn "Note" "__init__" "Note.__init__" sNote :: dIn "Gate" "__init__" "Gate.__init__" sGate :: dIn "End" "__init__" "End.__init__" sEnd :: dIn "Row" "__eq__" "Row.__eq__" sEq :: dIn "Row" "__str__" "Row.__str__" sStr :: dIn "End" "leads" "Row.leads" sLeadsR :: dIn "Ask" "leads" "Ask.leads" sLeadsA :: dIn "Note" "leads" "Note.leads" sLeadsN :: dIn "Gate" "leads" "Gate.leads" sLeadsG :: dIn "InvalidEdition" "__init__" "InvalidEdition.__init__" sIe :: dIn "Edition" "row" "Edition.row" sEdRow :: dIn "Edition" "__len__" "Edition.__len__" sEdLen :: dIn "Edition" "__eq__" "Edition.__eq__" sEdEq :: dIn "Edition" "__str__" "Edition.__str__" sEdStr :: dIn "Chain" "_expect_number" "Chain._expect_number" sChNum :: dIn "Chain" "__len__" "Chain.__len__" sChLen :: dIn "Chain" "__getitem__" "Chain.__getitem__" sChGet :: dIn "Chain" "__eq__" "Chain.__eq__" sChEq :: dIn "Chain" "__str__" "Chain.__str__" sChStr :: dIn "Chain" "without" "Chain.without" sChWithout :: dIn "Chain" "newest" "Chain.newest" sChNewest :: dIn "Chain" "__add__" "Chain.__add__" sChAdd :: dCm "Row" "read" "Row.read" sRowRead :: dCm "Edition" "read" "Edition.read" sEdRead :: dCm "Chain" "read" "Chain.read" sChRead :: []
def glosP : List Str := "is_name" :: "_expect_names" :: "_are_ways" :: "_is_way" :: "_are_rows" :: "are_unlike_names" :: "_has_ring" :: "_wrong" :: "_row_of" :: "_read_row" :: "names_behind" :: "read_parts" :: "_are_editions" :: "_read_editions" :: "LogError" :: "InvalidRow" :: "InvalidEdition" :: "Row" :: "Ask" :: "Note" :: "Gate" :: "End" :: "Edition" :: "Chain" :: []
def freesP : List Str := "str" :: "len" :: "all" :: "isinstance" :: "tuple" :: "list" :: "set" :: "any" :: "sorted" :: "zip" :: "enumerate" :: []
def clssP : List Str := "Row" :: "Ask" :: "Note" :: "Gate" :: "End" :: "Edition" :: "Chain" :: []
def mkrsP : List Str := "Row" :: "Ask" :: "Note" :: "Gate" :: "End" :: "Edition" :: "Chain" :: []
def methsP : List (Str × Str) := ("End", "leads") :: ("Ask", "leads") :: ("Note", "leads") :: ("Gate", "leads") :: ("Edition", "row") :: ("Chain", "_expect_number") :: ("Chain", "without") :: ("Chain", "newest") :: []
def noatsP : List (Str × List Str) := [("Ask", Hd.attrsN), ("Note", Hd.attrsN), ("Gate", Hd.attrsN), ("End", Hd.attrsN), ("Edition", edFields), ("Chain", chFields)]
def fasP : List He.Fa := .str "_LETTERS" abc :: (glosP.map He.Fa.glo ++ (freesP.map He.Fa.free ++ (clssP.map He.Fa.cls ++ (mkrsP.map He.Fa.mkr ++ (methsP.map (fun m => He.Fa.meth m.1 m.2) ++ noatsP.flatMap fun p => p.2.map fun n => He.Fa.noat p.1 n)))))
theorem in_glo {x : Str} (h : x ∈ glosP) : He.Fa.glo x ∈ fasP := List.mem_cons_of_mem _ (List.mem_append_left _ (List.mem_map_of_mem h))
theorem in_free {x : Str} (h : x ∈ freesP) : He.Fa.free x ∈ fasP := List.mem_cons_of_mem _ (List.mem_append_right _ (List.mem_append_left _ (List.mem_map_of_mem h)))
theorem in_cls {x : Str} (h : x ∈ clssP) : He.Fa.cls x ∈ fasP := List.mem_cons_of_mem _ (List.mem_append_right _ (List.mem_append_right _ (List.mem_append_left _ (List.mem_map_of_mem h))))
theorem in_mkr {x : Str} (h : x ∈ mkrsP) : He.Fa.mkr x ∈ fasP := List.mem_cons_of_mem _ (List.mem_append_right _ (List.mem_append_right _ (List.mem_append_right _ (List.mem_append_left _ (List.mem_map_of_mem h)))))
theorem in_meth {x m : Str} (h : (x, m) ∈ methsP) : He.Fa.meth x m ∈ fasP := List.mem_cons_of_mem _ (List.mem_append_right _ (List.mem_append_right _ (List.mem_append_right _ (List.mem_append_right _ (List.mem_append_left _ (List.mem_map.mpr ⟨(x, m), h, rfl⟩))))))
theorem in_noat {x n : Str} {l : List Str} (h : (x, l) ∈ noatsP) (hn : n ∈ l) : He.Fa.noat x n ∈ fasP := List.mem_cons_of_mem _ (List.mem_append_right _ (List.mem_append_right _ (List.mem_append_right _ (List.mem_append_right _ (List.mem_append_right _ (List.mem_flatMap.mpr ⟨(x, l), h, List.mem_map.mpr ⟨n, hn, rfl⟩⟩))))))
/-- a classmethod -/
def cmB (K : PySem.W.Frag) (C m : Str) : Bool := He5.wrapB K (He.ga K C) "classmethod" "classmethod.__get__" m && PySem.W.fnIn K (He5.wf K (He.ga K C) "classmethod" m)
def tupB (K : PySem.W.Frag) (a : Addr) : Bool := match K.lookup a with
  | some ⟨.type t, _, .seq its _, _⟩ => decide (t = "tuple") && decide (its = #[])
  | _ => false
theorem tupB_ok {K : PySem.W.Frag} {a : Addr} (h : tupB K a = true) : ∃ (o : Obj) (n : Nat), K.lookup a = some o ∧ o.cls = .type "tuple" ∧ o.data = .seq #[] n := by
  unfold tupB at h
  split at h
  · rename_i t dd its n sl e
    simp only [Bool.and_eq_true, decide_eq_true_eq] at h
    obtain ⟨rfl, rfl⟩ := h
    exact ⟨_, n, e, rfl, rfl⟩
  · cases h
def othersE : List String := ["tuple", "str", "list"]
def edB2 (K : PySem.W.Frag) : Bool :=
  PySem.W.isFn K (.ref (He.ma K (He.ga K "Edition") "__eq__")) && (PySem.W.isFn K (.ref (He.ma K (He.ga K "Edition") "__str__")) && (PySem.W.isFn K (.ref (He.ma K (He.ga K "Edition") "__len__")) &&
  (decide (PySem.W.findIn K (.ref (He.ga K "Edition")) "__eq__" = some (some (.ref (He.ma K (He.ga K "Edition") "__eq__")))) && (decide (PySem.W.findIn K (.ref (He.ga K "Edition")) "__ne__" = some (some (.builtin "object.__ne__"))) &&
  (decide (PySem.W.findIn K (.ref (He.ga K "Edition")) "__str__" = some (some (.ref (He.ma K (He.ga K "Edition") "__str__")))) && (decide (PySem.W.findIn K (.ref (He.ga K "Edition")) "__len__" = some (some (.ref (He.ma K (He.ga K "Edition") "__len__")))) &&
  (PySem.W.notFirst K (He.ga K "Edition") (.ref (He.ga K "Edition")) && othersE.all fun t => PySem.W.notFirst K (He.ga K "Edition") (.type t))))))))
/-- what more is written of the edition's class -/
structure EdX (K : PySem.W.Frag) : Prop where
  eqI : PySem.W.isFn K (.ref (He.ma K (He.ga K "Edition") "__eq__")) = true
  strI : PySem.W.isFn K (.ref (He.ma K (He.ga K "Edition") "__str__")) = true
  lenI : PySem.W.isFn K (.ref (He.ma K (He.ga K "Edition") "__len__")) = true
  eqAt : PySem.W.findIn K (.ref (He.ga K "Edition")) "__eq__" = some (some (.ref (He.ma K (He.ga K "Edition") "__eq__")))
  neAt : PySem.W.findIn K (.ref (He.ga K "Edition")) "__ne__" = some (some (.builtin "object.__ne__"))
  strAt : PySem.W.findIn K (.ref (He.ga K "Edition")) "__str__" = some (some (.ref (He.ma K (He.ga K "Edition") "__str__")))
  lenAt : PySem.W.findIn K (.ref (He.ga K "Edition")) "__len__" = some (some (.ref (He.ma K (He.ga K "Edition") "__len__")))
  first : PySem.W.notFirst K (He.ga K "Edition") (.ref (He.ga K "Edition")) = true
  firstT : ∀ t ∈ othersE, PySem.W.notFirst K (He.ga K "Edition") (.type t) = true
theorem edB2_ok {K : PySem.W.Frag} (q : edB2 K = true) : EdX K := by
  unfold edB2 at q
  simp only [Bool.and_eq_true, List.all_eq_true] at q
  obtain ⟨a1, a2, a3, a4, a5, a6, a7, a8, a9⟩ := q
  exact ⟨a1, a2, a3, of_decide_eq_true a4, of_decide_eq_true a5, of_decide_eq_true a6, of_decide_eq_true a7, a8, a9⟩
def edB (K : PySem.W.Frag) : Bool :=
  tupB K (He.dflAt ("Edition", some "__init__") 0 K) && (decide (PySem.W.findIn K (.ref (He.ga K "Edition")) "__class__" = some (some (.builtin "object.__class__"))) && (decide (PySem.W.mroIn K (He.ga K "Edition") (.type "object") = some true) &&
  (decide (PySem.W.kitOne K (.ref (He.ga K "Edition")) (.ref (He.ga K "Edition")) = some true) && ((othersE.all fun t => decide (PySem.W.kitOne K (.type t) (.ref (He.ga K "Edition")) = some false)) &&
  ((PySem.W.readsIn K (He.ga K "Edition") (.type "type") && decide (PySem.W.specialIn K (.ref (He.ga K "Edition")) "__getattribute__" = some (some (.builtin "type.__getattribute__")))) && edB2 K)))))
structure EdC (K : PySem.W.Frag) : Prop where
  tD : tupB K (He.dflAt ("Edition", some "__init__") 0 K) = true
  isA : PySem.W.findIn K (.ref (He.ga K "Edition")) "__class__" = some (some (.builtin "object.__class__"))
  obj : PySem.W.mroIn K (He.ga K "Edition") (.type "object") = some true
  own : PySem.W.kitOne K (.ref (He.ga K "Edition")) (.ref (He.ga K "Edition")) = some true
  no : ∀ t ∈ othersE, PySem.W.kitOne K (.type t) (.ref (He.ga K "Edition")) = some false
  rd : ClX.CRead K (He.ga K "Edition") (.type "type")
  X : EdX K
theorem edB_ok {K : PySem.W.Frag} (q : edB K = true) : EdC K := by
  unfold edB at q
  simp only [Bool.and_eq_true, List.all_eq_true] at q
  obtain ⟨a1, a2, a3, a4, a5, ⟨a6, a7⟩, a8⟩ := q
  exact ⟨a1, of_decide_eq_true a2, of_decide_eq_true a3, of_decide_eq_true a4, fun t ht => of_decide_eq_true (a5 t ht), ⟨a6, of_decide_eq_true a7⟩, edB2_ok a8⟩
/-- what is written of the chain's class -/
def chB (K : PySem.W.Frag) : Bool :=
  PySem.W.isFn K (.ref (He.ma K (He.ga K "Chain") "__eq__")) && (PySem.W.isFn K (.ref (He.ma K (He.ga K "Chain") "__str__")) && (PySem.W.isFn K (.ref (He.ma K (He.ga K "Chain") "__len__")) && (PySem.W.isFn K (.ref (He.ma K (He.ga K "Chain") "__getitem__")) && (PySem.W.fnIn K (He.ma K (He.ga K "Chain") "__getitem__") && (decide (PySem.W.findIn K (.ref (He.ga K "Chain")) "__eq__" = some (some (.ref (He.ma K (He.ga K "Chain") "__eq__")))) && (decide (PySem.W.findIn K (.ref (He.ga K "Chain")) "__ne__" = some (some (.builtin "object.__ne__"))) && (decide (PySem.W.findIn K (.ref (He.ga K "Chain")) "__str__" = some (some (.ref (He.ma K (He.ga K "Chain") "__str__")))) && (decide (PySem.W.findIn K (.ref (He.ga K "Chain")) "__len__" = some (some (.ref (He.ma K (He.ga K "Chain") "__len__")))) && (decide (PySem.W.findIn K (.ref (He.ga K "Chain")) "__getitem__" = some (some (.ref (He.ma K (He.ga K "Chain") "__getitem__")))) && (PySem.W.notFirst K (He.ga K "Chain") (.ref (He.ga K "Chain")) && ((othersE.all fun t => PySem.W.notFirst K (He.ga K "Chain") (.type t)) && (decide (PySem.W.findIn K (.ref (He.ga K "Chain")) "__class__" = some (some (.builtin "object.__class__"))) && (decide (PySem.W.mroIn K (He.ga K "Chain") (.type "object") = some true) && (decide (PySem.W.kitOne K (.ref (He.ga K "Chain")) (.ref (He.ga K "Chain")) = some true) && ((othersE.all fun t => decide (PySem.W.kitOne K (.type t) (.ref (He.ga K "Chain")) = some false)) && (decide (PySem.W.kitOne K (.ref (He.ga K "Edition")) (.ref (He.ga K "Chain")) = some false) && (PySem.W.notFirst K (He.ga K "Chain") (.ref (He.ga K "Edition")) && (PySem.W.readsIn K (He.ga K "Chain") (.type "type") && (decide (PySem.W.specialIn K (.ref (He.ga K "Chain")) "__getattribute__" = some (some (.builtin "type.__getattribute__"))))))))))))))))))))))
structure ChX (K : PySem.W.Frag) : Prop where
  eqI : PySem.W.isFn K (.ref (He.ma K (He.ga K "Chain") "__eq__")) = true
  strI : PySem.W.isFn K (.ref (He.ma K (He.ga K "Chain") "__str__")) = true
  lenI : PySem.W.isFn K (.ref (He.ma K (He.ga K "Chain") "__len__")) = true
  getI : PySem.W.isFn K (.ref (He.ma K (He.ga K "Chain") "__getitem__")) = true
  getN : PySem.W.fnIn K (He.ma K (He.ga K "Chain") "__getitem__") = true
  eqAt : PySem.W.findIn K (.ref (He.ga K "Chain")) "__eq__" = some (some (.ref (He.ma K (He.ga K "Chain") "__eq__")))
  neAt : PySem.W.findIn K (.ref (He.ga K "Chain")) "__ne__" = some (some (.builtin "object.__ne__"))
  strAt : PySem.W.findIn K (.ref (He.ga K "Chain")) "__str__" = some (some (.ref (He.ma K (He.ga K "Chain") "__str__")))
  lenAt : PySem.W.findIn K (.ref (He.ga K "Chain")) "__len__" = some (some (.ref (He.ma K (He.ga K "Chain") "__len__")))
  getAt : PySem.W.findIn K (.ref (He.ga K "Chain")) "__getitem__" = some (some (.ref (He.ma K (He.ga K "Chain") "__getitem__")))
  first : PySem.W.notFirst K (He.ga K "Chain") (.ref (He.ga K "Chain")) = true
  firstT : ∀ t ∈ othersE, PySem.W.notFirst K (He.ga K "Chain") (.type t) = true
  isA : PySem.W.findIn K (.ref (He.ga K "Chain")) "__class__" = some (some (.builtin "object.__class__"))
  obj : PySem.W.mroIn K (He.ga K "Chain") (.type "object") = some true
  own : PySem.W.kitOne K (.ref (He.ga K "Chain")) (.ref (He.ga K "Chain")) = some true
  no : ∀ t ∈ othersE, PySem.W.kitOne K (.type t) (.ref (He.ga K "Chain")) = some false
  noEd : PySem.W.kitOne K (.ref (He.ga K "Edition")) (.ref (He.ga K "Chain")) = some false
  firstE : PySem.W.notFirst K (He.ga K "Chain") (.ref (He.ga K "Edition")) = true
  rd : ClX.CRead K (He.ga K "Chain") (.type "type")
theorem chB_ok {K : PySem.W.Frag} (q : chB K = true) : ChX K := by
  unfold chB at q
  simp only [Bool.and_eq_true, List.all_eq_true] at q
  obtain ⟨a1, a2, a3, a4, a5, b1, b2, b3, b4, b5, c1, c2, d1, d2, d3, d4, d5, d6, e1, e2⟩ := q
  exact ⟨a1, a2, a3, a4, a5, of_decide_eq_true b1, of_decide_eq_true b2, of_decide_eq_true b3, of_decide_eq_true b4, of_decide_eq_true b5, c1, c2, of_decide_eq_true d1, of_decide_eq_true d2, of_decide_eq_true d3, fun t ht => of_decide_eq_true (d4 t ht), of_decide_eq_true d5, d6, ⟨e1, of_decide_eq_true e2⟩⟩
def addB (K : PySem.W.Frag) : Bool := PySem.W.isFn K (.ref (He.ma K (He.ga K "Chain") "__add__")) && (decide (PySem.W.findIn K (.ref (He.ga K "Chain")) "__add__" = some (some (.ref (He.ma K (He.ga K "Chain") "__add__")))) && (PySem.W.selfFirst K (He.ga K "Chain") && (noNum K (He.ga K "Edition") "add" && (noInp K (He.ga K "Chain") "add" && ((He.ga K "Chain") == (He.ga K "Edition")) == false))))
structure AddX (K : PySem.W.Frag) : Prop where
  I : PySem.W.isFn K (.ref (He.ma K (He.ga K "Chain") "__add__")) = true
  at_ : PySem.W.findIn K (.ref (He.ga K "Chain")) "__add__" = some (some (.ref (He.ma K (He.ga K "Chain") "__add__")))
  sf : PySem.W.selfFirst K (He.ga K "Chain") = true
  nn : noNum K (He.ga K "Edition") "add" = true
  ni : noInp K (He.ga K "Chain") "add" = true
  ne : ((He.ga K "Chain") == (He.ga K "Edition")) = false
theorem addB_ok {K : PySem.W.Frag} (q : addB K = true) : AddX K := by
  unfold addB at q
  simp only [Bool.and_eq_true] at q
  obtain ⟨a1, a2, a3, a4, a5, a6⟩ := q
  exact ⟨a1, of_decide_eq_true a2, a3, a4, a5, by simpa using a6⟩
def extraP (K : PySem.W.Frag) : Bool := errB K "InvalidRow" "word" && (errB K "InvalidEdition" "word" && (rowsB K && (rowI K && (edB K && (cmB K "Row" "read" && (cmB K "Edition" "read" && (cmB K "Chain" "read" && (chB K && addB K))))))))
def fnsL : List He5.DefA := dTop "_law_deal" sDeal :: dTop "_law_draw" sDraw :: dTop "_law_pick" sPick :: dTop "_law_mixed" sMixed :: dTop "_law_size" sSize :: dTop "_law_base" sBase :: dTop "_law_near" sNear1 :: dTop "_law_lines" sLines :: dTop "_law_lot" sLot :: dTop "_law_lots" sLots :: dTop "_law_owed" sOwed :: dTop "_law_line_text" sLT :: dTop "_law_lot_text" sLotT :: dTop "_law_made" sMadeK :: dTop "law" sLaw :: []
def fasL : List He.Fa := .glo "_law_deal" :: .glo "_law_draw" :: .glo "_law_pick" :: .glo "_law_mixed" :: .glo "_law_size" :: .glo "_law_base" :: .glo "_law_near" :: .glo "_law_lines" :: .glo "_law_lot" :: .glo "_law_lots" :: .glo "_law_owed" :: .glo "_law_line_text" :: .glo "_law_lot_text" :: .glo "_law_made" :: .glo "law" :: .free "int" :: .free "abs" :: .free "range" :: []
def extraL (K : PySem.W.Frag) : Bool := true
abbrev fasA : List He.Fa := fasP ++ fasL
abbrev fnsA : List He5.DefA := fnsP ++ fnsL
def extra (K : PySem.W.Frag) : Bool := extraP K && extraL K
def reach (g : Addr → Option Obj) : List Addr := PySem.cStatics :: He.asD g 6
def obM (g : Addr → Option Obj) : He.AlD × Bool := (He5.obsA fasA fnsA (He.frG g (reach g)), extra (He.frG g (reach g)))
def hk : PySem.W.Hook where
  α := He.AlD × Bool
  obs := fun s => obM s.heap.get?
  val := fun _ => (He5.valA fnsA, true)
  says := fun _ h => ∃ K : PySem.W.Frag, K.In h ∧ He5.SaysA fasA fnsA K ∧ extra K = true
  of := fun _ _ e => ⟨_, He.frG_in, congrArg Prod.fst e, congrArg Prod.snd e⟩
  keeps := fun _ _ _ ⟨K, hK, c⟩ k => ⟨K, PySem.W.Frag.In.keeps hK k, c⟩
def ob (s : PySem.W.SharedT) : He.AlD × Bool := obM (HandSHeadRun.getT s)
theorem ob_eq (s : PySem.W.SharedT) : ob s = hk.obs s.abs := by
  have e : HandSHeadRun.getT s = s.abs.heap.get? := funext (HandSHeadRun.getT_eq s)
  show obM _ = obM _
  rw [e]
abbrev Rw : PySem.W.OpenRow := PySem.W.OpenLaw.row PySem.Challenge.rw_elderlogs_k25_chains_put_together
def others : List PySem.Str := "_wall" :: "LogError" :: "InvalidRow" :: "InvalidEdition" :: "InvalidChain" :: "InvalidText" :: "NoPlace" :: "NoEdition" :: "_LETTERS" :: "is_name" :: "are_unlike_names" :: "names_behind" :: "Row" :: "Ask" :: "Note" :: "Gate" :: "End" :: "_expect_names" :: "_are_ways" :: "_is_way" :: "_row_of" :: "Edition" :: "read_parts" :: "_wrong" :: "_are_rows" :: "_has_ring" :: "_read_row" :: "Chain" :: "_are_editions" :: "_read_editions" :: "_law_deal" :: "_law_draw" :: "_law_pick" :: "_law_mixed" :: "_law_size" :: "_law_base" :: "_law_near" :: "_law_lines" :: "_law_lot" :: "_law_lots" :: "_law_owed" :: "_law_line_text" :: "_law_lot_text" :: "_law_made" :: []
theorem run (w : World) : HandSHeadRun.RunEq Rw (PySem.W.view Rw.prog [50]) hk ob 8000 others w := by
  intro os
  kernel_rfl
end K2
set_option Elab.async false
set_option linter.all false
set_option maxRecDepth 100000
set_option maxHeartbeats 4000000
namespace Lw
open PySem PySem.Spec PyProof.Rows L2
/-- isinstance(e, c), e the exception that the suite holds, one with a dict of its own -/
def rIsV (K : PySem.W.Frag) (a : Addr) (cls : Value) (d : Option Addr) : List V → Hp → VK → Prop := fun xs H Q => ∃ (D dd : Addr) (fs : List (PySem.Str × V)) (c : V) (cv : Value) (b : Bool),
  cls = .ref D ∧ d = some dd ∧ H dd = some (.xd fs) ∧ ExcC K D ∧ xs = [.ref a, c] ∧ (∀ u, RelV c u → u = cv) ∧ PySem.W.kitOne K (.ref D) cv = some b ∧ Q (.bl b) H
theorem call_isV {X : Cx} {a : Addr} {cls : Value} {d : Option Addr} {oe : Obj} {pn : List (Addr × Obj)} (hz : Zc cls d oe) (hf : ∃ vs, oe.data = .fields vs) : CallR (X.suite a ((a, oe) :: pn)) (.builtin "isinstance") (rIsV X.K a cls d) := by
  intro pins s σ H xs us Q I r h
  obtain ⟨D, dd, fs, c, cv, b, rfl, rfl, hdd, C, rfl, hcv, e, q⟩ := h
  cases r with
  | cons rx rr =>
    cases rr with
    | cons rt rr =>
      cases rr
      cases rx
      have ec := hcv _ rt
      subst ec
      obtain ⟨hget, _⟩ := I.pin (a, oe) (List.mem_append.mpr (.inl List.mem_cons_self))
      obtain ⟨vs, hv⟩ := hf
      have hx : ObjOk X.prog X.w H s.heap dd (.xd fs) := I.hok dd _ hdd
      obtain ⟨mA, hns, _⟩ := hx
      obtain ⟨od, ho, _⟩ := lookIn_ns hns
      have J : PySem.W.InstAt s.heap a oe D (some od) := ⟨hget, hz.1, by unfold PySem.W.notCls; rw [hv] <;> rfl, by rw [hz.2]; exact ho⟩
      have hcl : (PySem.W.clsIn X.K D).isSome = true := by
        obtain ⟨cd, hc, _⟩ := PySem.W.any_some C.hd
        rw [hc]
        rfl
      exact PySem.W.kia_one (PySem.W.kitx_exc hcl C.hg C.hk C.hs C.ha C.hn C.ht C.hm) I.kIn J e (fun z => nomatch z) fun tk => ⟨.bl b, H, I.kept (t' := tk) fun _ _ z => z, rfl, q⟩
end Lw

set_option Elab.async false
set_option linter.all false
set_option maxRecDepth 100000
set_option maxHeartbeats 4000000
namespace K2
open PySem L2 Lw
/-! ### names -/
def isAbc (c : Nat) : Bool := decide (c ∈ abc.cps.toList)
def nameOk (z : Str) : Bool := decide (1 ≤ (z.length : Int)) && decide ((z.length : Int) ≤ 4) && z.cps.toList.all isAbc
def nameD : PyData → Bool
  | .str z => nameOk z
  | _ => false
def spIsName (K : PySem.W.Frag) : Sp := fun vs H Q _ => ∃ (v : V) (d : PyData), vs = [v] ∧ Dp K H v d ∧ fine d = true ∧ ∀ H', Same H H' → Q (.bl (nameD d)) H'
section
variable {P : Program} {w : World} {K : PySem.W.Frag} {mg : Str → Option Value} {base : Heap}
theorem scIsName : FnScope ["value", "letter"] ["value"] (defScope sIsName) := ⟨rfl, rfl, rfl, by decide +kernel, rfl, by decide +kernel, by decide +kernel⟩
theorem ok_isName {f : Addr} {fd : FuncData} {tk : Tok} (F : Fun K "is_name" "is_name" sIsName f fd) (tS : mg "str" = none) (tIs : mg "isinstance" = none) (tL : mg "len" = none) (tAll : mg "all" = none) (tAbc : mg "_LETTERS" = some (.str abc tk)) :
    FnOk P w K mg base CX0 1 f fd ["value"] (spIsName K) := by
  refine F.ok scIsName (fun vs H Q E h => ?_) (fun cdv A outer s H vs Q E hr h => ?_)
  · obtain ⟨v, d, rfl, _⟩ := h
    rfl
  · obtain ⟨v, d, rfl, hd, hz, fin⟩ := h
    refine ⟨_, pss_one (ps_ret (pe_and (pe_callB call_isi (by rfl) tIs PyProof.Rows.boot_isinstance (pa_cons (pv 0) (pa_cons (pe_bltn (v := .ty "str") (by rfl) tS PyProof.Rows.boot_str rfl) pa_nil)))
      (pe_and (pe_chain op_le op_le pe_int (pe_callB call_len (by rfl) tL PySem.boot_len (pa_cons (pv 0) pa_nil)) pe_int)
        (pe_one (pe_callB (cr_all rfl) (by rfl) tAll PyProof.Rows.boot_all (pa_cons (pe_lc (own := [("letter", 1)]) (g := gName 1) (tt := tYes) (by rfl) scIsName.nd (pi_str (pv 0))
          (blkOk_by (own := [("letter", 1)]) (N := ["value", "letter"]) (sc := defScope sIsName) (by decide +kernel)) (fun _ _ _ _ _ => pg_name (i := 1) scIsName.nd rfl (Or.inl rfl)) (fun _ _ _ _ _ => pts_nil)
          (fun _ _ _ _ _ => pe_cmpR op_in_sign (pv 1) (pe_glob (v := .str abc) (by rfl) tAbc ⟨_, rfl⟩) rfl)) pa_nil)))))), ?_⟩
    refine ⟨_, rfl, _, _, _, _, _, rfl, .ty "str", ty_data hd, kit_str (no_dict hd), _, rfl, ?_⟩
    cases d with
    | str z =>
      cases hd
      have len : z.length ≤ 1000 := (fine_str hz).1
      have small : z.length ≤ sizeLine := Nat.le_of_lt (small1000 len)
      refine iteT ⟨_, rfl, _, _, rfl, ⟨small, rfl⟩, _, _, rfl, rfl, _, rfl, ?_⟩
      by_cases h1 : decide (1 ≤ (z.length : Int)) = true
      · rw [h1]
        refine iteT ⟨_, _, rfl, rfl, _, rfl, ?_⟩
        by_cases h2 : decide ((z.length : Int) ≤ 4) = true
        · rw [h2]
          refine iteT ⟨_, rfl, z, rfl, fun D un => ?_⟩
          refine lc_of_str ((signsOf z).map fun x => some (match x with | .str y => .bl (isAbc (y.cps.getD 0 0)) | _ => .non)) un (turns_map (fun x => match x with | .str y => .bl (isAbc (y.cps.getD 0 0)) | _ => .non) (by rw [List.length_map, Array.length_toList]; exact Nat.le_trans len (by decide)) fun x H2 Q2 hx _ q => ?_) mono_yes fun H2 s2 h2 => ?_
          · obtain ⟨c, _, rfl⟩ := List.mem_map.mp hx
            exact ⟨_, rfl, c, abc, rfl, rfl, q _ (Same.refl _)⟩
          · rw [out_map] at h2
            have e : (signsOf z).map (fun x => match x with | .str y => V.bl (isAbc (y.cps.getD 0 0)) | _ => .non) = (z.cps.toList.map isAbc).map V.bl := by
              rw [List.map_map, List.map_map]
              rfl
            rw [e] at h2
            refine ⟨D, _, rfl, SqL.of h2, ?_⟩
            have e2 : (List.map isAbc z.cps.toList).all id = nameD (.str z) := by
              show _ = (decide (1 ≤ (z.length : Int)) && decide ((z.length : Int) ≤ 4) && z.cps.toList.all isAbc)
              rw [h1, ‹decide ((z.length : Int) ≤ 4) = true›, List.all_map]
              rfl
            rw [e2]
            exact fin _ s2
        · have h3 : decide ((z.length : Int) ≤ 4) = false := by simpa using h2
          rw [h3]
          refine iteF ?_
          have e2 : nameD (.str z) = false := by
            show (decide (1 ≤ (z.length : Int)) && decide ((z.length : Int) ≤ 4) && z.cps.toList.all isAbc) = false
            rw [h3, Bool.and_false, Bool.false_and]
          rw [← e2]
          exact fin _ (Same.refl _)
      · have h3 : decide (1 ≤ (z.length : Int)) = false := by simpa using h1
        rw [h3]
        refine iteF ⟨_, rfl, iteF ?_⟩
        have e2 : nameD (.str z) = false := by
          show (decide (1 ≤ (z.length : Int)) && decide ((z.length : Int) ≤ 4) && z.cps.toList.all isAbc) = false
          rw [h3, Bool.false_and, Bool.false_and]
        rw [← e2]
        exact fin _ (Same.refl _)
    | _ => exact iteF (fin H (Same.refl H))
end
end K2

set_option Elab.async false
set_option linter.all false
set_option maxRecDepth 100000
set_option maxHeartbeats 4000000
/-! What the top of law k03's text has written. -/
namespace K2
open PySem L2 Lw
/-- where they stand -/
structure Ad where
  cLog : Addr
  cIr : Addr
  cIe : Addr
  cRow : Addr
  cAsk : Addr
  cNote : Addr
  cGate : Addr
  cEnd : Addr
  fIr : Addr
  fRow : Addr
  fAsk : Addr
  fNote : Addr
  fGate : Addr
  fEnd : Addr
  fN : Addr
  fX : Addr
  fWs : Addr
  fW : Addr
  fDeal : Addr
  fDraw : Addr
  fPick : Addr
  fThing : Addr
  fTitle : Addr
  fHeard : Addr
  fPairs : Addr
  fDue : Addr
  fOdd : Addr
  fLaw : Addr
  dIr : FuncData
  dRow : FuncData
  dAsk : FuncData
  dNote : FuncData
  dGate : FuncData
  dEnd : FuncData
  dN : FuncData
  dX : FuncData
  dWs : FuncData
  dW : FuncData
  dDeal : FuncData
  dDraw : FuncData
  dPick : FuncData
  dThing : FuncData
  dTitle : FuncData
  dHeard : FuncData
  dPairs : FuncData
  dDue : FuncData
  dOdd : FuncData
  dLaw : FuncData
/-- a def of the top -/
structure Top (K : PySem.W.Frag) (mg : Str → Option Value) (x : Str) (st : Stmt) (f : Addr) (fd : FuncData) (ps : List Str) : Prop where
  F : Fun K x x st f fd
  g : mg x = some (.ref f)
  b : Binds K fd ps []
/-- a class of rows: its __init__ -/
structure RowC (K : PySem.W.Frag) (mg : Str → Option Value) (x qual : Str) (st : Stmt) (C f : Addr) (fd : FuncData) (ps : List Str) : Prop where
  F : Fun K "__init__" qual st f fd
  b : Binds K fd ps []
  g : mg x = some (.ref C)
  cl : Cls K C
  mkd : Mk K C f
structure Txt (K : PySem.W.Frag) (mg : Str → Option Value) (a : Ad) : Prop where
  tStr : mg "str" = none
  tLen : mg "len" = none
  tAll : mg "all" = none
  tIs : mg "isinstance" = none
  tTuple : mg "tuple" = none
  tList : mg "list" = none
  tSet : mg "set" = none
  abc : ∃ tk, mg "_LETTERS" = some (.str abc tk)
  isName : Top K mg "is_name" sIsName a.fN a.dN ["value"]
  expect : Top K mg "_expect_names" sExpect a.fX a.dX ["pairs"]
  areWays : Top K mg "_are_ways" sWays a.fWs a.dWs ["value"]
  isWay : Top K mg "_is_way" sWay a.fW a.dW ["value"]
  -- the error
  gLog : mg "LogError" = some (.ref a.cLog)
  gIr : mg "InvalidRow" = some (.ref a.cIr)
  ir : OexC K a.cIr
  irF : Fun K "__init__" "InvalidRow.__init__" sIr a.fIr a.dIr
  irB : Binds K a.dIr ["self", "word"] []
  irI : PySem.W.findIn K (.ref a.cIr) "__init__" = some (some (.ref a.fIr))
  irT : PySem.W.typeIn K (.ref a.fIr) = some (.type "function")
  irW : PySem.W.findIn K (.ref a.cIr) "word" = some none
  irX : XfC K a.cIr
  -- rows
  row : RowC K mg "Row" "Row.__init__" sRow a.cRow a.fRow a.dRow ["self", "words"]
  ask : RowC K mg "Ask" "Ask.__init__" sAsk a.cAsk a.fAsk a.dAsk ["self", "place", "name", "ways"]
  note : RowC K mg "Note" "Note.__init__" sNote a.cNote a.fNote a.dNote ["self", "place", "word", "then"]
  gate : RowC K mg "Gate" "Gate.__init__" sGate a.cGate a.fGate a.dGate ["self", "place", "mark", "newer", "elder"]
  end_ : RowC K mg "End" "End.__init__" sEnd a.cEnd a.fEnd a.dEnd ["self", "place"]
  rowR : ClX.CRead K a.cRow (.type "type")
  rowI : ClX.CVal K a.cRow (.type "type") "__init__" (.ref a.fRow) (.ref a.fRow)
  -- attributes that no class of rows has
  no : ∀ C ∈ [a.cAsk, a.cNote, a.cGate, a.cEnd], ∀ n ∈ (["place", "name", "ways", "word", "then", "mark", "newer", "elder", "_text"] : List Str), NoAttr K C n
section
variable {P : Program} {w : World} {K : PySem.W.Frag} {mg : Str → Option Value} {base : Heap} {a : Ad}
theorem Txt.okN (T : Txt K mg a) : FnOk P w K mg base CX0 1 a.fN a.dN ["value"] (spIsName K) := by
  obtain ⟨tk, h⟩ := T.abc
  exact ok_isName T.isName.F T.tStr T.tIs T.tLen T.tAll h
theorem scIr : FnScope ["self", "word"] ["self", "word"] (defScope sIr) := ⟨rfl, rfl, rfl, by decide +kernel, rfl, by decide +kernel, by decide +kernel⟩
theorem Txt.okIr (T : Txt K mg a) : FnOk P w K mg base CX0 1 a.fIr a.dIr ["self", "word"] (spErr a.cIr "word") := by
  refine T.irF.ok scIr (fun vs H Q E h => ?_) (fun cdv A outer s H vs Q E hr h => ?_)
  · obtain ⟨a, x, rfl, _⟩ := h
    rfl
  · obtain ⟨x, v, rfl, hx, fin⟩ := h
    exact ⟨_, pss_one (ps_ost (pv 0) (pv 1)), _, rfl, _, rfl, x, _, rfl, T.ir, T.irW, .inl ⟨hx, fin⟩⟩
end
end K2

set_option Elab.async false
set_option linter.all false
set_option maxRecDepth 100000
set_option maxHeartbeats 4000000
namespace K2
open PySem L2 Lw
/-! ### a way -/
def wayOk : PyData → Bool
  | .tuple [a, b] => nameD a && nameD b
  | _ => false
def spIsWay (K : PySem.W.Frag) : Sp := fun vs H Q _ => ∃ (v : V) (d : PyData), vs = [v] ∧ Dp K H v d ∧ fine d = true ∧ ∀ H', Same H H' → Q (.bl (wayOk d)) H'
/-- what _expect_names is handed: tuples of a word and a value -/
structure It where
  t : Addr
  w : Str
  v : V
  d : PyData
def firstBad (its : List It) : Option Str := (its.find? fun i => !nameD i.d).map (·.w)
def spExpect (K : PySem.W.Frag) (C : Addr) : Sp := fun vs H Q E => ∃ (a : Addr) (its : List It), vs = [.ref a] ∧ SqL K H a (its.map fun i => .ref i.t) ∧
  (∀ i ∈ its, SqT K H i.t [.str i.w, i.v] ∧ Dp K H i.v i.d ∧ fine i.d = true) ∧ (firstBad its = none → ∀ H', Same H H' → Q .non H') ∧
  (∀ w, firstBad its = some w → ∀ (H' : Hp) (d : Addr), Same H H' → H d = none → H' d = some (.xd [("word", .str w)]) → E (.ref C) (some d) H')
theorem fine_tup {ds : List PyData} (h : fine (.tuple ds) = true) : ds.length ≤ 1000 ∧ fineAll ds = true := by
  rw [fine] at h
  obtain ⟨h1, h2⟩ := Bool.and_eq_true_iff.mp h
  exact ⟨of_decide_eq_true h1, h2⟩
theorem fine_list {ds : List PyData} (h : fine (.list ds) = true) : ds.length ≤ 1000 ∧ fineAll ds = true := by
  rw [fine] at h
  obtain ⟨h1, h2⟩ := Bool.and_eq_true_iff.mp h
  exact ⟨of_decide_eq_true h1, h2⟩
section
variable {P : Program} {w : World} {K : PySem.W.Frag} {mg : Str → Option Value} {base : Heap} {a : Ad}
theorem scWay : FnScope ["value"] ["value"] (defScope sWay) := ⟨rfl, rfl, rfl, by decide +kernel, rfl, by decide +kernel, by decide +kernel⟩
theorem Txt.okW (T : Txt K mg a) : FnOk P w K mg base CX0 2 a.fW a.dW ["value"] (spIsWay K) := by
  refine T.isWay.F.ok scWay (fun vs H Q E h => ?_) (fun cdv A outer s H vs Q E hr h => ?_)
  · obtain ⟨v, d, rfl, _⟩ := h
    rfl
  · obtain ⟨v, d, rfl, hd, hz, fin⟩ := h
    refine ⟨_, pss_one (ps_ret (pe_and (pe_callB call_isi (by rfl) T.tIs PyProof.Rows.boot_isinstance (pa_cons (pv 0) (pa_cons (pe_bltn (v := .ty "tuple") (by rfl) T.tTuple PyProof.Rows.boot_tuple rfl) pa_nil)))
      (pe_and (pe_cmpR op_eq (pe_callB call_len_seq (by rfl) T.tLen PySem.boot_len (pa_cons (pv 0) pa_nil)) pe_int (nomark _))
      (pe_and (pe_call T.okN hr rfl T.isName.g T.isName.F.kp T.isName.b .nil pass0 (pa_cons (pe_ix ix_tup (pv 0) pe_int (fun _ _ => rfl)) pa_nil))
        (pe_one (pe_call T.okN hr rfl T.isName.g T.isName.F.kp T.isName.b .nil pass0 (pa_cons (pe_ix ix_tup (pv 0) pe_int (fun _ _ => rfl)) pa_nil))))))), ?_⟩
    refine ⟨_, rfl, _, _, _, _, _, rfl, .ty "tuple", ty_data hd, kit_tup (no_dict hd), _, rfl, ?_⟩
    cases d with
    | tuple ds =>
      cases hd with
      | @tup p xs _ hs ha =>
        have el := dpAll_len ha
        refine iteT ⟨_, rfl, p, xs, rfl, .inr hs, rfl, _, rfl, ?_⟩
        rw [dec_int]
        by_cases e : xs.length = 2
        · match xs, ds, ha, e, el with
          | [x, y], [dx, dy], .cons hx (.cons hy .nil), _, _ =>
            obtain ⟨_, hf⟩ := fine_tup hz
            refine iteT ⟨_, rfl, p, [x, y], 0, x, rfl, rfl, hs, at0, x, dx, rfl, hx, fineAll_mem hf (by simp), fun H1 s1 => ⟨_, rfl, ?_⟩⟩
            cases e1 : nameD dx with
            | false =>
              refine iteF ?_
              have z := fin H1 s1
              rwa [show wayOk (.tuple [dx, dy]) = false from by rw [wayOk, e1, Bool.false_and]] at z
            | true =>
              refine iteT ⟨_, rfl, p, [x, y], 1, y, rfl, rfl, same_tup s1 hs, at1, y, dy, rfl, dp_same s1 _ _ hy, fineAll_mem hf (by simp), fun H2 s2 => ?_⟩
              have z := fin H2 (s1.trans s2)
              rwa [show wayOk (.tuple [dx, dy]) = nameD dy from by rw [wayOk, e1, Bool.true_and]] at z
        · rw [show ((xs.length : Int) == 2) = false from by simpa using (by omega : (xs.length : Int) ≠ 2)]
          refine iteF ?_
          have z := fin H (Same.refl H)
          rwa [show wayOk (.tuple ds) = false from by
            match ds, el with
            | [], _ => rfl
            | [_], _ => rfl
            | [_, _], el => exact absurd el e
            | _ :: _ :: _ :: _, _ => rfl] at z
    | _ => exact iteF (fin H (Same.refl H))
theorem scX : FnScope ["pairs", "word", "value"] ["pairs"] (defScope sExpect) := ⟨rfl, rfl, rfl, by decide +kernel, rfl, by decide +kernel, by decide +kernel⟩
theorem Txt.okX (T : Txt K mg a) : FnOk P w K mg base (L2.CX P w) 3 a.fX a.dX ["pairs"] (spExpect K a.cIr) := by
  refine T.expect.F.okX scX (fun vs H Q E h => ?_) (fun cdv A outer s H vs Q E hr h => ?_)
  · obtain ⟨v, d, rfl, _⟩ := h
    rfl
  · obtain ⟨l, its, rfl, hl, hi, kN, kE⟩ := h
    have hr1 : Room 1 _ := hr.mono (by decide)
    refine ⟨_, pss_one (ps_for (passes_of rfl) rfl (pi_list (pv 0)) (pg_tup rfl (pgs_cons (pg_name (i := 1) scX.nd rfl (.inl rfl)) (pgs_cons (pg_name (i := 2) scX.nd rfl (.inl rfl)) pgs_nil)))
      (pss_one (ps_if (pt_not (pt_val (pe_call T.okN hr1 rfl T.isName.g T.isName.F.kp T.isName.b .nil pass0 (pa_cons (pv 2) pa_nil))))
        (pss_one (ps_raise rfl (takes_of rfl rfl rfl rfl) (pmk_oex T.ir T.irI T.irT T.okIr hr T.irB .nil pass0 rfl T.gIr (pa_cons (pv 1) pa_nil)))) pss_nil))), ?_⟩
    refine ⟨_, rfl, l, rfl, ⟨_, hl⟩, for_list (K := K) (a := l) (xs := its.map fun i => V.ref i.t) (fun i σ H' => ∃ x y, σ = [some (.ref l), x, y] ∧ Same H H' ∧ firstBad (its.take i) = none) ⟨_, _, rfl, Same.refl H, rfl⟩ (fun i σ H' _ ⟨_, _, _, s1, _⟩ => s1.seq hl) ?_ ?_⟩
    · rintro j x σ H1 hx ⟨_, _, rfl, s1, fb⟩
      rw [List.getElem?_map] at hx
      obtain ⟨i, ei, rfl⟩ := Option.map_eq_some_iff.mp hx
      obtain ⟨ht, hd, hf⟩ := hi i (List.mem_of_getElem? ei)
      refine ⟨_, _, rfl, same_tup s1 ht, rfl, ?_⟩
      refine ⟨_, _, rfl, _, _, rfl, rfl, ?_⟩
      refine ⟨_, rfl, _, i.d, rfl, dp_same s1 _ _ hd, hf, fun H2 s2 => ⟨_, rfl, ?_⟩⟩
      have s12 := s1.trans s2
      have step : firstBad (its.take (j + 1)) = if nameD i.d = true then none else some i.w := by
        unfold firstBad at fb ⊢
        have fb' := Option.map_eq_none_iff.mp fb
        rw [List.take_add_one, ei, List.find?_append, fb', Option.none_or]
        show Option.map _ (List.find? _ [i]) = _
        rw [List.find?_cons]
        cases nameD i.d <;> rfl
      cases e1 : nameD i.d with
      | true =>
        rw [e1, if_pos rfl] at step
        exact iteF ⟨_, _, rfl, s12, step⟩
      | false =>
        rw [e1, if_neg (by decide)] at step
        refine iteT ?_
        have full : firstBad its = some i.w := by
          unfold firstBad at step ⊢
          rw [← List.take_append_drop (j + 1) its, List.find?_append]
          obtain ⟨y, ey, ew⟩ := Option.map_eq_some_iff.mp step
          rw [ey, Option.some_or, Option.map_some, ew]
        refine ⟨_, rfl, (by show 1 ≤ 1000; decide), fun x hx => ⟨x, _, rfl, upd_same, fun d h1 h2 => ⟨rfl, d, _, upd_same, by rw [upd_ne h2]; exact upd_same, ?_, ?_⟩⟩⟩
        · rwa [upd_ne h2] at h1
        · rw [err_heap hx h1 h2]
          have hd' : H2 d = none := by rwa [upd_ne h2] at h1
          exact kE _ full _ d (s12.trans (same_new hd')) (s12.free hd') upd_same
    · rintro σ H1 ⟨_, _, rfl, s1, fb⟩
      rw [List.length_map, List.take_length] at fb
      exact kN fb H1 s1
end
end K2

set_option Elab.async false
set_option linter.all false
set_option maxRecDepth 100000
set_option maxHeartbeats 4000000
/-! Sets of keys (ints, texts) made of a list, a tuple, by a comprehension; their length. -/
namespace Sx
open PySem PySem.Spec PyProof.Rows L2

theorem key_beq (a b : Key) : (a == b) = true ↔ a = b := by
  cases a with
  | inl i =>
    cases b with
    | inl j => exact ⟨fun z => congrArg Sum.inl (eq_of_beq (show (i == j) = true from z)), fun z => by cases z; exact beq_self_eq_true i⟩
    | inr y => exact ⟨fun z => absurd (show false = true from z) Bool.false_ne_true, fun z => by cases z⟩
  | inr x =>
    cases b with
    | inl j => exact ⟨fun z => absurd (show false = true from z) Bool.false_ne_true, fun z => by cases z⟩
    | inr y => exact ⟨fun z => congrArg Sum.inr (eq_of_beq (show (x == y) = true from z)), fun z => by cases z; exact beq_self_eq_true x⟩
instance keyLaw : LawfulBEq Key where
  eq_of_beq := fun {a b} h => (key_beq a b).mp h
  rfl := fun {a} => (key_beq a a).mpr rfl

/-! ### each key once, in the order of its first place -/
def put1 (acc : List Key) (k : Key) : List Key := if k ∈ acc then acc else acc ++ [k]
def nub (l : List Key) : List Key := l.foldl put1 []
theorem nub_snoc (l : List Key) (k : Key) : nub (l ++ [k]) = put1 (nub l) k := by
  unfold nub; rw [List.foldl_append]; rfl
theorem mem_put1 {acc : List Key} {k x : Key} : x ∈ put1 acc k ↔ x ∈ acc ∨ x = k := by
  unfold put1
  by_cases h : k ∈ acc
  · rw [if_pos h]
    constructor
    · exact .inl
    · rintro (q | q)
      · exact q
      · rw [q]; exact h
  · rw [if_neg h]; simp
theorem mem_nub : ∀ (n : Nat) (l : List Key), l.length = n → ∀ x, x ∈ nub l ↔ x ∈ l
  | 0, l, h, x => by
    have e : l = [] := List.length_eq_zero_iff.mp h
    subst e; exact Iff.rfl
  | n + 1, l, h, x => by
    have ne : l ≠ [] := by intro e; subst e; simp at h
    obtain ⟨r, k, e⟩ : ∃ r k, l = r ++ [k] := ⟨l.dropLast, l.getLast ne, (List.dropLast_concat_getLast ne).symm⟩
    subst e
    have hr : r.length = n := by simpa using h
    rw [nub_snoc, mem_put1, mem_nub n r hr x]; simp
theorem mem_nub' {l : List Key} {x : Key} : x ∈ nub l ↔ x ∈ l := mem_nub l.length l rfl x
theorem len_put1 {acc : List Key} {k : Key} : (put1 acc k).length = if k ∈ acc then acc.length else acc.length + 1 := by
  unfold put1; split <;> simp
theorem len_nub_le : ∀ (n : Nat) (l : List Key), l.length = n → (nub l).length ≤ l.length
  | 0, l, h => by
    have e : l = [] := List.length_eq_zero_iff.mp h
    subst e; exact Nat.le_refl _
  | n + 1, l, h => by
    have ne : l ≠ [] := by intro e; subst e; simp at h
    obtain ⟨r, k, e⟩ : ∃ r k, l = r ++ [k] := ⟨l.dropLast, l.getLast ne, (List.dropLast_concat_getLast ne).symm⟩
    subst e
    have hr : r.length = n := by simpa using h
    have ih := len_nub_le n r hr
    rw [nub_snoc, len_put1, List.length_append, List.length_singleton]
    split <;> omega
/-- as many as there are: just if each stands once -/
theorem len_nub_iff : ∀ (n : Nat) (l : List Key), l.length = n → ((nub l).length = l.length ↔ l.Nodup)
  | 0, l, h => by
    have e : l = [] := List.length_eq_zero_iff.mp h
    subst e; simp [nub]
  | n + 1, l, h => by
    have ne : l ≠ [] := by intro e; subst e; simp at h
    obtain ⟨r, k, e⟩ : ∃ r k, l = r ++ [k] := ⟨l.dropLast, l.getLast ne, (List.dropLast_concat_getLast ne).symm⟩
    subst e
    have hr : r.length = n := by simpa using h
    have ih := len_nub_iff n r hr
    have le := len_nub_le n r hr
    rw [nub_snoc, len_put1, List.length_append, List.length_singleton, List.nodup_append]
    by_cases hk : k ∈ r
    · rw [if_pos (mem_nub'.mpr hk)]
      constructor
      · intro q; omega
      · rintro ⟨_, _, q⟩
        exact absurd rfl (q k hk k (by simp))
    · rw [if_neg fun z => hk (mem_nub'.mp z)]
      constructor
      · intro q
        refine ⟨ih.mp (by omega), by simp, fun a ha b hb => ?_⟩
        have : b = k := by simpa using hb
        subst this
        intro z; subst z; exact hk ha
      · rintro ⟨q, _, _⟩
        have := ih.mpr q
        omega
theorem nub_nodup_iff {l : List Key} : (nub l).length = l.length ↔ l.Nodup := len_nub_iff l.length l rfl

/-! ### filling -/
abbrev inPre (ks : List Key) (i : Nat) : Key → Bool := fun k => decide (k ∈ ks.take i)
abbrev HasSet (P : Program) (w : World) (h : Heap) (S : Addr) (ks : List Key) : Prop := h.SetOf (mixKind P w) S (fun k => decide (k ∈ ks)) (nub ks).length
theorem hasSet_next {P : Program} {w : World} {h : Heap} {S : Addr} {ks : List Key} {k : Key}
    (x : h.SetOf (mixKind P w) S (fun j => decide (j ∈ ks) || decide (j = k)) (if decide (k ∈ ks) = true then (nub ks).length else (nub ks).length + 1)) : HasSet P w h S (ks ++ [k]) := by
  refine SetOf_congr x (fun j => ?_) ?_
  · simp [Bool.decide_or]
  · rw [nub_snoc, len_put1]
    by_cases h : k ∈ ks
    · rw [if_pos (decide_eq_true h), if_pos (mem_nub'.mpr h)]
    · rw [if_neg (by simpa using h), if_neg fun z => h (mem_nub'.mp z)]
section
variable {P : Program} {w : World} {A : Around} {R : Result → Shared → Prop} {I : Addr} {fp wr : List Addr} {G : Array GenState → Array GenState → Prop} {n : Nat} {Pv : Nat → Value → Prop} {St : Nat → Shared → Prop}
theorem fill_loop (W : WalksS P w A.in1 I fp wr G n Pv St) (S : Addr) (away : S ∉ fp) (ks : List Key) (hlen : ks.length = n)
    (vals : ∀ i v, Pv i v → ∃ k, ks[i]? = some k ∧ RelV (kV k) v) (few : n + 1 < scanBound) :
    ∀ (left i : Nat) (s : Shared), n - i = left → i ≤ n → St i s → HasSet P w s.heap S (ks.take i) →
      (∀ s', Moved (S :: wr) G s s' → HasSet P w s'.heap S ks → R (.ok (.ret .none)) s') →
      codeAny (model P w) A (.builtin "set.update.loop" ⟨[.ref S, .ref I], []⟩) R s := by
  have Sw : S ∉ wr := fun z => away (W.sub _ z)
  have more : ∀ b ∈ wr, b ∈ S :: wr := fun _ hb => List.mem_cons_of_mem _ hb
  intro left
  induction left with
  | zero =>
    intro i s hl hi st hs fin
    have ei : i = n := by omega
    subst ei
    refine codeAny_builtin (A := A) PyProof.Rows.F.entry_set_update_loop ?_
    rw [Around.under_plainId (A := A) PyProof.Rows.F.plain_set_update_loop _]
    show wpAny (model P w) A.in1 (pyNext (.ref I) >>= _) _ _ s
    refine wpAny_bind (W.done s _ _ st fun s1 mv => ?_)
    show wpAny (model P w) A.in1 (ret Value.none) _ _ s1
    refine wpAny_pure (fin s1 (mv.mono more) ?_)
    rw [List.take_of_length_le (by omega)] at hs
    obtain ⟨o, es, ep, t, ho, r⟩ := hs
    exact ⟨o, es, ep, t, mv.heap S _ Sw ho, r⟩
  | succ left ih =>
    intro i s hl hi st hs fin
    have lt : i < n := by omega
    refine codeAny_builtin (A := A) PyProof.Rows.F.entry_set_update_loop ?_
    rw [Around.under_plainId (A := A) PyProof.Rows.F.plain_set_update_loop _]
    show wpAny (model P w) A.in1 (pyNext (.ref I) >>= _) _ _ s
    refine wpAny_bind (W.item i s _ _ lt st fun v s1 hv st1 mv => ?_)
    obtain ⟨k, hk, rv⟩ := vals i v hv
    have hs1 : HasSet P w s1.heap S (ks.take i) := by
      obtain ⟨o, es, ep, t, ho, r⟩ := hs
      exact ⟨o, es, ep, t, mv.heap S _ Sw ho, r⟩
    show wpAny (model P w) A.in1 (holding [v] (setAdd S v) >>= _) _ _ s1
    refine wpAny_bind (wpAny_holding ?_)
    unfold setAdd
    refine wpAny_holding (wpAny_bind ((mixKind P w).pyHash (k := k) (kV_is rv) ?_))
    have room : (nub (ks.take i)).length + 1 < scanBound := by
      have := len_nub_le _ (ks.take i) rfl
      rw [List.length_take] at this
      omega
    refine wpAny_setAddHashed_of (knd := mixKind P w) (s := { s1 with toks := s1.toks + 1 }) (kV_is rv) (key_scan rv) hs1 room fun h2 same hs2 => ?_
    have hs3 : HasSet P w h2 S (ks.take (i + 1)) := by
      rw [List.take_add_one, hk]
      exact hasSet_next hs2
    refine wpAny_pure ⟨plainId_quiet PyProof.Rows.F.plain_set_update_loop _, ih (i + 1) _ (by omega) lt (W.frame _ s1 _ _ st1 (Nat.le_succ _) fun b hb o e => ?_) hs3 fun s2 mv2 hs4 => ?_⟩
    · exact (same.2 b fun z : b = S => away (z ▸ hb)).trans e
    · refine fin s2 (Moved.trans W.gtrans ((mv.mono more).then_heap (Nat.le_succ _) fun b o hb e => ?_) mv2) hs4
      exact (same.2 b fun z : b = S => hb (z ▸ List.mem_cons_self)).trans e
end
end Sx

set_option Elab.async false
set_option linter.all false
set_option maxRecDepth 100000
set_option maxHeartbeats 4000000
namespace Sx
open PySem PySem.Spec PyProof.Rows L2
/-! ### a set comprehension of keys -/
section
variable {X : Cx}
/-- one key more in the set at D -/
theorem add_key {pins : List (Addr × Obj)} {σ : L2.St} {H : Hp} {s : Shared} {E : Value → Shared → Prop} {D : Addr} {S : Key → Bool} {n : Nat} {k : Key} {u : Value} {Q : Value → Shared → Prop}
    (I : Inv X pins σ H s) (at_ : H D = some (SetK X.prog X.w D S n)) (room : n + 1 < scanBound) (ru : RelV (kV k) u)
    (fin : ∀ s', Inv X pins σ (upd H D (SetK X.prog X.w D (fun j => S j || decide (j = k)) (if S k = true then n else n + 1))) s' → Q .none s') :
    wpAny (model X.prog X.w) X.A (call (.builtin "set.add") [.ref D, u]) Q E s := by
  refine PySem.call_set_add (kV_is ru) (key_scan ru) (setK_get I at_) room fun h' same new => ?_
  have there : ∃ o, h'.get? D = some o := let ⟨o, _, _, _, ho, _⟩ := new; ⟨o, ho⟩
  exact fin _ (I.write (e := D) (t' := s.toks + 1) (by rw [at_]; trivial) (.inl rfl) (fun b o hb ho => (same.2 b hb).trans ho) there (setK_new new))
/-- what a turn does with the element's value -/
def TurnK (P : Program) (w : World) (D : Addr) (Nx : Hp → Prop) : VK := fun y H4 => ∃ (k : Key) (S : Key → Bool) (n : Nat), y = kV k ∧ H4 D = some (SetK P w D S n) ∧ n + 1 < scanBound ∧
  Nx (upd H4 D (SetK P w D (fun j => S j || decide (j = k)) (if S k = true then n else n + 1)))
/-- {elt for target in iter if ..} -/
def tSck (P : Program) (w : World) (wi : TI) (g : TG) (tt : TT) (te : TE) (vs : List Nat) : TE := fun σ H Q => wi σ H fun J H1 => ∀ D, H1 D = none →
  ∃ W : Nat → Nat → Hp → Prop, (∃ m, W 0 m (upd H1 D (SetK P w D (fun _ => false) 0))) ∧ ∀ i m H, W i m H →
    (J.stop i H ∧ Q (.ref D) H) ∨
    (J.go i H ∧ ∃ Nx : Hp → Prop, (∀ H', Nx H' → ∃ m', m' < m ∧ W (i + 1) m' H') ∧ ∀ x H', J.yld i H x H' →
      g x (wipe σ vs) H' fun σ2 H2 => wipe σ2 vs = wipe σ vs ∧ tt σ2 H2 fun b H3 => if b = true then te σ2 H3 (TurnK P w D Nx) else Nx H3)
variable {elt tg iter : Expr} {ifs : List Expr} {scope : Scope} {own : List (PySem.Str × Nat)} {pos pos' : Pos} {wi : TI} {g : TG} {tt : TT} {te : TE}
/-- the context of the block -/
abbrev Blk (X : Cx) (scope : Scope) (s : Shared) (H : Hp) (C : Addr) (cl : List (PySem.Str × Addr)) (fp : List Addr) : Cx := X.blk s H scope (compEnvC scope cl C X.env) fp
theorem pe_sck (calm : X.calm = true) (nd : X.N.Nodup) (hi : PI X tg iter wi) (ok : BlkOk X.N X.env.scope scope own)
    (hg : ∀ s H C cl fp, PG (Blk X scope s H C cl fp) tg g) (ht : ∀ s H C cl fp, PTs (Blk X scope s H C cl fp) ifs tt) (he : ∀ s H C cl fp, PE (Blk X scope s H C cl fp) elt te)
    (hs : ∀ x, foldedSetIterable iter X.env x = pure x := by intro _; rfl) :
    PE X (.SetComp elt [⟨tg, iter, ifs, 0⟩] scope pos) (tSck X.prog X.w wi g tt te (own.map (·.2))) := by
  refine ⟨fun pins s σ H Q I h => ?_⟩
  rw [PpSet.eval_SetComp]
  have captured : ∀ y ∈ scope.names, y.2 = .free → ∃ c, X.env.cells.lookup y.1 = some c := fun y hy e => (ok.free y hy e).elim (fun z => I.ok.has _ (.inl z)) fun z => I.ok.has _ (.inr z)
  refine wpAny_comprehension_free (use := none) rfl hs (closure_ok captured) ok.kind (fun y hy e => by rw [ok.uniq y hy, e]) (thn (hi.run pins s σ H _ I h) fun xv s1 q1 => thn q1 fun itv s2 q2 => ?_)
  obtain ⟨it, fp, tn, J, H2, ei, I2, T, st2, f2, q⟩ := q2
  subst ei
  refine PpSet.newSet_ok (newEnv_comp ?_)
  generalize eD : s2.heap.objs.size = D
  have freeD : H2 D = none := I2.hok.fresh (Nat.le_of_eq eD)
  obtain ⟨W, ⟨m0, w0⟩, turn⟩ := q D freeD
  -- the set, empty
  generalize es3 : ({ s2 with heap := s2.heap.push { cls := .type "set", dict := none, data := .set #[] 0 (.fresh 0 0 (!X.w.params.followText "set-order")) } } : Shared) = s3
  generalize eH3 : upd H2 D (SetK X.prog X.w D (fun _ => false) 0) = H3 at w0
  have heap3 : s3.heap = s2.heap.push { cls := .type "set", dict := none, data := .set #[] 0 (.fresh 0 0 (!X.w.params.followText "set-order")) } := by rw [← es3]
  have I3 : Inv X pins σ H3 s3 := by
    rw [← es3, ← eH3]
    refine I2.laid (t' := s2.toks) (fun b o e => Heap.get?_push_of_some _ e) (Nat.le_of_eq eD) (setK_new ?_)
    rw [← eD]
    exact ⟨_, #[], 0, _, Heap.get?_push_size _ rfl, ⟨rfl, rfl, rfl⟩, rfl, (fun e z => by simp at z), (fun k => by simp), (by decide), (by rfl), rfl⟩
  have below : ∀ b ∈ fp, b < s2.heap.objs.size := fun b hb => let ⟨_, e, _⟩ := T.obj _ _ st2 b hb; Heap.lt_size e
  have f3 : ∀ b ∈ fp, FpOk X pins H3 b ∧ b < s3.heap.objs.size := fun b hb => by
    have lt := below b hb
    refine ⟨⟨?_, (f2 b hb).2⟩, ?_⟩
    · rw [← eH3, upd_ne (by rw [← eD]; exact Nat.ne_of_lt lt)]
      exact (f2 b hb).1
    · rw [heap3, Heap.size_push]
      exact Nat.lt_succ_of_lt lt
  have st3 : tn 0 s3.heap := T.keep _ _ _ st2 fun b _ o e => by rw [heap3]; exact Heap.get?_push_of_some _ e
  have I4 := block_start I3 ok nd f3
  show codeAny _ _ (.compStart (.SetComp elt [⟨tg, iter, ifs, 0⟩] scope pos) 0 (.ref it) (.ref D) (compEnvC scope (cellsFrom (s3.heap.objs.size + 1) scope.names (cloFrom X.env.cells scope.names [])) s3.heap.objs.size X.env)) (compPost (model X.prog X.w) X.A X.xe none (EP X pins σ Q) (.ref D) s3.heap.objs.size) { s3 with heap := pushCells (s3.heap.push { cls := .type "dict", data := .dict #[] }) scope.names }
  generalize cellsFrom (s3.heap.objs.size + 1) scope.names (cloFrom X.env.cells scope.names []) = cl at I4 ⊢
  have pg := hg s3 H3 s3.heap.objs.size cl fp
  have pt := ht s3 H3 s3.heap.objs.size cl fp
  have pe := he s3 H3 s3.heap.objs.size cl fp
  unfold Blk at pg pt pe
  generalize ece : compEnvC scope cl s3.heap.objs.size X.env = ce at I4 pg pt pe ⊢
  have atC : ce.locals = s3.heap.objs.size := by rw [← ece]; rfl
  generalize es4 : ({ s3 with heap := pushCells (s3.heap.push { cls := .type "dict", data := .dict #[] }) scope.names } : Shared) = s4 at I4 ⊢
  have st4 : tn 0 s4.heap := T.keep _ _ _ st3 fun b _ o e => by rw [← es4]; exact pushCells_keeps _ _ _ _ (Heap.get?_push_of_some _ e)
  have still : ∀ {σ' : L2.St} {H' : Hp} {s' : Shared}, Inv (X.blk s3 H3 scope ce fp) [] σ' H' s' → (∀ b ∈ fp, H' b = none) → ∀ b ∈ fp, FpOk (X.blk s3 H3 scope ce fp) [] H' b := fun {σ' H' s'} J' un b hb =>
    ⟨un b hb, (J'.ok.exf b hb).1, J'.ok.exfs b hb, .inl hb, fun x c e => (J'.ok.exf b hb).2 x c e, fun p hp => absurd (show p ∈ ([] : List (Addr × Obj)) ++ [] from hp) (by simp)⟩
  refine PpSet.codeAny_compStart_set ?loop (T.self X.A 0 _ _ _ st4 ?loop)
  refine PpSet.compLoopS_any (fun n s' => ∃ i H', Inv (X.blk s3 H3 scope ce fp) [] (wipe σ (own.map (·.2))) H' s' ∧ tn i s'.heap ∧ (∀ b ∈ fp, H' b = none) ∧ W i n H') ?_ m0 ⟨0, H3, I4, st4, fun b hb => (f3 b hb).1.1, w0⟩
  rintro n s5 ⟨i, H5, I5, st5, un5, w5⟩
  rcases turn i n H5 w5 with ⟨stop, fin⟩ | ⟨go, Nx, next, step⟩
  · -- the end: back in the def
    refine thnF (T.done (X.blk s3 H3 scope ce fp) rfl rfl rfl calm i [] s5 _ H5 (fun _ _ => False) I5 (still I5 un5) st5 stop) fun r s6 ⟨er, I6⟩ => ?_
    subst er
    have I7 : Inv X pins σ H5 s6 := I3.call' (ch := fp) I6.os I6.base I6.hok I6.bare fun b hb => ⟨(f3 b hb).1.2.2.2.1, (f3 b hb).1.2.1, (f3 b hb).1.2.2.2.2.1, (f3 b hb).1.2.2.2.2.2⟩
    have unC : H5 s3.heap.objs.size = none := by
      have z : H5 ce.locals = none := I6.free
      rwa [atC] at z
    obtain ⟨m, ns, _⟩ := I6.loc
    have ns : s6.heap.Ns ce.locals m := ns
    rw [atC] at ns
    refine ⟨m, ns, fun h'' sb => ?_⟩
    obtain ⟨f0, f1, _, fr3, fr4, fr5⟩ := I3.fpOk (Nat.le_refl _) unC
    exact ⟨.ref D, H5, I7.turned (t' := s6.toks) (fun b o hb e => (sb.2 b hb).trans e) f0 f1 fr3 fr4 fr5, rfl, fin⟩
  · refine thnF (T.item (X.blk s3 H3 scope ce fp) rfl rfl rfl calm i [] s5 _ H5 (fun _ _ => False) I5 (still I5 un5) st5 go) fun r s6 ⟨u, er, q6⟩ => ?_
    subst er
    refine thnF q6 fun _ s7 ⟨x, H7, I7, r7, y7, st7, un7⟩ => ?_
    have I7' := I7.pinned (still I7 un7) (T.obj _ _ st7)
    refine thnF (pg.run _ s7 _ H7 x u _ I7' r7 (step x H7 y7)) fun _ s8 ⟨σ8, H8, I8, same, q8⟩ => ?_
    refine thnF (pt.run _ s8 σ8 H8 _ I8 q8) fun b s9 ⟨H9, I9, q9⟩ => ?_
    have back : ∀ {s' : Shared} {H' : Hp}, Inv (X.blk s3 H3 scope ce fp) ([] ++ pinsAt fp s7.heap) σ8 H' s' → Nx H' →
        ∃ m, m < n ∧ ∃ i H', Inv (X.blk s3 H3 scope ce fp) [] (wipe σ (own.map (·.2))) H' s' ∧ tn i s'.heap ∧ (∀ b ∈ fp, H' b = none) ∧ W i m H' := fun {s' H'} I' nx => by
      obtain ⟨m', lt, w'⟩ := next H' nx
      have pin : ∀ b ∈ fp, ∀ o, s7.heap.get? b = some o → s'.heap.get? b = some o ∧ H' b = none := fun b hb o e =>
        let z := I'.pin (b, o) (List.mem_append_right _ (List.mem_append_right _ (mem_pinsAt hb e)))
        ⟨z.1, z.2.1⟩
      have len : (wipe σ (own.map (·.2))).length = σ8.length := by rw [← same, wipe_length]
      refine ⟨m', lt, i + 1, H', (I'.unpinned (pins := [])).weak len (fun j v e => ?_), T.keep _ _ _ st7 fun b hb o e => (pin b hb o e).1, fun b hb => ?_, w'⟩
      · rw [← same] at e
        exact (wipe_some e).1
      · obtain ⟨o, e, _⟩ := T.obj _ _ st7 b hb
        exact (pin b hb o e).2
    cases b with
    | false =>
      simp only [Bool.false_eq_true, if_false] at q9 ⊢
      exact back I9 q9
    | true =>
      simp only [if_true] at q9 ⊢
      refine thnF (pe.run _ s9 σ8 H9 _ I9 q9) fun z s10 ⟨y, H10, I10, r10, k, S0, n0, ey, at0, room, nx⟩ => ?_
      subst ey
      exact add_key (X := X.blk s3 H3 scope ce fp) I10 at0 room r10 fun s11 I11 => back I11 nx
end
end Sx

set_option Elab.async false
set_option linter.all false
set_option maxRecDepth 100000
set_option maxHeartbeats 4000000
/-! What is walked is a list or a tuple. -/
namespace Lw
open PySem PySem.Spec PyProof.Rows L2
section
variable {X : Cx} {tg l : Expr} {t1 t2 : TI}
theorem PI.or (h1 : PI X tg l t1) (h2 : PI X tg l t2) : PI X tg l (fun σ H R => t1 σ H R ∨ t2 σ H R) := by
  refine ⟨fun pins s σ H R I h => ?_⟩
  rcases h with h | h
  · exact h1.run pins s σ H R I h
  · exact h2.run pins s σ H R I h
end
def SqA (K : PySem.W.Frag) (H : Hp) (a : Addr) (xs : List V) : Prop := SqL K H a xs ∨ SqT K H a xs
theorem SqA.same {K : PySem.W.Frag} {H H' : Hp} {a : Addr} {xs : List V} (e : Same H H') (h : SqA K H a xs) : SqA K H' a xs := h.elim (fun h => .inl (e.seq h)) fun h => .inr (same_tup e h)
abbrev iSeq (K : PySem.W.Frag) (tl : TE) : TI := fun σ H R => iList K tl σ H R ∨ iTup K tl σ H R
theorem pi_seq {X : Cx} {tg l : Expr} {tl : TE} (h : PE X l tl) : PI X tg l (iSeq X.K tl) := PI.or (pi_list h) (pi_tup h)
/-- how it is walked -/
inductive JA (K : PySem.W.Frag) (H : Hp) (a : Addr) (xs : List V) : L2.It → Prop
  | l (h : SqL K H a xs) : JA K H a xs (Itl K a)
  | t (h : SqT K H a xs) : JA K H a xs (Itt K a)
theorem seq_run {K : PySem.W.Frag} {a : Addr} {xs : List V} {σ : L2.St} {H : Hp} {i0 : Nat} {R : L2.It → Hp → Prop} (e : σ[i0]? = some (some (.ref a))) (hs : SqA K H a xs) (f : ∀ J, JA K H a xs J → R J H) : iList K (tVar i0) σ H R ∨ iTup K (tVar i0) σ H R := by
  rcases hs with hs | hs
  · exact .inl ⟨_, e, a, rfl, ⟨_, hs⟩, f _ (.l hs)⟩
  · exact .inr ⟨_, e, a, rfl, ⟨_, hs⟩, f _ (.t hs)⟩
theorem lc_of_J {K : PySem.W.Frag} {a : Addr} {H1 : Hp} {D : Addr} {i : Nat} {σ : L2.St} {xs : List V} {J : L2.It} (out : List (Option V)) {tt : TT} {te : TE} {Qd : Hp → Prop} (hl : JA K H1 a xs J) (un : H1 D = none) (T : Turns H1 i (σ.set i none) xs out tt te) (mono : MonoT tt)
    (fin : ∀ H', Same H1 H' → H' D = some (.lst (outOf out)) → Qd H') :
    ∃ W : Nat → Nat → Hp → Prop, (∃ m, W 0 m (upd H1 D (.lst []))) ∧ ∀ i' m H, W i' m H →
      (J.stop i' H ∧ Qd H) ∨ (J.go i' H ∧ ∃ Nx : Hp → Prop, (∀ H', Nx H' → ∃ m', m' < m ∧ W (i' + 1) m' H') ∧ ∀ x H', J.yld i' H x H' → gName i x (wipe σ [i]) H' fun σ2 H2 => wipe σ2 [i] = wipe σ [i] ∧ tt σ2 H2 fun b H3 =>
        if b = true then te σ2 H3 fun y H4 => ∃ acc, H4 D = some (.lst acc) ∧ acc.length < sizeLine ∧ Nx (upd H4 D (.lst (acc ++ [y]))) else Nx H3) := by
  cases hl with
  | l h => exact lc_of_list out h un T mono fin
  | t h => exact lc_of_tup out h un T mono fin
theorem for_J {K : PySem.W.Frag} {a : Addr} {xs : List V} {σ : L2.St} {H : Hp} {J : L2.It} {g : TG} {t : TS} {D : Ends} (hs : JA K H a xs J) (Pv : Nat → L2.St → Hp → Prop) (h0 : Pv 0 σ H) (keep : ∀ i σ' H', Pv i σ' H' → Same H H')
    (turn : ∀ i x σ' H', xs[i]? = some x → Pv i σ' H' → g x σ' H' fun σ2 H2 => t { D with nx := Pv (i + 1), ct := Pv (i + 1), bk := D.nx } σ2 H2) (done : ∀ σ' H', Pv xs.length σ' H' → D.nx σ' H') :
    ∃ W : Nat → Nat → L2.St → Hp → Prop, (∃ m, W 0 m σ H) ∧ ∀ i m σ H, W i m σ H →
      (J.stop i H ∧ D.nx σ H) ∨ (J.go i H ∧ ∃ N : L2.St → Hp → Prop, (∀ σ' H', N σ' H' → ∃ m', m' < m ∧ W (i + 1) m' σ' H') ∧ ∀ x H', J.yld i H x H' → g x σ H' fun σ2 H2 => t { D with nx := N, ct := N, bk := D.nx } σ2 H2) := by
  cases hs with
  | l h => exact for_list (K := K) (a := a) (xs := xs) Pv h0 (fun i σ' H' _ p => (keep i σ' H' p).seq h) turn done
  | t h => exact for_tup (K := K) (a := a) (xs := xs) Pv h0 (fun i σ' H' _ p => same_tup (keep i σ' H' p) h) turn done
/-- the turns of a set comprehension -/
structure TurnsK (H1 : Hp) (i : Nat) (σ : L2.St) (xs : List V) (ks : List Key) (te : TE) : Prop where
  len : ks.length = xs.length
  few : xs.length ≤ 1000
  el : ∀ (j : Nat) (x : V) (k : Key) (H : Hp) (Q : VK), xs[j]? = some x → ks[j]? = some k → Same H1 H → (∀ H', Same H H' → Q (kV k) H') → te (σ.set i (some x)) H Q
theorem turnK_core {P : Program} {w : World} {H1 H : Hp} {D : Addr} {i : Nat} {σ : L2.St} {xs : List V} {ks : List Key} {te : TE} (T : TurnsK H1 i (σ.set i none) xs ks te) {j : Nat} {x : V} (hx : xs[j]? = some x)
    (s1 : Same H1 H) (hD : H D = some (SetK P w D (fun k => decide (k ∈ ks.take j)) (Sx.nub (ks.take j)).length)) (un : H1 D = none) {Nx : Hp → Prop} (fin : ∀ H', Same H1 H' → H' D = some (SetK P w D (fun k => decide (k ∈ ks.take (j + 1))) (Sx.nub (ks.take (j + 1))).length) → Nx H') :
    gName i x (wipe σ [i]) H fun σ2 H2 => wipe σ2 [i] = wipe σ [i] ∧ tYes σ2 H2 fun b H3 => if b = true then te σ2 H3 (Sx.TurnK P w D Nx) else Nx H3 := by
  refine ⟨by simp [wipe], ?_⟩
  show if true = true then te ((σ.set i none).set i (some x)) H (Sx.TurnK P w D Nx) else Nx H
  refine iteT ?_
  have hj : j < ks.length := by rw [T.len]; exact (List.getElem?_eq_some_iff.mp hx).1
  have hk : ks[j]? = some ks[j] := List.getElem?_eq_getElem hj
  refine T.el j x ks[j] H _ hx hk s1 fun H4 s4 => ⟨ks[j], _, _, rfl, s4 _ _ hD, ?_, fin _ (fun b o eb => ?_) ?_⟩
  · have := Sx.len_nub_le _ (ks.take j) rfl
    rw [List.length_take] at this
    have l2 := T.few
    have l3 := T.len
    exact Nat.lt_of_le_of_lt (show (Sx.nub (ks.take j)).length + 1 ≤ 1001 by omega) (by decide)
  · rw [upd_ne (ne_of_none eb un)]
    exact s4 _ _ (s1 _ _ eb)
  · have tk : ks.take (j + 1) = ks.take j ++ [ks[j]] := by rw [List.take_add_one, hk]; rfl
    have e1 : (fun k => decide (k ∈ ks.take j) || decide (k = ks[j])) = fun k => decide (k ∈ ks.take (j + 1)) := by
      funext k
      have q : k ∈ ks.take (j + 1) ↔ k ∈ ks.take j ∨ k = ks[j] := by rw [tk, List.mem_append, List.mem_singleton]
      rw [decide_eq_decide.mpr q, Bool.decide_or]
    have e2 : (if decide (ks[j] ∈ ks.take j) = true then (Sx.nub (ks.take j)).length else (Sx.nub (ks.take j)).length + 1) = (Sx.nub (ks.take (j + 1))).length := by
      rw [tk, Sx.nub_snoc, Sx.len_put1]
      by_cases h : ks[j] ∈ ks.take j
      · rw [if_pos (decide_eq_true h), if_pos (Sx.mem_nub'.mpr h)]
      · rw [if_neg (by simpa using h), if_neg fun z => h (Sx.mem_nub'.mp z)]
    rw [upd_same]
    show some (SetK P w D (fun k => decide (k ∈ ks.take j) || decide (k = ks[j])) (if decide (ks[j] ∈ ks.take j) = true then (Sx.nub (ks.take j)).length else (Sx.nub (ks.take j)).length + 1)) = _
    rw [e1, e2]
theorem sck_of_J {P : Program} {w : World} {K : PySem.W.Frag} {a : Addr} {xs : List V} {ks : List Key} {σ : L2.St} {H1 : Hp} {D : Addr} {i : Nat} {te : TE} {Qd : Hp → Prop} {J : L2.It} (hs : JA K H1 a xs J) (un : H1 D = none) (T : TurnsK H1 i (σ.set i none) xs ks te)
    (fin : ∀ H', Same H1 H' → H' D = some (SetK P w D (fun k => decide (k ∈ ks)) (Sx.nub ks).length) → Qd H') :
    ∃ W : Nat → Nat → Hp → Prop, (∃ m, W 0 m (upd H1 D (SetK P w D (fun _ => false) 0))) ∧ ∀ i' m H, W i' m H →
      (J.stop i' H ∧ Qd H) ∨ (J.go i' H ∧ ∃ Nx : Hp → Prop, (∀ H', Nx H' → ∃ m', m' < m ∧ W (i' + 1) m' H') ∧ ∀ x H', J.yld i' H x H' →
        gName i x (wipe σ [i]) H' fun σ2 H2 => wipe σ2 [i] = wipe σ [i] ∧ tYes σ2 H2 fun b H3 => if b = true then te σ2 H3 (Sx.TurnK P w D Nx) else Nx H3) := by
  have all : ∀ {H' : Hp}, H' D = some (SetK P w D (fun k => decide (k ∈ ks.take xs.length)) (Sx.nub (ks.take xs.length)).length) → H' D = some (SetK P w D (fun k => decide (k ∈ ks)) (Sx.nub ks).length) := fun {H'} h => by
    rwa [← T.len, List.take_length] at h
  have zero : (upd H1 D (SetK P w D (fun _ => false) 0)) D = some (SetK P w D (fun k => decide (k ∈ ks.take 0)) (Sx.nub (ks.take 0)).length) := by
    rw [upd_same]
    have e1 : (fun k : Key => decide (k ∈ ks.take 0)) = fun _ => false := by
      funext k
      simp
    rw [e1]
    rfl
  refine ⟨fun j m H' => m = xs.length - j ∧ j ≤ xs.length ∧ Same H1 H' ∧ H' D = some (SetK P w D (fun k => decide (k ∈ ks.take j)) (Sx.nub (ks.take j)).length), ⟨xs.length, by simp, Nat.zero_le _, same_new un, zero⟩, ?_⟩
  rintro j m H' ⟨rfl, hj, s1, hD⟩
  cases hs with
  | l hs =>
    have q : SqL K H' a xs := s1.seq hs
    by_cases lt : j < xs.length
    · refine .inr ⟨⟨xs, xs[j], q, by simp [lt]⟩, fun H' => Same H1 H' ∧ H' D = some (SetK P w D (fun k => decide (k ∈ ks.take (j + 1))) (Sx.nub (ks.take (j + 1))).length), fun H' p' => ⟨xs.length - (j + 1), by omega, rfl, lt, p'⟩, fun x H'' y => ?_⟩
      obtain ⟨e, y⟩ := y
      subst e
      exact turnK_core T (y xs q) s1 hD un fun _ a b => ⟨a, b⟩
    · have e : j = xs.length := by omega
      subst e
      exact .inl ⟨⟨xs, q, Nat.le_refl _⟩, fin H' s1 (all hD)⟩
  | t hs =>
    have q : SqT K H' a xs := same_tup s1 hs
    by_cases lt : j < xs.length
    · refine .inr ⟨⟨xs, xs[j], q, by simp [lt]⟩, fun H' => Same H1 H' ∧ H' D = some (SetK P w D (fun k => decide (k ∈ ks.take (j + 1))) (Sx.nub (ks.take (j + 1))).length), fun H' p' => ⟨xs.length - (j + 1), by omega, rfl, lt, p'⟩, fun x H'' y => ?_⟩
      obtain ⟨e, y⟩ := y
      subst e
      exact turnK_core T (y xs q) s1 hD un fun _ a b => ⟨a, b⟩
    · have e : j = xs.length := by omega
      subst e
      exact .inl ⟨⟨xs, q, Nat.le_refl _⟩, fin H' s1 (all hD)⟩
end Lw

set_option Elab.async false
set_option linter.all false
set_option maxRecDepth 100000
set_option maxHeartbeats 4000000
namespace Sx
open PySem PySem.Spec PyProof.Rows L2
abbrev eset (led : Bool) : Obj := { cls := .type "set", dict := none, data := .set #[] 0 (.fresh 0 0 led) }
section
variable {P : Program} {w : World} {A : Around} {E : Value → Shared → Prop} {s : Shared}
theorem set_of_list {l : Addr} {items : Array Value} {ks : List Key} {Q : Value → Shared → Prop} (calm : A.handled = none) (hl : s.heap.IsList l items) (rk : Vals (ks.map kV) items.toList) (few : items.size + 1 < scanBound)
    (fin : ∀ (h' : Heap) (tk : Nat), HasSet P w h' s.heap.objs.size ks → (∀ b o, b < s.heap.objs.size → s.heap.get? b = some o → h'.get? b = some o) → Q (.ref s.heap.objs.size) { s with heap := h', toks := tk }) :
    wpAny (model P w) A (call (.type "set") [.ref l]) Q E s := by
  obtain ⟨c0, tl0, mro0⟩ := PySem.F.called_set.mro
  have made0 := PySem.F.called_set.made
  have sub0 := PySem.F.called_set.sub
  refine wpAny_call (codeAny_of_tree ?_)
  show wpAny (model P w) _ (callAny (.type "set") _) _ _ _
  refine wpAny_pure ⟨Code.quiet_builtin _ (by decide +kernel), codeAny_builtin PySem.F.entry_type_call ?_⟩
  rw [Around.under_plain (weight_type_call_type ("set") [Value.ref l] []) rfl]
  have nt0 := PySem.F.called_set.notType
  have cc0 := PySem.F.called_set.canCreate
  have tc0 := PySem.F.typeCall_set_1 (Value.ref l)
  repeat (any_goals (first | assumption | wp_step))
  refine codeAny_mono (code_set_new_1 (.ref l) (E := E) (Q₁ := fun ob s1 => ∃ led : Bool, ob = .ref s.heap.objs.size ∧ s1 = { s with heap := s.heap.push (eset led) }) fun led => ⟨led, rfl, rfl⟩) fun r s1 hr => ?_
  cases r with
  | error e => exact hr
  | ok fl =>
    cases fl with
    | next => exact hr.elim
    | brk => exact hr.elim
    | cont => exact hr.elim
    | ret ob =>
      obtain ⟨led, rfl, rfl⟩ := hr
      have gS : (s.heap.push (eset led)).get? s.heap.objs.size = some (eset led) := Heap.get?_push_size _ rfl
      have tS : Shared.TypeIs { s with heap := s.heap.push (eset led) } (.ref s.heap.objs.size) "set" := ⟨_, gS, rfl⟩
      have li0 := PySem.F.called_set.init.lookup
      have bi0 := PySem.F.called_set.init.bind (Value.ref s.heap.objs.size)
      repeat (any_goals (first | assumption | wp_step))
      refine codeAny_mono (codeAny_call_builtin (R := wants (fun r s2 => r = .none ∧ ∃ h' tk, s2 = { s with heap := h', toks := tk } ∧ HasSet P w h' s.heap.objs.size ks ∧ (∀ b o, b < s.heap.objs.size → s.heap.get? b = some o → h'.get? b = some o)) E)
        PySem.F.called_set.init.plain PySem.F.entry_set_init (check_set_init_1 tS ?_)) fun r2 s2 hr2 => ?_
      · obtain ⟨ol, gl, cl0, nl, dl0⟩ := hl
        obtain ⟨oc, od, ot, osl⟩ := ol
        simp only at cl0 dl0
        subst cl0; subst dl0
        have gl' : (s.heap.push (eset led)).get? l = some { cls := .type "list", dict := od, data := .seq items nl, slots := osl } := Heap.get?_push_of_some _ gl
        have sb1 := PySem.F.sub_list_set
        have sb2 := PySem.F.sub_list_frozenset
        have nd0 : (Value.type "list" == Value.type "dict") = false := by decide
        have hl1 : (s.heap.push (eset led)).IsList l items := ⟨_, gl', rfl, nl, rfl⟩
        unfold Builtin.«set.__init__» noKeywords Builtin.Frozenset.updateFrom
        generalize ePI : pyIter = PI
        wp_walk
        subst ePI
        refine wpAny_pyIter_list hl1 ?_
        refine wpAny_bind (wpAny_runValue ?_)
        have llt : l < s.heap.objs.size := Heap.lt_size gl
        have calm3 : A.in1.in1.in1.handled = none := by simp [calm]
        have apart : l ≠ (s.heap.push (eset led)).objs.size := by
          rw [Heap.size_push]
          exact Nat.ne_of_lt (Nat.lt_succ_of_lt llt)
        have away : s.heap.objs.size ∉ [(s.heap.push (eset led)).objs.size, l] := fun z => by
          rw [Heap.size_push] at z
          rcases List.mem_cons.mp z with z | z
          · exact absurd z (Nat.ne_of_lt (Nat.lt_succ_self _))
          · exact absurd (List.mem_singleton.mp z) (Nat.ne_of_gt llt)
        have vals : ∀ (i : Nat) (v : Value), items[i]? = some v → ∃ k, ks[i]? = some k ∧ RelV (kV k) v := fun i v hv => by
          have hv' : items.toList[i]? = some v := by rw [Array.getElem?_toList]; exact hv
          cases e : ks[i]? with
          | none =>
            have e2 : (ks.map kV)[i]? = none := by rw [List.getElem?_map, e]; rfl
            rw [rk.none_of e2] at hv'; cases hv'
          | some k =>
            have e2 : (ks.map kV)[i]? = some (kV k) := by rw [List.getElem?_map, e]; rfl
            obtain ⟨u, hu, ru⟩ := rk.get e2
            rw [hv'] at hu; cases hu
            exact ⟨k, rfl, ru⟩
        have hlen : ks.length = items.size := by
          have q := rk.length
          rw [List.length_map, Array.length_toList] at q
          exact q
        refine fill_loop ((Walks.list calm3 _ l apart items).toS) s.heap.objs.size away ks hlen vals few (items.size - 0) 0 _ (by omega) (Nat.zero_le _)
          ⟨⟨_, Heap.get?_push_size _ rfl, rfl, rfl⟩, (hl1.push _)⟩ ?first ?last
        case first =>
          have g0 : ((s.heap.push (eset led)).push { cls := .type "list_iterator", data := .fields #[.ref l, .int 0 0] }).get? s.heap.objs.size = some (eset led) := Heap.get?_push_of_some _ gS
          exact PyProof.Rows.SetOf_congr ((PyProof.Rows.setObjOf_fresh (knd := mixKind P w) led).setOf g0 (by unfold scanBound; omega)) (fun k => by simp) rfl
        case last =>
          intro s3 mv hs3
          obtain ⟨h3, g3, d3, t3, os3⟩ := s3
          have eg : g3 = s.gens := mv.gens
          have ed : d3 = s.drawn := mv.drawn
          have eo : os3 = s.os := mv.os
          subst eg; subst ed; subst eo
          show wpAny (model P w) _ _ _ _ _
          refine wpAny_pure ?_
          show wpAny (model P w) _ (ret Value.none) _ _ _
          refine wpAny_pure ⟨rfl, h3, t3, rfl, hs3, fun b o hb e => ?_⟩
          refine mv.heap b o (fun z => ?_) (Heap.get?_push_of_some _ (Heap.get?_push_of_some _ e))
          rcases List.mem_cons.mp z with z | z
          · exact absurd z (Nat.ne_of_lt hb)
          · have z1 := List.mem_singleton.mp z
            rw [Heap.size_push] at z1
            exact absurd z1 (Nat.ne_of_lt (Nat.lt_succ_of_lt hb))
      · cases r2 with
        | error e => exact hr2
        | ok fl2 =>
          cases fl2 with
          | ret r =>
            obtain ⟨rfl, h', tk, rfl, a1, a2⟩ := hr2
            repeat (any_goals (first | assumption | wp_step))
            exact fin _ _ a1 a2
          | _ => exact hr2.elim
theorem set_of_tuple {l : Addr} {items : Array Value} {ks : List Key} {Q : Value → Shared → Prop} (calm : A.handled = none) (hl : s.heap.IsTuple l items) (rk : Vals (ks.map kV) items.toList) (few : items.size + 1 < scanBound)
    (fin : ∀ (h' : Heap) (tk : Nat), HasSet P w h' s.heap.objs.size ks → (∀ b o, b < s.heap.objs.size → s.heap.get? b = some o → h'.get? b = some o) → Q (.ref s.heap.objs.size) { s with heap := h', toks := tk }) :
    wpAny (model P w) A (call (.type "set") [.ref l]) Q E s := by
  obtain ⟨c0, tl0, mro0⟩ := PySem.F.called_set.mro
  have made0 := PySem.F.called_set.made
  have sub0 := PySem.F.called_set.sub
  refine wpAny_call (codeAny_of_tree ?_)
  show wpAny (model P w) _ (callAny (.type "set") _) _ _ _
  refine wpAny_pure ⟨Code.quiet_builtin _ (by decide +kernel), codeAny_builtin PySem.F.entry_type_call ?_⟩
  rw [Around.under_plain (weight_type_call_type ("set") [Value.ref l] []) rfl]
  have nt0 := PySem.F.called_set.notType
  have cc0 := PySem.F.called_set.canCreate
  have tc0 := PySem.F.typeCall_set_1 (Value.ref l)
  repeat (any_goals (first | assumption | wp_step))
  refine codeAny_mono (code_set_new_1 (.ref l) (E := E) (Q₁ := fun ob s1 => ∃ led : Bool, ob = .ref s.heap.objs.size ∧ s1 = { s with heap := s.heap.push (eset led) }) fun led => ⟨led, rfl, rfl⟩) fun r s1 hr => ?_
  cases r with
  | error e => exact hr
  | ok fl =>
    cases fl with
    | next => exact hr.elim
    | brk => exact hr.elim
    | cont => exact hr.elim
    | ret ob =>
      obtain ⟨led, rfl, rfl⟩ := hr
      have gS : (s.heap.push (eset led)).get? s.heap.objs.size = some (eset led) := Heap.get?_push_size _ rfl
      have tS : Shared.TypeIs { s with heap := s.heap.push (eset led) } (.ref s.heap.objs.size) "set" := ⟨_, gS, rfl⟩
      have li0 := PySem.F.called_set.init.lookup
      have bi0 := PySem.F.called_set.init.bind (Value.ref s.heap.objs.size)
      repeat (any_goals (first | assumption | wp_step))
      refine codeAny_mono (codeAny_call_builtin (R := wants (fun r s2 => r = .none ∧ ∃ h' tk, s2 = { s with heap := h', toks := tk } ∧ HasSet P w h' s.heap.objs.size ks ∧ (∀ b o, b < s.heap.objs.size → s.heap.get? b = some o → h'.get? b = some o)) E)
        PySem.F.called_set.init.plain PySem.F.entry_set_init (check_set_init_1 tS ?_)) fun r2 s2 hr2 => ?_
      · obtain ⟨ol, gl, cl0, nl, dl0⟩ := hl
        obtain ⟨oc, od, ot, osl⟩ := ol
        simp only at cl0 dl0
        subst cl0; subst dl0
        have gl' : (s.heap.push (eset led)).get? l = some { cls := .type "tuple", dict := od, data := .seq items nl, slots := osl } := Heap.get?_push_of_some _ gl
        have sb1 := PySem.F.sub_tuple_set
        have sb2 := PySem.F.sub_tuple_frozenset
        have nd0 : (Value.type "tuple" == Value.type "dict") = false := by decide
        have hl1 : (s.heap.push (eset led)).IsTuple l items := ⟨_, gl', rfl, nl, rfl⟩
        unfold Builtin.«set.__init__» noKeywords Builtin.Frozenset.updateFrom
        generalize ePI : pyIter = PI
        wp_walk
        subst ePI
        refine wpAny_pyIter_tuple hl1 ?_
        refine wpAny_bind (wpAny_runValue ?_)
        have llt : l < s.heap.objs.size := Heap.lt_size gl
        have calm3 : A.in1.in1.in1.handled = none := by simp [calm]
        have apart : l ≠ (s.heap.push (eset led)).objs.size := by
          rw [Heap.size_push]
          exact Nat.ne_of_lt (Nat.lt_succ_of_lt llt)
        have away : s.heap.objs.size ∉ [(s.heap.push (eset led)).objs.size, l] := fun z => by
          rw [Heap.size_push] at z
          rcases List.mem_cons.mp z with z | z
          · exact absurd z (Nat.ne_of_lt (Nat.lt_succ_self _))
          · exact absurd (List.mem_singleton.mp z) (Nat.ne_of_gt llt)
        have vals : ∀ (i : Nat) (v : Value), items[i]? = some v → ∃ k, ks[i]? = some k ∧ RelV (kV k) v := fun i v hv => by
          have hv' : items.toList[i]? = some v := by rw [Array.getElem?_toList]; exact hv
          cases e : ks[i]? with
          | none =>
            have e2 : (ks.map kV)[i]? = none := by rw [List.getElem?_map, e]; rfl
            rw [rk.none_of e2] at hv'; cases hv'
          | some k =>
            have e2 : (ks.map kV)[i]? = some (kV k) := by rw [List.getElem?_map, e]; rfl
            obtain ⟨u, hu, ru⟩ := rk.get e2
            rw [hv'] at hu; cases hu
            exact ⟨k, rfl, ru⟩
        have hlen : ks.length = items.size := by
          have q := rk.length
          rw [List.length_map, Array.length_toList] at q
          exact q
        refine fill_loop ((Walks.tuple calm3 _ l apart items).toS) s.heap.objs.size away ks hlen vals few (items.size - 0) 0 _ (by omega) (Nat.zero_le _)
          ⟨⟨_, Heap.get?_push_size _ rfl, rfl, rfl⟩, (hl1.push _)⟩ ?first ?last
        case first =>
          have g0 : ((s.heap.push (eset led)).push { cls := .type "tuple_iterator", data := .fields #[.ref l, .int 0 0] }).get? s.heap.objs.size = some (eset led) := Heap.get?_push_of_some _ gS
          exact PyProof.Rows.SetOf_congr ((PyProof.Rows.setObjOf_fresh (knd := mixKind P w) led).setOf g0 (by unfold scanBound; omega)) (fun k => by simp) rfl
        case last =>
          intro s3 mv hs3
          obtain ⟨h3, g3, d3, t3, os3⟩ := s3
          have eg : g3 = s.gens := mv.gens
          have ed : d3 = s.drawn := mv.drawn
          have eo : os3 = s.os := mv.os
          subst eg; subst ed; subst eo
          show wpAny (model P w) _ _ _ _ _
          refine wpAny_pure ?_
          show wpAny (model P w) _ (ret Value.none) _ _ _
          refine wpAny_pure ⟨rfl, h3, t3, rfl, hs3, fun b o hb e => ?_⟩
          refine mv.heap b o (fun z => ?_) (Heap.get?_push_of_some _ (Heap.get?_push_of_some _ e))
          rcases List.mem_cons.mp z with z | z
          · exact absurd z (Nat.ne_of_lt hb)
          · have z1 := List.mem_singleton.mp z
            rw [Heap.size_push] at z1
            exact absurd z1 (Nat.ne_of_lt (Nat.lt_succ_of_lt hb))
      · cases r2 with
        | error e => exact hr2
        | ok fl2 =>
          cases fl2 with
          | ret r =>
            obtain ⟨rfl, h', tk, rfl, a1, a2⟩ := hr2
            repeat (any_goals (first | assumption | wp_step))
            exact fin _ _ a1 a2
          | _ => exact hr2.elim
end

/-! ### over the layer -/
section
variable {X : Cx}
/-- set(xs), xs a list or a tuple of keys -/
def rSetOf (K : PySem.W.Frag) (P : Program) (w : World) : List V → Hp → VK → Prop := fun xs H Q => ∃ (l : Addr) (ks : List Key), xs = [V.ref l] ∧ (SqL K H l (ks.map kV) ∨ SqT K H l (ks.map kV)) ∧ ks.length ≤ 4000 ∧
  ∀ p, H p = none → Q (.ref p) (upd H p (SetK P w p (fun k => decide (k ∈ ks)) (nub ks).length))
theorem cr_setOf (calm : X.calm = true) : CallR X (.type "set") (rSetOf X.K X.prog X.w) := by
  intro pins s σ H xs us Q I r h
  obtain ⟨l, ks, rfl, hl, few, q⟩ := h
  obtain ⟨u, rfl, rl⟩ := vals1 r
  obtain rfl : u = Value.ref l := rl
  have un : H s.heap.objs.size = none := I.hok.fresh (Nat.le_refl _)
  have done : ∀ (h' : Heap) (tk : Nat), HasSet X.prog X.w h' s.heap.objs.size ks → (∀ b o, b < s.heap.objs.size → s.heap.get? b = some o → h'.get? b = some o) → EP X pins σ Q (.ref s.heap.objs.size) { s with heap := h', toks := tk } := fun h' tk hs kp =>
    ⟨.ref s.heap.objs.size, upd H s.heap.objs.size (SetK X.prog X.w s.heap.objs.size (fun k => decide (k ∈ ks)) (nub ks).length), I.laid (t' := tk) (fun b o e => kp b o (Heap.lt_size e) e) (Nat.le_refl _) (setK_new hs), rfl, q _ un⟩
  rcases hl with hl | hl
  · obtain ⟨its, rv, pl, hz⟩ := I.list hl
    have e1 := rv.length
    rw [List.length_map] at e1
    exact set_of_list (I.ok.hd calm) pl.isList (by simpa using rv) (by rw [List.size_toArray]; unfold scanBound; omega) done
  · obtain ⟨its, rv, pl, hz⟩ := I.tuple hl
    have e1 := rv.length
    rw [List.length_map] at e1
    exact set_of_tuple (I.ok.hd calm) pl (by simpa using rv) (by rw [List.size_toArray]; unfold scanBound; omega) done
/-- len(s), s a set of keys -/
def rLenK (P : Program) (w : World) : List V → Hp → VK → Prop := fun xs H Q => ∃ (a : Addr) (S : Key → Bool) (n : Nat), xs = [V.ref a] ∧ H a = some (SetK P w a S n) ∧ Q (.int (n : Nat)) H
theorem cr_lenK : CallR X (.builtin "len") (rLenK X.prog X.w) := by
  intro pins s σ H xs us Q I r h
  obtain ⟨a, S, n, rfl, ha, q⟩ := h
  obtain ⟨u, rfl, rl⟩ := vals1 r
  obtain rfl : u = Value.ref a := rl
  obtain ⟨o, es, ep, t, ho, hex, hd, _, _, hb, hf, hn⟩ := setK_get I ha
  refine call_len_set ho hex hd hf (by unfold scanBound at hb; omega) ⟨.int (n : Nat), H, I.tok _, ⟨_, by rw [hn]⟩, q⟩
/-- either of two rules for one call -/
theorem CallR.or {f : Value} {r r' : List V → Hp → VK → Prop} (h : CallR X f r) (h' : CallR X f r') : CallR X f (fun xs H Q => r xs H Q ∨ r' xs H Q) := by
  intro pins s σ H xs us Q I rv q
  rcases q with q | q
  · exact h pins s σ H xs us Q I rv q
  · exact h' pins s σ H xs us Q I rv q
end
end Sx

set_option Elab.async false
set_option linter.all false
set_option maxRecDepth 100000
set_option maxHeartbeats 4000000
namespace K2
open PySem L2 Lw
/-! ### ways -/
def headOf : PyData → Str
  | .tuple (.str z :: _) => z
  | _ => Str.empty
def waysD (ds : List PyData) : Bool := !ds.isEmpty && ds.all wayOk && decide ((ds.map headOf).Nodup)
def waysOk : PyData → Bool
  | .list ds => waysD ds
  | .tuple ds => waysD ds
  | _ => false
theorem wayOk_is {d : PyData} (h : wayOk d = true) : ∃ y z, d = .tuple [.str y, .str z] ∧ nameOk y = true ∧ nameOk z = true := by
  match d, h with
  | .tuple [a, b], h =>
    have h' : (nameD a && nameD b) = true := h
    obtain ⟨h1, h2⟩ := Bool.and_eq_true_iff.mp h'
    match a, b, h1, h2 with
    | .str y, .str z, h1, h2 => exact ⟨y, z, rfl, h1, h2⟩
def spWays (K : PySem.W.Frag) : Sp := fun vs H Q _ => ∃ (v : V) (d : PyData), vs = [v] ∧ Dp K H v d ∧ fine d = true ∧ ∀ H', Same H H' → Q (.bl (waysOk d)) H'
theorem nodup_keys : ∀ {l : List Str}, (l.map (Sum.inr : Str → Key)).Nodup ↔ l.Nodup
  | [] => by simp
  | x :: r => by
    have ih := nodup_keys (l := r)
    rw [List.map_cons, List.nodup_cons, List.nodup_cons, ih]
    refine and_congr (not_congr ?_) Iff.rfl
    rw [List.mem_map]
    constructor
    · rintro ⟨y, hy, e⟩
      cases e
      exact hy
    · exact fun h => ⟨x, h, rfl⟩
/-- a comprehension that asks each thing of a list of data -/
theorem turns_data {K : PySem.W.Frag} {H1 : Hp} {i : Nat} {σ : L2.St} {te : TE} (f : PyData → V) : ∀ {xs : List V} {ds : List PyData}, DpAll K H1 xs ds → xs.length ≤ 1000 →
    (∀ x d H (Q : VK), x ∈ xs → d ∈ ds → Dp K H x d → Same H1 H → (∀ H', Same H H' → Q (f d) H') → te (σ.set i (some x)) H Q) → Turns H1 i σ xs (ds.map fun d => some (f d)) tYes te := fun {xs ds} ha few el => by
  refine ⟨by rw [List.length_map, dpAll_len ha], Nat.le_trans few (by decide), fun j x y H Q hx hy s1 q => ?_, fun j x H hx hy _ => ?_⟩
  · obtain ⟨d, ed, hd⟩ := dpAll_at ha hx
    rw [List.getElem?_map, ed] at hy
    obtain rfl : f d = y := by simpa using hy
    exact ⟨rfl, Same.refl H, el x d H Q (List.mem_of_getElem? hx) (List.mem_of_getElem? ed) (dp_same s1 _ _ hd) s1 q⟩
  · rw [List.getElem?_map] at hy
    cases e : ds[j]? with
    | none => rw [e] at hy; cases hy
    | some d => rw [e] at hy; cases hy
theorem outOf_data (f : PyData → V) (ds : List PyData) : outOf (ds.map fun d => some (f d)) = ds.map f := by
  unfold outOf
  induction ds with
  | nil => rfl
  | cons d r ih =>
    rw [List.map_cons, List.map_cons, List.filterMap_cons]
    exact congrArg _ ih
theorem seq_or {K : PySem.W.Frag} {H : Hp} {v : V} {d : PyData} (hd : Dp K H v d) (hz : fine d = true) :
    (∃ (p : Addr) (xs : List V) (ds : List PyData), v = .ref p ∧ SqA K H p xs ∧ DpAll K H xs ds ∧ ds.length ≤ 1000 ∧ fineAll ds = true ∧ isSeq d = true ∧ (d = .list ds ∨ d = .tuple ds)) ∨ isSeq d = false := by
  cases d with
  | list ds =>
    cases hd with
    | lst hs ha => exact .inl ⟨_, _, ds, rfl, .inl hs, ha, (fine_list hz).1, (fine_list hz).2, rfl, .inl rfl⟩
  | tuple ds =>
    cases hd with
    | tup hs ha => exact .inl ⟨_, _, ds, rfl, .inr hs, ha, (fine_tup hz).1, (fine_tup hz).2, rfl, .inr rfl⟩
  | _ => exact .inr rfl
section
variable {P : Program} {w : World} {K : PySem.W.Frag} {mg : Str → Option Value} {base : Heap} {a : Ad}
theorem scWays : FnScope ["value", "way"] ["value"] (defScope sWays) := ⟨rfl, rfl, rfl, by decide +kernel, rfl, by decide +kernel, by decide +kernel⟩
theorem Txt.okWays (T : Txt K mg a) : FnOk P w K mg base CX0 3 a.fWs a.dWs ["value"] (spWays K) := by
  refine T.areWays.F.ok scWays (fun vs H Q E h => ?_) (fun cdv A outer s H vs Q E hr h => ?_)
  · obtain ⟨v, d, rfl, _⟩ := h
    rfl
  · obtain ⟨v, d, rfl, hd, hz, fin⟩ := h
    refine ⟨_, pss_cons (ps_if (PW.pt (pw_or (pt_not (pt_val (pe_callB call_isiT (by rfl) T.tIs PyProof.Rows.boot_isinstance (pa_cons (pv 0) (pa_cons (pe_tup (pa_cons (pe_bltn (v := .ty "list") (by rfl) T.tList PyProof.Rows.boot_list rfl) (pa_cons (pe_bltn (v := .ty "tuple") (by rfl) T.tTuple PyProof.Rows.boot_tuple rfl) pa_nil))) pa_nil)))))
        (pw_or1 (pt_cmpR op_eq (pe_callB call_len_seq (by rfl) T.tLen PySem.boot_len (pa_cons (pv 0) pa_nil)) pe_int (nomark _))))) (pss_one (ps_ret pe_bl)) pss_nil)
      (pss_cons (ps_if (pt_not (pt_val (pe_callB (cr_all rfl) (by rfl) T.tAll PyProof.Rows.boot_all (pa_cons (pe_lc (own := [("way", 1)]) (g := gName 1) (tt := tYes) (by rfl) scWays.nd (pi_seq (pv 0))
          (blkOk_by (own := [("way", 1)]) (N := ["value", "way"]) (sc := defScope sWays) (by decide +kernel)) (fun _ _ _ _ _ => pg_name (i := 1) scWays.nd rfl (Or.inl rfl)) (fun _ _ _ _ _ => pts_nil)
          (fun _ _ _ _ _ => pe_call T.okW hr rfl T.isWay.g T.isWay.F.kp T.isWay.b .nil pass0 (pa_cons (pv 1) pa_nil))) pa_nil)))) (pss_one (ps_ret pe_bl)) pss_nil)
      (pss_one (ps_ret (pe_cmpR op_eq (pe_callB Sx.cr_lenK (by rfl) T.tLen PySem.boot_len (pa_cons (Sx.pe_sck (own := [("way", 1)]) (g := gName 1) (tt := tYes) (te := tOp (rIxT K) (tVar 1) (tC (.int 0))) (by rfl) scWays.nd (pi_seq (pv 0))
          (blkOk_by (own := [("way", 1)]) (N := ["value", "way"]) (sc := defScope sWays) (by decide +kernel)) (fun _ _ _ _ _ => pg_name (i := 1) scWays.nd rfl (Or.inl rfl)) (fun _ _ _ _ _ => pts_nil)
          (fun _ _ _ _ _ => pe_ix ix_tup (pv 1) pe_int (fun _ _ => rfl))) pa_nil)) (pe_callB call_len_seq (by rfl) T.tLen PySem.boot_len (pa_cons (pv 0) pa_nil)) (nomark _))))), ?_⟩
    refine ⟨_, rfl, (by show 2 ≤ sizeLine; decide), fun tp hp => ?_⟩
    have s0 : Same H (upd H tp (.tup [.ty "list", .ty "tuple"])) := same_new hp
    have hd0 := dp_same s0 _ _ hd
    refine ⟨v, tp, _, _, _, _, rfl, upd_same, .cons (.ty "list") (.cons (.ty "tuple") .nil), ty_data hd0, kit_seq (no_dict hd), _, rfl, ?_⟩
    -- a list or a tuple
    rcases seq_or hd hz with ⟨p, xs, ds, rfl, hs, ha, few, hf, es, ed⟩ | es
    · rw [es]
      have el := dpAll_len ha
      have hs0 := hs.same s0
      have ha0 := dpAll_same s0 _ _ ha
      have ew : waysOk d = waysD ds := by rcases ed with rfl | rfl <;> rfl
      rw [ew] at fin
      refine iteF ⟨_, rfl, p, xs, rfl, hs0, rfl, _, rfl, ?_⟩
      rw [dec_int]
      by_cases e : xs.length = 0
      · have ed : ds = [] := List.length_eq_zero_iff.mp (el ▸ e)
        subst ed
        rw [show ((xs.length : Int) == 0) = true from by simpa using e]
        exact iteT (fin _ s0)
      · rw [show ((xs.length : Int) == 0) = false from by simpa using (by omega : (xs.length : Int) ≠ 0)]
        refine iteF ?_
        have few' : xs.length ≤ 1000 := el ▸ few
        refine seq_run rfl hs0 fun J hJ D un => lc_of_J (ds.map fun d => some (.bl (wayOk d))) hJ un (turns_data (fun d => .bl (wayOk d)) ha0 few' fun x d H2 Q2 _ hm hx _ q => ?_) mono_yes fun H1 s1 h1 => ?_
        · exact ⟨_, rfl, x, d, rfl, hx, fineAll_mem hf hm, q⟩
        · rw [outOf_data] at h1
          have e1 : ds.map (fun d => V.bl (wayOk d)) = (ds.map wayOk).map V.bl := by rw [List.map_map]; rfl
          rw [e1] at h1
          refine ⟨D, _, rfl, SqL.of h1, _, rfl, ?_⟩
          have e2 : (ds.map wayOk).all id = ds.all wayOk := by rw [List.all_map]; rfl
          rw [e2]
          have s01 := s0.trans s1
          have ne : ds.isEmpty = false := by
            cases ds with
            | nil => exact absurd el e
            | cons _ _ => rfl
          cases ea : ds.all wayOk with
          | false =>
            refine iteT ?_
            have z := fin _ s01
            rwa [show waysD ds = false from by rw [waysD, ea, Bool.and_false, Bool.false_and]] at z
          | true =>
            refine iteF ?_
            have all : ∀ d ∈ ds, wayOk d = true := List.all_eq_true.mp ea
            have ha1 := dpAll_same s1 _ _ ha0
            refine seq_run rfl (hs0.same s1) fun J hJ D2 un2 => sck_of_J (ks := ds.map fun d => Sum.inr (headOf d)) hJ un2 ⟨by rw [List.length_map, el], few', fun j x k H2 Q2 hx hk s2 q => ?_⟩ fun H2 s2 h2 => ?_
            · obtain ⟨d, ed, hd⟩ := dpAll_at ha1 hx
              rw [List.getElem?_map, ed] at hk
              obtain rfl : Sum.inr (headOf d) = k := by simpa using hk
              obtain ⟨y, z, rfl, _, _⟩ := wayOk_is (all d (List.mem_of_getElem? ed))
              cases hd with
              | @tup p2 zs _ hs2 ha2 =>
                cases ha2 with
                | cons hy hr =>
                  cases hy
                  exact ⟨_, rfl, p2, _, 0, _, rfl, rfl, same_tup s2 hs2, atI_nat (j := 0) rfl, q H2 (Same.refl H2)⟩
            · refine ⟨D2, _, _, rfl, h2, _, rfl, p, xs, rfl, (hs0.same s1).same s2, rfl, ?_⟩
              rw [dec_int]
              have z := fin H2 (s01.trans s2)
              have e3 : waysD ds = (((Sx.nub (ds.map fun d => (Sum.inr (headOf d) : Key))).length : Int) == (xs.length : Int)) := by
                have e4 : (ds.map fun d => (Sum.inr (headOf d) : Key)) = (ds.map headOf).map Sum.inr := by rw [List.map_map]; rfl
                rw [waysD, ne, ea, e4, Bool.eq_iff_iff]
                have e5 := Sx.nub_nodup_iff (l := (ds.map headOf).map (Sum.inr : Str → Key))
                rw [nodup_keys, List.length_map, List.length_map] at e5
                rw [show (!false && true && decide ((ds.map headOf).Nodup)) = decide ((ds.map headOf).Nodup) from rfl, decide_eq_true_iff, ← e5, beq_iff_eq, el]
                omega
              rwa [e3] at z
    · rw [es]
      have ew : waysOk d = false := by
        cases d with
        | list _ => cases es
        | tuple _ => cases es
        | _ => rfl
      have z := fin _ s0
      rw [ew] at z
      exact iteT (iteT z)
end
end K2

set_option Elab.async false
set_option linter.all false
set_option maxRecDepth 100000
set_option maxHeartbeats 4000000
namespace Lw
open PySem PySem.Spec PyProof.Rows L2
/-- from the deal's heap H on: G' beside the deal, N only new things -/
structure News (G H G' N : Hp) (d l : Addr) : Prop where
  dl : Deal G' H d l
  kp : Same G G'
  sub : Same N G'
  dis : ∀ b o, N b = some o → G b = none
theorem News.zero {G H : Hp} {d l : Addr} (D : Deal G H d l) : News G H G (fun _ => none) d l := ⟨D, Same.refl G, fun b o e => (by cases e), fun b o e => (by cases e)⟩
theorem News.put {G H G' N : Hp} {d l p : Addr} {o : HO} (n : News G H G' N d l) (h : H p = none) : News G (upd H p o) (upd G' p o) (upd N p o) d l := by
  have gp : G' p = none := n.dl.same.free h
  refine ⟨n.dl.put h, fun b u e => ?_, fun b u e => ?_, fun b u e => ?_⟩
  · rw [upd_ne (ne_of_none (n.kp _ _ e) gp)]
    exact n.kp _ _ e
  · by_cases q : b = p
    · subst q
      rw [upd_same] at e ⊢
      exact e
    · rw [upd_ne q] at e ⊢
      exact n.sub _ _ e
  · by_cases q : b = p
    · subst q
      exact n.kp.free gp
    · rw [upd_ne q] at e
      exact n.dis _ _ e
theorem News.here {G H G' N : Hp} {d l p : Addr} {o : HO} (n : News G H G' N d l) (h : H p = none) : upd N p o p = some o := upd_same
theorem News.stay {G H G' N : Hp} {d l p : Addr} {o : HO} (n : News G H G' N d l) (h : H p = none) : Same N (upd N p o) := same_new (n.sub.free (n.dl.same.free h))
theorem News.redeal {G H H2 G' N : Hp} {d l : Addr} (n : News G H G' N d l) (D : Deal G' H2 d l) : News G H2 G' N d l := ⟨D, n.kp, n.sub, n.dis⟩
/-- what is new behind what is new -/
theorem News.more {G H G1 N1 H2 G2 N2 : Hp} {d l : Addr} (n : News G H G1 N1 d l) (m : News G1 H2 G2 N2 d l) : News G H2 G2 (fun b => match N1 b with | some o => some o | none => N2 b) d l := by
  refine ⟨m.dl, n.kp.trans m.kp, fun b o e => ?_, fun b o e => ?_⟩
  · cases h : N1 b with
    | some u =>
      have e' : some u = some o := by simpa [h] using e
      cases e'
      exact m.kp _ _ (n.sub _ _ h)
    | none =>
      have e' : N2 b = some o := by simpa [h] using e
      exact m.sub _ _ e'
  · cases h : N1 b with
    | some u => exact n.dis _ _ h
    | none =>
      have e' : N2 b = some o := by simpa [h] using e
      exact n.kp.free (m.dis _ _ e')
theorem News.left {G H G1 N1 H2 G2 N2 : Hp} {d l : Addr} (n : News G H G1 N1 d l) (m : News G1 H2 G2 N2 d l) : Same N1 (fun b => match N1 b with | some o => some o | none => N2 b) := fun b o e => by simp [e]
theorem News.right {G H G1 N1 H2 G2 N2 : Hp} {d l : Addr} (n : News G H G1 N1 d l) (m : News G1 H2 G2 N2 d l) : Same N2 (fun b => match N1 b with | some o => some o | none => N2 b) := fun b o e => by
  have h : N1 b = none := by
    cases q : N1 b with
    | none => rfl
    | some u =>
      have := m.dis _ _ e
      rw [n.sub _ _ q] at this
      cases this
  simp [h, e]
theorem Deal.over {G H : Hp} {d l D : Addr} {o u : HO} (n : Deal (upd G D u) H d l) : Deal (upd G D o) (upd H D o) d l := by
  have nd : d ≠ D := fun z => by have := n.gd; rw [z, upd_same] at this; cases this
  have nl : l ≠ D := fun z => by have := n.gl; rw [z, upd_same] at this; cases this
  obtain ⟨ns, m, a⟩ := n.it
  refine ⟨fun b v e => ?_, ?_, ?_, n.ne, ns, m, ?_⟩
  · by_cases q : b = D
    · subst q
      rw [upd_same] at e ⊢
      exact e
    · rw [upd_ne q] at e ⊢
      exact n.same _ _ (by rw [upd_ne q]; exact e)
  · have := n.gd
    rwa [upd_ne nd] at this ⊢
  · have := n.gl
    rwa [upd_ne nl] at this ⊢
  · exact ⟨by rw [upd_ne nd]; exact a.hd, by rw [upd_ne nl]; exact a.hl, a.len, a.nn, a.m0, a.m1⟩
theorem News.inH {G H G' N : Hp} {d l : Addr} (n : News G H G' N d l) : Same N H := n.sub.trans n.dl.same
theorem News.tup {G H G' N : Hp} {d l t : Addr} (n : News G H G' N d l) (u : H t = none) (xs : List V) : ∃ H1 G1 N1 : Hp, H1 = upd H t (.tup xs) ∧ News G H1 G1 N1 d l ∧ N1 t = some (.tup xs) ∧ Same N N1 := ⟨_, _, _, rfl, n.put u, upd_same, n.stay u⟩
theorem News.lst {G H G' N : Hp} {d l t : Addr} (n : News G H G' N d l) (u : H t = none) (xs : List V) : ∃ H1 G1 N1 : Hp, H1 = upd H t (.lst xs) ∧ News G H1 G1 N1 d l ∧ N1 t = some (.lst xs) ∧ Same N N1 := ⟨_, _, _, rfl, n.put u, upd_same, n.stay u⟩
/-- a heap without what stands at D -/
def hide (D : Addr) (G : Hp) : Hp := fun b => if b = D then none else G b
theorem hide_ne {D b : Addr} {G : Hp} (h : b ≠ D) : hide D G b = G b := if_neg h
theorem hide_same {D : Addr} {G : Hp} : hide D G D = none := if_pos rfl
theorem hide_upd {D : Addr} {G : Hp} {o : HO} : upd (hide D G) D o = upd G D o := by
  funext b
  by_cases q : b = D
  · subst q
    rw [upd_same, upd_same]
  · rw [upd_ne q, upd_ne q, hide_ne q]
/-- the promise of what hands a thing back -/
def Hands (K : PySem.W.Frag) (G : Hp) (d l : Addr) (Q : VK) : Prop := ∀ (G' H' N : Hp) (x : V) (pd : PyData), News G H' G' N d l → Dp K N x pd → fine pd = true → Q x H'
end Lw

set_option Elab.async false
set_option linter.all false
set_option maxRecDepth 100000
set_option maxHeartbeats 4000000
namespace Lw
open PySem PySem.Spec PyProof.Rows L2
theorem dpAll_app {K : PySem.W.Frag} {H : Hp} : ∀ {xs ys : List V} {ds es : List PyData}, DpAll K H xs ds → DpAll K H ys es → DpAll K H (xs ++ ys) (ds ++ es)
  | _, _, _, _, .nil, h => h
  | _, _, _, _, .cons a r, h => .cons a (dpAll_app r h)
/-- behind i turns of a comprehension (its list at L) that draw and hand new data; of the j-th R says something -/
def HP (K : PySem.W.Frag) (G : Hp) (d l L : Addr) (R : Nat → PyData → Prop) (i : Nat) (H' : Hp) : Prop := ∃ (B N : Hp) (xs : List V) (pds : List PyData), Same G B ∧ B L = none ∧ Deal (upd B L (.lst xs)) H' d l ∧ Same N B ∧ (∀ b o, N b = some o → G b = none) ∧
  DpAll K N xs pds ∧ xs.length = i ∧ ∀ j pd, pds[j]? = some pd → R j pd
theorem HP.zero {K : PySem.W.Frag} {G H : Hp} {d l L : Addr} {R : Nat → PyData → Prop} (D : Deal G H d l) (u : H L = none) : HP K G d l L R 0 (upd H L (.lst [])) :=
  ⟨G, fun _ => none, [], [], Same.refl _, D.same.free u, D.put u, fun b o e => (by cases e), fun b o e => (by cases e), .nil, rfl, fun j pd e => by simp at e⟩
theorem HP.turn {K : PySem.W.Frag} {G H1 : Hp} {d l L : Addr} {R : Nat → PyData → Prop} {i : Nat} {te : TE} {σ : L2.St} (h : HP K G d l L R i H1) (few : i < 100000)
    (el : ∀ Gx, Same G Gx → Deal Gx H1 d l → ∀ Q : VK, (∀ (G' H' N : Hp) (y : V) (pd : PyData), News Gx H' G' N d l → Dp K N y pd → R i pd → Q y H') → te σ H1 Q) :
    te σ H1 fun y H4 => ∃ acc, H4 L = some (.lst acc) ∧ acc.length < sizeLine ∧ HP K G d l L R (i + 1) (upd H4 L (.lst (acc ++ [y]))) := by
  obtain ⟨B, N, xs, pds, sB, nB, DB, sN, dN, hx, len, hR⟩ := h
  have sGx : Same G (upd B L (.lst xs)) := fun b o e => by rw [upd_ne (ne_of_none (sB _ _ e) nB)]; exact sB _ _ e
  refine el _ sGx DB _ fun G' H2 N1 y pd nw hd hr => ?_
  have gL : G' L = some (.lst xs) := nw.kp _ _ upd_same
  have gU : upd G' L (.lst xs) = G' := by
    funext b
    by_cases q : b = L
    · rw [q, upd_same, gL]
    · rw [upd_ne q]
  have bB : ∀ b o, B b = some o → b ≠ L := fun b o e z => by rw [z, nB] at e; cases e
  have toB : Same B (hide L G') := fun b o e => by
    have ne := bB b o e
    rw [hide_ne ne]
    exact nw.kp _ _ (by rw [upd_ne ne]; exact e)
  have n1 : ∀ b o, N1 b = some o → b ≠ L ∧ B b = none := fun b o e => by
    have z := nw.dis b o e
    have ne : b ≠ L := fun q => by rw [q, upd_same] at z; cases z
    rw [upd_ne ne] at z
    exact ⟨ne, z⟩
  have nn : ∀ b o, N1 b = some o → N b = none := fun b o e => sN.free (n1 b o e).2
  refine ⟨xs, nw.dl.same _ _ gL, Nat.lt_of_le_of_lt (show xs.length ≤ 100000 by omega) (by decide), hide L G', fun b => match N b with | some o => some o | none => N1 b, xs ++ [y], pds ++ [pd], sB.trans toB, hide_same, ?_, fun b o e => ?_, fun b o e => ?_, ?_, by rw [List.length_append, len]; rfl, ?_⟩
  · rw [hide_upd]
    exact Deal.over (G := G') (u := .lst xs) (by rw [gU]; exact nw.dl)
  · cases q : N b with
    | some u =>
      have e' : some u = some o := by simpa [q] using e
      cases e'
      exact toB _ _ (sN _ _ q)
    | none =>
      have e' : N1 b = some o := by simpa [q] using e
      rw [hide_ne (n1 b o e').1]
      exact nw.sub _ _ e'
  · cases q : N b with
    | some u => exact dN _ _ q
    | none =>
      have e' : N1 b = some o := by simpa [q] using e
      exact sB.free (n1 b o e').2
  · exact dpAll_app (dpAll_same (fun b o e => by simp [e]) _ _ hx) (.cons (dp_same (fun b o e => by simp [nn b o e, e]) _ _ hd) .nil)
  · intro j q e
    by_cases h : j < pds.length
    · rw [List.getElem?_append_left h] at e
      exact hR j q e
    · rw [List.getElem?_append_right (by omega)] at e
      have hj : j = pds.length := by
        by_cases z : j - pds.length = 0
        · omega
        · have : ([pd] : List PyData)[j - pds.length]? = none := List.getElem?_eq_none (by simp; omega)
          rw [this] at e
          cases e
      subst hj
      simp only [Nat.sub_self, List.getElem?_cons_zero, Option.some.injEq] at e
      rw [← e, ← dpAll_len hx, len]
      exact hr
theorem HP.same {K : PySem.W.Frag} {G H' : Hp} {d l L : Addr} {R : Nat → PyData → Prop} {n : Nat} (h : HP K G d l L R n H') : Same G H' := by
  obtain ⟨B, N, xs, pds, gB, nB, DB, _⟩ := h
  exact fun b o e => DB.same _ _ (by rw [upd_ne (ne_of_none (gB _ _ e) nB)]; exact gB _ _ e)
theorem HP.done {K : PySem.W.Frag} {G H' : Hp} {d l L : Addr} {R : Nat → PyData → Prop} {n : Nat} (h : HP K G d l L R n H') :
    ∃ (G' N : Hp) (xs : List V) (pds : List PyData), News G H' G' N d l ∧ N L = some (.lst xs) ∧ DpAll K N xs pds ∧ xs.length = n ∧ ∀ j pd, pds[j]? = some pd → R j pd := by
  obtain ⟨B, N, xs, pds, gB, nB, DB, sN, dN, hx, len, hR⟩ := h
  have nL : N L = none := sN.free nB
  refine ⟨upd B L (.lst xs), upd N L (.lst xs), xs, pds, ⟨DB, fun b o e => by rw [upd_ne (ne_of_none (gB _ _ e) nB)]; exact gB _ _ e, fun b o e => ?_, fun b o e => ?_⟩, upd_same, dpAll_same (same_new nL) _ _ hx, len, hR⟩
  · by_cases q : b = L
    · subst q
      rw [upd_same] at e ⊢
      exact e
    · rw [upd_ne q] at e ⊢
      exact sN _ _ e
  · by_cases q : b = L
    · subst q
      exact gB.free nB
    · rw [upd_ne q] at e
      exact dN _ _ e
end Lw

set_option Elab.async false
set_option linter.all false
set_option maxRecDepth 100000
set_option maxHeartbeats 4000000
namespace Lw
open PySem PySem.Spec PyProof.Rows L2
/-- all but what stands at p, an instance -/
def But (p : Addr) (H H' : Hp) : Prop := ∀ b o, H b = some o → b ≠ p → H' b = some o
theorem But.seq {K : PySem.W.Frag} {H H' : Hp} {p a C dx : Addr} {fs : List (Str × V)} {xs : List V} (hp : H p = some (.ins C dx fs)) (k : But p H H') (h : SqL K H a xs) : SqL K H' a xs := by
  rcases h with (h | ⟨o, h⟩) | h
  · exact .inl (.inl (k _ _ h fun z => by rw [z, hp] at h; cases h))
  · exact .inl (.inr ⟨o, k _ _ h fun z => by rw [z, hp] at h; cases h⟩)
  · exact .inr h
theorem But.tup {K : PySem.W.Frag} {H H' : Hp} {p a C dx : Addr} {fs : List (Str × V)} {xs : List V} (hp : H p = some (.ins C dx fs)) (k : But p H H') (h : SqT K H a xs) : SqT K H' a xs := by
  rcases h with (h | ⟨o, h⟩) | h
  · exact .inl (.inl (k _ _ h fun z => by rw [z, hp] at h; cases h))
  · exact .inl (.inr ⟨o, k _ _ h fun z => by rw [z, hp] at h; cases h⟩)
  · exact .inr h
theorem But.sqA {K : PySem.W.Frag} {H H' : Hp} {p a C dx : Addr} {fs : List (Str × V)} {xs : List V} (hp : H p = some (.ins C dx fs)) (k : But p H H') (h : SqA K H a xs) : SqA K H' a xs := h.elim (fun h => .inl (k.seq hp h)) fun h => .inr (k.tup hp h)
/-- [y for t in ts for y in t], ts a list or a tuple of tuples -/
theorem lc2_flat {K : PySem.W.Frag} {a : Addr} {H1 : Hp} {D : Addr} {s0 s1 s2 s3 v4 v5 : Option V} {xs : List V} {J : L2.It} {Qd : Hp → Prop} (hJ : JA K H1 a xs J) (un : H1 D = none) (yss : List (List V)) (len : yss.length = xs.length)
    (each : ∀ (j : Nat) (x : V), xs[j]? = some x → ∃ (p : Addr) (ys : List V), x = .ref p ∧ yss[j]? = some ys ∧ SqT K H1 p ys) (few : yss.flatten.length ≤ 100000) (fin : ∀ H', Same H1 H' → H' D = some (.lst yss.flatten) → Qd H') :
    ∃ W : Nat → Nat → Hp → Prop, (∃ m, W 0 m (upd H1 D (.lst []))) ∧ ∀ i m H, W i m H →
      (J.stop i H ∧ Qd H) ∨ (J.go i H ∧ ∃ Nx : Hp → Prop, (∀ H', Nx H' → ∃ m', m' < m ∧ W (i + 1) m' H') ∧ ∀ x H', J.yld i H x H' → gName 4 x (wipe [s0, s1, s2, s3, v4, v5] [4, 5]) H' fun σ2 H2 => wipe σ2 [4, 5] = wipe [s0, s1, s2, s3, v4, v5] [4, 5] ∧ tYes σ2 H2 fun b H3 =>
        if b = true then iTup K (tVar 4) σ2 H3 fun J1 H4 => ∃ W1 : Nat → Nat → Hp → Prop, (∃ m, W1 0 m H4) ∧ ∀ j k H, W1 j k H →
          (J1.stop j H ∧ Nx H) ∨ (J1.go j H ∧ ∃ Nx1 : Hp → Prop, (∀ H', Nx1 H' → ∃ k', k' < k ∧ W1 (j + 1) k' H') ∧ ∀ x H', J1.yld j H x H' → gName 5 x (wipe σ2 [5]) H' fun σ3 H5 => wipe σ3 [5] = wipe σ2 [5] ∧ tYes σ3 H5 fun b H6 =>
            if b = true then tVar 5 σ3 H6 fun y H7 => ∃ acc, H7 D = some (.lst acc) ∧ acc.length < sizeLine ∧ Nx1 (upd H7 D (.lst (acc ++ [y]))) else Nx1 H6)
        else Nx H3) := by
  have turn : ∀ (j : Nat) (x : V) (H : Hp), xs[j]? = some x → Same H1 H → H D = some (.lst (yss.take j).flatten) →
      gName 4 x (wipe [s0, s1, s2, s3, v4, v5] [4, 5]) H fun σ2 H2 => wipe σ2 [4, 5] = wipe [s0, s1, s2, s3, v4, v5] [4, 5] ∧ tYes σ2 H2 fun b H3 =>
        if b = true then iTup K (tVar 4) σ2 H3 fun J1 H4 => ∃ W1 : Nat → Nat → Hp → Prop, (∃ m, W1 0 m H4) ∧ ∀ j' k H, W1 j' k H →
          (J1.stop j' H ∧ (Same H1 H ∧ H D = some (.lst (yss.take (j + 1)).flatten))) ∨ (J1.go j' H ∧ ∃ Nx1 : Hp → Prop, (∀ H', Nx1 H' → ∃ k', k' < k ∧ W1 (j' + 1) k' H') ∧ ∀ x H', J1.yld j' H x H' → gName 5 x (wipe σ2 [5]) H' fun σ3 H5 => wipe σ3 [5] = wipe σ2 [5] ∧ tYes σ3 H5 fun b H6 =>
            if b = true then tVar 5 σ3 H6 fun y H7 => ∃ acc, H7 D = some (.lst acc) ∧ acc.length < sizeLine ∧ Nx1 (upd H7 D (.lst (acc ++ [y]))) else Nx1 H6)
        else (Same H1 H3 ∧ H3 D = some (.lst (yss.take (j + 1)).flatten)) := by
    intro j x H hx s1' hD
    obtain ⟨p, ys, rfl, hy, ht⟩ := each j x hx
    have htk : (yss.take (j + 1)).flatten = (yss.take j).flatten ++ ys := by
      rw [List.take_add_one, hy, List.flatten_append]
      simp
    have bound : (yss.take j).flatten.length + ys.length ≤ 100000 := by
      have e : yss.flatten = (yss.take (j + 1)).flatten ++ (yss.drop (j + 1)).flatten := by rw [← List.flatten_append, List.take_append_drop]
      have := congrArg List.length e
      rw [List.length_append, htk, List.length_append] at this
      omega
    have ht' : SqT K H p ys := same_tup s1' ht
    refine ⟨rfl, ?_⟩
    dsimp only [tYes]
    refine iteT ⟨_, rfl, p, rfl, ⟨_, ht'⟩, fun j' k H' => k = ys.length - j' ∧ j' ≤ ys.length ∧ Same H1 H' ∧ H' D = some (.lst ((yss.take j).flatten ++ ys.take j')), ⟨ys.length, by simp, Nat.zero_le _, s1', by simpa using hD⟩, ?_⟩
    rintro j' k H' ⟨rfl, hj, s2', hD'⟩
    have q : SqT K H' p ys := same_tup s2' ht
    by_cases lt : j' < ys.length
    · refine .inr ⟨⟨ys, ys[j'], q, by simp [lt]⟩, fun H'' => Same H1 H'' ∧ H'' D = some (.lst ((yss.take j).flatten ++ ys.take (j' + 1))), fun H'' z => ⟨ys.length - (j' + 1), by omega, rfl, lt, z⟩, fun y H'' yy => ?_⟩
      obtain ⟨e, yy⟩ := yy
      subst e
      have ey := yy ys q
      refine ⟨rfl, ?_⟩
      dsimp only [tYes]
      refine iteT ⟨_, rfl, _, hD', ?_, fun b o eb => ?_, ?_⟩
      · rw [List.length_append, List.length_take]
        exact Nat.lt_of_le_of_lt (show _ ≤ 100000 by omega) (by decide)
      · rw [upd_ne (ne_of_none eb un)]
        exact s2' _ _ eb
      · rw [upd_same, List.take_add_one, ey, List.append_assoc]
        rfl
    · have e : j' = ys.length := by omega
      subst e
      rw [List.take_length] at hD'
      exact .inl ⟨⟨ys, q, Nat.le_refl _⟩, s2', by rw [htk]; exact hD'⟩
  refine ⟨fun j m H' => m = xs.length - j ∧ j ≤ xs.length ∧ Same H1 H' ∧ H' D = some (.lst (yss.take j).flatten), ⟨xs.length, by simp, Nat.zero_le _, same_new un, by rw [upd_same]; simp⟩, ?_⟩
  rintro j m H' ⟨rfl, hj, s1', hD⟩
  have done : j = xs.length → Qd H' := fun e => fin H' s1' (by rwa [e, ← len, List.take_length] at hD)
  cases hJ with
  | l hs =>
    have q : SqL K H' a xs := s1'.seq hs
    by_cases lt : j < xs.length
    · refine .inr ⟨⟨xs, xs[j], q, by simp [lt]⟩, fun H' => Same H1 H' ∧ H' D = some (.lst (yss.take (j + 1)).flatten), fun H' p' => ⟨xs.length - (j + 1), by omega, rfl, lt, p'⟩, fun x H'' y => ?_⟩
      obtain ⟨e, y⟩ := y
      subst e
      exact turn j x _ (y xs q) s1' hD
    · have e : j = xs.length := by omega
      subst e
      exact .inl ⟨⟨xs, q, Nat.le_refl _⟩, done rfl⟩
  | t hs =>
    have q : SqT K H' a xs := same_tup s1' hs
    by_cases lt : j < xs.length
    · refine .inr ⟨⟨xs, xs[j], q, by simp [lt]⟩, fun H' => Same H1 H' ∧ H' D = some (.lst (yss.take (j + 1)).flatten), fun H' p' => ⟨xs.length - (j + 1), by omega, rfl, lt, p'⟩, fun x H'' y => ?_⟩
      obtain ⟨e, y⟩ := y
      subst e
      exact turn j x _ (y xs q) s1' hD
    · have e : j = xs.length := by omega
      subst e
      exact .inl ⟨⟨xs, q, Nat.le_refl _⟩, done rfl⟩
end Lw

set_option Elab.async false
set_option linter.all false
set_option maxRecDepth 100000
set_option maxHeartbeats 4000000
namespace Lw
open PySem PySem.Spec PyProof.Rows L2
/-! ### a row as the laws draw it -/
inductive Row0 where
  | ask (p n : Str) (ws : List (Str × Str))
  | note (p w t : Str)
  | gate (p m n e : Str)
  | end_ (p : Str)
def wayD (w : Str × Str) : PyData := .tuple [.str w.1, .str w.2]
def lineD : Row0 → PyData
  | .ask p n ws => .tuple [.str "ask", .str p, .str n, .tuple (ws.map wayD)]
  | .note p w t => .tuple [.str "note", .str p, .str w, .str t]
  | .gate p m n e => .tuple [.str "mark", .str p, .str m, .str n, .str e]
  | .end_ p => .tuple [.str "end", .str p]
/-- its words, its text -/
def wordsR : Row0 → List Str
  | .ask p n ws => p :: "ask" :: n :: (ws.map fun w => [w.1, w.2]).flatten
  | .note p w t => [p, "note", w, t]
  | .gate p m n e => [p, "mark", m, n, e]
  | .end_ p => [p, "end"]
def textR (r : Row0) : Str := Txt.join " " (wordsR r)
/-- the attributes of its object -/
def fieldsOk (K : PySem.W.Frag) (H : Hp) (fs : List (Str × V)) : Row0 → Prop
  | .ask p n ws => fs.lookup ("place" : Str) = some (.str p) ∧ fs.lookup ("name" : Str) = some (.str n) ∧ (∃ wa, fs.lookup ("ways" : Str) = some (.ref wa) ∧ Dp K H (.ref wa) (.tuple (ws.map wayD))) ∧ fs.lookup ("_text" : Str) = some (.str (textR (.ask p n ws)))
  | .note p w t => fs.lookup ("place" : Str) = some (.str p) ∧ fs.lookup ("word" : Str) = some (.str w) ∧ fs.lookup ("then" : Str) = some (.str t) ∧ fs.lookup ("_text" : Str) = some (.str (textR (.note p w t)))
  | .gate p m n e => fs.lookup ("place" : Str) = some (.str p) ∧ fs.lookup ("mark" : Str) = some (.str m) ∧ fs.lookup ("newer" : Str) = some (.str n) ∧ fs.lookup ("elder" : Str) = some (.str e) ∧ fs.lookup ("_text" : Str) = some (.str (textR (.gate p m n e)))
  | .end_ p => fs.lookup ("place" : Str) = some (.str p) ∧ fs.lookup ("_text" : Str) = some (.str (textR (.end_ p)))
/-- the row that these arguments make -/
def Made : List PyData → Row0 → Prop
  | ds, .ask p n ws => ds = [.str p, .str n, .list (ws.map wayD)] ∨ ds = [.str p, .str n, .tuple (ws.map wayD)]
  | ds, .note p w t => ds = [.str p, .str w, .str t]
  | ds, .gate p m n e => ds = [.str p, .str m, .str n, .str e]
  | ds, .end_ p => ds = [.str p]
mutual
theorem dp_but {K : PySem.W.Frag} {H H' : Hp} {p C dx : Addr} {fs : List (Str × V)} (hp : H p = some (.ins C dx fs)) (e : But p H H') : ∀ (d : PyData) (v : V), Dp K H v d → Dp K H' v d
  | .none, _, h => by cases h; exact .non
  | .bool b, _, h => by cases h; exact .bl b
  | .int i, _, h => by cases h; exact .int i
  | .str x, _, h => by cases h; exact .str x
  | .list ds, _, h => by
    cases h with
    | lst h1 h2 => exact .lst (e.seq hp h1) (dpAll_but hp e ds _ h2)
  | .tuple ds, _, h => by
    cases h with
    | tup h1 h2 => exact .tup (e.tup hp h1) (dpAll_but hp e ds _ h2)
  | .dict _, _, h => by cases h
theorem dpAll_but {K : PySem.W.Frag} {H H' : Hp} {p C dx : Addr} {fs : List (Str × V)} (hp : H p = some (.ins C dx fs)) (e : But p H H') : ∀ (ds : List PyData) (vs : List V), DpAll K H vs ds → DpAll K H' vs ds
  | [], _, h => by cases h; exact .nil
  | d :: ds, _, h => by
    cases h with
    | cons h1 h2 => exact .cons (dp_but hp e d _ h1) (dpAll_but hp e ds _ h2)
end
end Lw

set_option Elab.async false
set_option linter.all false
set_option maxRecDepth 100000
set_option maxHeartbeats 4000000
namespace K2
open PySem L2 Lw
/-! ### rows that are made -/
def spRow (K : PySem.W.Frag) : Sp := fun vs H Q _ => ∃ (p l C dx : Addr) (fs : List (Str × V)) (ys : List Str), vs = [.ref p, .ref l] ∧ H p = some (.ins C dx fs) ∧ Cls K C ∧ NoAttr K C "_text" ∧ fs.length < 900 ∧ SqL K H l (ys.map V.str) ∧
  ys.length ≤ 10000 ∧ (∀ y ∈ ys, y.length ≤ 4) ∧ Q .non (upd H p (.ins C dx (putF "_text" (.str (Txt.join " " ys)) fs)))
/-- the first of these that is no name -/
def firstD : List (Str × PyData) → Str
  | [] => Str.empty
  | (w, d) :: r => if nameD d = true then firstD r else w
/-- no method's name is an attribute -/
def Bare (fs : List (Str × V)) : Prop := fs.lookup ("leads" : Str) = none ∧ fs.lookup ("rerouted" : Str) = none
/-- C(..)'s __init__: due tells the word of the first wrong argument, or nothing; a good one's attributes -/
def spMk (K : PySem.W.Frag) (C Cir : Addr) (due : List PyData → Str) (n : Nat) : Sp := fun vs H Q E => ∃ (p dx : Addr) (xs : List V) (ds : List PyData), vs = .ref p :: xs ∧ xs.length = n ∧ DpAll K H xs ds ∧ fineAll ds = true ∧ H p = some (.ins C dx []) ∧
  (due ds = Str.empty → ∀ (H' : Hp) (fs : List (Str × V)) (r : Row0), (∀ b o, H b = some o → b ≠ p → H' b = some o) → H' p = some (.ins C dx fs) → Made ds r → fieldsOk K H' fs r → Bare fs → Q .non H') ∧
  (due ds ≠ Str.empty → ∀ (H' : Hp) (d : Addr), Same H H' → H d = none → H' d = some (.xd [("word", .str (due ds))]) → E (.ref Cir) (some d) H')
theorem sum4 : ∀ {ys : List Str}, (∀ y ∈ ys, y.length ≤ 4) → (ys.map (·.length)).sum ≤ 4 * ys.length
  | [], _ => by simp
  | y :: r, h => by
    have ih := sum4 (ys := r) fun z hz => h z (List.mem_cons_of_mem _ hz)
    have h1 := h y List.mem_cons_self
    rw [List.map_cons, List.sum_cons, List.length_cons]
    omega
theorem nameD_is {d : PyData} (h : nameD d = true) : ∃ z, d = .str z ∧ z.length ≤ 4 := by
  cases d with
  | str z =>
    refine ⟨z, rfl, ?_⟩
    have h' : (decide (1 ≤ (z.length : Int)) && decide ((z.length : Int) ≤ 4) && z.cps.toList.all isAbc) = true := h
    obtain ⟨h1, _⟩ := Bool.and_eq_true_iff.mp h'
    obtain ⟨_, h2⟩ := Bool.and_eq_true_iff.mp h1
    have := of_decide_eq_true h2
    omega
  | _ => cases h
section
variable {P : Program} {w : World} {K : PySem.W.Frag} {mg : Str → Option Value} {base : Heap} {a : Ad}
theorem scRow : FnScope ["self", "words"] ["self", "words"] (defScope sRow) := ⟨rfl, rfl, rfl, by decide +kernel, rfl, by decide +kernel, by decide +kernel⟩
theorem Txt.okRow (T : Txt K mg a) : FnOk P w K mg base CX0 1 a.fRow a.dRow ["self", "words"] (spRow K) := by
  refine T.row.F.ok scRow (fun vs H Q E h => ?_) (fun cdv A outer s H vs Q E hr h => ?_)
  · obtain ⟨_, _, _, _, _, _, rfl, _⟩ := h
    rfl
  · obtain ⟨p, l, C, dx, fs, ys, rfl, hp, cl, na, few, hl, hn, hy, fin⟩ := h
    refine ⟨_, pss_one (ps_fld (pv 0) (pe_join pe_str (pv 1)) rfl), ?_⟩
    refine ⟨⟨_, rfl⟩, _, rfl, _, l, ys, rfl, rfl, .inl hl, ?_, _, rfl, p, C, dx, fs, rfl, hp, cl, na, by omega, fin⟩
    have := sum4 hy
    show _ + ys.length * 1 ≤ _
    omega
/-- what the display leaves is what _expect_names asks -/
theorem firstBad_none {its : List It} (h : firstBad its = none) : ∀ i ∈ its, nameD i.d = true := by
  unfold firstBad at h
  have := List.find?_eq_none.mp (Option.map_eq_none_iff.mp h)
  exact fun i hi => by simpa using this i hi
theorem firstBad_is : ∀ its : List It, firstBad its = none ∧ firstD (its.map fun i => (i.w, i.d)) = Str.empty ∨ ∃ w, firstBad its = some w ∧ firstD (its.map fun i => (i.w, i.d)) = w ∧ w ∈ its.map (·.w)
  | [] => .inl ⟨rfl, rfl⟩
  | i :: r => by
    cases e : nameD i.d with
    | false => exact .inr ⟨i.w, by simp [firstBad, List.find?_cons, e], by simp [firstD, e], by simp⟩
    | true =>
      have e1 : firstBad (i :: r) = firstBad r := by simp [firstBad, List.find?_cons, e]
      have e2 : firstD ((i :: r).map fun i => (i.w, i.d)) = firstD (r.map fun i => (i.w, i.d)) := by simp [firstD, e]
      rw [e1, e2]
      rcases firstBad_is r with h | ⟨w, h1, h2, h3⟩
      · exact .inl h
      · exact .inr ⟨w, h1, h2, List.mem_cons_of_mem _ h3⟩
/-- names are short texts -/
theorem name_at {H : Hp} {v : V} {d : PyData} (h : Dp K H v d) (n : nameD d = true) : ∃ z, v = .str z ∧ d = .str z ∧ z.length ≤ 4 := by
  obtain ⟨z, rfl, hz⟩ := nameD_is n
  cases h
  exact ⟨z, rfl, rfl, hz⟩
theorem keep_row {H H5 : Hp} {p l2 : Addr} {o1 o2 : HO} {u : HO} (s : Same H H5) (u5 : (upd H5 p o1) l2 = none) : ∀ b o, H b = some o → b ≠ p → upd (upd (upd H5 p o1) l2 u) p o2 b = some o := fun b o e ne => by
  have h5 := s _ _ e
  have n2 : b ≠ l2 := fun z => by
    rw [← z, upd_ne ne, h5] at u5
    cases u5
  rw [upd_ne ne, upd_ne n2, upd_ne ne]
  exact h5
/-- note -/
def dueNote : List PyData → Str
  | [d1, d2, d3] => firstD [("place", d1), ("word", d2), ("then", d3)]
  | _ => Str.empty
theorem scNote : FnScope ["self", "place", "word", "then"] ["self", "place", "word", "then"] (defScope sNote) := ⟨rfl, rfl, rfl, by decide +kernel, rfl, by decide +kernel, by decide +kernel⟩
theorem Txt.okNote (T : Txt K mg a) : FnOk P w K mg base (L2.CX P w) 4 a.fNote a.dNote ["self", "place", "word", "then"] (spMk K a.cNote a.cIr dueNote 3) := by
  refine T.note.F.okX scNote (fun vs H Q E h => ?_) (fun cdv A outer s H vs Q E hr h => ?_)
  · obtain ⟨p, _, xs, _, rfl, e, _⟩ := h
    rw [List.length_cons, e]
    rfl
  · obtain ⟨p, dx, xs, ds, rfl, len, ha, hf, hp, kN, kE⟩ := h
    match xs, ds, ha, len with
    | [x1, x2, x3], [d1, d2, d3], .cons h1 (.cons h2 (.cons h3 .nil)), _ =>
    have hr1 : Room 1 _ := hr.mono (by decide)
    refine ⟨_, pss_cons (ps_expr (pe_call T.okX hr rfl T.expect.g T.expect.F.kp T.expect.b .nil (passes_call (takes_of rfl rfl rfl rfl) fun _ _ _ _ z => z) (pa_cons (pe_lst (pa_cons (pe_tup (pa_cons pe_str (pa_cons (pv 1) pa_nil))) (pa_cons (pe_tup (pa_cons pe_str (pa_cons (pv 2) pa_nil))) (pa_cons (pe_tup (pa_cons pe_str (pa_cons (pv 3) pa_nil))) pa_nil)))) pa_nil)))
      (pss_cons (ps_fld (pv 0) (pv 1) rfl) (pss_cons (ps_fld (pv 0) (pv 2) rfl) (pss_cons (ps_fld (pv 0) (pv 3) rfl) (pss_one (ps_expr (pe_cfun (pe_glob (v := .ref a.cRow) (by rfl) T.row.g rfl) T.rowR T.rowI T.okRow hr1 T.row.F.kp T.row.b pass0 (pa_cons (pv 0) (pa_cons (pe_lst (pa_cons (pv 1) (pa_cons pe_str (pa_cons (pv 2) (pa_cons (pv 3) pa_nil))))) pa_nil)))))))), ?_⟩
    refine ⟨_, rfl, (by show 2 ≤ sizeLine; decide), fun t1 u1 => ⟨_, rfl, (by show 2 ≤ sizeLine; decide), fun t2 u2 => ⟨_, rfl, (by show 2 ≤ sizeLine; decide), fun t3 u3 => ⟨(by show 3 ≤ sizeLine; decide), fun l ul => ?_⟩⟩⟩⟩
    generalize e1 : upd H t1 (.tup [.str "place", x1]) = G1 at *
    have s1 : Same H G1 := e1 ▸ same_new u1
    have q1 : SqT K G1 t1 [.str "place", x1] := e1 ▸ SqT.of upd_same
    generalize e2 : upd G1 t2 (.tup [.str "word", x2]) = G2 at *
    have s2 : Same G1 G2 := e2 ▸ same_new u2
    have q2 : SqT K G2 t2 [.str "word", x2] := e2 ▸ SqT.of upd_same
    generalize e3 : upd G2 t3 (.tup [.str "then", x3]) = G3 at *
    have s3 : Same G2 G3 := e3 ▸ same_new u3
    have q3 : SqT K G3 t3 [.str "then", x3] := e3 ▸ SqT.of upd_same
    have sl : Same G3 (upd G3 l (.lst [.ref t1, .ref t2, .ref t3])) := same_new ul
    have S : Same H _ := (s1.trans (s2.trans (s3.trans sl)))
    have f1 : fine d1 = true := fineAll_mem hf (by simp)
    have f2 : fine d2 = true := fineAll_mem hf (by simp)
    have f3 : fine d3 = true := fineAll_mem hf (by simp)
    have FB := firstBad_is [⟨t1, "place", x1, d1⟩, ⟨t2, "word", x2, d2⟩, ⟨t3, "then", x3, d3⟩]
    refine ⟨l, [⟨t1, "place", x1, d1⟩, ⟨t2, "word", x2, d2⟩, ⟨t3, "then", x3, d3⟩], rfl, SqL.of upd_same, fun i hi => ?_, fun fb H5 s5 => ?_, fun w fb H5 d s5 nd hd => ?_⟩
    · simp only [List.mem_cons, List.not_mem_nil, or_false] at hi
      rcases hi with rfl | rfl | rfl
      · exact ⟨same_tup (s2.trans (s3.trans sl)) q1, dp_same S _ _ h1, f1⟩
      · exact ⟨same_tup (s3.trans sl) q2, dp_same S _ _ h2, f2⟩
      · exact ⟨same_tup sl q3, dp_same S _ _ h3, f3⟩
    · have all := firstBad_none fb
      obtain ⟨z1, rfl, rfl, c1⟩ := name_at h1 (all ⟨t1, "place", x1, d1⟩ (by simp))
      obtain ⟨z2, rfl, rfl, c2⟩ := name_at h2 (all ⟨t2, "word", x2, d2⟩ (by simp))
      obtain ⟨z3, rfl, rfl, c3⟩ := name_at h3 (all ⟨t3, "then", x3, d3⟩ (by simp))
      have S5 := S.trans s5
      refine ⟨_, rfl, _, rfl, p, a.cNote, dx, _, rfl, (S5 _ _ hp), T.note.cl, T.no _ (by simp) _ (by simp), (by show 0 < 1000; decide), _, rfl, _, rfl, p, a.cNote, dx, _, rfl, upd_same, T.note.cl, T.no _ (by simp) _ (by simp), (by show 1 < 1000; decide), _, rfl, _, rfl, p, a.cNote, dx, _, rfl, upd_same, T.note.cl, T.no _ (by simp) _ (by simp), (by show 2 < 1000; decide), ?_⟩
      refine ⟨rfl, _, rfl, _, rfl, _, rfl, _, rfl, (by show 4 ≤ sizeLine; decide), fun l2 ul2 => ?_⟩
      rw [upd_upd, upd_upd] at ul2 ⊢
      have np : p ≠ l2 := fun z => by rw [← z, upd_same] at ul2; cases ul2
      refine ⟨p, l2, a.cNote, dx, _, [z1, "note", z2, z3], rfl, (by rw [upd_ne np]; exact upd_same), T.note.cl, T.no _ (by simp) _ (by simp), (by show 3 < 900; decide), SqL.of upd_same, (by show 4 ≤ 10000; decide), (by simp [*]; try decide), ?_⟩
      refine kN ?_ _ _ (.note z1 z2 z3) (keep_row S5 ul2) upd_same rfl ?_ (by constructor <;> (repeat rw [lookup_putF, if_neg (by decide)]) <;> rfl)
      · show firstD _ = _
        rcases FB with ⟨_, h⟩ | ⟨w, h, _⟩
        · exact h
        · rw [fb] at h; cases h
      · exact ⟨by rw [lookup_putF, if_neg (by decide), lookup_putF, if_neg (by decide), lookup_putF, if_neg (by decide), lookup_putF, if_pos rfl], by rw [lookup_putF, if_neg (by decide), lookup_putF, if_neg (by decide), lookup_putF, if_pos rfl], by rw [lookup_putF, if_neg (by decide), lookup_putF, if_pos rfl], by rw [lookup_putF, if_pos rfl]; rfl⟩
    · have e : firstD [("place", d1), ("word", d2), ("then", d3)] = w ∧ w ≠ Str.empty := by
        rcases FB with ⟨h, _⟩ | ⟨w2, h, h2, h3⟩
        · rw [fb] at h; cases h
        · rw [fb] at h
          cases h
          refine ⟨h2, fun z => ?_⟩
          rw [z] at h3
          exact absurd (show Str.empty ∈ (["place", "word", "then"] : List Str) from h3) (by decide)
      refine kE (by show firstD _ ≠ _; rw [e.1]; exact e.2) H5 d (S.trans s5) (S.free nd) ?_
      show _ = some (HO.xd [("word", .str (firstD _))])
      rw [e.1]
      exact hd
/-- mark -/
def dueGate : List PyData → Str
  | [d1, d2, d3, d4] => firstD [("place", d1), ("mark", d2), ("newer", d3), ("elder", d4)]
  | _ => Str.empty
theorem scGate : FnScope ["self", "place", "mark", "newer", "elder"] ["self", "place", "mark", "newer", "elder"] (defScope sGate) := ⟨rfl, rfl, rfl, by decide +kernel, rfl, by decide +kernel, by decide +kernel⟩
theorem Txt.okGate (T : Txt K mg a) : FnOk P w K mg base (L2.CX P w) 4 a.fGate a.dGate ["self", "place", "mark", "newer", "elder"] (spMk K a.cGate a.cIr dueGate 4) := by
  refine T.gate.F.okX scGate (fun vs H Q E h => ?_) (fun cdv A outer s H vs Q E hr h => ?_)
  · obtain ⟨p, _, xs, _, rfl, e, _⟩ := h
    rw [List.length_cons, e]
    rfl
  · obtain ⟨p, dx, xs, ds, rfl, len, ha, hf, hp, kN, kE⟩ := h
    match xs, ds, ha, len with
    | [x1, x2, x3, x4], [d1, d2, d3, d4], .cons h1 (.cons h2 (.cons h3 (.cons h4 .nil))), _ =>
    have hr1 : Room 1 _ := hr.mono (by decide)
    refine ⟨_, pss_cons (ps_expr (pe_call T.okX hr rfl T.expect.g T.expect.F.kp T.expect.b .nil (passes_call (takes_of rfl rfl rfl rfl) fun _ _ _ _ z => z) (pa_cons (pe_lst (pa_cons (pe_tup (pa_cons pe_str (pa_cons (pv 1) pa_nil))) (pa_cons (pe_tup (pa_cons pe_str (pa_cons (pv 2) pa_nil))) (pa_cons (pe_tup (pa_cons pe_str (pa_cons (pv 3) pa_nil))) (pa_cons (pe_tup (pa_cons pe_str (pa_cons (pv 4) pa_nil))) pa_nil))))) pa_nil)))
      (pss_cons (ps_fld (pv 0) (pv 1) rfl) (pss_cons (ps_fld (pv 0) (pv 2) rfl) (pss_cons (ps_fld (pv 0) (pv 3) rfl) (pss_cons (ps_fld (pv 0) (pv 4) rfl) (pss_one (ps_expr (pe_cfun (pe_glob (v := .ref a.cRow) (by rfl) T.row.g rfl) T.rowR T.rowI T.okRow hr1 T.row.F.kp T.row.b pass0 (pa_cons (pv 0) (pa_cons (pe_lst (pa_cons (pv 1) (pa_cons pe_str (pa_cons (pv 2) (pa_cons (pv 3) (pa_cons (pv 4) pa_nil)))))) pa_nil))))))))), ?_⟩
    refine ⟨_, rfl, (by show 2 ≤ sizeLine; decide), fun t1 u1 => ⟨_, rfl, (by show 2 ≤ sizeLine; decide), fun t2 u2 => ⟨_, rfl, (by show 2 ≤ sizeLine; decide), fun t3 u3 => ⟨_, rfl, (by show 2 ≤ sizeLine; decide), fun t4 u4 => ⟨(by show 4 ≤ sizeLine; decide), fun l ul => ?_⟩⟩⟩⟩⟩
    generalize e1 : upd H t1 (.tup [.str "place", x1]) = G1 at *
    have s1 : Same H G1 := e1 ▸ same_new u1
    have q1 : SqT K G1 t1 [.str "place", x1] := e1 ▸ SqT.of upd_same
    generalize e2 : upd G1 t2 (.tup [.str "mark", x2]) = G2 at *
    have s2 : Same G1 G2 := e2 ▸ same_new u2
    have q2 : SqT K G2 t2 [.str "mark", x2] := e2 ▸ SqT.of upd_same
    generalize e3 : upd G2 t3 (.tup [.str "newer", x3]) = G3 at *
    have s3 : Same G2 G3 := e3 ▸ same_new u3
    have q3 : SqT K G3 t3 [.str "newer", x3] := e3 ▸ SqT.of upd_same
    generalize e4 : upd G3 t4 (.tup [.str "elder", x4]) = G4 at *
    have s4 : Same G3 G4 := e4 ▸ same_new u4
    have q4 : SqT K G4 t4 [.str "elder", x4] := e4 ▸ SqT.of upd_same
    have sl : Same G4 (upd G4 l (.lst [.ref t1, .ref t2, .ref t3, .ref t4])) := same_new ul
    have S : Same H _ := (s1.trans (s2.trans (s3.trans (s4.trans sl))))
    have f1 : fine d1 = true := fineAll_mem hf (by simp)
    have f2 : fine d2 = true := fineAll_mem hf (by simp)
    have f3 : fine d3 = true := fineAll_mem hf (by simp)
    have f4 : fine d4 = true := fineAll_mem hf (by simp)
    have FB := firstBad_is [⟨t1, "place", x1, d1⟩, ⟨t2, "mark", x2, d2⟩, ⟨t3, "newer", x3, d3⟩, ⟨t4, "elder", x4, d4⟩]
    refine ⟨l, [⟨t1, "place", x1, d1⟩, ⟨t2, "mark", x2, d2⟩, ⟨t3, "newer", x3, d3⟩, ⟨t4, "elder", x4, d4⟩], rfl, SqL.of upd_same, fun i hi => ?_, fun fb H5 s5 => ?_, fun w fb H5 d s5 nd hd => ?_⟩
    · simp only [List.mem_cons, List.not_mem_nil, or_false] at hi
      rcases hi with rfl | rfl | rfl | rfl
      · exact ⟨same_tup (s2.trans (s3.trans (s4.trans sl))) q1, dp_same S _ _ h1, f1⟩
      · exact ⟨same_tup (s3.trans (s4.trans sl)) q2, dp_same S _ _ h2, f2⟩
      · exact ⟨same_tup (s4.trans sl) q3, dp_same S _ _ h3, f3⟩
      · exact ⟨same_tup sl q4, dp_same S _ _ h4, f4⟩
    · have all := firstBad_none fb
      obtain ⟨z1, rfl, rfl, c1⟩ := name_at h1 (all ⟨t1, "place", x1, d1⟩ (by simp))
      obtain ⟨z2, rfl, rfl, c2⟩ := name_at h2 (all ⟨t2, "mark", x2, d2⟩ (by simp))
      obtain ⟨z3, rfl, rfl, c3⟩ := name_at h3 (all ⟨t3, "newer", x3, d3⟩ (by simp))
      obtain ⟨z4, rfl, rfl, c4⟩ := name_at h4 (all ⟨t4, "elder", x4, d4⟩ (by simp))
      have S5 := S.trans s5
      refine ⟨_, rfl, _, rfl, p, a.cGate, dx, _, rfl, (S5 _ _ hp), T.gate.cl, T.no _ (by simp) _ (by simp), (by show 0 < 1000; decide), _, rfl, _, rfl, p, a.cGate, dx, _, rfl, upd_same, T.gate.cl, T.no _ (by simp) _ (by simp), (by show 1 < 1000; decide), _, rfl, _, rfl, p, a.cGate, dx, _, rfl, upd_same, T.gate.cl, T.no _ (by simp) _ (by simp), (by show 2 < 1000; decide), _, rfl, _, rfl, p, a.cGate, dx, _, rfl, upd_same, T.gate.cl, T.no _ (by simp) _ (by simp), (by show 3 < 1000; decide), ?_⟩
      refine ⟨rfl, _, rfl, _, rfl, _, rfl, _, rfl, _, rfl, (by show 5 ≤ sizeLine; decide), fun l2 ul2 => ?_⟩
      rw [upd_upd, upd_upd, upd_upd] at ul2 ⊢
      have np : p ≠ l2 := fun z => by rw [← z, upd_same] at ul2; cases ul2
      refine ⟨p, l2, a.cGate, dx, _, [z1, "mark", z2, z3, z4], rfl, (by rw [upd_ne np]; exact upd_same), T.gate.cl, T.no _ (by simp) _ (by simp), (by show 4 < 900; decide), SqL.of upd_same, (by show 5 ≤ 10000; decide), (by simp [*]; try decide), ?_⟩
      refine kN ?_ _ _ (.gate z1 z2 z3 z4) (keep_row S5 ul2) upd_same rfl ?_ (by constructor <;> (repeat rw [lookup_putF, if_neg (by decide)]) <;> rfl)
      · show firstD _ = _
        rcases FB with ⟨_, h⟩ | ⟨w, h, _⟩
        · exact h
        · rw [fb] at h; cases h
      · exact ⟨by rw [lookup_putF, if_neg (by decide), lookup_putF, if_neg (by decide), lookup_putF, if_neg (by decide), lookup_putF, if_neg (by decide), lookup_putF, if_pos rfl], by rw [lookup_putF, if_neg (by decide), lookup_putF, if_neg (by decide), lookup_putF, if_neg (by decide), lookup_putF, if_pos rfl], by rw [lookup_putF, if_neg (by decide), lookup_putF, if_neg (by decide), lookup_putF, if_pos rfl], by rw [lookup_putF, if_neg (by decide), lookup_putF, if_pos rfl], by rw [lookup_putF, if_pos rfl]; rfl⟩
    · have e : firstD [("place", d1), ("mark", d2), ("newer", d3), ("elder", d4)] = w ∧ w ≠ Str.empty := by
        rcases FB with ⟨h, _⟩ | ⟨w2, h, h2, h3⟩
        · rw [fb] at h; cases h
        · rw [fb] at h
          cases h
          refine ⟨h2, fun z => ?_⟩
          rw [z] at h3
          exact absurd (show Str.empty ∈ (["place", "mark", "newer", "elder"] : List Str) from h3) (by decide)
      refine kE (by show firstD _ ≠ _; rw [e.1]; exact e.2) H5 d (S.trans s5) (S.free nd) ?_
      show _ = some (HO.xd [("word", .str (firstD _))])
      rw [e.1]
      exact hd
/-- end -/
def dueEnd : List PyData → Str
  | [d1] => firstD [("place", d1)]
  | _ => Str.empty
theorem scEnd : FnScope ["self", "place"] ["self", "place"] (defScope sEnd) := ⟨rfl, rfl, rfl, by decide +kernel, rfl, by decide +kernel, by decide +kernel⟩
theorem Txt.okEnd (T : Txt K mg a) : FnOk P w K mg base (L2.CX P w) 4 a.fEnd a.dEnd ["self", "place"] (spMk K a.cEnd a.cIr dueEnd 1) := by
  refine T.end_.F.okX scEnd (fun vs H Q E h => ?_) (fun cdv A outer s H vs Q E hr h => ?_)
  · obtain ⟨p, _, xs, _, rfl, e, _⟩ := h
    rw [List.length_cons, e]
    rfl
  · obtain ⟨p, dx, xs, ds, rfl, len, ha, hf, hp, kN, kE⟩ := h
    match xs, ds, ha, len with
    | [x1], [d1], .cons h1 .nil, _ =>
    have hr1 : Room 1 _ := hr.mono (by decide)
    refine ⟨_, pss_cons (ps_expr (pe_call T.okX hr rfl T.expect.g T.expect.F.kp T.expect.b .nil (passes_call (takes_of rfl rfl rfl rfl) fun _ _ _ _ z => z) (pa_cons (pe_lst (pa_cons (pe_tup (pa_cons pe_str (pa_cons (pv 1) pa_nil))) pa_nil)) pa_nil)))
      (pss_cons (ps_fld (pv 0) (pv 1) rfl) (pss_one (ps_expr (pe_cfun (pe_glob (v := .ref a.cRow) (by rfl) T.row.g rfl) T.rowR T.rowI T.okRow hr1 T.row.F.kp T.row.b pass0 (pa_cons (pv 0) (pa_cons (pe_lst (pa_cons (pv 1) (pa_cons pe_str pa_nil))) pa_nil)))))), ?_⟩
    refine ⟨_, rfl, (by show 2 ≤ sizeLine; decide), fun t1 u1 => ⟨(by show 1 ≤ sizeLine; decide), fun l ul => ?_⟩⟩
    generalize e1 : upd H t1 (.tup [.str "place", x1]) = G1 at *
    have s1 : Same H G1 := e1 ▸ same_new u1
    have q1 : SqT K G1 t1 [.str "place", x1] := e1 ▸ SqT.of upd_same
    have sl : Same G1 (upd G1 l (.lst [.ref t1])) := same_new ul
    have S : Same H _ := (s1.trans sl)
    have f1 : fine d1 = true := fineAll_mem hf (by simp)
    have FB := firstBad_is [⟨t1, "place", x1, d1⟩]
    refine ⟨l, [⟨t1, "place", x1, d1⟩], rfl, SqL.of upd_same, fun i hi => ?_, fun fb H5 s5 => ?_, fun w fb H5 d s5 nd hd => ?_⟩
    · simp only [List.mem_cons, List.not_mem_nil, or_false] at hi
      obtain rfl := hi
      exact ⟨same_tup sl q1, dp_same S _ _ h1, f1⟩
    · have all := firstBad_none fb
      obtain ⟨z1, rfl, rfl, c1⟩ := name_at h1 (all ⟨t1, "place", x1, d1⟩ (by simp))
      have S5 := S.trans s5
      refine ⟨_, rfl, _, rfl, p, a.cEnd, dx, _, rfl, (S5 _ _ hp), T.end_.cl, T.no _ (by simp) _ (by simp), (by show 0 < 1000; decide), ?_⟩
      refine ⟨rfl, _, rfl, _, rfl, (by show 2 ≤ sizeLine; decide), fun l2 ul2 => ?_⟩
      skip
      have np : p ≠ l2 := fun z => by rw [← z, upd_same] at ul2; cases ul2
      refine ⟨p, l2, a.cEnd, dx, _, [z1, "end"], rfl, (by rw [upd_ne np]; exact upd_same), T.end_.cl, T.no _ (by simp) _ (by simp), (by show 1 < 900; decide), SqL.of upd_same, (by show 2 ≤ 10000; decide), (by simp [*]; try decide), ?_⟩
      refine kN ?_ _ _ (.end_ z1) (keep_row S5 ul2) upd_same rfl ?_ (by constructor <;> (repeat rw [lookup_putF, if_neg (by decide)]) <;> rfl)
      · show firstD _ = _
        rcases FB with ⟨_, h⟩ | ⟨w, h, _⟩
        · exact h
        · rw [fb] at h; cases h
      · exact ⟨by rw [lookup_putF, if_neg (by decide), lookup_putF, if_pos rfl], by rw [lookup_putF, if_pos rfl]; rfl⟩
    · have e : firstD [("place", d1)] = w ∧ w ≠ Str.empty := by
        rcases FB with ⟨h, _⟩ | ⟨w2, h, h2, h3⟩
        · rw [fb] at h; cases h
        · rw [fb] at h
          cases h
          refine ⟨h2, fun z => ?_⟩
          rw [z] at h3
          exact absurd (show Str.empty ∈ (["place"] : List Str) from h3) (by decide)
      refine kE (by show firstD _ ≠ _; rw [e.1]; exact e.2) H5 d (S.trans s5) (S.free nd) ?_
      show _ = some (HO.xd [("word", .str (firstD _))])
      rw [e.1]
      exact hd
end
end K2

set_option Elab.async false
set_option linter.all false
set_option maxRecDepth 100000
set_option maxHeartbeats 4000000
namespace K2
open PySem L2 Lw
def dueAsk : List PyData → Str
  | [d1, d2, d3] => if firstD [("place", d1), ("name", d2)] = Str.empty then (if waysOk d3 = true then Str.empty else "ways") else firstD [("place", d1), ("name", d2)]
  | _ => Str.empty
def wordsOf : PyData → List Str
  | .tuple [.str y, .str z] => [y, z]
  | _ => []
theorem words_flat : ∀ ds : List PyData, (ds.map fun d => (wordsOf d).map V.str).flatten = (ds.map wordsOf).flatten.map V.str
  | [] => rfl
  | d :: r => by rw [List.map_cons, List.map_cons, List.flatten_cons, List.flatten_cons, words_flat r, List.map_append]
theorem words_len : ∀ ds : List PyData, (ds.map wordsOf).flatten.length ≤ 2 * ds.length
  | [] => by simp
  | d :: r => by
    have ih := words_len r
    have h : (wordsOf d).length ≤ 2 := by unfold wordsOf; split <;> simp
    rw [List.map_cons, List.flatten_cons, List.length_append, List.length_cons]
    omega
theorem words_short {ds : List PyData} (h : ∀ d ∈ ds, wayOk d = true) : ∀ y ∈ (ds.map wordsOf).flatten, y.length ≤ 4 := by
  intro y hy
  obtain ⟨l, hl, hy⟩ := List.mem_flatten.mp hy
  obtain ⟨d, hd, rfl⟩ := List.mem_map.mp hl
  obtain ⟨u, v, rfl, h1, h2⟩ := wayOk_is (h d hd)
  have hu : nameD (.str u) = true := h1
  have hv : nameD (.str v) = true := h2
  obtain ⟨_, e1, l1⟩ := nameD_is hu
  obtain ⟨_, e2, l2⟩ := nameD_is hv
  cases e1
  cases e2
  have hy' : y ∈ [u, v] := hy
  simp at hy'
  rcases hy' with rfl | rfl
  · exact l1
  · exact l2
theorem ways_is : ∀ {dw : List PyData}, (∀ d ∈ dw, wayOk d = true) → ∃ ws : List (Str × Str), dw = ws.map wayD
  | [], _ => ⟨[], rfl⟩
  | d :: r, h => by
    obtain ⟨y, z, rfl, _, _⟩ := wayOk_is (h d (by simp))
    obtain ⟨ws, e⟩ := ways_is (dw := r) fun q hq => h q (List.mem_cons_of_mem _ hq)
    exact ⟨(y, z) :: ws, by rw [e]; rfl⟩
theorem waysD_all {ds : List PyData} (h : waysD ds = true) : ∀ d ∈ ds, wayOk d = true := by
  rw [waysD] at h
  obtain ⟨h1, _⟩ := Bool.and_eq_true_iff.mp h
  obtain ⟨_, h2⟩ := Bool.and_eq_true_iff.mp h1
  exact List.all_eq_true.mp h2
section
variable {P : Program} {w : World} {K : PySem.W.Frag} {mg : Str → Option Value} {base : Heap} {a : Ad}
theorem scAsk : FnScope ["self", "place", "name", "ways", "way", "word"] ["self", "place", "name", "ways"] (defScope sAsk) := ⟨rfl, rfl, rfl, by decide +kernel, rfl, by decide +kernel, by decide +kernel⟩
theorem Txt.okAsk (T : Txt K mg a) : FnOk P w K mg base (L2.CX P w) 4 a.fAsk a.dAsk ["self", "place", "name", "ways"] (spMk K a.cAsk a.cIr dueAsk 3) := by
  refine T.ask.F.okX scAsk (fun vs H Q E h => ?_) (fun cdv A outer s H vs Q E hr h => ?_)
  · obtain ⟨p, _, xs, _, rfl, e, _⟩ := h
    rw [List.length_cons, e]
    rfl
  · obtain ⟨p, dx, xs, ds, rfl, len, ha, hf, hp, kN, kE⟩ := h
    match xs, ds, ha, len with
    | [x1, x2, x3], [d1, d2, d3], .cons h1 (.cons h2 (.cons h3 .nil)), _ =>
    have hr1 : Room 1 _ := hr.mono (by decide)
    have hr2 : Room 2 _ := hr.mono (by decide)
    refine ⟨_, pss_cons (ps_expr (pe_call T.okX hr rfl T.expect.g T.expect.F.kp T.expect.b .nil (passes_call (takes_of rfl rfl rfl rfl) fun _ _ _ _ z => z) (pa_cons (pe_lst (pa_cons (pe_tup (pa_cons pe_str (pa_cons (pv 1) pa_nil))) (pa_cons (pe_tup (pa_cons pe_str (pa_cons (pv 2) pa_nil))) pa_nil))) pa_nil)))
      (pss_cons (ps_if (pt_not (pt_val (pe_call T.okWays hr rfl T.areWays.g T.areWays.F.kp T.areWays.b .nil pass0 (pa_cons (pv 3) pa_nil))))
        (pss_one (ps_raise rfl (takes_of rfl rfl rfl rfl) (pmk_oex T.ir T.irI T.irT T.okIr hr2 T.irB .nil pass0 rfl T.gIr (pa_cons pe_str pa_nil)))) pss_nil)
      (pss_cons (ps_fld (pv 0) (pv 1) rfl) (pss_cons (ps_fld (pv 0) (pv 2) rfl) (pss_cons (ps_fld (pv 0) (pe_callTy call_tuple_of (by rfl) T.tTuple PyProof.Rows.boot_tuple (pa_cons (pv 3) pa_nil)) rfl)
      (pss_one (ps_expr (pe_cfun (pe_glob (v := .ref a.cRow) (by rfl) T.row.g rfl) T.rowR T.rowI T.okRow hr1 T.row.F.kp T.row.b pass0 (pa_cons (pv 0) (pa_cons (pe_lst (pa_cons (pv 1) (pa_cons pe_str (pa_cons (pv 2)
        (StX.pa_star (pe_lc2 (own := [("way", 4), ("word", 5)]) (vs1 := [5]) (g := gName 4) (tt := tYes) (g1 := gName 5) (tt1 := tYes) (wi1 := iTup K (tVar 4)) (te := tVar 5) (by rfl) scAsk.nd (pi_seq (pv 3)) (blkOk_by (own := [("way", 4), ("word", 5)]) (N := ["self", "place", "name", "ways", "way", "word"]) (sc := defScope sAsk) (by decide +kernel)) (by decide)
          (fun _ _ _ _ _ => pg_name (i := 4) scAsk.nd rfl (Or.inl rfl)) (fun _ _ _ _ _ => pts_nil) (fun _ _ _ _ _ => pi_tup (pv 4)) (fun _ _ _ _ _ => pg_name (i := 5) scAsk.nd rfl (Or.inl rfl)) (fun _ _ _ _ _ => pts_nil) (fun _ _ _ _ _ => pv 5)) pa_nil))))) pa_nil))))))))), ?_⟩
    refine ⟨_, rfl, (by show 2 ≤ sizeLine; decide), fun t1 u1 => ⟨_, rfl, (by show 2 ≤ sizeLine; decide), fun t2 u2 => ⟨(by show 2 ≤ sizeLine; decide), fun l ul => ?_⟩⟩⟩
    generalize e1 : upd H t1 (.tup [.str "place", x1]) = G1 at *
    have s1 : Same H G1 := e1 ▸ same_new u1
    have q1 : SqT K G1 t1 [.str "place", x1] := e1 ▸ SqT.of upd_same
    generalize e2 : upd G1 t2 (.tup [.str "name", x2]) = G2 at *
    have s2 : Same G1 G2 := e2 ▸ same_new u2
    have q2 : SqT K G2 t2 [.str "name", x2] := e2 ▸ SqT.of upd_same
    have sl : Same G2 (upd G2 l (.lst [.ref t1, .ref t2])) := same_new ul
    have S : Same H _ := (s1.trans (s2.trans sl))
    have f1 : fine d1 = true := fineAll_mem hf (by simp)
    have f2 : fine d2 = true := fineAll_mem hf (by simp)
    have f3 : fine d3 = true := fineAll_mem hf (by simp)
    have FB := firstBad_is [⟨t1, "place", x1, d1⟩, ⟨t2, "name", x2, d2⟩]
    refine ⟨l, [⟨t1, "place", x1, d1⟩, ⟨t2, "name", x2, d2⟩], rfl, SqL.of upd_same, fun i hi => ?_, fun fb H5 s5 => ?_, fun w fb H5 d s5 nd hd => ?_⟩
    · simp only [List.mem_cons, List.not_mem_nil, or_false] at hi
      rcases hi with rfl | rfl
      · exact ⟨same_tup (s2.trans sl) q1, dp_same S _ _ h1, f1⟩
      · exact ⟨same_tup sl q2, dp_same S _ _ h2, f2⟩
    · have all := firstBad_none fb
      have S5 := S.trans s5
      have fd : firstD [("place", d1), ("name", d2)] = Str.empty := by
        rcases FB with ⟨_, h⟩ | ⟨w, h, _⟩
        · exact h
        · rw [fb] at h; cases h
      have due : dueAsk [d1, d2, d3] = if waysOk d3 = true then Str.empty else "ways" := if_pos fd
      rw [due] at kN kE
      refine ⟨_, rfl, x3, d3, rfl, dp_same S5 _ _ h3, f3, fun H6 s6 => ⟨_, rfl, ?_⟩⟩
      have S6 := S5.trans s6
      cases wo : waysOk d3 with
      | false =>
        rw [wo, if_neg (by decide)] at kE
        refine iteT ⟨(by show 1 ≤ 1000; decide), fun x hx => ⟨x, _, rfl, upd_same, fun d n1 n2 => ⟨rfl, d, _, upd_same, by rw [upd_ne n2]; exact upd_same, ?_, ?_⟩⟩⟩
        · rwa [upd_ne n2] at n1
        · rw [err_heap hx n1 n2]
          have hd' : H6 d = none := by rwa [upd_ne n2] at n1
          exact kE (by decide) _ d (S6.trans (same_new hd')) (S6.free hd') upd_same
      | true =>
        rw [wo, if_pos rfl] at kN
        refine iteF ?_
        obtain ⟨z1, rfl, rfl, c1⟩ := name_at h1 (all ⟨t1, "place", x1, d1⟩ (by simp))
        obtain ⟨z2, rfl, rfl, c2⟩ := name_at h2 (all ⟨t2, "name", x2, d2⟩ (by simp))
        rcases seq_or h3 f3 with ⟨p3, ws, dw, rfl, hs3, ha3, few3, hf3, es3, ed3⟩ | es3
        · have ew : waysD dw = true := by rcases ed3 with rfl | rfl <;> exact wo
          have el := dpAll_len ha3
          have ok := waysD_all ew
          have hs6 := hs3.same S6
          have ha6 := dpAll_same S6 _ _ ha3
          refine ⟨_, rfl, _, rfl, p, a.cAsk, dx, _, rfl, (S6 _ _ hp), T.ask.cl, T.no _ (by simp) _ (by simp), (by show 0 < 1000; decide), ?_⟩
          refine ⟨_, rfl, _, rfl, p, a.cAsk, dx, _, rfl, upd_same, T.ask.cl, T.no _ (by simp) _ (by simp), (by show 1 < 1000; decide), ?_⟩
          rw [upd_upd]
          dsimp only
          refine seq_cut (fun σ1 H1 => ∃ (H7 : Hp) (wa : Addr), σ1 = [some (.ref p), some (.str z1), some (.str z2), some (.ref p3), none, none] ∧ H1 = upd H7 p (.ins a.cAsk dx (putF "ways" (.ref wa) (putF "name" (.str z2) (putF "place" (.str z1) [])))) ∧ (∀ b o, H6 b = some o → b ≠ p → H7 b = some o) ∧ SqT K H1 wa ws) ?after fun after => ?go
          case go =>
            refine ⟨_, rfl, p3, ws, rfl, ?_⟩
            have hp6 := S6 _ _ hp
            have np : ∀ {H' : Hp} {o : HO}, But p H6 (upd H6 p o) := fun {H' o} b u e ne => by rw [upd_ne ne]; exact e
            rcases hs6 with hs6 | hs6
            · refine .inl ⟨(np (H' := H6)).seq hp6 hs6, fun l7 u7 => ?_⟩
              have n7 : p ≠ l7 := fun z => by rw [← z, upd_same] at u7; cases u7
              refine ⟨_, rfl, p, a.cAsk, dx, putF "name" (.str z2) (putF "place" (.str z1) []), rfl, by rw [upd_ne n7]; exact upd_same, T.ask.cl, T.no _ (by simp) _ (by simp), (by show 2 < 1000; decide), ?_⟩
              refine after _ _ ⟨_, l7, rfl, rfl, fun b o e ne => ?_, SqT.of (by rw [upd_ne n7.symm]; exact upd_same)⟩
              have nb : b ≠ l7 := fun z => by rw [← z, upd_ne ne, e] at u7; cases u7
              rw [upd_ne nb, upd_ne ne]
              exact e
            · refine .inr ⟨(np (H' := H6)).tup hp6 hs6, ?_⟩
              refine ⟨_, rfl, p, a.cAsk, dx, putF "name" (.str z2) (putF "place" (.str z1) []), rfl, upd_same, T.ask.cl, T.no _ (by simp) _ (by simp), (by show 2 < 1000; decide), ?_⟩
              exact after _ _ ⟨_, p3, rfl, rfl, fun b o e ne => by rw [upd_ne ne]; exact e, But.tup hp6 (fun b o e ne => by rw [upd_ne ne, upd_ne ne]; exact e) hs6⟩
          case after =>
            rintro _ _ ⟨H7, wa, rfl, rfl, k7, hwa⟩
            have hp6 := S6 _ _ hp
            have k8 : But p H6 (upd H7 p (.ins a.cAsk dx (putF "ways" (.ref wa) (putF "name" (.str z2) (putF "place" (.str z1) []))))) := fun b o e ne => by rw [upd_ne ne]; exact k7 b o e ne
            refine ⟨rfl, _, rfl, _, rfl, _, rfl, ?_⟩
            refine seq_run rfl (k8.sqA hp6 hs6) fun J hJ D un => lc2_flat hJ un (dw.map fun d => (wordsOf d).map V.str) (by rw [List.length_map, el]) (fun j x hx => ?_) ?_ fun H9 s9 h9 => ?_
            · obtain ⟨d, ed, hd⟩ := dpAll_at ha6 hx
              obtain ⟨y, z, rfl, _, _⟩ := wayOk_is (ok d (List.mem_of_getElem? ed))
              cases hd with
              | @tup p2 zs _ hs2 ha2 =>
                cases ha2 with
                | cons hy hr =>
                  cases hy
                  cases hr with
                  | cons hz hn =>
                    cases hz
                    cases hn
                    exact ⟨p2, _, rfl, by rw [List.getElem?_map, ed]; rfl, k8.tup hp6 hs2⟩
            · rw [words_flat, List.length_map]
              have := words_len dw
              omega
            · rw [words_flat] at h9
              have lw := words_len dw
              refine ⟨D, _, rfl, .inr (SqL.of h9), ?_⟩
              refine ⟨?_, fun l2 ul2 => ?_⟩
              · rw [List.append_nil]
                show (List.map V.str _).length + 1 + 1 + 1 ≤ _
                rw [List.length_map]
                exact Nat.le_trans (show _ ≤ 10000 by omega) (by decide)
              · rw [List.append_nil] at *
                have P9 := s9 p _ upd_same
                have np : p ≠ l2 := fun z => by rw [← z, P9] at ul2; cases ul2
                refine ⟨p, l2, a.cAsk, dx, _, z1 :: "ask" :: z2 :: (dw.map wordsOf).flatten, rfl, (by rw [upd_ne np]; exact P9), T.ask.cl, T.no _ (by simp) _ (by simp), (by show 3 < 900; decide), SqL.of upd_same, ?_, ?_, ?_⟩
                · rw [List.length_cons, List.length_cons, List.length_cons]
                  omega
                · intro y hy
                  rcases List.mem_cons.mp hy with rfl | hy
                  · exact c1
                  rcases List.mem_cons.mp hy with rfl | hy
                  · decide
                  rcases List.mem_cons.mp hy with rfl | hy
                  · exact c2
                  exact words_short ok y hy
                · obtain ⟨w0, hw0⟩ := ways_is ok
                  have P10 : (upd H9 l2 (.lst (V.str z1 :: .str "ask" :: .str z2 :: (dw.map wordsOf).flatten.map V.str))) p = some (.ins a.cAsk dx (putF "ways" (.ref wa) (putF "name" (.str z2) (putF "place" (.str z1) [])))) := by rw [upd_ne np]; exact P9
                  have s10 : Same H9 (upd H9 l2 (.lst (V.str z1 :: .str "ask" :: .str z2 :: (dw.map wordsOf).flatten.map V.str))) := same_new ul2
                  have kB : ∀ {o : HO}, But p (upd H9 l2 (.lst (V.str z1 :: .str "ask" :: .str z2 :: (dw.map wordsOf).flatten.map V.str))) (upd (upd H9 l2 (.lst (V.str z1 :: .str "ask" :: .str z2 :: (dw.map wordsOf).flatten.map V.str))) p o) := fun {o} b u e ne => by rw [upd_ne ne]; exact e
                  refine kN rfl _ _ (.ask z1 z2 w0) (fun b o e ne => ?_) upd_same ?_ ?_ (by constructor <;> (repeat rw [lookup_putF, if_neg (by decide)]) <;> rfl)
                  · have k9 := s9 _ _ (k8 b o (S6 _ _ e) ne)
                    have nb : b ≠ l2 := fun z => by rw [← z, k9] at ul2; cases ul2
                    rw [upd_ne ne, upd_ne nb]
                    exact k9
                  · rcases ed3 with rfl | rfl
                    · exact .inl (by rw [hw0])
                    · exact .inr (by rw [hw0])
                  · have ha9 : DpAll K (upd H7 p (.ins a.cAsk dx (putF "ways" (.ref wa) (putF "name" (.str z2) (putF "place" (.str z1) []))))) ws dw := dpAll_but hp6 k8 _ _ ha6
                    refine ⟨by rw [lookup_putF, if_neg (by decide), lookup_putF, if_neg (by decide), lookup_putF, if_neg (by decide), lookup_putF, if_pos rfl], by rw [lookup_putF, if_neg (by decide), lookup_putF, if_neg (by decide), lookup_putF, if_pos rfl],
                      ⟨wa, by rw [lookup_putF, if_neg (by decide), lookup_putF, if_pos rfl], ?_⟩, ?_⟩
                    · rw [← hw0]
                      exact .tup (kB.tup P10 (same_tup (s9.trans s10) hwa)) (dpAll_but P10 kB _ _ (dpAll_same (s9.trans s10) _ _ ha9))
                    · rw [lookup_putF, if_pos rfl, hw0, List.map_map]
                      rfl
        · exfalso
          cases d3 with
          | list _ => cases es3
          | tuple _ => cases es3
          | _ => cases wo
    · have e : firstD [("place", d1), ("name", d2)] = w ∧ w ≠ Str.empty := by
        rcases FB with ⟨h, _⟩ | ⟨w2, h, h2, h3⟩
        · rw [fb] at h; cases h
        · rw [fb] at h
          cases h
          refine ⟨h2, fun z => ?_⟩
          rw [z] at h3
          exact absurd (show Str.empty ∈ (["place", "name"] : List Str) from h3) (by decide)
      have due : dueAsk [d1, d2, d3] = w := by
        show (if firstD [("place", d1), ("name", d2)] = Str.empty then _ else firstD [("place", d1), ("name", d2)]) = w
        rw [e.1, if_neg e.2]
      rw [due] at kE
      exact kE e.2 H5 d (S.trans s5) (S.free nd) hd
end
end K2

set_option Elab.async false
set_option linter.all false
set_option maxRecDepth 100000
set_option maxHeartbeats 4000000
namespace Lw
open PySem PySem.Spec PyProof.Rows L2
theorem HP.more {K : PySem.W.Frag} {G H : Hp} {d l L T : Addr} {R : Nat → PyData → Prop} {i : Nat} {o : HO} (h : HP K G d l L R i H) (u : H T = none) : HP K G d l L R i (upd H T o) := by
  obtain ⟨B, N, xs, pds, sB, nB, DB, r⟩ := h
  exact ⟨B, N, xs, pds, sB, nB, DB.more u, r⟩
/-- something new that stands in the heap by now -/
theorem News.grow {G H H' G' N : Hp} {d l p : Addr} {o : HO} (n : News G H G' N d l) (s : Same H H') (u : H p = none) (e : H' p = some o) : News G H' (upd G' p o) (upd N p o) d l := by
  obtain ⟨ns, m, a⟩ := n.dl.it
  have nd : d ≠ p := ne_of_none a.hd u
  have nl : l ≠ p := ne_of_none a.hl u
  have gp : G' p = none := n.dl.same.free u
  refine ⟨⟨fun b v h => ?_, by rw [upd_ne nd]; exact n.dl.gd, by rw [upd_ne nl]; exact n.dl.gl, n.dl.ne, ns, m, s _ _ a.hd, s _ _ a.hl, a.len, a.nn, a.m0, a.m1⟩, fun b v h => ?_, fun b v h => ?_, fun b v h => ?_⟩
  · by_cases q : b = p
    · subst q
      rw [upd_same] at h
      cases h
      exact e
    · rw [upd_ne q] at h
      exact s _ _ (n.dl.same _ _ h)
  · rw [upd_ne (ne_of_none (n.kp _ _ h) gp)]
    exact n.kp _ _ h
  · by_cases q : b = p
    · subst q
      rw [upd_same] at h ⊢
      exact h
    · rw [upd_ne q] at h ⊢
      exact n.sub _ _ h
  · by_cases q : b = p
    · subst q
      exact n.kp.free gp
    · rw [upd_ne q] at h
      exact n.dis _ _ h
/-- a comprehension over enumerate of a list -/
theorem lc_enum {K : PySem.W.Frag} {a : Addr} {xs : List V} {g : TG} {tt : TT} {te : TE} {vs : List Nat} {σ : L2.St} {H1 : Hp} {D : Addr} {Qd : Hp → Prop} (Pv : Nat → Hp → Prop) (h0 : Pv 0 (upd H1 D (.lst []))) (hl : ∀ i H, Pv i H → SqL K H a xs)
    (hs : ∀ i x T H, xs[i]? = some x → Pv i H → H T = none → g (.ref T) (wipe σ vs) (upd H T (.tup [.int (i : Nat), x])) fun σ2 H2 => wipe σ2 vs = wipe σ vs ∧ tt σ2 H2 fun b H3 =>
      if b = true then te σ2 H3 fun y H4 => ∃ acc, H4 D = some (.lst acc) ∧ acc.length < sizeLine ∧ Pv (i + 1) (upd H4 D (.lst (acc ++ [y]))) else Pv (i + 1) H3) (hd : ∀ H, Pv xs.length H → Qd H) :
    ∃ W : Nat → Nat → Hp → Prop, (∃ m, W 0 m (upd H1 D (.lst []))) ∧ ∀ i m H, W i m H →
      ((Ite K a).stop i H ∧ Qd H) ∨ ((Ite K a).go i H ∧ ∃ Nx : Hp → Prop, (∀ H', Nx H' → ∃ m', m' < m ∧ W (i + 1) m' H') ∧ ∀ x H', (Ite K a).yld i H x H' → g x (wipe σ vs) H' fun σ2 H2 => wipe σ2 vs = wipe σ vs ∧ tt σ2 H2 fun b H3 =>
        if b = true then te σ2 H3 fun y H4 => ∃ acc, H4 D = some (.lst acc) ∧ acc.length < sizeLine ∧ Nx (upd H4 D (.lst (acc ++ [y]))) else Nx H3) := by
  refine ⟨fun i m H => m = xs.length - i ∧ i ≤ xs.length ∧ Pv i H, ⟨xs.length, by simp, Nat.zero_le _, h0⟩, ?_⟩
  rintro i m H ⟨rfl, hi, p⟩
  have q := hl i H p
  by_cases hlt : i < xs.length
  · refine .inr ⟨⟨xs, xs[i], q, by simp [hlt]⟩, Pv (i + 1), fun H' p' => ⟨xs.length - (i + 1), by omega, rfl, hlt, p'⟩, fun x H' y => ?_⟩
    obtain ⟨T, x', rfl, hT, rfl, f⟩ := y
    exact hs i x' T H (f xs q) p hT
  · have e : i = xs.length := by omega
    subst e
    exact .inl ⟨⟨xs, q, Nat.le_refl _⟩, hd H p⟩
theorem dp_perm {K : PySem.W.Frag} {N : Hp} {α : Type} (f : α → PyData) : ∀ {xs ys : List V}, ys.Perm xs → ∀ {rs : List α}, DpAll K N xs (rs.map f) → ∃ rs' : List α, rs'.Perm rs ∧ DpAll K N ys (rs'.map f) := by
  intro xs ys h
  induction h with
  | nil => exact fun {rs} a => ⟨rs, List.Perm.refl _, a⟩
  | cons x _ ih =>
    intro rs a
    cases rs with
    | nil => cases a
    | cons r rs =>
      cases a with
      | cons a1 a2 =>
        obtain ⟨rs', p, b⟩ := ih a2
        exact ⟨r :: rs', p.cons r, .cons a1 b⟩
  | swap x y zs =>
    intro rs a
    match rs, a with
    | r1 :: r2 :: rs, .cons a1 (.cons a2 a3) => exact ⟨r2 :: r1 :: rs, List.Perm.swap _ _ _, .cons a2 (.cons a1 a3)⟩
  | trans _ _ ih1 ih2 =>
    intro rs a
    obtain ⟨rs1, p1, b1⟩ := ih2 a
    obtain ⟨rs2, p2, b2⟩ := ih1 b1
    exact ⟨rs2, p2.trans p1, b2⟩
end Lw

set_option Elab.async false
set_option linter.all false
set_option maxRecDepth 100000
set_option maxHeartbeats 4000000
namespace Lw
open PySem PySem.Spec PyProof.Rows L2
/-- its words are short, its ways not many -/
def Short (r : Row0) : Prop := (∀ z ∈ wordsR r, z.length ≤ 4) ∧ (match r with | .ask _ _ ws => ws.length ≤ 1000 | _ => True)
theorem strs_of {K : PySem.W.Frag} {H : Hp} : ∀ {vs : List V} {zs : List Str}, DpAll K H vs (zs.map PyData.str) → vs = zs.map V.str
  | _, [], h => by cases h; rfl
  | _, z :: zs, h => by
    cases h with
    | cons h1 h2 =>
      cases h1
      rw [strs_of h2]
      rfl
theorem sum4' : ∀ {ys : List Str}, (∀ y ∈ ys, y.length ≤ 4) → (ys.map (·.length)).sum ≤ 4 * ys.length
  | [], _ => by simp
  | y :: r, h => by
    have ih := sum4' (ys := r) fun z hz => h z (List.mem_cons_of_mem _ hz)
    have h1 := h y List.mem_cons_self
    rw [List.map_cons, List.sum_cons, List.length_cons]
    omega
/-- a note, a gate, an end: words alone -/
theorem plain_or (r : Row0) : (∃ (k p : Str) (rest : List Str), k ≠ "ask" ∧ lineD r = .tuple ((k :: p :: rest).map PyData.str) ∧ wordsR r = p :: k :: rest ∧ rest.length ≤ 3) ∨ ∃ p n ws, r = .ask p n ws := by
  cases r with
  | ask p n ws => exact .inr ⟨p, n, ws, rfl⟩
  | note p w t => exact .inl ⟨"note", p, [w, t], by decide, rfl, rfl, by simp⟩
  | gate p m n e => exact .inl ⟨"mark", p, [m, n, e], by decide, rfl, rfl, by simp⟩
  | end_ p => exact .inl ⟨"end", p, [], by decide, rfl, rfl, by simp⟩
end Lw
namespace K2
open PySem L2 Lw
/-- the arguments of a row's class; what is due of them -/
def argsD : Row0 → List PyData
  | .ask p n ws => [.str p, .str n, .tuple (ws.map wayD)]
  | .note p w t => [.str p, .str w, .str t]
  | .gate p m n e => [.str p, .str m, .str n, .str e]
  | .end_ p => [.str p]
def dueR : Row0 → Str
  | .ask p n ws => dueAsk (argsD (.ask p n ws))
  | .note p w t => dueNote (argsD (.note p w t))
  | .gate p m n e => dueGate (argsD (.gate p m n e))
  | .end_ p => dueEnd (argsD (.end_ p))
def clsR (a : Ad) : Row0 → Addr
  | .ask _ _ _ => a.cAsk
  | .note _ _ _ => a.cNote
  | .gate _ _ _ _ => a.cGate
  | .end_ _ => a.cEnd
section
variable {P : Program} {w : World} {K : PySem.W.Frag} {mg : Str → Option Value} {base : Heap} {a : Ad}
theorem ways_inj : ∀ {us ws : List (Str × Str)}, us.map wayD = ws.map wayD → us = ws
  | [], [], _ => rfl
  | [], _ :: _, h => by simp at h
  | _ :: _, [], h => by simp at h
  | (a1, a2) :: us, (b1, b2) :: ws, h => by
    rw [List.map_cons, List.map_cons] at h
    obtain ⟨h1, h2⟩ := List.cons.inj h
    have h1' : PyData.tuple [.str a1, .str a2] = .tuple [.str b1, .str b2] := h1
    simp at h1'
    obtain ⟨rfl, rfl⟩ := h1'
    rw [ways_inj h2]
theorem made_is {r r' : Row0} (m : Made (argsD r) r') : r' = r := by
  cases r with
  | ask p n ws =>
    cases r' with
    | ask p' n' ws' =>
      rcases m with h | h
      · simp [argsD] at h
      · have h2 : [PyData.str p, .str n, .tuple (ws.map wayD)] = [.str p', .str n', .tuple (ws'.map wayD)] := h
        simp only [List.cons.injEq, PyData.str.injEq, PyData.tuple.injEq, and_true] at h2
        obtain ⟨e1, e2, e3⟩ := h2
        rw [e1, e2, ways_inj e3]
    | note p' w' t' => have h : [PyData.str p, .str n, .tuple (ws.map wayD)] = [.str p', .str w', .str t'] := m; simp at h
    | gate p' m' n' e' => have h : [PyData.str p, .str n, .tuple (ws.map wayD)] = [.str p', .str m', .str n', .str e'] := m; simp at h
    | end_ p' => have h : [PyData.str p, .str n, .tuple (ws.map wayD)] = [.str p'] := m; simp at h
  | note p w t =>
    cases r' with
    | ask p' n' ws' => rcases m with h | h <;> simp [argsD] at h
    | note p' w' t' =>
      have h : [PyData.str p, .str w, .str t] = [.str p', .str w', .str t'] := m
      simp at h
      obtain ⟨rfl, rfl, rfl⟩ := h
      rfl
    | gate p' m' n' e' => have h : [PyData.str p, .str w, .str t] = [.str p', .str m', .str n', .str e'] := m; simp at h
    | end_ p' => have h : [PyData.str p, .str w, .str t] = [.str p'] := m; simp at h
  | gate p m0 n e =>
    cases r' with
    | ask p' n' ws' => rcases m with h | h <;> simp [argsD] at h
    | note p' w' t' => have h : [PyData.str p, .str m0, .str n, .str e] = [.str p', .str w', .str t'] := m; simp at h
    | gate p' m' n' e' =>
      have h : [PyData.str p, .str m0, .str n, .str e] = [.str p', .str m', .str n', .str e'] := m
      simp at h
      obtain ⟨rfl, rfl, rfl, rfl⟩ := h
      rfl
    | end_ p' => have h : [PyData.str p, .str m0, .str n, .str e] = [.str p'] := m; simp at h
  | end_ p =>
    cases r' with
    | ask p' n' ws' => rcases m with h | h <;> simp [argsD] at h
    | note p' w' t' => have h : [PyData.str p] = [.str p', .str w', .str t'] := m; simp at h
    | gate p' m' n' e' => have h : [PyData.str p] = [.str p', .str m', .str n', .str e'] := m; simp at h
    | end_ p' =>
      have h : [PyData.str p] = [.str p'] := m
      simp at h
      subst h
      rfl
theorem make_case {H : Hp} {C Cir : Addr} {due : List PyData → Str} {n : Nat} {ta : TA} {σ : L2.St} {xs : List V} {r : Row0} {Q : VK} (hta : ∀ Q, Q xs H → ta σ H Q) (ha : DpAll K H xs (argsD r)) (hf : fineAll (argsD r) = true) (len : xs.length = n) (hd : due (argsD r) = Str.empty)
    (fin : ∀ (H' : Hp) (x dx : Addr) (fs : List (Str × V)), Same H H' → H x = none → H' x = some (.ins C dx fs) → fieldsOk K H' fs r → Bare fs → Q (.ref x) H') : tMake C (spMk K C Cir due n) [] E0 ta σ H Q := by
  refine hta _ fun x dx nx nd ne => ?_
  have s1 : Same H (upd H dx (.own x)) := same_new nd
  have nx' : (upd H dx (.own x)) x = none := by rw [upd_ne ne.symm]; exact nx
  have s2 : Same (upd H dx (.own x)) (upd (upd H dx (.own x)) x (.ins C dx [])) := same_new nx'
  refine ⟨x, dx, xs, argsD r, by rw [List.append_nil], len, dpAll_same (s1.trans s2) _ _ ha, hf, upd_same, fun e H' fs r' kp hi md fo bf => ⟨rfl, ?_⟩, fun e => absurd hd e⟩
  have er := made_is md
  subst er
  exact fin H' x dx fs (Same.made nx nd kp) nx hi fo bf
end
end K2

set_option Elab.async false
set_option linter.all false
set_option maxRecDepth 100000
set_option maxHeartbeats 4000000
namespace Lw
open PySem PySem.Spec PyProof.Rows L2
/-! ### x == y, x an instance of a class with an __eq__ of its own, y anything -/
def rOwnEq (K : PySem.W.Frag) (f : Addr) (sp : Sp) (E : XK) : R2 := fun x y H Q => ∃ (a C dx : Addr) (fs : List (PySem.Str × V)) (t : Value), x = .ref a ∧ H a = some (.ins C dx fs) ∧ TyX K H y t ∧ PySem.W.notFirst K C t = true ∧ PySem.W.findIn K (.ref C) "__eq__" = some (some (.ref f)) ∧
  sp [x, y] H (fun v H' => ∃ b, v = .bl b ∧ Q (.bl b) H') E
section
variable {X : Cx}
theorem op_ownEq {CX : CXT} {f : Addr} {fd : FuncData} {ps : List PySem.Str} {sp : Sp} {E : XK} {n : Nat} (F : FnOk X.prog X.w X.K X.mg X.base CX n f fd ps sp) (hr : Room n X.A) (hf : PySem.W.isFn X.K (.ref f) = true) (hb : Binds X.K fd ps []) (hx : Passes CX X E) :
    OpR X (compareOp .Eq) (rOwnEq X.K f sp E) := by
  intro pins s σ H x y v u Q I rx ry hq
  obtain ⟨a, C, dx, fs, t, rfl, ha, ty, nf, hs, hsp⟩ := hq
  obtain rfl : v = Value.ref a := rx
  obtain ⟨Pz, Z, pz, _⟩ := kit_of I ry ty
  obtain ⟨mA, J, _⟩ := ins_get I.hok ha
  obtain ⟨od, J, _⟩ := J.look
  obtain ⟨m, hF⟩ := I.fr
  show wpAny (model X.prog X.w) X.A (richCompare .Eq (.ref a) u) (EP X pins σ Q) X.xe s
  refine PySem.W.cmp_K (op := .Eq) (tb := t) hr.units0 hF I.ok.mod.kin J (Z.ty _ _ I.kIn pz) nf hs hf ?_
  have r2 : Vals [V.ref a, y] [Value.ref a, u] := .cons rfl (.cons ry .nil)
  have hl := F.len _ _ _ _ hsp
  have z := run_fn (us := [Value.ref a, u]) F hr hb .nil hx I r2 (by rw [List.append_nil]; exact hsp)
  refine wpAny_mono z (fun w s' q => ?_) fun _ _ q => q
  obtain ⟨v', H', I', r', q⟩ := q
  obtain ⟨b, eb, q2⟩ := q
  subst eb
  have e : w = Value.bool b := r'
  subst e
  exact ⟨.bl b, H', I', rfl, q2⟩
/-- x != y: object's own, which asks the class's __eq__ -/
def rOwnNe (K : PySem.W.Frag) (f : Addr) (sp : Sp) (E : XK) : R2 := fun x y H Q => ∃ (a C dx : Addr) (fs : List (PySem.Str × V)) (t : Value), x = .ref a ∧ H a = some (.ins C dx fs) ∧ TyX K H y t ∧ PySem.W.notFirst K C t = true ∧ PySem.W.findIn K (.ref C) "__eq__" = some (some (.ref f)) ∧
  PySem.W.findIn K (.ref C) "__ne__" = some (some (.builtin "object.__ne__")) ∧ PySem.W.mroIn K C (.type "object") = some true ∧ sp [x, y] H (fun v H' => ∃ b, v = .bl b ∧ Q (.bl !b) H') E
theorem special_ne {M : Model} {A : Around} {E' : Value → Shared → Prop} {s : Shared} {K : PySem.W.Frag} {x C : Addr} {ox : Obj} {od : Option Obj} {more : List Value} {Q : Option Value → Shared → Prop} (kin : K.In s.heap) (inst : PySem.W.InstAt s.heap x ox C od)
    (found : PySem.W.findIn K (.ref C) "__ne__" = some (some (.builtin "object.__ne__"))) (goes : wpAny M A (call (.builtin "object.__ne__") (.ref x :: more)) (fun v => Q (some v)) E' s) : wpAny M A (callSpecialIfBound? (.ref x) "__ne__" more) Q E' s := by
  have last : wpAny M A ((fun v => some v) <$> call (.builtin "object.__ne__") ([Value.ref x] ++ more)) Q E' s := wpAny_bind (wpAny_mono goes (fun _ _ q => wpAny_pure q) fun _ _ q => q)
  unfold callSpecialIfBound? bindSpecialIfBound?
  refine wpAny_holding (wpAny_bind (wpAny_bind (wpAny_bind (inst.type.here ((PySem.W.looks_findIn kin found).here ?_)))))
  refine wpAny_bind (wpAny_askSetting (wpAny_ite ?_))
  split
  · exact wpAny_bind (wpAny_of_eq (F.cmp_object.ne.bind _) (wpAny_pure (by exact last)))
  · exact wpAny_tryCatch (wpAny_bind (wpAny_of_eq (F.cmp_object.ne.bind _) (wpAny_pure (by exact last))))
theorem call_ne {P : Program} {w : World} {A : Around} {E' : Value → Shared → Prop} {s : Shared} {K : PySem.W.Frag} {x C f : Addr} {ox : Obj} {od : Option Obj} {u : Value} {Q : Value → Shared → Prop} (kin : K.In s.heap) (inst : PySem.W.InstAt s.heap x ox C od)
    (hm : PySem.W.mroIn K C (.type "object") = some true) (hs : PySem.W.findIn K (.ref C) "__eq__" = some (some (.ref f))) (hf : PySem.W.isFn K (.ref f) = true) (hu : A.in1.units < cLine)
    (goes : wpAny (model P w) A.in1 (call (.ref f) [.ref x, u]) (fun v s' => ∃ b, v = .bool b ∧ Q (.bool !b) s') E' s) : wpAny (model P w) A (call (.builtin "object.__ne__") [.ref x, u]) Q E' s := by
  refine wpAny_call (codeAny_call_builtin F.cmp_object.ne.plain F.cmpEntry_ne (PySem.W.check_slot F.cmpKind_ne F.cmpSplit_ne (inst.type.andThen (PySem.W.looks_mroIn kin hm)) (F.cmpArgs_ne _ _) ?_))
  unfold Builtin.«object.__ne__»
  refine wpAny_bind (wpAny_of_eq (rfl : slotArgs "__ne__" 1 ⟨[.ref x, u], []⟩ = pure (.ref x, [u])) ?_)
  refine wpAny_bind (wpAny_cRoomFor hu ?_)
  refine wpAny_bind (PySem.W.ifBound_K kin inst hs hf (wpAny_mono goes (fun v s' q => ?_) fun _ _ q => q))
  obtain ⟨b, rfl, q⟩ := q
  exact wpAny_bind (wpAny_truthy_bool (wpAny_pure q))
theorem op_ownNe {CX : CXT} {f : Addr} {fd : FuncData} {ps : List PySem.Str} {sp : Sp} {E : XK} {n : Nat} (F : FnOk X.prog X.w X.K X.mg X.base CX n f fd ps sp) (hr : Room (n + 1) X.A) (hf : PySem.W.isFn X.K (.ref f) = true) (hb : Binds X.K fd ps []) (hx : Passes CX X E) :
    OpR X (compareOp .NotEq) (rOwnNe X.K f sp E) := by
  intro pins s σ H x y v u Q I rx ry hq
  obtain ⟨a, C, dx, fs, t, rfl, ha, ty, nf, hs, hne, hm, hsp⟩ := hq
  obtain rfl : v = Value.ref a := rx
  obtain ⟨Pz, Z, pz, _⟩ := kit_of I ry ty
  obtain ⟨mA, J, _⟩ := ins_get I.hok ha
  obtain ⟨od, J, _⟩ := J.look
  have hr1 : Room n X.A.in1 := hr.in1
  have e0 : Env0 X.prog X.w X.K X.mg X.base X.A.in1 X.stack s H := by
    have e := I.env0
    exact ⟨e.frames, e.mod, e.bs, e.bsz, e.funs, e.frf, e.hok, e.bare⟩
  have r2 : Vals [V.ref a, y] [Value.ref a, u] := .cons rfl (.cons ry .nil)
  have hl := F.len _ _ _ _ hsp
  have inner : wpAny (model X.prog X.w) X.A.in1 (call (.ref f) [.ref a, u]) (fun v s' => ∃ b, v = .bool b ∧ EP X pins σ Q (.bool !b) s') X.xe s := by
    refine wpAny_call (codeAny_mono (F.run X.A.in1 X.stack s H ⟨[.ref a, u], []⟩ [.ref a, u] [.ref a, y] _ E hr1 e0 (by
      have := hb s [.ref a, u] I.kIn (by simpa using hl)
      simpa using this) r2 hsp) fun r s' hq => ?_)
    cases r with
    | error e => exact hx pins σ H s e s' I hq
    | ok fl =>
      cases fl with
      | ret w =>
        obtain ⟨z, H', I', rz, b, ez, q⟩ := I.after hq
        subst ez
        have ew : w = Value.bool b := rz
        exact ⟨b, ew, .bl !b, H', I', rfl, q⟩
      | next => exact False.elim hq
      | brk => exact False.elim hq
      | cont => exact False.elim hq
  have one : wpAny (model X.prog X.w) X.A (tryCompare (.ref a) "__ne__" u) (fun r s' => ∃ v, r = some v ∧ EP X pins σ Q v s') X.xe s := by
    unfold tryCompare
    refine wpAny_bind (special_ne I.kIn J hne (call_ne I.kIn J hm hs hf hr1.units0 (wpAny_mono inner (fun v s' q => ?_) fun _ _ q => q)))
    obtain ⟨b, eb, q⟩ := q
    exact ⟨b, eb, wpAny_pure ⟨_, rfl, q⟩⟩
  show wpAny (model X.prog X.w) X.A (richCompare .NotEq (.ref a) u) (EP X pins σ Q) X.xe s
  unfold richCompare
  simp only [oneThing_ref]
  refine wpAny_holding (wpAny_bind (wpAny_cRoomFor hr.units0 (wpAny_bind (J.type.here (wpAny_bind ((Z.ty _ _ I.kIn pz).here ?_))))))
  split
  · rename_i q
    have e : PySem.W.subIn X.K t (.ref C) = some false := by
      rcases Bool.or_eq_true_iff.mp nf with e | e
      · rw [beq_iff_eq.mp e] at q
        simp at q
      · exact beq_iff_eq.mp e
    refine wpAny_bind ((PySem.W.looks_subIn I.kIn e).here ?_)
    rw [if_neg Bool.false_ne_true]
    refine wpAny_bind (wpAny_mono one (fun r s' z => ?_) fun _ _ q => q)
    obtain ⟨v, rfl, q⟩ := z
    exact wpAny_pure q
  · refine wpAny_bind (wpAny_pure ?_)
    rw [if_neg Bool.false_ne_true]
    refine wpAny_bind (wpAny_mono one (fun r s' z => ?_) fun _ _ q => q)
    obtain ⟨v, rfl, q⟩ := z
    exact wpAny_pure q
end
end Lw

set_option Elab.async false
set_option linter.all false
set_option maxRecDepth 100000
set_option maxHeartbeats 4000000
namespace K2
open PySem L2 Lw
/-! ### rows compared, told -/
def rowCs (a : Ad) : List Addr := [a.cAsk, a.cNote, a.cGate, a.cEnd]
/-- what more the top has written of the rows' classes -/
structure RowF (K : PySem.W.Frag) (a : Ad) (fEq fStr : Addr) (dEq dStr : FuncData) : Prop where
  eqF : Fun K "__eq__" "Row.__eq__" sEq fEq dEq
  eqB : Binds K dEq ["self", "other"] []
  eqI : PySem.W.isFn K (.ref fEq) = true
  strF : Fun K "__str__" "Row.__str__" sStr fStr dStr
  strB : Binds K dStr ["self"] []
  cls : ∀ C ∈ rowCs a, Cls K C
  isA : ∀ C ∈ rowCs a, PySem.W.findIn K (.ref C) "__class__" = some (some (.builtin "object.__class__"))
  get : PySem.W.specialIn K (.builtin "object.__class__") "__get__" = some (some (.builtin "getset_descriptor.__get__"))
  tak : PySem.W.takesIn K (.builtin "object.__class__") = some true
  obj : ∀ C ∈ rowCs a, PySem.W.mroIn K C (.type "object") = some true
  row : ∀ C ∈ rowCs a, PySem.W.kitOne K (.ref C) (.ref a.cRow) = some true
  noRow : ∀ T ∈ (["tuple", "str", "int"] : List String), PySem.W.kitOne K (.type T) (.ref a.cRow) = some false
  eqAt : ∀ C ∈ rowCs a, PySem.W.findIn K (.ref C) "__eq__" = some (some (.ref fEq))
  neAt : ∀ C ∈ rowCs a, PySem.W.findIn K (.ref C) "__ne__" = some (some (.builtin "object.__ne__"))
  first : ∀ C ∈ rowCs a, ∀ D ∈ rowCs a, PySem.W.notFirst K C (.ref D) = true
  firstT : ∀ C ∈ rowCs a, ∀ T ∈ (["tuple", "str", "int"] : List String), PySem.W.notFirst K C (.type T) = true
def spEqR (K : PySem.W.Frag) (a : Ad) : Sp := fun vs H Q _ => ∃ (p C dx : Addr) (fs : List (Str × V)) (z : Str) (y : V), vs = [.ref p, y] ∧ H p = some (.ins C dx fs) ∧ C ∈ rowCs a ∧ fs.lookup ("_text" : Str) = some (.str z) ∧
  ((∃ (q D dy : Addr) (gs : List (Str × V)) (z' : Str), y = .ref q ∧ H q = some (.ins D dy gs) ∧ D ∈ rowCs a ∧ gs.lookup ("_text" : Str) = some (.str z') ∧ Q (.bl (decide (z = z'))) H) ∨
    ∃ T, T ∈ (["tuple", "str", "int"] : List String) ∧ TyX K H y (.type T) ∧ Q (.bl false) H)
def spStrR (K : PySem.W.Frag) (a : Ad) : Sp := fun vs H Q _ => ∃ (p C dx : Addr) (fs : List (Str × V)) (z : Str), vs = [.ref p] ∧ H p = some (.ins C dx fs) ∧ C ∈ rowCs a ∧ fs.lookup ("_text" : Str) = some (.str z) ∧ Q (.str z) H
section
variable {P : Program} {w : World} {K : PySem.W.Frag} {mg : Str → Option Value} {base : Heap} {a : Ad} {fEq fStr : Addr} {dEq dStr : FuncData}
theorem RowF.ty (R : RowF K a fEq fStr dEq dStr) {H : Hp} {p C dx : Addr} {fs : List (Str × V)} (hC : C ∈ rowCs a) (h : H p = some (.ins C dx fs)) : TyX K H (.ref p) (.ref C) := .base (.ins h (R.cls C hC) (R.isA C hC) R.get R.tak (R.obj C hC))
theorem scEq : FnScope ["self", "other"] ["self", "other"] (defScope sEq) := ⟨rfl, rfl, rfl, by decide +kernel, rfl, by decide +kernel, by decide +kernel⟩
theorem scStr : FnScope ["self"] ["self"] (defScope sStr) := ⟨rfl, rfl, rfl, by decide +kernel, rfl, by decide +kernel, by decide +kernel⟩
theorem RowF.okEq (R : RowF K a fEq fStr dEq dStr) (T : Txt K mg a) : FnOk P w K mg base CX0 1 fEq dEq ["self", "other"] (spEqR K a) := by
  refine R.eqF.ok scEq (fun vs H Q E h => ?_) (fun cdv A outer s H vs Q E hr h => ?_)
  · obtain ⟨p, C, dx, fs, z, y, rfl, _⟩ := h
    rfl
  · obtain ⟨p, C, dx, fs, z, y, rfl, hp, hC, hz, alt⟩ := h
    have na : NoAttr K C "_text" := T.no C hC _ (by simp)
    refine ⟨_, pss_one (ps_ret (pe_and (pe_callB call_isi (by rfl) T.tIs PyProof.Rows.boot_isinstance (pa_cons (pv 1) (pa_cons (pe_glob (v := .ref a.cRow) (by rfl) T.row.g rfl) pa_nil))) (pe_one (pe_cmpR op_eq (pe_fld (pv 0) rfl) (pe_fld (pv 1) rfl) (nomark _))))), ?_⟩
    rcases alt with ⟨q, D, dy, gs, z', rfl, hq, hD, hz', fin⟩ | ⟨S, hS, ty, fin⟩
    · refine ⟨_, rfl, _, _, _, _, _, rfl, .own a.cRow, R.ty hD hq, R.row D hD, _, rfl, ?_⟩
      refine iteT ⟨_, rfl, p, C, dx, fs, _, rfl, hp, R.cls C hC, na, hz, _, rfl, q, D, dy, gs, _, rfl, hq, R.cls D hD, T.no D hD _ (by simp), hz', rfl, ?_⟩
      have e : decide (V.str z = V.str z') = decide (z = z') := decide_eq_decide.mpr ⟨fun h => by cases h; rfl, fun h => by rw [h]⟩
      rw [e]
      exact fin
    · refine ⟨_, rfl, _, _, _, _, _, rfl, .own a.cRow, ty, R.noRow S hS, _, rfl, ?_⟩
      exact iteF fin
theorem RowF.okStr (R : RowF K a fEq fStr dEq dStr) (T : Txt K mg a) : FnOk P w K mg base CX0 1 fStr dStr ["self"] (spStrR K a) := by
  refine R.strF.ok scStr (fun vs H Q E h => ?_) (fun cdv A outer s H vs Q E hr h => ?_)
  · obtain ⟨p, C, dx, fs, z, rfl, _⟩ := h
    rfl
  · obtain ⟨p, C, dx, fs, z, rfl, hp, hC, hz, fin⟩ := h
    exact ⟨_, pss_one (ps_ret (pe_callTy SkE.call_str_str (by rfl) T.tStr PyProof.Rows.boot_str (pa_cons (pe_fld (pv 0) rfl) pa_nil))), _, rfl, p, C, dx, fs, _, rfl, hp, R.cls C hC, T.no C hC _ (by simp), hz, _, rfl, fin⟩
end
end K2

set_option Elab.async false
set_option linter.all false
set_option maxRecDepth 100000
set_option maxHeartbeats 4000000
/-! enumerate(t), t a tuple. -/
namespace Lw
open PySem PySem.Spec PyProof.Rows L2
theorem meets_enum_tup (t : Addr) (items : Array Value) (n : Nat) (dct : Option Addr) (sl : Array (Option Value)) :
    Meets (Builtin.«enumerate.__new__» ⟨[.type "enumerate", .ref t], []⟩) (fun _ R s => s.heap.get? t = some { cls := .type "tuple", dict := dct, data := .seq items n, slots := sl } ∧
      R (.ok (.ret (.ref (s.heap.objs.size + 1)))) { s with heap := (s.heap.push { cls := .type "tuple_iterator", data := .fields #[.ref t, .int 0 0] }).push { cls := .type "enumerate", data := .fields #[.none, .bool false, .ref s.heap.objs.size, rawInt 0, .none, .none] } }) :=
  .of_wp fun prog w A R s told => by
    obtain ⟨hp, g, d, tk, os⟩ := s
    obtain ⟨at_, fin⟩ := told
    have sub := sub_enumerate
    have isT : Heap.IsTuple (Shared.heap ⟨hp, g, d, tk, os⟩) t items := ⟨_, at_, rfl, n, rfl⟩
    have size : (hp.push { cls := .type "tuple_iterator", data := .fields #[.ref t, .int 0 0] }).objs.size = hp.objs.size + 1 := Heap.size_push ..
    have fin' : R (.ok (.ret (.ref (hp.push { cls := .type "tuple_iterator", data := .fields #[.ref t, .int 0 0] }).objs.size))) ⟨(hp.push { cls := .type "tuple_iterator", data := .fields #[.ref t, .int 0 0] }).push { cls := .type "enumerate", data := .fields #[.none, .bool false, .ref hp.objs.size, rawInt 0, .none, .none] }, g, d, tk, os⟩ := by rw [size]; exact fin
    wp_walk using PySem.AutoSeq1.wpAny_loadPart' at_
    refine wpAny_stack_any fun st => wpAny_pure ?_
    split
    · rename_i c _ _ _ _ _
      cases (c == Value.type "enumerate")
      · wp_walk using PySem.AutoSeq1.wpAny_loadPart' at_, wpAny_pyIter_tuple isT
        exact ⟨_, rfl, fin'⟩
      · wp_walk using PySem.AutoSeq1.wpAny_loadPart' at_, wpAny_pyIter_tuple isT
        exact ⟨_, rfl, fin'⟩
    · wp_walk using PySem.AutoSeq1.wpAny_loadPart' at_, wpAny_pyIter_tuple isT
      exact ⟨_, rfl, fin'⟩
theorem call_enum_tup {prog : Program} {w : World} {A : Around} {E : Value → Shared → Prop} {s : Shared} {t : Addr} {items : Array Value} {Q : Value → Shared → Prop} (isT : s.heap.IsTuple t items)
    (fin : ∀ h', IsEnum h' (s.heap.objs.size + 1) s.heap.objs.size 0 .none → h'.IsTupleIter s.heap.objs.size t 0 → (∀ b o, s.heap.get? b = some o → h'.get? b = some o) → Q (.ref (s.heap.objs.size + 1)) { s with heap := h' }) :
    wpAny (model prog w) A (call (.type "enumerate") [.ref t]) Q E s := by
  obtain ⟨⟨c, dct, dt, sl⟩, at_, isC, n, isD⟩ := isT
  obtain rfl : c = .type "tuple" := isC
  obtain rfl : dt = .seq items n := isD
  refine callType_new F.called_enumerate (by decide) (F.typeCall_enumerate_1 _) (F.newCall_enumerate_1 _) (fun obj => F.args_object_init_2 obj _) F.entry_enumerate_new (meets_enum_tup t items n dct sl) ⟨at_, ?_⟩
  have size : (s.heap.push { cls := .type "tuple_iterator", data := .fields #[.ref t, .int 0 0] }).objs.size = s.heap.objs.size + 1 := Heap.size_push ..
  have isE : IsEnum ((s.heap.push { cls := .type "tuple_iterator", data := .fields #[.ref t, .int 0 0] }).push { cls := .type "enumerate", data := .fields #[.none, .bool false, .ref s.heap.objs.size, rawInt 0, .none, .none] }) (s.heap.objs.size + 1) s.heap.objs.size 0 .none := by
    have z := Heap.get?_push_size (s.heap.push { cls := .type "tuple_iterator", data := .fields #[.ref t, .int 0 0] }) (o := { cls := .type "enumerate", data := .fields #[.none, .bool false, .ref s.heap.objs.size, rawInt 0, .none, .none] }) rfl
    rwa [size] at z
  exact ⟨⟨_, isE, rfl⟩, fin _ isE ⟨_, Heap.get?_push_of_some _ (Heap.get?_push_size _ rfl), rfl, rfl⟩ fun b o x => Heap.get?_push_of_some _ (Heap.get?_push_of_some _ x)⟩
/-- the tuple at a, each item in a new pair -/
def ItEt (K : PySem.W.Frag) (a : Addr) : It :=
  ⟨fun i H => ∃ (xs : List V) (x : V), SqT K H a xs ∧ xs[i]? = some x, fun i H v H' => ∃ T x, v = .ref T ∧ H T = none ∧ H' = upd H T (.tup [.int (i : Nat), x]) ∧ ∀ xs, SqT K H a xs → xs[i]? = some x, fun i H => ∃ xs : List V, SqT K H a xs ∧ xs.length = i⟩
theorem turn_enum_tup {P : Program} {w : World} {K : PySem.W.Frag} {elts : List Expr} {kk : Nat} {tpos : Pos} (a e it : Addr) :
    Turn P w K (.Tuple elts kk tpos) (ItEt K a) [e, it] e (fun i h => (∃ old, IsEnum h e it ((i : Nat) : Int) old) ∧ h.IsTupleIter it a i ∧ e ≠ it) where
  mem := by simp
  obj := fun i h st b hb => by
    obtain ⟨⟨old, isE⟩, ⟨o, ho, hc, hd⟩, _⟩ := st
    rcases (show b = e ∨ b = it by simpa using hb) with rfl | rfl
    · exact ⟨_, isE, fun v q => nomatch q⟩
    · exact ⟨o, ho, fun v q => by rw [hd] at q; cases q⟩
  keep := fun i h h' st k => by
    obtain ⟨⟨old, isE⟩, isI, ne⟩ := st
    exact ⟨⟨old, k e (by simp) _ isE⟩, isI.at fun o q => k it (by simp) o q, ne⟩
  item := by
    intro X hP hw hK hc i pins s σ H E I hf st hg
    subst hP hw hK
    obtain ⟨⟨old, isE⟩, isI, ne⟩ := st
    obtain ⟨xs, x, hq, hx⟩ := hg
    obtain ⟨its, rv, p, hz⟩ := I.tuple hq
    have isT : s.heap.IsTuple a its.toArray := p
    obtain ⟨u, hu, ru⟩ := rv.get hx
    have inE : e < s.heap.objs.size := Heap.lt_size isE
    have inI : it < s.heap.objs.size := by obtain ⟨_, q, _⟩ := isI; exact Heap.lt_size q
    have neA : e ≠ a := fun z => by
      obtain ⟨o, q, qc, _⟩ := isT
      rw [← z, show s.heap.get? e = _ from isE] at q
      cases q
      exact absurd qc (by show ¬ Value.type "enumerate" = Value.type "tuple"; decide)
    have neI : a ≠ it := fun z => by
      obtain ⟨o, q, qc, _⟩ := isT
      obtain ⟨o', q', qc', _⟩ := isI
      rw [z, q'] at q
      cases q
      rw [qc'] at qc
      exact absurd qc (by decide)
    have few : i < its.toArray.size := by
      have := (List.getElem?_eq_some_iff.mp hu).1
      simpa using this
    refine wpAny_pyNext_enum_itemD (PySem.Draws.tuple (A := X.A.in1) (I.ok.hd hc) it a neI its.toArray) isE ⟨isI, isT⟩ few ne (by simp [ne, neA]) fun x2 h' tk hp2 out st2 hT hsz hk => ?_
    have e2 : x2 = u := by
      have hu' : its.toArray[i]? = some u := by simpa using hu
      rw [hu'] at hp2
      exact (Option.some.inj hp2).symm
    subst e2
    refine ⟨_, rfl, wpAny_letOwnedTupleGo_enum (s := { s with heap := h', toks := tk + 1 }) out fun h2 isE2 sb => ?_⟩
    have hT2 : h2.get? s.heap.objs.size = some { cls := .type "tuple", data := .seq #[.int i tk, x2] } := (sb.2 _ (Nat.ne_of_gt inE)).trans hT
    have new : ObjOk X.prog X.w (upd H s.heap.objs.size (.tup [.int (i : Nat), x])) h2 s.heap.objs.size (.tup [.int (i : Nat), x]) := ⟨by show 2 ≤ sizeLine; decide, [.int i tk, x2], .cons ⟨_, rfl⟩ (.cons ru .nil), ⟨_, hT2, rfl, _, rfl⟩⟩
    have I1 : Inv X pins σ (upd H s.heap.objs.size (.tup [.int (i : Nat), x])) { s with heap := h2, toks := tk + 1 } :=
      I.turnedNew (ch := [e, it]) (fun b ob hb q => (sb.2 b (fun z => hb (by simp [z]))).trans (hk b ob (fun z => hb (by simp [z])) (fun z => hb (by simp [z])) q)) hf (Nat.le_refl _) new
    refine ⟨.ref s.heap.objs.size, _, I1, rfl, ⟨_, x, rfl, I.hok.fresh (Nat.le_refl _), rfl, fun ys hy => by rw [I.tuple_inj hy hq]; exact hx⟩, ⟨⟨x2, ?_⟩, st2.1.at fun o q => (sb.2 it (Ne.symm ne)).trans q, ne⟩, fun b hb => ?_⟩
    · rw [show ((i + 1 : Nat) : Int) = (i : Int) + 1 by omega]
      exact isE2
    · have hb' : b < s.heap.objs.size := by
        rcases (show b = e ∨ b = it by simpa using hb) with rfl | rfl
        · exact inE
        · exact inI
      rw [upd_ne (Nat.ne_of_lt hb')]
      exact (hf b hb).1
  done := by
    intro X hP hw hK hc i pins s σ H E I hf st hg
    subst hP hw hK
    obtain ⟨⟨old, isE⟩, isI, ne⟩ := st
    obtain ⟨xs, hq, hx⟩ := hg
    obtain ⟨its, rv, p, hz⟩ := I.tuple hq
    have isT : s.heap.IsTuple a its.toArray := p
    obtain ⟨f0, f1, f2, f3, f4, f5⟩ := hf it (by simp)
    have size : its.toArray.size = i := by rw [List.size_toArray, ← rv.length]; exact hx
    have neI : a ≠ it := fun z => by
      obtain ⟨o, q, qc, _⟩ := isT
      obtain ⟨o', q', qc', _⟩ := isI
      rw [z, q'] at q
      cases q
      rw [qc'] at qc
      exact absurd qc (by decide)
    exact wpAny_pyNext_enum_endD (PySem.Draws.tuple (A := X.A.in1) (I.ok.hd hc) it a neI its.toArray) isE ⟨by rw [size]; exact isI, isT⟩ fun h' eb => ⟨rfl, I.turned (t' := s.toks) (fun b o hb q => eb b o hb q) f0 f1 f3 f4 f5⟩
  self := fun A i s Q E st h => by
    obtain ⟨⟨_, isE⟩, _⟩ := st
    exact wpAny_pyIter_enum isE h

end Lw

set_option Elab.async false
set_option linter.all false
set_option maxRecDepth 100000
set_option maxHeartbeats 400000
namespace Lw
open PySem PySem.Spec PyProof.Rows L2
def iEnumT (K : PySem.W.Frag) (ta : TA) : TI := fun σ H R => ta σ H fun vs H1 => ∃ a xs, vs = [.ref a] ∧ SqT K H1 a xs ∧ R (ItEt K a) H1
theorem pi_enumT {X : Cx} {e : Expr} {ta : TA} {p pos tpos : Pos} {elts : List Expr} {kk : Nat} (glob : Gl X "enumerate") (free : X.mg "enumerate" = none) (arg : PA X [e] ta) (hs : starEach [e] X.env = [(false, eval e X.env)] := by rfl) :
    PI X (.Tuple elts kk tpos) (.Call (.Name "enumerate" p) [e] [] pos) (iEnumT X.K ta) := by
  constructor
  intro pins s σ H R I h
  refine Call_ (ld_blt I glob free boot_enumerate (PyProof.Rows.callWith_type1 (thn (arg.run pos pins s σ H _ I h) fun us s1 told => ?_) hs rfl))
  obtain ⟨vs, H1, I1, r1, q1⟩ := told
  obtain ⟨a, xs, rfl, hq, q⟩ := q1
  cases r1 with
  | cons r none =>
    cases none
    cases r
    obtain ⟨its, rv, p', hz⟩ := I1.tuple hq
    refine call_enum_tup p' fun h' isE isI hk => wpAny_pyIter_enum isE ?_
    have I2 : Inv X pins σ H1 { s1 with heap := h' } := I1.kept (t' := s1.toks) hk
    refine ⟨s1.heap.objs.size + 1, [s1.heap.objs.size + 1, s1.heap.objs.size], _, _, H1, rfl, I2, turn_enum_tup a (s1.heap.objs.size + 1) s1.heap.objs.size, ⟨⟨.none, isE⟩, isI, Nat.succ_ne_self _⟩, fun b hb => ?_, q⟩
    have up : s1.heap.objs.size ≤ b := by
      rcases (show b = s1.heap.objs.size + 1 ∨ b = s1.heap.objs.size by simpa using hb) with rfl | rfl
      · exact Nat.le_succ _
      · exact Nat.le_refl _
    exact I1.fpOk up (I1.hok.fresh up)
/-- a list or a tuple -/
abbrev iEnumA (K : PySem.W.Frag) (ta : TA) : TI := fun σ H R => iEnum K ta σ H R ∨ iEnumT K ta σ H R
theorem pi_enumA {X : Cx} {e : Expr} {ta : TA} {p pos tpos : Pos} {elts : List Expr} {kk : Nat} (glob : Gl X "enumerate") (free : X.mg "enumerate" = none) (arg : PA X [e] ta) (hs : starEach [e] X.env = [(false, eval e X.env)] := by rfl) :
    PI X (.Tuple elts kk tpos) (.Call (.Name "enumerate" p) [e] [] pos) (iEnumA X.K ta) := PI.or (pi_enum glob free arg hs) (pi_enumT glob free arg hs)
inductive JE (K : PySem.W.Frag) (H : Hp) (a : Addr) (xs : List V) : L2.It → Prop
  | l (h : SqL K H a xs) : JE K H a xs (Ite K a)
  | t (h : SqT K H a xs) : JE K H a xs (ItEt K a)
theorem for_JE {K : PySem.W.Frag} {a : Addr} {xs : List V} {σ : L2.St} {H : Hp} {J : L2.It} {g : TG} {t : TS} {D : Ends} (hs : JE K H a xs J) (Pv : Nat → L2.St → Hp → Prop) (h0 : Pv 0 σ H) (keep : ∀ i σ' H', Pv i σ' H' → Same H H')
    (turn : ∀ i x σ' H' T, xs[i]? = some x → Pv i σ' H' → H' T = none → g (.ref T) σ' (upd H' T (.tup [.int (i : Nat), x])) fun σ2 H2 => t { D with nx := Pv (i + 1), ct := Pv (i + 1), bk := D.nx } σ2 H2) (done : ∀ σ' H', Pv xs.length σ' H' → D.nx σ' H') :
    ∃ W : Nat → Nat → L2.St → Hp → Prop, (∃ m, W 0 m σ H) ∧ ∀ i m σ H, W i m σ H →
      (J.stop i H ∧ D.nx σ H) ∨ (J.go i H ∧ ∃ N : L2.St → Hp → Prop, (∀ σ' H', N σ' H' → ∃ m', m' < m ∧ W (i + 1) m' σ' H') ∧ ∀ x H', J.yld i H x H' → g x σ H' fun σ2 H2 => t { D with nx := N, ct := N, bk := D.nx } σ2 H2) := by
  refine ⟨fun i m σ' H' => m = xs.length - i ∧ i ≤ xs.length ∧ Pv i σ' H', ⟨xs.length, by simp, Nat.zero_le _, h0⟩, ?_⟩
  rintro i m σ' H' ⟨rfl, le, p⟩
  have same := keep i σ' H' p
  cases hs with
  | l hs =>
    have q : SqL K H' a xs := same.seq hs
    by_cases lt : i < xs.length
    · refine .inr ⟨⟨xs, xs[i], q, by simp [lt]⟩, Pv (i + 1), fun σ2 H2 p2 => ⟨xs.length - (i + 1), by omega, rfl, lt, p2⟩, fun x H2 y => ?_⟩
      obtain ⟨T, x', rfl, hT, rfl, f⟩ := y
      exact turn i x' σ' H' T (f xs q) p hT
    · have e : i = xs.length := by omega
      subst e
      exact .inl ⟨⟨xs, q, Nat.le_refl _⟩, done σ' H' p⟩
  | t hs =>
    have q : SqT K H' a xs := same_tup same hs
    by_cases lt : i < xs.length
    · refine .inr ⟨⟨xs, xs[i], q, by simp [lt]⟩, Pv (i + 1), fun σ2 H2 p2 => ⟨xs.length - (i + 1), by omega, rfl, lt, p2⟩, fun x H2 y => ?_⟩
      obtain ⟨T, x', rfl, hT, rfl, f⟩ := y
      exact turn i x' σ' H' T (f xs q) p hT
    · have e : i = xs.length := by omega
      subst e
      exact .inl ⟨⟨xs, q, rfl⟩, done σ' H' p⟩
theorem enum_run {K : PySem.W.Frag} {a : Addr} {xs : List V} {σ : L2.St} {H : Hp} {i0 : Nat} {R : L2.It → Hp → Prop} (e : σ[i0]? = some (some (.ref a))) (hs : SqA K H a xs) (f : ∀ J, JE K H a xs J → R J H) : iEnumA K (tCons (tVar i0) tNil) σ H R := by
  rcases hs with hs | hs
  · exact .inl ⟨_, e, a, xs, rfl, hs, f _ (.l hs)⟩
  · exact .inr ⟨_, e, a, xs, rfl, hs, f _ (.t hs)⟩
/-- what is never come to -/
def tDead : TS := fun _ _ _ => False
theorem ps_dead {X : Cx} {st : Stmt} : PS X st tDead := ⟨fun _ _ _ _ _ _ h => h.elim⟩
end Lw


set_option Elab.async false
set_option linter.all false
set_option maxRecDepth 100000
set_option maxHeartbeats 4000000
/-! Promises of defs that write things out (repr): nothing else is being written out around them. -/
namespace Lw
open PySem PySem.Spec PyProof.Rows L2
/-- as FnOk, where nothing is being written out around the call -/
structure FnG (P : Program) (w : World) (K : PySem.W.Frag) (mg : PySem.Str → Option Value) (base : Heap) (C : CXT) (k : Nat) (f : Addr) (fd : FuncData) (ps : List PySem.Str) (sp : Sp) : Prop where
  lenG : ∀ vs H Q E, sp vs H Q E → vs.length = ps.length
  runG : ∀ (A : Around) (out : List Env) (s : Shared) (H : Hp) (args : Args) (us : List Value) (vs : List V) (Q : VK) (E : XK), Room k A → A.guards = some [] → Env0 P w K mg base A out s H → BindsTo s fd args (ps.zip us) → Vals vs us → sp vs H Q E →
    codeAny (model P w) A (.call (.ref f) args) (CR C out P w H s Q E) s
section
variable {P : Program} {w : World} {K : PySem.W.Frag} {mg : PySem.Str → Option Value} {base : Heap}
theorem FnG.mono {C : CXT} {j k : Nat} {f : Addr} {fd : FuncData} {ps : List PySem.Str} {sp : Sp} (F : FnG P w K mg base C j f fd ps sp) (h : j ≤ k) : FnG P w K mg base C k f fd ps sp :=
  ⟨F.lenG, fun A out s H args us vs Q E room => F.runG A out s H args us vs Q E (room.mono h)⟩
/-- a def that may be called anywhere -/
theorem FnG.of {C : CXT} {k : Nat} {f : Addr} {fd : FuncData} {ps : List PySem.Str} {sp : Sp} (F : FnOk P w K mg base C k f fd ps sp) : FnG P w K mg base C k f fd ps sp :=
  ⟨F.len, fun A out s H args us vs Q E room _ => F.run A out s H args us vs Q E room⟩
/-- the rule for a def, by its body -/
theorem fun_okG {C : CXT} {x qual : PySem.Str} {st : Stmt} {f : Addr} {fd : FuncData} {N ps : List PySem.Str} {k : Nat} {sp : Sp} (F : Fun K x qual st f fd) (S : FnScope N ps (defScope st)) (len : ∀ vs H Q E, sp vs H Q E → vs.length = ps.length)
    (body : ∀ (cdv : Value) (A : Around) (out : List Env) (s : Shared) (H : Hp) (vs : List V) (Q : VK) (E : XK), Room k (A.deeper (envOfC qual (defScope st) s.heap.objs.size f cdv)) → (A.deeper (envOfC qual (defScope st) s.heap.objs.size f cdv)).guards = some [] → sp vs H Q E →
      ∃ t, PSs (cxOf C P w K mg base N qual (defScope st) f cdv A out s H E) (defBody st) t ∧ t { nx := fun _ H' => Q .non H', rt := Q } (start N vs) H) : FnG P w K mg base C (k + 1) f fd ps sp := by
  obtain ⟨oc, od, kV, doc, pm, an, cdv, ct, osl, rfl, look, hcd⟩ := F.ex
  refine ⟨len, fun A out s H args us vs Q E room hg start0 bind rel want => ?_⟩
  have fewer : vs.length = ps.length := len vs H Q E want
  have inS : K.In s.heap := start0.mod.kin.keeps fun b o e => (start0.bs b o e).1
  have free : s.heap.NoLimit := start0.mod.nolimit.keeps fun b o e => (start0.bs b o e).1
  have kinds : ∀ y ∈ ps.zip us, (defScope st).names.lookup y.1 = some .local ∨ ((defScope st).names.lookup y.1 = some .cell ∧ ((cellsFrom (s.heap.objs.size + 1) (defScope st).names []).lookup y.1).isSome = true) := by
    rintro ⟨name, value⟩ hy
    cases S.par name (List.of_mem_zip hy).1 with
    | inl h => exact .inl h
    | inr h => exact .inr ⟨h, PySem.W.cellsFrom_some _ _ _ (.inl h)⟩
  refine codeAny_call_function room.depth (inS _ _ look) rfl S.co S.gen rfl (PySem.W.codeRec_of inS hcd) (bind _ _ _ _ ?_)
  refine wpAny_newFunctionEnv_cells S.kind kinds fun env isEnv s1 x => ?_
  subst isEnv
  refine ⟨free.keeps x.toInCall.keep, codeAny_func ?_⟩
  have deep : (A.deeper (envOfC qual (defScope st) s.heap.objs.size f cdv)).guards = some [] := hg
  obtain ⟨t, term, read⟩ := body cdv A out s H vs Q E (room.deeper _) deep want
  have I := inv_start (CX := C) (E := E) S room.hd start0 fewer rel x
  refine wpAny_mono (term.run [] s1 (start N vs) H _ I read) (fun flow s2 told => ?_) fun _ _ z => z
  cases flow with
  | ret u =>
    obtain ⟨v, σ2, H2, J, rv, q⟩ := told
    exact ⟨v, H2, J.os, J.bare, J.base, J.hok, rv, q⟩
  | next =>
    obtain ⟨σ2, H2, J, q⟩ := told
    exact ⟨V.non, H2, J.os, J.bare, J.base, J.hok, rfl, q⟩
  | brk => exact told.elim fun _ z => z.elim fun _ z => z.2.elim
  | cont => exact told.elim fun _ z => z.elim fun _ z => z.2.elim
end
/-- its call -/
theorem pe_callG {X : Cx} {C : CXT} {k : Nat} {f : Addr} {fd : FuncData} {ps : List PySem.Str} {sp : Sp} {E : XK} {x : PySem.Str} {p pos : Pos} {e : Expr} {es : List Expr} {t : TA} (F : FnG X.prog X.w X.K X.mg X.base C k f fd ps sp) (room : Room k X.A) (hg : X.A.guards = some [])
    (glob : Gl X x) (hm : X.mg x = some (.ref f)) (kept : PySem.W.keepIn X.K (.ref f) = true) (bind : Binds X.K fd ps []) (out : Passes C X E) (args : PA X (e :: es) t)
    (hdb : (x == ("__debug__" : PySem.Str)) = false := by decide) (he : starEach (e :: es) X.env = (false, eval e X.env) :: starEach es X.env := by rfl) (hpl : (backTo pos (starEach es X.env)).any (·.1) = false := by rfl) :
    PE X (.Call (.Name x p) (e :: es) [] pos) (tCall sp [] E t) := by
  refine ⟨fun pins s σ H Q I h => wpAny_Call_Name_kw (ld_glob I glob hm ?_ hdb)⟩
  refine PySem.W.callWith_K (h₀ := X.base) I.ok.mod.kin kept (thn (args.run pos pins s σ H _ I h) fun us s1 ⟨vs, H1, I1, rel, q⟩ => ⟨I1.kIn, ?_⟩) he hpl
  have q : sp (vs ++ []) H1 Q E := q
  rw [List.append_nil] at q
  have few : (us ++ []).length = ps.length := by rw [List.append_nil, ← rel.length]; exact F.lenG _ _ _ _ q
  have b := bind s1 us I1.kIn few
  rw [List.append_nil] at b
  refine wpAny_call (codeAny_mono (F.runG X.A X.stack s1 H1 ⟨us, []⟩ us vs Q E room hg I1.env0 b rel q) fun r s' z => ?_)
  match r, z with
  | .error u, z => exact out pins σ H1 s1 u s' I1 z
  | .ok (.ret u), z => exact I1.after z
  | .ok .next, z => exact z.elim
  | .ok .brk, z => exact z.elim
  | .ok .cont, z => exact z.elim
/-- repr of data -/
def rRepr (K : PySem.W.Frag) : List V → Hp → VK → Prop := fun xs H Q => ∃ (v : V) (d : PyData), xs = [v] ∧ Dp K H v d ∧ d.showable = true ∧ d.hasDict = false ∧ d.depth ≤ 40 ∧ d.shown.length ≤ sizeLine ∧ Q (.str d.shown) H
theorem call_repr {X : Cx} (hg : X.A.guards = some []) (hu : X.A.units + 64 < cLine) : CallR X (.builtin "repr") (rRepr X.K) := by
  intro pins s σ H xs us Q I r h
  obtain ⟨v, d, rfl, hd, h1, h2, h3, h4, q⟩ := h
  obtain ⟨u, rfl, rx⟩ := vals1 r
  obtain ⟨as, rd⟩ := Dp.reads I d v u hd rx
  cases hd with
  | lst _ _ =>
    cases rx
    exact PySem.repr_of_reads' rd h1 (PySem.PyData.noDict_hsm h2) hg (by omega) (fun b o e => e) (fun h' u tk hk => ⟨.str _, H, I.kept (h' := h') (t' := tk) hk, ⟨_, rfl⟩, q⟩) h4
  | tup _ _ =>
    cases rx
    exact PySem.repr_of_reads' rd h1 (PySem.PyData.noDict_hsm h2) hg (by omega) (fun b o e => e) (fun h' u tk hk => ⟨.str _, H, I.kept (h' := h') (t' := tk) hk, ⟨_, rfl⟩, q⟩) h4
  | non => cases rx; exact PySem.P.repr_of_none ⟨.str _, H, I.tok _, ⟨_, rfl⟩, by simpa only [PyData.shown] using q⟩
  | bl b => cases rx; exact PySem.P.repr_of_bool ⟨.str _, H, I.tok _, ⟨_, rfl⟩, by simpa only [PyData.shown] using q⟩
  | int i => obtain ⟨t, rfl⟩ := rx; exact PySem.P.repr_of_int (by simpa [PyData.showable] using h1) ⟨.str _, H, I.tok _, ⟨_, rfl⟩, by simpa only [PyData.shown] using q⟩
  | str z => obtain ⟨t, rfl⟩ := rx; exact PySem.P.repr_of_str ⟨.str _, H, I.tok _, ⟨_, rfl⟩, by simpa only [PyData.shown] using q⟩ (by simpa only [PyData.shown] using h4)

/-! ### the end: a law whose def writes things out -/
/-- the abstract heap at the law's call: the script alone, or nothing -/
structure Start (P : Program) (w : World) (K : PySem.W.Frag) (h : Heap) (a : Addr) (xs : List V) (H : Hp) : Prop where
  only : Only H
  list : SqL K H a xs
  ok : HOk P w H h
  at_ : ∀ b, H b ≠ none → b = a
  out : H a ≠ none → K.lookup a = none
theorem start_ex {P : Program} {w : World} {K : PySem.W.Frag} {h : Heap} {a : Addr} {us : List Value} {xs : List V} (inH : K.In h) (look : h.get? a = some { cls := .type "list", data := .seq us.toArray }) (rel : Vals xs us) (few : xs.length ≤ sizeLine) :
    ∃ H, Start P w K h a xs H := by
  cases told : K.lookup a with
  | none =>
    let o : Obj := { cls := .type "list", data := .seq us.toArray }
    let H : Hp := fun b => if b = a then some (.frz o (.lst xs)) else none
    have atA : H a = some (.frz o (.lst xs)) := if_pos rfl
    have away : ∀ b, b ≠ a → H b = none := fun b ne => if_neg ne
    have one : ∀ b u, H b = some u → b = a ∧ u = .frz o (.lst xs) := fun b u e => by
      by_cases z : b = a
      · subst z
        rw [atA] at e
        exact ⟨rfl, (Option.some.inj e).symm⟩
      · rw [away b z] at e
        cases e
    refine ⟨H, ⟨fun b => ?_, .inl (.inr ⟨o, atA⟩), fun b u e => ?_, fun b ne => ?_, fun _ => told⟩⟩
    · cases e : H b with
      | none => exact .inl rfl
      | some u => exact .inr ⟨o, xs, by rw [(one b u e).2]⟩
    · obtain ⟨rfl, rfl⟩ := one b u e
      exact ⟨look, few, us, _, rel, look⟩
    · cases e : H b with
      | none => exact absurd e ne
      | some u => exact (one b u e).1
  | some o =>
    have e := inH a o told
    rw [look] at e
    cases e
    refine ⟨fun _ => none, ⟨fun _ => .inl rfl, .inr ⟨_, us.toArray, _, told, rfl, rfl, rfl, by rw [List.size_toArray, ← rel.length]; exact few, by simpa using rel⟩, (fun _ _ e => nomatch e), fun _ ne => absurd rfl ne, fun ne => absurd rfl ne⟩⟩
/-- the heap less what is tracked is the base of a call -/
theorem Start.env {P : Program} {w : World} {K : PySem.W.Frag} {mg mb : PySem.Str → Option Value} {s : Shared} {a : Addr} {us : List Value} {xs : List V} {H : Hp} (S : Start P w K s.heap a xs H) (inH : K.In s.heap) (names : s.heap.Ns mainGlobals mg) (bs : s.heap.Ns builtinsNs mb)
    (boot : ∀ x : PySem.Str, x ≠ "__name__" → mb x = bootBuiltins x) (lim : s.heap.NoLimit) (gens : s.gens = #[]) (look : s.heap.get? a = some { cls := .type "list", data := .seq us.toArray }) :
    K.In (hidT s.heap H) ∧ (hidT s.heap H).Ns mainGlobals mg ∧ Env0 P w K mg (hidT s.heap H) callerA [] s H := by
  have stays : ∀ {b : Addr} {o : Obj}, s.heap.get? b = some o → (∀ (es : Array DictEntry) (n : Nat), o.data = .dict es n → True) → H b = none → (hidT s.heap H).get? b = some o := fun e _ z => hidT_get e z
  have dictFree : ∀ {b : Addr} {o : Obj} {es : Array DictEntry} {n : Nat}, s.heap.get? b = some o → o.data = .dict es n → H b = none := by
    intro b o es n e d
    refine Classical.byContradiction fun z => ?_
    rw [S.at_ b z, look] at e
    obtain rfl := (Option.some.inj e).symm
    cases d
  have space : ∀ {L : Addr} {m : PySem.Str → Option Value}, s.heap.Ns L m → (hidT s.heap H).Ns L m := by
    rintro L m ⟨o, es, n, e, d, rest⟩
    exact ⟨o, es, n, hidT_get e (dictFree e d), d, rest⟩
  have inB : K.In (hidT s.heap H) := fun b o e => hidT_get (inH b o e) (Classical.byContradiction fun z => by
    have eb := S.at_ b z
    subst eb
    rw [S.out z] at e
    cases e)
  obtain ⟨mc, l1, l2⟩ := lim
  exact ⟨inB, space names, rfl, ⟨inB, space names, ⟨mb, space bs, boot⟩, ⟨mc, space l1, l2⟩⟩, fun b o e => of_hidT e, Nat.le_of_eq (hidT_size _ _), trivial, (fun b m => nomatch m), S.ok, .of_eq gens⟩
theorem call_lawG {P : Program} {w : World} {K : PySem.W.Frag} {mg mb : PySem.Str → Option Value} {k : Nat} {fa a : Addr} {fd : FuncData} {x : PySem.Str} {sp : Sp} {s : Shared} {us : List Value} {ns : List Int}
    (inH : K.In s.heap) (names : s.heap.Ns mainGlobals mg) (bs : s.heap.Ns builtinsNs mb) (boot : ∀ x : PySem.Str, x ≠ "__name__" → mb x = bootBuiltins x) (lim : s.heap.NoLimit) (gens : s.gens = #[])
    (look : s.heap.get? a = some { cls := .type "list", data := .seq us.toArray }) (whole : IntsAre us ns) (few : ns.length ≤ sizeLine) (room : Room k callerA)
    (F : ∀ base : Heap, K.In base → base.Ns mainGlobals mg → FnG P w K mg base CX0 k fa fd [x] sp) (bind : ∀ (s : Shared) (u : Value), BindsTo s fd ⟨[u], []⟩ [(x, u)])
    (want : ∀ H : Hp, SqL K H a (ns.map V.int) → sp [.ref a] H (fun v _ => v = .bl true) E0) :
    codeAny (model P w) callerA (.call (.ref fa) ⟨[.ref a], []⟩) (fun r s' => r = .ok (.ret (.bool true)) ∧ OldK s.heap s'.heap ∧ s'.os = s.os ∧ AllBare s'.gens) s := by
  obtain ⟨H, S⟩ := start_ex (P := P) (w := w) inH look (vals_ints whole) (by rw [List.length_map]; exact few)
  obtain ⟨inB, nsB, start⟩ := S.env inH names bs boot lim gens look
  refine codeAny_mono ((F _ inB nsB).runG callerA [] s H ⟨[.ref a], []⟩ [.ref a] [.ref a] _ _ room rfl start (bind s (.ref a)) (.cons rfl .nil) (want H S.list)) fun r s' told => ?_
  match r, told with
  | .error _, told => exact told.elim
  | .ok .next, told => exact told.elim
  | .ok .brk, told => exact told.elim
  | .ok .cont, told => exact told.elim
  | .ok (.ret u), told =>
    obtain ⟨v, H2, os, bare, un, ok2, rel, isTrue⟩ := told
    obtain rfl : v = .bl true := isTrue
    obtain rfl : u = Value.bool true := rel
    refine ⟨rfl, .of_keep fun b o e => ?_, os, bare⟩
    rcases S.only b with z | ⟨ob, xs, z⟩
    · exact un.keep b o e z (fun m => nomatch m) (by simp)
    · have e1 := (S.ok b _ z).1
      have e2 := (ok2 b _ (un.frzs b ob _ z)).1
      rw [e] at e1
      obtain rfl := Option.some.inj e1
      exact e2
theorem walk_ofG {l : PySem.W.OpenLaw} {n k : Nat} {q : Program} {loose : List PySem.Str} {XP : (PySem.Str → Option Value) → Heap → Prop} {YP : World → Heap → Prop} {d : DefRec} {x : PySem.Str} (most : l.most = some n) (few : n ≤ sizeLine) (noDef : d.params.defaults = []) (room : Room k callerA)
    (F : ∀ (w : World) (mg : PySem.Str → Option Value) (fa : Addr) (h : Heap), YP w h → h.Ns mainGlobals mg → mg d.name = some (.ref fa) →
      ∃ (K : PySem.W.Frag) (fd : FuncData) (sp : Sp), K.In h ∧ (∀ (s : Shared) (u : Value), BindsTo s fd ⟨[u], []⟩ [(x, u)]) ∧ (∀ (H : Hp) (a : Addr) (ns : List Int), ns.length ≤ n → SqL K H a (ns.map V.int) → sp [.ref a] H (fun v _ => v = .bl true) E0) ∧
        ∀ base : Heap, K.In base → base.Ns mainGlobals mg → FnG l.prog w K mg base CX0 k fa fd [x] sp) : PySem.W.WalkO q loose XP YP l.row.toRowW d [] (fun f vs => PySem.call f vs) := by
  refine Att.attach_call most noDef fun w s0 s1 mg mb fa o pm cd doc a us ns G Y ho hd hcd name look whole cnt gens => ?_
  obtain ⟨K, fd, sp, inH, bind, want, ok⟩ := F w mg fa _ Y G.T.g name
  exact call_lawG inH G.T.g G.T.b G.T.builtins G.T.nolimit gens look whole (Nat.le_trans cnt few) room ok bind fun H S => want H a ns cnt S
end Lw

set_option Elab.async false
set_option linter.all false
set_option maxRecDepth 100000
set_option maxHeartbeats 1000000
/-! Data: what a comprehension over it hands, how it is shown; own appends beside a deal. -/
namespace Lw
open PySem PySem.Spec PyProof.Rows L2
theorem fineTup {ds : List PyData} (h : fine (.tuple ds) = true) : ds.length ≤ 1000 ∧ fineAll ds = true := by
  rw [fine] at h
  obtain ⟨h1, h2⟩ := Bool.and_eq_true_iff.mp h
  exact ⟨of_decide_eq_true h1, h2⟩
theorem fineList {ds : List PyData} (h : fine (.list ds) = true) : ds.length ≤ 1000 ∧ fineAll ds = true := by
  rw [fine] at h
  obtain ⟨h1, h2⟩ := Bool.and_eq_true_iff.mp h
  exact ⟨of_decide_eq_true h1, h2⟩
/-- a comprehension that asks each thing of a list of data -/
theorem turnsData {K : PySem.W.Frag} {H1 : Hp} {i : Nat} {σ : L2.St} {te : TE} (f : PyData → V) {xs : List V} {ds : List PyData} (ha : DpAll K H1 xs ds) (few : xs.length ≤ 1000)
    (el : ∀ x d H (Q : VK), x ∈ xs → d ∈ ds → Dp K H x d → Same H1 H → (∀ H', Same H H' → Q (f d) H') → te (σ.set i (some x)) H Q) : Turns H1 i σ xs (ds.map fun d => some (f d)) tYes te := by
  refine ⟨by rw [List.length_map, dpAll_len ha], Nat.le_trans few (by decide), fun j x y H Q hx hy s1 q => ?_, fun j x H hx hy _ => ?_⟩
  · obtain ⟨d, ed, hd⟩ := dpAll_at ha hx
    rw [List.getElem?_map, ed] at hy
    obtain rfl : f d = y := by simpa using hy
    exact ⟨rfl, Same.refl H, el x d H Q (List.mem_of_getElem? hx) (List.mem_of_getElem? ed) (dp_same s1 _ _ hd) s1 q⟩
  · rw [List.getElem?_map] at hy
    cases e : ds[j]? with
    | none => rw [e] at hy; cases hy
    | some d => rw [e] at hy; cases hy
theorem outData (f : PyData → V) (ds : List PyData) : outOf (ds.map fun d => some (f d)) = ds.map f := by
  unfold outOf
  induction ds with
  | nil => rfl
  | cons d r ih =>
    rw [List.map_cons, List.map_cons, List.filterMap_cons]
    exact congrArg _ ih
theorem seqOr {K : PySem.W.Frag} {H : Hp} {v : V} {d : PyData} (hd : Dp K H v d) (hz : fine d = true) :
    (∃ (p : Addr) (xs : List V) (ds : List PyData), v = .ref p ∧ SqA K H p xs ∧ DpAll K H xs ds ∧ ds.length ≤ 1000 ∧ fineAll ds = true ∧ isSeq d = true ∧ (d = .list ds ∨ d = .tuple ds)) ∨ isSeq d = false := by
  cases d with
  | list ds =>
    cases hd with
    | lst hs ha => exact .inl ⟨_, _, ds, rfl, .inl hs, ha, (fineList hz).1, (fineList hz).2, rfl, .inl rfl⟩
  | tuple ds =>
    cases hd with
    | tup hs ha => exact .inl ⟨_, _, ds, rfl, .inr hs, ha, (fineTup hz).1, (fineTup hz).2, rfl, .inr rfl⟩
  | _ => exact .inr rfl
theorem fineAll_of {ds : List PyData} (h : ∀ d ∈ ds, fine d = true) : fineAll ds = true := by
  induction ds with
  | nil => rfl
  | cons d r ih =>
    rw [fineAll, h d List.mem_cons_self, ih fun e he => h e (List.mem_cons_of_mem _ he)]
    rfl
/-- a comprehension's turns over texts -/
theorem dpAll_in {K : PySem.W.Frag} {H : Hp} {x : V} {ds : List PyData} {xs : List V} (h : DpAll K H xs ds) {d : PyData} (m : d ∈ ds) : ∃ v, v ∈ xs ∧ Dp K H v d := by
  induction ds generalizing xs with
  | nil => cases m
  | cons e r ih =>
    cases h with
    | cons h1 h2 =>
      rcases List.mem_cons.mp m with rfl | m
      · exact ⟨_, List.mem_cons_self, h1⟩
      · obtain ⟨v, hv, q⟩ := ih h2 m
        exact ⟨v, List.mem_cons_of_mem _ hv, q⟩
theorem HP.step {K : PySem.W.Frag} {G H1 : Hp} {d l L : Addr} {R : Nat → PyData → Prop} {i : Nat} {B N : Hp} {xs : List V} {pds : List PyData} (sB : Same G B) (nB : B L = none) (DB : Deal (upd B L (.lst xs)) H1 d l)
    (rest : Same N B ∧ (∀ b o, N b = some o → G b = none) ∧ DpAll K N xs pds ∧ xs.length = i ∧ ∀ j pd, pds[j]? = some pd → R j pd) (few : i < 100000) {G' H2 N1 : Hp} {y : V} {pd : PyData} (nw : News (upd B L (.lst xs)) H2 G' N1 d l) (hd : Dp K N1 y pd) (hr : R i pd) :
    ∃ acc, H2 L = some (.lst acc) ∧ acc.length < sizeLine ∧ HP K G d l L R (i + 1) (upd H2 L (.lst (acc ++ [y]))) := by
  obtain ⟨sN, dN, hx, len, hR⟩ := rest
  have gL : G' L = some (.lst xs) := nw.kp _ _ upd_same
  have gU : upd G' L (.lst xs) = G' := by
    funext b
    by_cases q : b = L
    · rw [q, upd_same, gL]
    · rw [upd_ne q]
  have bB : ∀ b o, B b = some o → b ≠ L := fun b o e z => by rw [z, nB] at e; cases e
  have toB : Same B (hide L G') := fun b o e => by
    have ne := bB b o e
    rw [hide_ne ne]
    exact nw.kp _ _ (by rw [upd_ne ne]; exact e)
  have n1 : ∀ b o, N1 b = some o → b ≠ L ∧ B b = none := fun b o e => by
    have z := nw.dis b o e
    have ne : b ≠ L := fun q => by rw [q, upd_same] at z; cases z
    rw [upd_ne ne] at z
    exact ⟨ne, z⟩
  have nn : ∀ b o, N1 b = some o → N b = none := fun b o e => sN.free (n1 b o e).2
  refine ⟨xs, nw.dl.same _ _ gL, Nat.lt_of_le_of_lt (show xs.length ≤ 100000 by omega) (by decide), hide L G', fun b => match N b with | some o => some o | none => N1 b, xs ++ [y], pds ++ [pd], sB.trans toB, hide_same, ?_, fun b o e => ?_, fun b o e => ?_, ?_, by rw [List.length_append, len]; rfl, ?_⟩
  · rw [hide_upd]
    exact Deal.over (G := G') (u := .lst xs) (by rw [gU]; exact nw.dl)
  · cases q : N b with
    | some u =>
      have e' : some u = some o := by simpa [q] using e
      cases e'
      exact toB _ _ (sN _ _ q)
    | none =>
      have e' : N1 b = some o := by simpa [q] using e
      rw [hide_ne (n1 b o e').1]
      exact nw.sub _ _ e'
  · cases q : N b with
    | some u => exact dN _ _ q
    | none =>
      have e' : N1 b = some o := by simpa [q] using e
      exact sB.free (n1 b o e').2
  · exact dpAll_app (dpAll_same (fun b o e => by simp [e]) _ _ hx) (.cons (dp_same (fun b o e => by simp [nn b o e, e]) _ _ hd) .nil)
  · intro j q e
    have lp : pds.length = i := by rw [← dpAll_len hx, len]
    by_cases h : j < pds.length
    · rw [List.getElem?_append_left h] at e
      exact hR j q e
    · rw [List.getElem?_append_right (by omega)] at e
      by_cases z : j - pds.length = 0
      · rw [z, List.getElem?_cons_zero] at e
        obtain rfl := Option.some.inj e
        obtain rfl : j = i := by omega
        exact hr
      · rw [List.getElem?_eq_none (by simp; omega)] at e
        cases e
/-- beside a deal: a list at L to which new data are appended -/
theorem HP.open_ {K : PySem.W.Frag} {G H1 : Hp} {d l L : Addr} {R : Nat → PyData → Prop} {i : Nat} (h : HP K G d l L R i H1) (few : i < 100000) :
    ∃ Gx, Same G Gx ∧ Deal Gx H1 d l ∧ (∃ acc, Gx L = some (.lst acc)) ∧ ∀ (G' H' N : Hp) (y : V) (pd : PyData), News Gx H' G' N d l → Dp K N y pd → R i pd → ∃ acc, H' L = some (.lst acc) ∧ acc.length < sizeLine ∧ HP K G d l L R (i + 1) (upd H' L (.lst (acc ++ [y]))) := by
  obtain ⟨B, N0, xs, pds, sB, nB, DB, rest⟩ := h
  refine ⟨upd B L (.lst xs), fun b o e => by rw [upd_ne (ne_of_none (sB _ _ e) nB)]; exact sB _ _ e, DB, ⟨xs, upd_same⟩, fun G' H2 N1 y pd nw hd hr => ?_⟩
  exact HP.step sB nB DB rest few nw hd hr
theorem outStrs (ys : List PySem.Str) : (ys.map V.str).length = ys.length := List.length_map ..

/-! ### how data are shown, compared -/
mutual
theorem eqvSelf : ∀ d : PyData, fine d = true → PyData.eqv d d = true
  | .none, _ => by simp [PyData.eqv]
  | .bool b, _ => by simp [PyData.eqv]
  | .int i, _ => by simp [PyData.eqv]
  | .str x, _ => by simp [PyData.eqv]
  | .list ds, h => by simp [PyData.eqv, eqvSelfAll ds (fineList h).2]
  | .tuple ds, h => by simp [PyData.eqv, eqvSelfAll ds (fineTup h).2]
  | .dict _, h => by simp [fine] at h
theorem eqvSelfAll : ∀ ds : List PyData, fineAll ds = true → PyData.eqvAll ds ds = true
  | [], _ => by simp [PyData.eqvAll]
  | d :: ds, h => by
    rw [fineAll] at h
    obtain ⟨h1, h2⟩ := Bool.and_eq_true_iff.mp h
    simp [PyData.eqvAll, eqvSelf d h1, eqvSelfAll ds h2]
end

/-! ### a comprehension that makes one new thing a turn (its list at D) -/
def MadeL (K : PySem.W.Frag) (H1 : Hp) (D : Addr) (ds : List PyData) (H' : Hp) : Prop := Same H1 H' ∧ ∃ (N : Hp) (acc : List V), Same N H' ∧ N D = none ∧ H' D = some (.lst acc) ∧ DpAll K N acc ds
theorem MadeL.zero {K : PySem.W.Frag} {H1 : Hp} {D : Addr} (u : H1 D = none) : MadeL K H1 D [] (upd H1 D (.lst [])) := ⟨same_new u, fun _ => none, [], fun _ _ e => (by cases e), rfl, upd_same, .nil⟩
theorem MadeL.mono {K : PySem.W.Frag} {H1 H' H2 : Hp} {D : Addr} {ds : List PyData} (h : MadeL K H1 D ds H') (s : Same H' H2) : MadeL K H1 D ds H2 := by
  obtain ⟨s1, N, acc, sN, nD, hD, ha⟩ := h
  exact ⟨s1.trans s, N, acc, sN.trans s, nD, s _ _ hD, ha⟩
theorem MadeL.add {K : PySem.W.Frag} {H1 H H4 : Hp} {D t : Addr} {o : HO} {ds : List PyData} {d : PyData} {y : V} (h : MadeL K H1 D ds H) (u : H1 D = none) (few : ds.length < 100000) (ut : H t = none) (s : Same H H4) (e : H4 t = some o) (hd : Dp K (upd (fun _ => none) t o) y d) :
    ∃ acc, H4 D = some (.lst acc) ∧ acc.length < sizeLine ∧ MadeL K H1 D (ds ++ [d]) (upd H4 D (.lst (acc ++ [y]))) := by
  obtain ⟨s1, N, acc, sN, nD, hD, ha⟩ := h
  have ne : t ≠ D := fun z => by rw [z, hD] at ut; cases ut
  have nt : N t = none := sN.free ut
  have sN4 : Same (upd N t o) (upd H4 D (.lst (acc ++ [y]))) := fun b v eb => by
    by_cases q : b = t
    · subst q
      rw [upd_same] at eb
      cases eb
      rw [upd_ne ne]
      exact e
    · rw [upd_ne q] at eb
      have neD : b ≠ D := fun z => by rw [z, nD] at eb; cases eb
      rw [upd_ne neD]
      exact s _ _ (sN _ _ eb)
  refine ⟨acc, s _ _ hD, Nat.lt_of_le_of_lt (show acc.length ≤ 100000 by rw [dpAll_len ha]; omega) (by decide), fun b v eb => ?_, upd N t o, acc ++ [y], sN4, by rw [upd_ne ne.symm]; exact nD, upd_same, ?_⟩
  · rw [upd_ne (ne_of_none eb u)]
    exact s _ _ (s1 _ _ eb)
  · refine dpAll_app (dpAll_same (same_new nt) _ _ ha) (.cons (dp_same (fun b v eb => ?_) _ _ hd) .nil)
    by_cases q : b = t
    · subst q
      rw [upd_same] at eb ⊢
      exact eb
    · rw [upd_ne q] at eb
      cases eb
end Lw

set_option Elab.async false
set_option linter.all false
set_option maxRecDepth 100000
set_option maxHeartbeats 1000000
namespace Lw
open PySem PySem.Spec PyProof.Rows L2
/-! ### str(x), x an instance of a class with a __str__ of its own -/
def rStrOwn (K : PySem.W.Frag) (f : Addr) (sp : Sp) (E : XK) : List V → Hp → VK → Prop := fun xs H Q => ∃ (a C dx : Addr) (fs : List (PySem.Str × V)), xs = [.ref a] ∧ H a = some (.ins C dx fs) ∧ PySem.W.findIn K (.ref C) "__str__" = some (some (.ref f)) ∧
  sp [.ref a] H (fun v H' => ∃ z, v = .str z ∧ Q (.str z) H') E
theorem call_strOwn {X : Cx} {CX : CXT} {f : Addr} {fd : FuncData} {ps : List PySem.Str} {sp : Sp} {E : XK} {n : Nat} (F : FnOk X.prog X.w X.K X.mg X.base CX n f fd ps sp) (hr : Room (n + 2) X.A) (hf : PySem.W.isFn X.K (.ref f) = true) (hb : Binds X.K fd ps []) (hx : Passes CX X E) :
    CallR X (.type "str") (rStrOwn X.K f sp E) := by
  intro pins s σ H xs us Q I r h
  obtain ⟨a, C, dx, fs, rfl, ha, hs, hsp⟩ := h
  obtain ⟨u, rfl, rx⟩ := vals1 r
  obtain rfl : u = Value.ref a := rx
  obtain ⟨mA, J, _⟩ := ins_get I.hok ha
  obtain ⟨od, J, _⟩ := J.look
  have hr2 : Room n X.A.in1.in1 := (show Room (n + 1) X.A.in1 from Room.in1 hr).in1
  have hl := F.len _ _ _ _ hsp
  refine PySem.W.kso_call hr2.units0 I.kIn J hs hf (wpAny_call (codeAny_mono (F.run X.A.in1.in1 X.stack s H ⟨[.ref a], []⟩ [.ref a] [.ref a] _ E hr2 I.env0.in1.in1 (by
      have := hb s [.ref a] I.kIn (by simpa using hl)
      simpa using this) (.cons rfl .nil) hsp) fun r s' hq => ?_))
  cases r with
  | error e => exact hx pins σ H s e s' I hq
  | ok fl =>
    cases fl with
    | ret u =>
      obtain ⟨v, H', I', r', z, ez, q2⟩ := I.after hq
      subst ez
      obtain ⟨t, rfl⟩ := r'
      exact ⟨.str z, H', I', ⟨t, rfl⟩, q2⟩
    | next => exact hq.elim
    | brk => exact hq.elim
    | cont => exact hq.elim
end Lw

set_option Elab.async false
set_option linter.all false
set_option maxRecDepth 100000
set_option maxHeartbeats 1000000
namespace Lw
open PySem PySem.Spec PyProof.Rows L2
/-! ### data of texts alone -/
mutual
def txtD : PyData → Bool
  | .str _ => true
  | .list ds => txtAll ds
  | .tuple ds => txtAll ds
  | _ => false
def txtAll : List PyData → Bool
  | [] => true
  | d :: ds => txtD d && txtAll ds
end
mutual
theorem eqv_txt : ∀ {d e : PyData}, txtD d = true → txtD e = true → PyData.eqv d e = true → d = e
  | .str x, .str y, _, _, h => by
    simp [PyData.eqv] at h
    rw [h]
  | .list ds, .list es, h1, h2, h => by
    simp [txtD] at h1 h2
    simp [PyData.eqv] at h
    rw [eqvAll_txt h1 h2 h]
  | .tuple ds, .tuple es, h1, h2, h => by
    simp [txtD] at h1 h2
    simp [PyData.eqv] at h
    rw [eqvAll_txt h1 h2 h]
  | .str _, .list _, _, _, h => by simp [PyData.eqv] at h
  | .str _, .tuple _, _, _, h => by simp [PyData.eqv] at h
  | .list _, .str _, _, _, h => by simp [PyData.eqv] at h
  | .list _, .tuple _, _, _, h => by simp [PyData.eqv] at h
  | .tuple _, .str _, _, _, h => by simp [PyData.eqv] at h
  | .tuple _, .list _, _, _, h => by simp [PyData.eqv] at h
  | .none, _, h, _, _ => by simp [txtD] at h
  | .bool _, _, h, _, _ => by simp [txtD] at h
  | .int _, _, h, _, _ => by simp [txtD] at h
  | .dict _, _, h, _, _ => by simp [txtD] at h
  | .str _, .none, _, h, _ => by simp [txtD] at h
  | .str _, .bool _, _, h, _ => by simp [txtD] at h
  | .str _, .int _, _, h, _ => by simp [txtD] at h
  | .str _, .dict _, _, h, _ => by simp [txtD] at h
  | .list _, .none, _, h, _ => by simp [txtD] at h
  | .list _, .bool _, _, h, _ => by simp [txtD] at h
  | .list _, .int _, _, h, _ => by simp [txtD] at h
  | .list _, .dict _, _, h, _ => by simp [txtD] at h
  | .tuple _, .none, _, h, _ => by simp [txtD] at h
  | .tuple _, .bool _, _, h, _ => by simp [txtD] at h
  | .tuple _, .int _, _, h, _ => by simp [txtD] at h
  | .tuple _, .dict _, _, h, _ => by simp [txtD] at h
theorem eqvAll_txt : ∀ {ds es : List PyData}, txtAll ds = true → txtAll es = true → PyData.eqvAll ds es = true → ds = es
  | [], [], _, _, _ => rfl
  | d :: ds, e :: es, h1, h2, h => by
    simp [txtAll] at h1 h2
    simp [PyData.eqvAll] at h
    rw [eqv_txt h1.1 h2.1 h.1, eqvAll_txt h1.2 h2.2 h.2]
  | [], _ :: _, _, _, h => by simp [PyData.eqvAll] at h
  | _ :: _, [], _, _, h => by simp [PyData.eqvAll] at h
end
theorem txtAll_strs : ∀ zs : List PySem.Str, txtAll (zs.map PyData.str) = true
  | [] => rfl
  | z :: r => by simp [txtAll, txtD, txtAll_strs r]
theorem txtAll_ways : ∀ ws : List (PySem.Str × PySem.Str), txtAll (ws.map wayD) = true
  | [] => rfl
  | z :: r => by
    rw [List.map_cons, txtAll, txtAll_ways r]
    rfl
/-! small data of texts -/
mutual
def showOk : PyData → Bool
  | .str x => PyData.strOk x
  | .list ds => showAll ds
  | .tuple ds => showAll ds
  | _ => false
def showAll : List PyData → Bool
  | [] => true
  | d :: ds => showOk d && showAll ds
end
mutual
theorem showOk_is : ∀ {d : PyData}, showOk d = true → d.canLay0 = true ∧ d.showable = true ∧ d.intsShort 13 = true
  | .str x, h => by
    simp [showOk] at h
    exact ⟨by simp [PyData.canLay0, h], by simp [PyData.showable], by simp [PyData.intsShort]⟩
  | .list ds, h => by
    simp [showOk] at h
    obtain ⟨h1, h2, h3⟩ := showAll_is h
    exact ⟨by simp [PyData.canLay0, h1], by simp [PyData.showable, h2], by simp [PyData.intsShort, h3]⟩
  | .tuple ds, h => by
    simp [showOk] at h
    obtain ⟨h1, h2, h3⟩ := showAll_is h
    exact ⟨by simp [PyData.canLay0, h1], by simp [PyData.showable, h2], by simp [PyData.intsShort, h3]⟩
  | .none, h => by simp [showOk] at h
  | .bool _, h => by simp [showOk] at h
  | .int _, h => by simp [showOk] at h
  | .dict _, h => by simp [showOk] at h
theorem showAll_is : ∀ {ds : List PyData}, showAll ds = true → PyData.canLayAll0 ds = true ∧ PyData.showableAll ds = true ∧ PyData.intsShortAll 13 ds = true
  | [], _ => by simp [PyData.canLayAll0, PyData.showableAll, PyData.intsShortAll]
  | d :: ds, h => by
    simp [showAll] at h
    obtain ⟨h1, h2, h3⟩ := showOk_is h.1
    obtain ⟨h4, h5, h6⟩ := showAll_is h.2
    simp [PyData.canLayAll0, PyData.showableAll, PyData.intsShortAll, h1, h2, h3, h4, h5, h6]
end
theorem show_facts {d : PyData} (h : showOk d = true) (dp : d.depth ≤ 40) (wt : d.weight ≤ 1000) : SeqAt.shaped d = true ∧ d.showable = true ∧ d.hasDict = false ∧ d.shown.length ≤ sizeLine := by
  obtain ⟨h1, h2, h3⟩ := showOk_is h
  refine ⟨by simp [SeqAt.shaped, h1]; omega, h2, PyData.hasDict_of_canLay _ h1, ?_⟩
  exact PyData.shown_fits (B := 13) (by decide) (by decide) (PyData.leavesShort_of_canLay0 13 _ h1 h3) (by omega)
theorem strs_showAll {zs : List PySem.Str} (h : ∀ z ∈ zs, PyData.strOk z = true) : showAll (zs.map PyData.str) = true := by
  induction zs with
  | nil => rfl
  | cons z r ih =>
    rw [List.map_cons, showAll, ih fun y hy => h y (List.mem_cons_of_mem _ hy)]
    simp [showOk, h z List.mem_cons_self]
theorem strs_weight' {zs : List PySem.Str} (h : ∀ z ∈ zs, z.length ≤ 4) : PyData.weightAll (zs.map PyData.str) ≤ 5 * zs.length := by
  induction zs with
  | nil => simp [PyData.weightAll]
  | cons z r ih =>
    have h1 := ih fun y hy => h y (List.mem_cons_of_mem _ hy)
    have h2 : z.cps.size ≤ 4 := h z List.mem_cons_self
    simp [PyData.weightAll, PyData.weight]
    omega
end Lw
namespace K2
open PySem L2 Lw TL
theorem name_facts {z : Str} (h : nameOk z = true) : 1 ≤ z.length ∧ z.length ≤ 4 ∧ z.cps.toList.all isAbc = true := by
  unfold nameOk at h
  simp only [Bool.and_eq_true, decide_eq_true_eq] at h
  obtain ⟨⟨h1, h2⟩, h3⟩ := h
  exact ⟨by omega, by omega, h3⟩
theorem isAbc_lt {c : Nat} (h : isAbc c = true) : 97 ≤ c ∧ c < 123 := by
  unfold isAbc at h
  have h := of_decide_eq_true h
  have all : ∀ c ∈ abc.cps.toList, 97 ≤ c ∧ c < 123 := by decide +kernel
  exact all c h
theorem name_strOk {z : Str} (h : nameOk z = true) : PyData.strOk z = true := by
  obtain ⟨_, _, h3⟩ := name_facts h
  unfold PyData.strOk
  rw [← Array.all_toList, List.all_eq_true]
  intro c hc
  have := (isAbc_lt (List.all_eq_true.mp h3 c hc)).2
  simp only [decide_eq_true_eq]
  omega
theorem name_fine {z : Str} (h : nameOk z = true) : fine (.str z) = true := by
  rw [fine, name_strOk h, Bool.and_true, decide_eq_true_eq]
  have := (name_facts h).2.1
  omega
theorem name_no {z : Str} (h : nameOk z = true) {c : Nat} (hc : c < 97) : c ∉ tl z := fun m => by
  have := (isAbc_lt (List.all_eq_true.mp (name_facts h).2.2 c m)).1
  omega
/-! ### good rows -/
def RowGood : Row0 → Prop
  | .ask p n ws => nameOk p = true ∧ nameOk n = true ∧ ws ≠ [] ∧ ws.length ≤ 3 ∧ (ws.map (·.1)).Nodup ∧ ∀ w ∈ ws, nameOk w.1 = true ∧ nameOk w.2 = true
  | .note p w t => nameOk p = true ∧ nameOk w = true ∧ nameOk t = true
  | .gate p m n e => nameOk p = true ∧ nameOk m = true ∧ nameOk n = true ∧ nameOk e = true
  | .end_ p => nameOk p = true
def waysW (ws : List (Str × Str)) : List Str := (ws.map fun w => [w.1, w.2]).flatten
theorem waysW_mem {ws : List (Str × Str)} (h : ∀ w ∈ ws, nameOk w.1 = true ∧ nameOk w.2 = true) : ∀ z ∈ waysW ws, nameOk z = true := by
  intro z hz
  obtain ⟨l, hl, hz⟩ := List.mem_flatten.mp hz
  obtain ⟨w, hw, rfl⟩ := List.mem_map.mp hl
  have := h w hw
  simp at hz
  rcases hz with rfl | rfl
  · exact this.1
  · exact this.2
theorem good_words {r : Row0} (h : RowGood r) : ∀ z ∈ wordsR r, nameOk z = true := by
  cases r with
  | ask p n ws =>
    obtain ⟨h1, h2, _, _, _, h6⟩ := h
    intro z hz
    rcases List.mem_cons.mp hz with rfl | hz
    · exact h1
    rcases List.mem_cons.mp hz with rfl | hz
    · decide +kernel
    rcases List.mem_cons.mp hz with rfl | hz
    · exact h2
    · exact waysW_mem h6 z hz
  | note p w t =>
    obtain ⟨h1, h2, h3⟩ := h
    intro z hz
    simp [wordsR] at hz
    rcases hz with rfl | rfl | rfl | rfl
    · exact h1
    · decide +kernel
    · exact h2
    · exact h3
  | gate p m n e =>
    obtain ⟨h1, h2, h3, h4⟩ := h
    intro z hz
    simp [wordsR] at hz
    rcases hz with rfl | rfl | rfl | rfl | rfl
    · exact h1
    · decide +kernel
    · exact h2
    · exact h3
    · exact h4
  | end_ p =>
    intro z hz
    simp [wordsR] at hz
    rcases hz with rfl | rfl
    · exact h
    · decide +kernel
theorem good_short {r : Row0} (h : RowGood r) : Short r := by
  refine ⟨fun z hz => (name_facts (good_words h z hz)).2.1, ?_⟩
  cases r with
  | ask p n ws =>
    have := h.2.2.2.1
    show ws.length ≤ 1000
    omega
  | _ => trivial
theorem words_ne (r : Row0) : wordsR r ≠ [] := by cases r <;> simp [wordsR]
theorem good_split {r : Row0} (h : RowGood r) : Txt.split (textR r) " " = wordsR r :=
  split_join (s := 32) (S := []) (by decide +kernel) (by decide +kernel) (words_ne r) fun z hz => name_no (good_words h z hz) (by decide)
theorem waysW_inj : ∀ {us ws : List (Str × Str)}, waysW us = waysW ws → us = ws
  | [], [], _ => rfl
  | [], _ :: _, h => by simp [waysW] at h
  | _ :: _, [], h => by simp [waysW] at h
  | (a, b) :: us, (c, d) :: ws, h => by
    have h' : a :: b :: waysW us = c :: d :: waysW ws := h
    simp only [List.cons.injEq] at h'
    obtain ⟨rfl, rfl, h'⟩ := h'
    rw [waysW_inj h']
theorem k_ne {a b : String} (h : (Str.ofString a).cps.toList ≠ (Str.ofString b).cps.toList) : Str.ofString a ≠ Str.ofString b := fun z => h (by rw [z])
theorem words_inj {r s : Row0} (h : wordsR r = wordsR s) : r = s := by
  have e1 : ("ask" : Str) ≠ "note" := by decide
  have e2 : ("ask" : Str) ≠ "mark" := by decide
  have e3 : ("ask" : Str) ≠ "end" := by decide
  have e4 : ("note" : Str) ≠ "mark" := by decide
  have e5 : ("note" : Str) ≠ "end" := by decide
  have e6 : ("mark" : Str) ≠ "end" := by decide
  cases r with
  | ask p n ws =>
    cases s with
    | ask p' n' ws' =>
      have h' : p :: "ask" :: n :: waysW ws = p' :: "ask" :: n' :: waysW ws' := h
      simp only [List.cons.injEq, true_and] at h'
      obtain ⟨rfl, rfl, h'⟩ := h'
      rw [waysW_inj h']
    | note p' w' t' => exact absurd (List.cons.inj (List.cons.inj h).2).1 e1
    | gate p' m' n' e' => exact absurd (List.cons.inj (List.cons.inj h).2).1 e2
    | end_ p' => exact absurd (List.cons.inj (List.cons.inj h).2).1 e3
  | note p w t =>
    cases s with
    | ask p' n' ws' => exact absurd (List.cons.inj (List.cons.inj h).2).1.symm e1
    | note p' w' t' =>
      have h' : [p, "note", w, t] = [p', "note", w', t'] := h
      simp only [List.cons.injEq, true_and, and_true] at h'
      obtain ⟨rfl, rfl, rfl⟩ := h'
      rfl
    | gate p' m' n' e' => exact absurd (List.cons.inj (List.cons.inj h).2).1 e4
    | end_ p' => exact absurd (List.cons.inj (List.cons.inj h).2).1 e5
  | gate p m n e =>
    cases s with
    | ask p' n' ws' => exact absurd (List.cons.inj (List.cons.inj h).2).1.symm e2
    | note p' w' t' => exact absurd (List.cons.inj (List.cons.inj h).2).1.symm e4
    | gate p' m' n' e' =>
      have h' : [p, "mark", m, n, e] = [p', "mark", m', n', e'] := h
      simp only [List.cons.injEq, true_and, and_true] at h'
      obtain ⟨rfl, rfl, rfl, rfl⟩ := h'
      rfl
    | end_ p' => exact absurd (List.cons.inj (List.cons.inj h).2).1 e6
  | end_ p =>
    cases s with
    | ask p' n' ws' => exact absurd (List.cons.inj (List.cons.inj h).2).1.symm e3
    | note p' w' t' => exact absurd (List.cons.inj (List.cons.inj h).2).1.symm e5
    | gate p' m' n' e' => exact absurd (List.cons.inj (List.cons.inj h).2).1.symm e6
    | end_ p' =>
      have h' : [p, "end"] = [p', "end"] := h
      simp only [List.cons.injEq, and_true] at h'
      rw [h']
theorem text_inj {r s : Row0} (hr : RowGood r) (hs : RowGood s) (h : textR r = textR s) : r = s := words_inj (by rw [← good_split hr, ← good_split hs, h])
theorem line_inj {r s : Row0} (h : lineD r = lineD s) : r = s := by
  have e1 : ("ask" : Str) ≠ "note" := by decide
  have e2 : ("ask" : Str) ≠ "mark" := by decide
  have e3 : ("ask" : Str) ≠ "end" := by decide
  have e4 : ("note" : Str) ≠ "mark" := by decide
  have e5 : ("note" : Str) ≠ "end" := by decide
  have e6 : ("mark" : Str) ≠ "end" := by decide
  cases r <;> cases s <;> simp only [lineD, PyData.tuple.injEq, List.cons.injEq, PyData.str.injEq, and_true, true_and, reduceCtorEq, and_false, false_and] at h
  · obtain ⟨rfl, rfl, h⟩ := h
    rw [ways_inj h]
  all_goals first
    | (obtain ⟨rfl, rfl, rfl, rfl⟩ := h; rfl)
    | (obtain ⟨rfl, rfl, rfl⟩ := h; rfl)
    | (subst h; rfl)
    | exact absurd h.1 e1
    | exact absurd h.1.symm e1
    | exact absurd h.1 e4
    | exact absurd h.1.symm e4
theorem line_txt (r : Row0) : txtD (lineD r) = true := by
  cases r with
  | ask p n ws => simp [lineD, txtD, txtAll, txtAll_ways]
  | _ => simp [lineD, txtD, txtAll]
theorem line_eqv {r s : Row0} : PyData.eqv (lineD r) (lineD s) = true → r = s := fun h => line_inj (eqv_txt (line_txt r) (line_txt s) h)
theorem ways_show {ws : List (Str × Str)} (h : ∀ w ∈ ws, nameOk w.1 = true ∧ nameOk w.2 = true) : showAll (ws.map wayD) = true ∧ PyData.depthAll (ws.map wayD) ≤ 1 ∧ PyData.weightAll (ws.map wayD) ≤ 11 * ws.length ∧ fineAll (ws.map wayD) = true := by
  induction ws with
  | nil => exact ⟨rfl, by simp [PyData.depthAll], by simp [PyData.weightAll], rfl⟩
  | cons w r ih =>
    obtain ⟨h1, h2⟩ := h w List.mem_cons_self
    obtain ⟨i1, i2, i3, i4⟩ := ih fun y hy => h y (List.mem_cons_of_mem _ hy)
    have w1 : w.1.cps.size ≤ 4 := (name_facts h1).2.1
    have w2 : w.2.cps.size ≤ 4 := (name_facts h2).2.1
    refine ⟨?_, ?_, ?_, ?_⟩
    · simp [showAll, wayD, showOk, i1, name_strOk h1, name_strOk h2]
    · simp [PyData.depthAll, wayD, PyData.depth]
      omega
    · simp [PyData.weightAll, wayD, PyData.weight]
      omega
    · have f1 := name_fine h1
      have f2 := name_fine h2
      rw [List.map_cons, fineAll, i4, Bool.and_true]
      show fine (.tuple [.str w.1, .str w.2]) = true
      rw [fine, fineAll, fineAll, fineAll, f1, f2]
      rfl
end K2

set_option Elab.async false
set_option linter.all false
set_option maxRecDepth 100000
set_option maxHeartbeats 1000000
namespace Lw
open PySem PySem.Spec PyProof.Rows L2
theorem for_zipLe {K : PySem.W.Frag} {a b : Addr} {xs ys : List V} {g : TG} {tb : TS} {D : Ends} {σ : L2.St} {H : Hp} (hl : xs.length ≤ ys.length) (Pv : Nat → L2.St → Hp → Prop) (h0 : Pv 0 σ H) (hq : ∀ i σ H, Pv i σ H → SqL K H a xs ∧ SqL K H b ys)
    (hs : ∀ (i : Nat) (x y : V) (T : Addr) (σ : L2.St) (H : Hp), xs[i]? = some x → ys[i]? = some y → Pv i σ H → H T = none → g (.ref T) σ (upd H T (.tup [x, y])) fun σ2 H2 => tb { D with nx := Pv (i + 1), ct := Pv (i + 1), bk := D.nx } σ2 H2) (hd : ∀ σ H, Pv xs.length σ H → D.nx σ H) :
    ∃ W : Nat → Nat → L2.St → Hp → Prop, (∃ m, W 0 m σ H) ∧ ∀ i m σ H, W i m σ H →
      ((Itz K a b).stop i H ∧ D.nx σ H) ∨ ((Itz K a b).go i H ∧ ∃ N : L2.St → Hp → Prop, (∀ σ' H', N σ' H' → ∃ m', m' < m ∧ W (i + 1) m' σ' H') ∧ ∀ v H', (Itz K a b).yld i H v H' → g v σ H' fun σ2 H2 => tb { D with nx := N, ct := N, bk := D.nx } σ2 H2) := by
  refine ⟨fun i m σ H => m = xs.length - i ∧ i ≤ xs.length ∧ Pv i σ H, ⟨xs.length, rfl, Nat.zero_le _, h0⟩, ?_⟩
  rintro i m σ H ⟨rfl, hi, p⟩
  obtain ⟨qx, qy⟩ := hq i σ H p
  by_cases hlt : i < xs.length
  · have hx : xs[i]? = some xs[i] := List.getElem?_eq_getElem hlt
    have hlt2 : i < ys.length := by omega
    have hy : ys[i]? = some ys[i] := List.getElem?_eq_getElem hlt2
    refine .inr ⟨⟨xs, ys, _, _, qx, qy, hx, hy⟩, Pv (i + 1), fun σ' H' p' => ⟨xs.length - (i + 1), by omega, rfl, hlt, p'⟩, fun v H' y => ?_⟩
    obtain ⟨T, x', y', rfl, hT, rfl, f1, f2⟩ := y
    exact hs i x' y' T σ H (f1 xs qx) (f2 ys qy) p hT
  · have e : i = xs.length := by omega
    subst e
    exact .inl ⟨⟨xs, ys, qx, qy, Or.inl (Nat.le_refl _)⟩, hd σ H p⟩
end Lw

set_option Elab.async false
set_option linter.all false
set_option maxRecDepth 100000
set_option maxHeartbeats 1000000
namespace Lw
open PySem PySem.Spec PyProof.Rows L2
section
variable {X : Cx} {e : Expr} {t1 t2 : TE}
theorem PE.or (h1 : PE X e t1) (h2 : PE X e t2) : PE X e (fun σ H Q => t1 σ H Q ∨ t2 σ H Q) := by
  constructor
  intro pins s σ H Q I h
  rcases h with h | h
  · exact h1.run pins s σ H Q I h
  · exact h2.run pins s σ H Q I h
end
/-! ### rows: where they lead -/
def placeR : Row0 → PySem.Str
  | .ask p _ _ => p
  | .note p _ _ => p
  | .gate p _ _ _ => p
  | .end_ p => p
def leadsR : Row0 → List PySem.Str
  | .ask _ _ ws => ws.map (·.2)
  | .note _ _ t => [t]
  | .gate _ _ n e => [n, e]
  | .end_ _ => []
/-! data without lists, a list changed beside them -/
mutual
def tupD : PyData → Bool
  | .list _ => false
  | .dict _ => false
  | .tuple ds => tupAll ds
  | _ => true
def tupAll : List PyData → Bool
  | [] => true
  | d :: ds => tupD d && tupAll ds
end
theorem tup_off {K : PySem.W.Frag} {H : Hp} {p a : Addr} {xs ys : List V} {o : HO} (hp : H p = some (.lst ys)) (h : SqT K H a xs) : SqT K (upd H p o) a xs := by
  rcases h with (h | ⟨u, h⟩) | h
  · exact .inl (.inl (by rw [upd_ne (fun z => by rw [z, hp] at h; cases h)]; exact h))
  · exact .inl (.inr ⟨u, by rw [upd_ne (fun z => by rw [z, hp] at h; cases h)]; exact h⟩)
  · exact .inr h
mutual
theorem dp_off {K : PySem.W.Frag} {H : Hp} {p : Addr} {ys : List V} {o : HO} (hp : H p = some (.lst ys)) : ∀ {d : PyData} {v : V}, tupD d = true → Dp K H v d → Dp K (upd H p o) v d
  | .none, _, _, h => by cases h; exact .non
  | .bool _, _, _, h => by cases h; exact .bl _
  | .int _, _, _, h => by cases h; exact .int _
  | .str _, _, _, h => by cases h; exact .str _
  | .tuple ds, _, t, h => by
    simp only [tupD] at t
    cases h with
    | tup h1 h2 => exact .tup (tup_off hp h1) (dpAll_off hp t h2)
  | .list _, _, t, _ => by simp [tupD] at t
  | .dict _, _, t, _ => by simp [tupD] at t
theorem dpAll_off {K : PySem.W.Frag} {H : Hp} {p : Addr} {ys : List V} {o : HO} (hp : H p = some (.lst ys)) : ∀ {ds : List PyData} {vs : List V}, tupAll ds = true → DpAll K H vs ds → DpAll K (upd H p o) vs ds
  | [], _, _, h => by cases h; exact .nil
  | d :: ds, _, t, h => by
    simp only [tupAll, Bool.and_eq_true] at t
    cases h with
    | cons h1 h2 => exact .cons (dp_off hp t.1 h1) (dpAll_off hp t.2 h2)
end
theorem tup_ways : ∀ ws : List (PySem.Str × PySem.Str), tupAll (ws.map wayD) = true
  | [] => rfl
  | w :: r => by
    rw [List.map_cons, tupAll, tup_ways r]
    rfl
theorem tup_line (r : Row0) : tupD (lineD r) = true := by
  cases r with
  | ask p n ws => simp [lineD, tupD, tupAll, tup_ways]
  | _ => simp [lineD, tupD, tupAll]
theorem tup_lines : ∀ rs : List Row0, tupAll (rs.map lineD) = true
  | [] => rfl
  | r :: rs => by
    rw [List.map_cons, tupAll, tup_lines rs, tup_line r]
    rfl
theorem fields_same {K : PySem.W.Frag} {H H' : Hp} {fs : List (PySem.Str × V)} {r : Row0} (h : fieldsOk K H fs r) (s : Same H H') : fieldsOk K H' fs r := by
  cases r with
  | ask p n ws =>
    obtain ⟨h1, h2, ⟨wa, h3, h4⟩, h5⟩ := h
    exact ⟨h1, h2, ⟨wa, h3, dp_same s _ _ h4⟩, h5⟩
  | _ => exact h
theorem fields_off {K : PySem.W.Frag} {H : Hp} {p : Addr} {ys : List V} {o : HO} (hp : H p = some (.lst ys)) {fs : List (PySem.Str × V)} {r : Row0} (h : fieldsOk K H fs r) : fieldsOk K (upd H p o) fs r := by
  cases r with
  | ask p n ws =>
    obtain ⟨h1, h2, ⟨wa, h3, h4⟩, h5⟩ := h
    exact ⟨h1, h2, ⟨wa, h3, dp_off hp (by simp only [tupD]; exact tup_ways ws) h4⟩, h5⟩
  | _ => exact h
theorem text_of {K : PySem.W.Frag} {H : Hp} {fs : List (PySem.Str × V)} {r : Row0} (h : fieldsOk K H fs r) : fs.lookup ("_text" : PySem.Str) = some (.str (textR r)) := by
  cases r with
  | ask p n ws => exact h.2.2.2
  | note p w t => exact h.2.2.2
  | gate p m n e => exact h.2.2.2.2
  | end_ p => exact h.2
end Lw

set_option Elab.async false
set_option linter.all false
set_option maxRecDepth 100000
set_option maxHeartbeats 1000000
namespace K2
open PySem L2 Lw TL
theorem cls_mem {a : Ad} (r : Row0) : clsR a r ∈ rowCs a := by cases r <;> simp [clsR, rowCs]
/-- an object of a row -/
structure RowAt (K : PySem.W.Frag) (a : Ad) (H : Hp) (v : V) (r : Row0) : Prop where
  ex : ∃ (x dx : Addr) (fs : List (Str × V)), v = .ref x ∧ H x = some (.ins (clsR a r) dx fs) ∧ fieldsOk K H fs r ∧ Bare fs
theorem fields_same {K : PySem.W.Frag} {H H' : Hp} {fs : List (Str × V)} {r : Row0} (h : fieldsOk K H fs r) (s : Same H H') : fieldsOk K H' fs r := by
  cases r with
  | ask p n ws =>
    obtain ⟨h1, h2, ⟨wa, h3, h4⟩, h5⟩ := h
    exact ⟨h1, h2, ⟨wa, h3, dp_same s _ _ h4⟩, h5⟩
  | _ => exact h
theorem RowAt.same {K : PySem.W.Frag} {a : Ad} {H H' : Hp} {v : V} {r : Row0} (h : RowAt K a H v r) (s : Same H H') : RowAt K a H' v r := by
  obtain ⟨x, dx, fs, e, hx, hf, hb⟩ := h.ex
  exact ⟨x, dx, fs, e, s _ _ hx, fields_same hf s, hb⟩
/-! ### where a row leads -/
structure LeadsF (K : PySem.W.Frag) (a : Ad) (fR fA fN fG : Addr) (dR dA dN dG : FuncData) : Prop where
  rF : Fun K "leads" "Row.leads" sLeadsR fR dR
  rB : Binds K dR ["self"] []
  aF : Fun K "leads" "Ask.leads" sLeadsA fA dA
  aB : Binds K dA ["self"] []
  nF : Fun K "leads" "Note.leads" sLeadsN fN dN
  nB : Binds K dN ["self"] []
  gF : Fun K "leads" "Gate.leads" sLeadsG fG dG
  gB : Binds K dG ["self"] []
  rM : Meth K a.cEnd "leads" fR
  aM : Meth K a.cAsk "leads" fA
  nM : Meth K a.cNote "leads" fN
  gM : Meth K a.cGate "leads" fG
def spLeads (K : PySem.W.Frag) (a : Ad) : Sp := fun vs H Q _ => ∃ (v : V) (r : Row0), vs = [v] ∧ RowAt K a H v r ∧ RowGood r ∧ ∀ H' t, Same H H' → H' t = some (.tup ((leadsR r).map V.str)) → Q (.ref t) H'
section
variable {P : Program} {w : World} {K : PySem.W.Frag} {mg : Str → Option Value} {base : Heap} {a : Ad} {fR fA fN fG : Addr} {dR dA dN dG : FuncData}
theorem scLR : FnScope ["self"] ["self"] (defScope sLeadsR) := ⟨rfl, rfl, rfl, by decide +kernel, rfl, by decide +kernel, by decide +kernel⟩
theorem scLN : FnScope ["self"] ["self"] (defScope sLeadsN) := ⟨rfl, rfl, rfl, by decide +kernel, rfl, by decide +kernel, by decide +kernel⟩
theorem scLG : FnScope ["self"] ["self"] (defScope sLeadsG) := ⟨rfl, rfl, rfl, by decide +kernel, rfl, by decide +kernel, by decide +kernel⟩
theorem scLA : FnScope ["self", "answer", "then"] ["self"] (defScope sLeadsA) := ⟨rfl, rfl, rfl, by decide +kernel, rfl, by decide +kernel, by decide +kernel⟩
/-- for one kind -/
def spLd (K : PySem.W.Frag) (C : Addr) : Sp := fun vs H Q _ => ∃ (p dx : Addr) (fs : List (Str × V)) (r : Row0), vs = [.ref p] ∧ H p = some (.ins C dx fs) ∧ fieldsOk K H fs r ∧ RowGood r ∧ ∀ H' t, Same H H' → H' t = some (.tup ((leadsR r).map V.str)) → Q (.ref t) H'
def spLdK (K : PySem.W.Frag) (C : Addr) (is : Row0 → Prop) : Sp := fun vs H Q _ => ∃ (p dx : Addr) (fs : List (Str × V)) (r : Row0), vs = [.ref p] ∧ is r ∧ H p = some (.ins C dx fs) ∧ fieldsOk K H fs r ∧ RowGood r ∧ ∀ H' t, Same H H' → H' t = some (.tup ((leadsR r).map V.str)) → Q (.ref t) H'
def isAsk : Row0 → Prop | .ask _ _ _ => True | _ => False
def isNote : Row0 → Prop | .note _ _ _ => True | _ => False
def isGate : Row0 → Prop | .gate _ _ _ _ => True | _ => False
def isEnd : Row0 → Prop | .end_ _ => True | _ => False
theorem LeadsF.okR (L : LeadsF K a fR fA fN fG dR dA dN dG) : FnOk P w K mg base CX0 1 fR dR ["self"] (spLdK K a.cEnd isEnd) := by
  refine L.rF.ok scLR (fun vs H Q E h => ?_) (fun cdv A outer s H vs Q E hr h => ?_)
  · obtain ⟨p, dx, fs, r, rfl, _⟩ := h
    rfl
  · obtain ⟨p, dx, fs, r, rfl, hi, hp, hf, gr, fin⟩ := h
    refine ⟨_, pss_one (ps_ret (pe_tup pa_nil)), ?_⟩
    refine ⟨(by show 0 ≤ sizeLine; decide), fun t ut => fin _ t (same_new ut) ?_⟩
    cases r with
    | end_ _ => exact upd_same
    | _ => exact hi.elim
theorem LeadsF.okN (L : LeadsF K a fR fA fN fG dR dA dN dG) (T : Txt K mg a) : FnOk P w K mg base CX0 1 fN dN ["self"] (spLdK K a.cNote isNote) := by
  refine L.nF.ok scLN (fun vs H Q E h => ?_) (fun cdv A outer s H vs Q E hr h => ?_)
  · obtain ⟨p, dx, fs, r, rfl, _⟩ := h
    rfl
  · obtain ⟨p, dx, fs, r, rfl, hi, hp, hf, gr, fin⟩ := h
    refine ⟨_, pss_one (ps_ret (pe_tup (pa_cons (pe_fld (pv 0) rfl) pa_nil))), ?_⟩
    cases r with
    | note p0 w0 t0 =>
      obtain ⟨f1, f2, f3, f4⟩ := hf
      exact ⟨_, rfl, p, _, dx, fs, _, rfl, hp, T.note.cl, T.no _ (by simp) _ (by simp), f3, (by show 1 ≤ sizeLine; decide), fun t ut => fin _ t (same_new ut) upd_same⟩
    | _ => exact hi.elim
theorem LeadsF.okG (L : LeadsF K a fR fA fN fG dR dA dN dG) (T : Txt K mg a) : FnOk P w K mg base CX0 1 fG dG ["self"] (spLdK K a.cGate isGate) := by
  refine L.gF.ok scLG (fun vs H Q E h => ?_) (fun cdv A outer s H vs Q E hr h => ?_)
  · obtain ⟨p, dx, fs, r, rfl, _⟩ := h
    rfl
  · obtain ⟨p, dx, fs, r, rfl, hi, hp, hf, gr, fin⟩ := h
    refine ⟨_, pss_one (ps_ret (pe_tup (pa_cons (pe_fld (pv 0) rfl) (pa_cons (pe_fld (pv 0) rfl) pa_nil)))), ?_⟩
    cases r with
    | gate p0 m0 n0 e0 =>
      obtain ⟨f1, f2, f3, f4, f5⟩ := hf
      exact ⟨_, rfl, p, _, dx, fs, _, rfl, hp, T.gate.cl, T.no _ (by simp) _ (by simp), f3, _, rfl, p, _, dx, fs, _, rfl, hp, T.gate.cl, T.no _ (by simp) _ (by simp), f4, (by show 2 ≤ sizeLine; decide), fun t ut => fin _ t (same_new ut) upd_same⟩
    | _ => exact hi.elim
theorem LeadsF.okA (L : LeadsF K a fR fA fN fG dR dA dN dG) (T : Txt K mg a) : FnOk P w K mg base CX0 1 fA dA ["self"] (spLdK K a.cAsk isAsk) := by
  refine L.aF.ok scLA (fun vs H Q E h => ?_) (fun cdv A outer s H vs Q E hr h => ?_)
  · obtain ⟨p, dx, fs, r, rfl, _⟩ := h
    rfl
  · obtain ⟨p, dx, fs, r, rfl, hi, hp, hf, gr, fin⟩ := h
    refine ⟨_, pss_one (ps_ret (pe_callTy call_tuple_of (by rfl) T.tTuple PyProof.Rows.boot_tuple (pa_cons (pe_lc (own := [("answer", 1), ("then", 2)]) (g := gTup K 2 (gCons (gName 1) (gCons (gName 2) gNil))) (tt := tYes) (te := tVar 2) (by rfl) scLA.nd (pi_tup (pe_fld (pv 0) rfl))
        (blkOk_by (own := [("answer", 1), ("then", 2)]) (N := ["self", "answer", "then"]) (sc := defScope sLeadsA) (by decide +kernel)) (fun _ _ _ _ _ => pg_tup rfl (pgs_cons (pg_name (i := 1) scLA.nd rfl (.inl rfl)) (pgs_cons (pg_name (i := 2) scLA.nd rfl (.inl rfl)) pgs_nil))) (fun _ _ _ _ _ => pts_nil) (fun _ _ _ _ _ => pv 2)) pa_nil))), ?_⟩
    cases r with
    | ask p0 n0 ws =>
      obtain ⟨f1, f2, ⟨wa, f3, hwa⟩, f4⟩ := hf
      cases hwa with
      | @tup _ xs _ hs ha =>
        have few : ws.length ≤ 3 := gr.2.2.2.1
        have len : xs.length = ws.length := by rw [dpAll_len ha, List.length_map]
        refine ⟨_, rfl, p, _, dx, fs, _, rfl, hp, T.ask.cl, T.no _ (by simp) _ (by simp), f3, wa, rfl, ⟨_, hs⟩, fun D un => lc_tup (K := K) (a := wa) (xs := xs) (fun j H' => Same H H' ∧ H' D = some (.lst (((ws.map (·.2)).take j).map V.str))) ⟨same_new un, upd_same⟩ (fun j H' _ q => same_tup q.1 hs) ?_ ?_⟩
        · rintro j x H' hx ⟨s1, hD⟩
          obtain ⟨d, ed, hdx⟩ := dpAll_at ha hx
          rw [List.getElem?_map] at ed
          obtain ⟨wy, hw, rfl⟩ := Option.map_eq_some_iff.mp ed
          cases hdx with
          | tup ht hy =>
            cases hy with
            | cons h1 hy =>
              cases h1
              cases hy with
              | cons h2 hy =>
                cases h2
                cases hy
                refine ⟨_, _, rfl, same_tup s1 ht, rfl, _, _, rfl, _, _, rfl, rfl, ?_⟩
                refine ⟨rfl, ?_⟩
                dsimp only [tYes]
                refine iteT ⟨_, rfl, _, hD, ?_, fun b o e => ?_, ?_⟩
                · rw [List.length_map, List.length_take, List.length_map]
                  exact Nat.lt_of_le_of_lt (show _ ≤ 3 by omega) (by decide)
                · rw [upd_ne (ne_of_none e un)]
                  exact s1 _ _ e
                · rw [upd_same, List.take_add_one, List.getElem?_map, hw, List.map_append]
                  rfl
        · rintro H' ⟨s1, hD⟩
          rw [len, ← List.length_map (f := fun (w : Str × Str) => w.2), List.take_length] at hD
          exact ⟨D, _, rfl, .inl ⟨SqL.of hD, fun t ut => fin _ t (s1.trans (same_new ut)) upd_same⟩⟩
    | _ => exact hi.elim
/-- row.leads(), whichever row it is -/
abbrev tLeads (K : PySem.W.Frag) (a : Ad) (ta : TE) : TE := fun σ H Q => tMeth a.cAsk "leads" (spLdK K a.cAsk isAsk) [] E0 ta tNil σ H Q ∨ tMeth a.cNote "leads" (spLdK K a.cNote isNote) [] E0 ta tNil σ H Q ∨ tMeth a.cGate "leads" (spLdK K a.cGate isGate) [] E0 ta tNil σ H Q ∨ tMeth a.cEnd "leads" (spLdK K a.cEnd isEnd) [] E0 ta tNil σ H Q
theorem pe_leads {X : Cx} (L : LeadsF X.K a fR fA fN fG dR dA dN dG) (T : Txt X.K X.mg a) {o : Expr} {ta : TE} {apos pos : Pos} {pl : Sem Bool} (he : PE X o ta) (hr : Room 1 X.A)
    (ht : eval (.Call (.Attribute o "leads" apos) [] [] pos) X.env = (do
      let ov ← eval o X.env
      standAt apos.atName
      let (f, first) ← holding [ov] (getMethod ov "leads" pl)
      callWith pos f first (backTo pos (starEach [] X.env)) (backToKw pos (keywordEach [] X.env))) := by rfl) :
    PE X (.Call (.Attribute o "leads" apos) [] [] pos) (tLeads X.K a ta) :=
  PE.or (pe_meth0 he T.ask.cl L.aM (L.okA T) hr L.aB .nil pass0 ht) (PE.or (pe_meth0 he T.note.cl L.nM (L.okN T) hr L.nB .nil pass0 ht) (PE.or (pe_meth0 he T.gate.cl L.gM (L.okG T) hr L.gB .nil pass0 ht) (pe_meth0 he T.end_.cl L.rM L.okR hr L.rB .nil pass0 ht)))
theorem leads_run {i : Nat} {σ : L2.St} {H : Hp} {v : V} {r : Row0} {Q : VK} (e : σ[i]? = some (some v)) (h : RowAt K a H v r) (gr : RowGood r) (fin : ∀ H' t, Same H H' → H' t = some (.tup ((leadsR r).map V.str)) → Q (.ref t) H') : tLeads K a (tVar i) σ H Q := by
  obtain ⟨x, dx, fs, rfl, hx, hf, hb⟩ := h.ex
  cases r with
  | ask p n ws => exact .inl ⟨_, e, x, dx, fs, rfl, hx, hb.1, x, dx, fs, (.ask p n ws), rfl, trivial, hx, hf, gr, fin⟩
  | note p n ws => exact .inr (.inl ⟨_, e, x, dx, fs, rfl, hx, hb.1, x, dx, fs, (.note p n ws), rfl, trivial, hx, hf, gr, fin⟩)
  | gate p m n e0 => exact .inr (.inr (.inl ⟨_, e, x, dx, fs, rfl, hx, hb.1, x, dx, fs, (.gate p m n e0), rfl, trivial, hx, hf, gr, fin⟩))
  | end_ p => exact .inr (.inr (.inr ⟨_, e, x, dx, fs, rfl, hx, hb.1, x, dx, fs, (.end_ p), rfl, trivial, hx, hf, gr, fin⟩))
end
end K2

set_option Elab.async false
set_option linter.all false
set_option maxRecDepth 100000
set_option maxHeartbeats 1000000
namespace Lw
open PySem PySem.Spec PyProof.Rows L2
theorem fun_okG0 {P : Program} {w : World} {K : PySem.W.Frag} {mg : PySem.Str → Option Value} {base : Heap} {x qual : PySem.Str} {st : Stmt} {f : Addr} {fd : FuncData} {N ps : List PySem.Str} {k : Nat} {sp : Sp} (F : Fun K x qual st f fd) (S : FnScope N ps (defScope st)) (len : ∀ vs H Q E, sp vs H Q E → vs.length = ps.length)
    (body : ∀ (cdv : Value) (A : Around) (out : List Env) (s : Shared) (H : Hp) (vs : List V) (Q : VK) (E : XK), Room k (A.deeper (envOfC qual (defScope st) s.heap.objs.size f cdv)) → (A.deeper (envOfC qual (defScope st) s.heap.objs.size f cdv)).guards = some [] → sp vs H Q E →
      ∃ t, PSs (cxOf CX0 P w K mg base N qual (defScope st) f cdv A out s H E).nox (defBody st) t ∧ t { nx := fun _ H' => Q .non H', rt := Q } (start N vs) H) : FnG P w K mg base CX0 (k + 1) f fd ps sp :=
  fun_okG F S len fun cdv A out s H vs Q E room hg h => by
    obtain ⟨t, term, q⟩ := body cdv A out s H vs Q E room hg h
    exact ⟨t, term.nox, q⟩
theorem Deal.on {G H H' : Hp} {d l : Addr} (D : Deal G H d l) (s : Same H H') : Deal G H' d l :=
  ⟨D.same.trans s, D.gd, D.gl, D.ne, let ⟨ns, m, a⟩ := D.it; ⟨ns, m, s _ _ a.hd, s _ _ a.hl, a.len, a.nn, a.m0, a.m1⟩⟩
theorem News.on {G H H' G' N : Hp} {d l : Addr} (n : News G H G' N d l) (s : Same H H') : News G H' G' N d l := n.redeal (n.dl.on s)
end Lw

set_option Elab.async false
set_option linter.all false
set_option maxRecDepth 100000
set_option maxHeartbeats 1000000
namespace K2
open PySem L2 Lw TL
theorem ways_good {ws : List (Str × Str)} (ne : ws ≠ []) (nd : (ws.map (·.1)).Nodup) (h : ∀ w ∈ ws, nameOk w.1 = true ∧ nameOk w.2 = true) : waysOk (.tuple (ws.map wayD)) = true := by
  have e1 : (ws.map wayD).isEmpty = false := by
    cases ws with
    | nil => exact absurd rfl ne
    | cons _ _ => rfl
  have e2 : (ws.map wayD).all wayOk = true := by
    rw [List.all_map, List.all_eq_true]
    intro w hw
    obtain ⟨h1, h2⟩ := h w hw
    show (nameOk w.1 && nameOk w.2) = true
    rw [h1, h2]
    rfl
  have e3 : (ws.map wayD).map headOf = ws.map (·.1) := by
    rw [List.map_map]
    exact List.map_congr_left fun w _ => rfl
  show waysD (ws.map wayD) = true
  unfold waysD
  rw [e1, e2, e3, decide_eq_true nd]
  rfl
theorem good_due {r : Row0} (h : RowGood r) : dueR r = Str.empty := by
  cases r with
  | ask p n ws =>
    obtain ⟨h1, h2, h3, _, h5, h6⟩ := h
    have w := ways_good h3 h5 h6
    have f : firstD [("place", .str p), ("name", .str n)] = Str.empty := by simp [firstD, nameD, h1, h2]
    show (if firstD [("place", .str p), ("name", .str n)] = Str.empty then (if waysOk (.tuple (ws.map wayD)) = true then Str.empty else "ways") else firstD [("place", .str p), ("name", .str n)]) = Str.empty
    rw [if_pos f, if_pos w]
  | note p w t =>
    obtain ⟨h1, h2, h3⟩ := h
    show firstD [("place", .str p), ("word", .str w), ("then", .str t)] = Str.empty
    simp [firstD, nameD, h1, h2, h3]
  | gate p m n e =>
    obtain ⟨h1, h2, h3, h4⟩ := h
    show firstD [("place", .str p), ("mark", .str m), ("newer", .str n), ("elder", .str e)] = Str.empty
    simp [firstD, nameD, h1, h2, h3, h4]
  | end_ p =>
    show firstD [("place", .str p)] = Str.empty
    have h : nameOk p = true := h
    simp [firstD, nameD, h]
theorem ways_fine {ws : List (Str × Str)} (few : ws.length ≤ 3) (h : ∀ w ∈ ws, nameOk w.1 = true ∧ nameOk w.2 = true) : fine (.tuple (ws.map wayD)) = true := by
  rw [fine, (ways_show h).2.2.2, Bool.and_true, List.length_map]
  exact decide_eq_true (by omega)
theorem good_fine {r : Row0} (h : RowGood r) : fineAll (argsD r) = true := by
  cases r with
  | ask p n ws =>
    obtain ⟨h1, h2, h3, h4, h5, h6⟩ := h
    show fineAll [.str p, .str n, .tuple (ws.map wayD)] = true
    rw [fineAll, fineAll, fineAll, name_fine h1, name_fine h2, ways_fine h4 h6]
    rfl
  | note p w t =>
    obtain ⟨h1, h2, h3⟩ := h
    show fineAll [.str p, .str w, .str t] = true
    rw [fineAll, fineAll, fineAll, name_fine h1, name_fine h2, name_fine h3]
    rfl
  | gate p m n e =>
    obtain ⟨h1, h2, h3, h4⟩ := h
    show fineAll [.str p, .str m, .str n, .str e] = true
    rw [fineAll, fineAll, fineAll, fineAll, name_fine h1, name_fine h2, name_fine h3, name_fine h4]
    rfl
  | end_ p =>
    show fineAll [.str p] = true
    rw [fineAll, name_fine h]
    rfl
section
variable {K : PySem.W.Frag} {a : Ad}
theorem made_isL {p n : Str} {ws : List (Str × Str)} {r' : Row0} (m : Made [.str p, .str n, .list (ws.map wayD)] r') : r' = .ask p n ws := by
  cases r' with
  | ask p' n' ws' =>
    rcases m with h | h
    · have h2 : [PyData.str p, .str n, .list (ws.map wayD)] = [.str p', .str n', .list (ws'.map wayD)] := h
      simp only [List.cons.injEq, PyData.str.injEq, PyData.list.injEq, and_true] at h2
      obtain ⟨e1, e2, e3⟩ := h2
      rw [e1, e2, ways_inj e3]
    · simp at h
  | note p' w' t' => have h : [PyData.str p, .str n, .list (ws.map wayD)] = [.str p', .str w', .str t'] := m; simp at h
  | gate p' m' n' e' => have h : [PyData.str p, .str n, .list (ws.map wayD)] = [.str p', .str m', .str n', .str e'] := m; simp at h
  | end_ p' => have h : [PyData.str p, .str n, .list (ws.map wayD)] = [.str p'] := m; simp at h
/-- an ask of a list of ways -/
theorem make_list {H : Hp} {Cir : Addr} {ta : TA} {σ : L2.St} {xs : List V} {p n : Str} {ws : List (Str × Str)} {Q : VK} (hta : ∀ Q, Q xs H → ta σ H Q) (ha : DpAll K H xs [.str p, .str n, .list (ws.map wayD)]) (good : RowGood (.ask p n ws))
    (fin : ∀ (H' : Hp) (x dx : Addr) (fs : List (Str × V)), Same H H' → H x = none → H' x = some (.ins a.cAsk dx fs) → fieldsOk K H' fs (.ask p n ws) → Bare fs → Q (.ref x) H') : tMake a.cAsk (spMk K a.cAsk Cir dueAsk 3) [] E0 ta σ H Q := by
  have due : dueAsk [.str p, .str n, .list (ws.map wayD)] = Str.empty := by
    have z := good_due good
    exact z
  have fin3 : fineAll [.str p, .str n, .list (ws.map wayD)] = true := by
    obtain ⟨h1, h2, h3, h4, h5, h6⟩ := good
    have z := ways_fine h4 h6
    rw [fine] at z
    rw [fineAll, fineAll, fineAll, name_fine h1, name_fine h2, fine, z]
    rfl
  refine hta _ fun x dx nx nd ne => ?_
  have s1 : Same H (upd H dx (.own x)) := same_new nd
  have nx' : (upd H dx (.own x)) x = none := by rw [upd_ne ne.symm]; exact nx
  have s2 : Same (upd H dx (.own x)) (upd (upd H dx (.own x)) x (.ins a.cAsk dx [])) := same_new nx'
  refine ⟨x, dx, xs, _, by rw [List.append_nil], dpAll_len ha, dpAll_same (s1.trans s2) _ _ ha, fin3, upd_same, fun e H' fs r' kp hi md fo fb => ⟨rfl, ?_⟩, fun e => absurd due e⟩
  have er := made_isL md
  subst er
  exact fin H' x dx fs (Same.made nx nd kp) nx hi fo fb
end
end K2

set_option Elab.async false
set_option linter.all false
set_option maxRecDepth 100000
set_option maxHeartbeats 4000000
/-! Sets of texts whose order can be told: made by a comprehension, sorted. -/
namespace SxT
open PySem PySem.Spec PyProof.Rows L2
def keyS (e : Int × Value) : PySem.Str := match e.2 with
  | .str k _ => k
  | _ => Str.empty
def GoodS (P : Program) (w : World) (e : Int × Value) : Prop := ∃ k tk, e.2 = Value.str k tk ∧ e.1 = (strKind P w).hash k
/-- a set of n texts at a, S tells which -/
def SetX (P : Program) (w : World) (h : Heap) (a : Addr) (S : PySem.Str → Bool) (n : Nat) : Prop :=
  ∃ o es ep t, h.get? a = some o ∧ o.ExactSet ∧ o.data = .set es ep t ∧ (∀ e ∈ es.toList, GoodS P w e) ∧ (es.toList.map keyS).Nodup ∧ (∀ k, S k = true ↔ k ∈ es.toList.map keyS) ∧
    es.size < scanBound ∧ t.fits es.size = true ∧ es.size = n ∧ Ris t.place.toList ∧ (w.params.followText "set-order" = true ∨ t.led = true)
section
variable {P : Program} {w : World} {A : Around} {E : Value → Shared → Prop} {s : Shared} {a : Addr} {S : PySem.Str → Bool} {n : Nat} {h h' : Heap}
theorem SetX.at (R : SetX P w h a S n) (k : ∀ o, h.get? a = some o → h'.get? a = some o) : SetX P w h' a S n := by
  obtain ⟨o, es, ep, t, here, rest⟩ := R
  exact ⟨o, es, ep, t, k o here, rest⟩
theorem is_one (k : PySem.Str) (u : Tok) : (strKind P w).is k (.str k u) = true := by
  show Value.isStrOf k (.str k u) = true
  simp [Value.isStrOf]
theorem goodS_is {e : Int × Value} (g : GoodS P w e) (k : PySem.Str) : (strKind P w).is k e.2 = true ↔ keyS e = k := by
  obtain ⟨j, tk, ee, _⟩ := g
  unfold keyS
  rw [ee]
  show Value.isStrOf k (.str j tk) = true ↔ j = k
  simp [Value.isStrOf]
theorem goodS_mem {l : List (Int × Value)} (g : ∀ e ∈ l, GoodS P w e) (k : PySem.Str) : k ∈ l.map keyS ↔ ∃ e ∈ l, (strKind P w).is k e.2 = true := by
  rw [List.mem_map]
  constructor
  · rintro ⟨e, he, q⟩
    exact ⟨e, he, (goodS_is (g e he) k).mpr q⟩
  · rintro ⟨e, he, q⟩
    exact ⟨e, he, (goodS_is (g e he) k).mp q⟩
theorem goodS_elems {l : List (Int × Value)} (g : ∀ e ∈ l, GoodS P w e) : ElemsOf (strKind P w) l := fun e he => by
  obtain ⟨k, tk, e1, e2⟩ := g e he
  refine ⟨⟨k, ?_, e2⟩, ?_⟩
  · rw [e1]
    exact is_one k tk
  · rw [e1]
    rfl
theorem SetX.setOf (R : SetX P w h a S n) : h.SetOf (strKind P w) a S n := by
  obtain ⟨o, es, ep, t, ho, hex, hd, g, nd, hm, hb, hf, hn, hr, hl⟩ := R
  exact ⟨o, es, ep, t, ho, hex, hd, goodS_elems g, fun k => (hm k).trans (goodS_mem g k), hb, hf, hn⟩
theorem addX_tail {g : Bool → Sem Unit} (hg : ∀ (b : Bool) (s1 : Shared) (Q' : Unit → Shared → Prop), Q' () s1 → wpAny (model P w) A (g b) Q' E s1) {o : Obj} {es : Array (Int × Value)} {ep : Nat} {t : SetTable} (here : s.heap.get? a = some o) (exact_ : o.ExactSet) (data : o.data = .set es ep t)
    {es1 : Array (Int × Value)} {t2 : SetTable} {S' : PySem.Str → Bool} (good : ∀ e ∈ es1.toList, GoodS P w e) (once : (es1.toList.map keyS).Nodup) (mem : ∀ k, S' k = true ↔ k ∈ es1.toList.map keyS) (few : es1.size < scanBound) (fits : t2.fits es1.size = true) (ris : Ris t2.place.toList)
    (led : w.params.followText "set-order" = true ∨ t2.led = true) {wasDummy : Bool} {R : Option Bool → Shared → Prop} (want : ∀ h', Heap.SameBut a s.heap h' → SetX P w h' a S' es1.size → R (some true) { s with heap := h' }) :
    wpAny (model P w) A (do
        storeSet a es1 t2
        if (!wasDummy && t2.tooFull) = true then do
            g (relayAll t2 es1 (SetTable.grown es1.size)).2.2
            storeSet a (relayAll t2 es1 (SetTable.grown es1.size)).1 (relayAll t2 es1 (SetTable.grown es1.size)).2.1
            pure (some true)
          else pure (some true)) R E s := by
  refine wpAny_bind (wpAny_storeSet_of here data ?_ (fits_of_scanBound few))
  have here1 := store_at (es' := es1) (t' := t2) here data
  have but1 := Heap.SameBut.update s.heap a (Obj.putSet es1 t2)
  split
  · have perm := relayAll_perm t2 es1 (SetTable.grown es1.size)
    have fits3 := relayAll_fits t2 es1 (SetTable.grown es1.size)
    have ris3 := relayAll_ris t2 es1 (SetTable.grown es1.size)
    have led3 := relayAll_led t2 es1 (SetTable.grown es1.size)
    generalize relayAll t2 es1 (SetTable.grown es1.size) = Z at perm fits3 ris3 led3 ⊢
    obtain ⟨es2, t3, gave⟩ := Z
    dsimp only at perm fits3 ris3 led3 ⊢
    have size : es2.size = es1.size := by rw [← Array.length_toList, perm.length_eq, Array.length_toList]
    have few2 : es2.size < scanBound := by rw [size]; exact few
    refine wpAny_bind (hg _ _ _ (wpAny_bind (wpAny_storeSet_of here1 rfl ?_ (fits_of_scanBound few2))))
    have here2 := store_at (es' := es2) (t' := t3) here1 rfl
    refine wpAny_pure (want _ (but1.trans (Heap.SameBut.update _ a _)) ?_)
    refine ⟨_, es2, _, t3, here2, exact_, rfl, fun e he => good e (perm.mem_iff.mp he), (perm.map keyS).nodup_iff.mpr once, fun k => (mem k).trans (perm.map keyS).mem_iff.symm, few2, fits3, size, ris3, ?_⟩
    rcases led with z | z
    · exact .inl z
    · exact .inr (by rw [led3]; exact z)
  · exact wpAny_pure (want _ but1 ⟨_, es1, _, t2, here1, exact_, rfl, good, once, mem, few, fits, rfl, ris, led⟩)
theorem addX_hashed {k : PySem.Str} {tk : Tok} {Q : Bool → Shared → Prop} (R : SetX P w s.heap a S n) (room : n + 1 < scanBound)
    (want : ∀ h', Heap.SameBut a s.heap h' → SetX P w h' a (fun j => S j || decide (j = k)) (if S k = true then n else n + 1) → Q (!S k) { s with heap := h' }) : wpAny (model P w) A (setAddHashed a (.str k tk) ((strKind P w).hash k)) Q E s := by
  obtain ⟨o, es, ep, t, ho, hex, hd, g, nd, hm, hb, hf, hn, hr, hl⟩ := R
  have isK : (strKind P w).is k (.str k tk) = true := is_one k tk
  have scan : (Value.str k tk).scannable = true := rfl
  have elems : ElemsOf (strKind P w) es.toList := goodS_elems g
  unfold setAddHashed setAddHashedIn
  refine wpAny_holding (wpAny_bind (wpAny_setState_of ho hd hf ?_))
  dsimp only
  rw [byScan_of scan hb elems]
  simp only [↓reduceIte]
  unfold setAddByScan
  refine wpAny_bind (wpAny_bind (wpAny_rule (wpAny_bind (wpAny_setScan_of isK ho hd hf elems ?_))))
  cases found : List.findIdx? (fun e => (strKind P w).is k e.2) es.toList with
  | some j =>
    dsimp only
    obtain ⟨lt, pj, _⟩ := List.findIdx?_eq_some_iff_getElem.mp found
    have inS : S k = true := (hm k).2 ((goodS_mem g k).2 ⟨es.toList[j], List.getElem_mem lt, pj⟩)
    refine wpAny_pure (wpAny_pure ?_)
    have z := want s.heap (Heap.SameBut.refl a s.heap) ⟨o, es, ep, t, ho, hex, hd, g, nd, fun i => ?_, hb, hf, by rw [if_pos inS]; exact hn, hr, hl⟩
    · rw [inS] at z
      exact z
    · rw [Bool.or_eq_true, decide_eq_true_eq, ← hm i]
      constructor
      · rintro (q | q)
        · exact q
        · rw [q]; exact inS
      · exact .inl
  | none =>
    dsimp only
    have notIn : k ∉ es.toList.map keyS := fun z => by
      obtain ⟨e, he, q⟩ := (goodS_mem g k).1 z
      have c := List.findIdx?_eq_none_iff.mp found e he
      rw [q] at c
      cases c
    have outS : S k = false := by
      cases q : S k with
      | false => rfl
      | true => exact absurd ((hm k).1 q) notIn
    have gave_way : ∀ (b : Bool) {s1 : Shared} {Q' : Unit → Shared → Prop}, Q' () s1 → wpAny (model P w) A (match b with | true => rule "set.scan.the-table-gave-way" | false => pure ()) Q' E s1 := fun b s1 Q' q => by
      cases b
      · exact wpAny_pure q
      · exact wpAny_rule q
    have perm := layNew_perm t es ((strKind P w).hash k) (.str k tk)
    have fits1 := layNew_fits t es ((strKind P w).hash k) (.str k tk)
    have ris1 := layNew_ris t es ((strKind P w).hash k) (.str k tk) hr
    have led1 := layNew_led t es ((strKind P w).hash k) (.str k tk)
    generalize layNew t es ((strKind P w).hash k) (.str k tk) = Z at perm fits1 ris1 led1 ⊢
    obtain ⟨es1, t1, wasDummy, gave⟩ := Z
    dsimp only at perm fits1 ris1 led1 ⊢
    rw [Array.toList_push] at perm
    have pc : es1.toList.Perm (((strKind P w).hash k, Value.str k tk) :: es.toList) := perm.trans (List.perm_append_singleton _ _)
    have pk : (es1.toList.map keyS).Perm (k :: es.toList.map keyS) := pc.map keyS
    have good1 : ∀ e ∈ es1.toList, GoodS P w e := fun e he => by
      rcases List.mem_cons.mp (pc.mem_iff.mp he) with z | z
      · rw [z]
        exact ⟨k, tk, rfl, rfl⟩
      · exact g e z
    have once1 : (es1.toList.map keyS).Nodup := pk.nodup_iff.mpr (List.nodup_cons.mpr ⟨notIn, nd⟩)
    have mem1 : ∀ i, (S i || decide (i = k)) = true ↔ i ∈ es1.toList.map keyS := fun i => by
      rw [Bool.or_eq_true, decide_eq_true_eq, hm i, pk.mem_iff, List.mem_cons]
      exact Or.comm
    have size : es1.size = n + 1 := by rw [← Array.length_toList, pc.length_eq, List.length_cons, Array.length_toList, hn]
    have few1 : es1.size < scanBound := by rw [size]; exact room
    have led2 : w.params.followText "set-order" = true ∨ t1.led = true := by
      rcases hl with z | z
      · exact .inl z
      · exact .inr (by rw [led1]; exact z)
    have fin : ∀ h', Heap.SameBut a s.heap h' → SetX P w h' a (fun j => S j || decide (j = k)) es1.size → Q true { s with heap := h' } := fun h' sb r => by
      have z := want h' sb
      rw [outS] at z
      rw [size] at r
      exact z r
    refine wpAny_bind (gave_way _ ?_)
    split
    · refine wpAny_bind ?_
      rw [hashByValue_scannable 8 scan]
      refine wpAny_pure (addX_tail ?_ ho hex hd good1 once1 mem1 few1 ?_ ?_ ?_ ?_)
      · intro b s1 Q' q
        cases b
        · exact wpAny_pure q
        · exact wpAny_rule q
      · first | (split <;> first | exact fits1 | exact SetTable.fits_plain_off fits1) | exact fits1
      · first | (split <;> exact ris1) | exact ris1
      · first | (split <;> exact led2) | exact led2
      · intro h' sb r
        dsimp only
        exact wpAny_pure (fin h' sb r)
    · refine wpAny_bind (wpAny_pure ?_)
      simp only [↓reduceIte]
      refine addX_tail ?_ ho hex hd good1 once1 mem1 few1 fits1 ris1 led2 ?_
      · intro b s1 Q' q
        cases b
        · exact wpAny_pure q
        · exact wpAny_rule q
      · intro h' sb r
        dsimp only
        exact wpAny_pure (fin h' sb r)
theorem addX {k : PySem.Str} {tk : Tok} {Q : Value → Shared → Prop} (R : SetX P w s.heap a S n) (room : n + 1 < scanBound)
    (want : ∀ h' u, Heap.SameBut a s.heap h' → SetX P w h' a (fun j => S j || decide (j = k)) (if S k = true then n else n + 1) → Q .none { s with heap := h', toks := u }) :
    wpAny (model P w) A (call (.builtin "set.add") [.ref a, .str k tk]) Q E s := by
  have hS : s.heap.SetOf (strKind P w) a S n := R.setOf
  refine wpAny_call_entry F.slot_set_add hS.typeIs F.entry_set_add ?_ (F.args_set_add_2 _ _)
  unfold Builtin.«set.add» Builtin.Frozenset.oneOther
  simp only [List.isEmpty_nil, bind_assoc]
  unfold Builtin.Frozenset.addrOf setAdd
  refine wpAny_bind (wpAny_pure ?_)
  try dsimp only
  refine wpAny_bind (wpAny_pure ?_)
  try dsimp only
  refine wpAny_bind (wpAny_holding (wpAny_bind ((strKind P w).pyHash (is_one k tk) ?_)))
  refine addX_hashed (s := { s with toks := s.toks + 1 }) R room fun h' sb r => ?_
  show wpAny _ _ (ret Value.none) _ _ _
  exact wpAny_pure ⟨_, rfl, want h' _ sb r⟩
theorem freshX {h : Heap} (P : Program) (w : World) : SetX P w (h.push { cls := .type "set", dict := none, data := .set #[] 0 (.fresh 0 0 (!w.params.followText "set-order")) }) h.objs.size (fun _ => false) 0 := by
  refine ⟨_, #[], 0, _, Heap.get?_push_size _ rfl, ⟨rfl, rfl, rfl⟩, rfl, (fun e he => by simp at he), (by simp), (fun k => by simp), (by decide), (by rfl), rfl, List.Pairwise.nil, ?_⟩
  show _ ∨ (!w.params.followText "set-order") = true
  cases w.params.followText "set-order"
  · exact .inr rfl
  · exact .inl rfl
end
end SxT

set_option Elab.async false
set_option linter.all false
set_option maxRecDepth 100000
set_option maxHeartbeats 4000000
namespace SxT
open PySem PySem.Spec PyProof.Rows L2 Sx
/-- what stands in the abstract heap -/
def SetXO (P : Program) (w : World) (a : Addr) (S : PySem.Str → Bool) (n : Nat) : HO := .ext fun h => SetX P w h a S n
section
variable {X : Cx}
theorem setX_new {w : World} {P : Program} {H : Hp} {h : Heap} {a : Addr} {S : PySem.Str → Bool} {n : Nat} (R : SetX P w h a S n) : ObjOk P w H h a (SetXO P w a S n) := by
  have there : ∃ o, h.get? a = some o := let ⟨o, _, _, _, ho, _⟩ := R; ⟨o, ho⟩
  exact ⟨R, there, fun h1 h2 p k => SetX.at p k⟩
theorem setX_get {pins : List (Addr × Obj)} {σ : L2.St} {H : Hp} {s : Shared} {a : Addr} {S : PySem.Str → Bool} {n : Nat} (I : Inv X pins σ H s) (ha : H a = some (SetXO X.prog X.w a S n)) : SetX X.prog X.w s.heap a S n := (I.hok a _ ha).1
/-- one text more in the set at D -/
theorem add_text {pins : List (Addr × Obj)} {σ : L2.St} {H : Hp} {s : Shared} {E : Value → Shared → Prop} {D : Addr} {S : PySem.Str → Bool} {n : Nat} {k : PySem.Str} {u : Value} {Q : Value → Shared → Prop}
    (I : Inv X pins σ H s) (at_ : H D = some (SetXO X.prog X.w D S n)) (room : n + 1 < scanBound) (ru : RelV (.str k) u)
    (fin : ∀ s', Inv X pins σ (upd H D (SetXO X.prog X.w D (fun j => S j || decide (j = k)) (if S k = true then n else n + 1))) s' → Q .none s') :
    wpAny (model X.prog X.w) X.A (call (.builtin "set.add") [.ref D, u]) Q E s := by
  obtain ⟨tk, rfl⟩ := ru
  refine addX (setX_get I at_) room fun h' t same new => ?_
  have there : ∃ o, h'.get? D = some o := let ⟨o, _, _, _, ho, _⟩ := new; ⟨o, ho⟩
  exact fin _ (I.write (e := D) (t' := t) (by rw [at_]; trivial) (.inl rfl) (fun b o hb ho => (same.2 b hb).trans ho) there (setX_new new))
/-- what a turn does with the element's value -/
def TurnX (P : Program) (w : World) (D : Addr) (Nx : Hp → Prop) : VK := fun y H4 => ∃ (k : PySem.Str) (S : PySem.Str → Bool) (n : Nat), y = .str k ∧ H4 D = some (SetXO P w D S n) ∧ n + 1 < scanBound ∧
  Nx (upd H4 D (SetXO P w D (fun j => S j || decide (j = k)) (if S k = true then n else n + 1)))
/-- {elt for target in iter if ..} -/
def tScx (P : Program) (w : World) (wi : TI) (g : TG) (tt : TT) (te : TE) (vs : List Nat) : TE := fun σ H Q => wi σ H fun J H1 => ∀ D, H1 D = none →
  ∃ W : Nat → Nat → Hp → Prop, (∃ m, W 0 m (upd H1 D (SetXO P w D (fun _ => false) 0))) ∧ ∀ i m H, W i m H →
    (J.stop i H ∧ Q (.ref D) H) ∨
    (J.go i H ∧ ∃ Nx : Hp → Prop, (∀ H', Nx H' → ∃ m', m' < m ∧ W (i + 1) m' H') ∧ ∀ x H', J.yld i H x H' →
      g x (wipe σ vs) H' fun σ2 H2 => wipe σ2 vs = wipe σ vs ∧ tt σ2 H2 fun b H3 => if b = true then te σ2 H3 (TurnX P w D Nx) else Nx H3)
variable {elt tg iter : Expr} {ifs : List Expr} {scope : Scope} {own : List (PySem.Str × Nat)} {pos pos' : Pos} {wi : TI} {g : TG} {tt : TT} {te : TE}
/-- the context of the block -/
abbrev Blk (X : Cx) (scope : Scope) (s : Shared) (H : Hp) (C : Addr) (cl : List (PySem.Str × Addr)) (fp : List Addr) : Cx := X.blk s H scope (compEnvC scope cl C X.env) fp
theorem pe_scx (calm : X.calm = true) (nd : X.N.Nodup) (hi : PI X tg iter wi) (ok : BlkOk X.N X.env.scope scope own)
    (hg : ∀ s H C cl fp, PG (Blk X scope s H C cl fp) tg g) (ht : ∀ s H C cl fp, PTs (Blk X scope s H C cl fp) ifs tt) (he : ∀ s H C cl fp, PE (Blk X scope s H C cl fp) elt te)
    (hs : ∀ x, foldedSetIterable iter X.env x = pure x := by intro _; rfl) :
    PE X (.SetComp elt [⟨tg, iter, ifs, 0⟩] scope pos) (tScx X.prog X.w wi g tt te (own.map (·.2))) := by
  refine ⟨fun pins s σ H Q I h => ?_⟩
  rw [PpSet.eval_SetComp]
  have captured : ∀ y ∈ scope.names, y.2 = .free → ∃ c, X.env.cells.lookup y.1 = some c := fun y hy e => (ok.free y hy e).elim (fun z => I.ok.has _ (.inl z)) fun z => I.ok.has _ (.inr z)
  refine wpAny_comprehension_free (use := none) rfl hs (closure_ok captured) ok.kind (fun y hy e => by rw [ok.uniq y hy, e]) (thn (hi.run pins s σ H _ I h) fun xv s1 q1 => thn q1 fun itv s2 q2 => ?_)
  obtain ⟨it, fp, tn, J, H2, ei, I2, T, st2, f2, q⟩ := q2
  subst ei
  refine PpSet.newSet_ok (newEnv_comp ?_)
  generalize eD : s2.heap.objs.size = D
  have freeD : H2 D = none := I2.hok.fresh (Nat.le_of_eq eD)
  obtain ⟨W, ⟨m0, w0⟩, turn⟩ := q D freeD
  -- the set, empty
  generalize es3 : ({ s2 with heap := s2.heap.push { cls := .type "set", dict := none, data := .set #[] 0 (.fresh 0 0 (!X.w.params.followText "set-order")) } } : Shared) = s3
  generalize eH3 : upd H2 D (SetXO X.prog X.w D (fun _ => false) 0) = H3 at w0
  have heap3 : s3.heap = s2.heap.push { cls := .type "set", dict := none, data := .set #[] 0 (.fresh 0 0 (!X.w.params.followText "set-order")) } := by rw [← es3]
  have I3 : Inv X pins σ H3 s3 := by
    rw [← es3, ← eH3]
    refine I2.laid (t' := s2.toks) (fun b o e => Heap.get?_push_of_some _ e) (Nat.le_of_eq eD) (setX_new ?_)
    rw [← eD]
    exact freshX _ _
  have below : ∀ b ∈ fp, b < s2.heap.objs.size := fun b hb => let ⟨_, e, _⟩ := T.obj _ _ st2 b hb; Heap.lt_size e
  have f3 : ∀ b ∈ fp, FpOk X pins H3 b ∧ b < s3.heap.objs.size := fun b hb => by
    have lt := below b hb
    refine ⟨⟨?_, (f2 b hb).2⟩, ?_⟩
    · rw [← eH3, upd_ne (by rw [← eD]; exact Nat.ne_of_lt lt)]
      exact (f2 b hb).1
    · rw [heap3, Heap.size_push]
      exact Nat.lt_succ_of_lt lt
  have st3 : tn 0 s3.heap := T.keep _ _ _ st2 fun b _ o e => by rw [heap3]; exact Heap.get?_push_of_some _ e
  have I4 := block_start I3 ok nd f3
  show codeAny _ _ (.compStart (.SetComp elt [⟨tg, iter, ifs, 0⟩] scope pos) 0 (.ref it) (.ref D) (compEnvC scope (cellsFrom (s3.heap.objs.size + 1) scope.names (cloFrom X.env.cells scope.names [])) s3.heap.objs.size X.env)) (compPost (model X.prog X.w) X.A X.xe none (EP X pins σ Q) (.ref D) s3.heap.objs.size) { s3 with heap := pushCells (s3.heap.push { cls := .type "dict", data := .dict #[] }) scope.names }
  generalize cellsFrom (s3.heap.objs.size + 1) scope.names (cloFrom X.env.cells scope.names []) = cl at I4 ⊢
  have pg := hg s3 H3 s3.heap.objs.size cl fp
  have pt := ht s3 H3 s3.heap.objs.size cl fp
  have pe := he s3 H3 s3.heap.objs.size cl fp
  unfold Blk at pg pt pe
  generalize ece : compEnvC scope cl s3.heap.objs.size X.env = ce at I4 pg pt pe ⊢
  have atC : ce.locals = s3.heap.objs.size := by rw [← ece]; rfl
  generalize es4 : ({ s3 with heap := pushCells (s3.heap.push { cls := .type "dict", data := .dict #[] }) scope.names } : Shared) = s4 at I4 ⊢
  have st4 : tn 0 s4.heap := T.keep _ _ _ st3 fun b _ o e => by rw [← es4]; exact pushCells_keeps _ _ _ _ (Heap.get?_push_of_some _ e)
  have still : ∀ {σ' : L2.St} {H' : Hp} {s' : Shared}, Inv (X.blk s3 H3 scope ce fp) [] σ' H' s' → (∀ b ∈ fp, H' b = none) → ∀ b ∈ fp, FpOk (X.blk s3 H3 scope ce fp) [] H' b := fun {σ' H' s'} J' un b hb =>
    ⟨un b hb, (J'.ok.exf b hb).1, J'.ok.exfs b hb, .inl hb, fun x c e => (J'.ok.exf b hb).2 x c e, fun p hp => absurd (show p ∈ ([] : List (Addr × Obj)) ++ [] from hp) (by simp)⟩
  refine PpSet.codeAny_compStart_set ?loop (T.self X.A 0 _ _ _ st4 ?loop)
  refine PpSet.compLoopS_any (fun n s' => ∃ i H', Inv (X.blk s3 H3 scope ce fp) [] (wipe σ (own.map (·.2))) H' s' ∧ tn i s'.heap ∧ (∀ b ∈ fp, H' b = none) ∧ W i n H') ?_ m0 ⟨0, H3, I4, st4, fun b hb => (f3 b hb).1.1, w0⟩
  rintro n s5 ⟨i, H5, I5, st5, un5, w5⟩
  rcases turn i n H5 w5 with ⟨stop, fin⟩ | ⟨go, Nx, next, step⟩
  · -- the end: back in the def
    refine thnF (T.done (X.blk s3 H3 scope ce fp) rfl rfl rfl calm i [] s5 _ H5 (fun _ _ => False) I5 (still I5 un5) st5 stop) fun r s6 ⟨er, I6⟩ => ?_
    subst er
    have I7 : Inv X pins σ H5 s6 := I3.call' (ch := fp) I6.os I6.base I6.hok I6.bare fun b hb => ⟨(f3 b hb).1.2.2.2.1, (f3 b hb).1.2.1, (f3 b hb).1.2.2.2.2.1, (f3 b hb).1.2.2.2.2.2⟩
    have unC : H5 s3.heap.objs.size = none := by
      have z : H5 ce.locals = none := I6.free
      rwa [atC] at z
    obtain ⟨m, ns, _⟩ := I6.loc
    have ns : s6.heap.Ns ce.locals m := ns
    rw [atC] at ns
    refine ⟨m, ns, fun h'' sb => ?_⟩
    obtain ⟨f0, f1, _, fr3, fr4, fr5⟩ := I3.fpOk (Nat.le_refl _) unC
    exact ⟨.ref D, H5, I7.turned (t' := s6.toks) (fun b o hb e => (sb.2 b hb).trans e) f0 f1 fr3 fr4 fr5, rfl, fin⟩
  · refine thnF (T.item (X.blk s3 H3 scope ce fp) rfl rfl rfl calm i [] s5 _ H5 (fun _ _ => False) I5 (still I5 un5) st5 go) fun r s6 ⟨u, er, q6⟩ => ?_
    subst er
    refine thnF q6 fun _ s7 ⟨x, H7, I7, r7, y7, st7, un7⟩ => ?_
    have I7' := I7.pinned (still I7 un7) (T.obj _ _ st7)
    refine thnF (pg.run _ s7 _ H7 x u _ I7' r7 (step x H7 y7)) fun _ s8 ⟨σ8, H8, I8, same, q8⟩ => ?_
    refine thnF (pt.run _ s8 σ8 H8 _ I8 q8) fun b s9 ⟨H9, I9, q9⟩ => ?_
    have back : ∀ {s' : Shared} {H' : Hp}, Inv (X.blk s3 H3 scope ce fp) ([] ++ pinsAt fp s7.heap) σ8 H' s' → Nx H' →
        ∃ m, m < n ∧ ∃ i H', Inv (X.blk s3 H3 scope ce fp) [] (wipe σ (own.map (·.2))) H' s' ∧ tn i s'.heap ∧ (∀ b ∈ fp, H' b = none) ∧ W i m H' := fun {s' H'} I' nx => by
      obtain ⟨m', lt, w'⟩ := next H' nx
      have pin : ∀ b ∈ fp, ∀ o, s7.heap.get? b = some o → s'.heap.get? b = some o ∧ H' b = none := fun b hb o e =>
        let z := I'.pin (b, o) (List.mem_append_right _ (List.mem_append_right _ (mem_pinsAt hb e)))
        ⟨z.1, z.2.1⟩
      have len : (wipe σ (own.map (·.2))).length = σ8.length := by rw [← same, wipe_length]
      refine ⟨m', lt, i + 1, H', (I'.unpinned (pins := [])).weak len (fun j v e => ?_), T.keep _ _ _ st7 fun b hb o e => (pin b hb o e).1, fun b hb => ?_, w'⟩
      · rw [← same] at e
        exact (wipe_some e).1
      · obtain ⟨o, e, _⟩ := T.obj _ _ st7 b hb
        exact (pin b hb o e).2
    cases b with
    | false =>
      simp only [Bool.false_eq_true, if_false] at q9 ⊢
      exact back I9 q9
    | true =>
      simp only [if_true] at q9 ⊢
      refine thnF (pe.run _ s9 σ8 H9 _ I9 q9) fun z s10 ⟨y, H10, I10, r10, k, S0, n0, ey, at0, room, nx⟩ => ?_
      subst ey
      exact add_text (X := X.blk s3 H3 scope ce fp) I10 at0 room r10 fun s11 I11 => back I11 nx
end
/-! ### sorted -/
section
variable {P : Program} {w : World} {A : Around} {E : Value → Shared → Prop} {s : Shared} {a : Addr} {S : PySem.Str → Bool} {n : Nat}
theorem strs_of_vals : ∀ {l : List Value}, (∀ v ∈ l, ∃ k tk, v = Value.str k tk) → ∃ zs, StrsAre l zs ∧ ∀ tk', zs = l.map fun v => keyS (tk', v)
  | [], _ => ⟨[], .nil, fun _ => rfl⟩
  | v :: l, h => by
    obtain ⟨k, tk, rfl⟩ := h v List.mem_cons_self
    obtain ⟨zs, h1, h2⟩ := strs_of_vals (l := l) fun u hu => h u (List.mem_cons_of_mem _ hu)
    exact ⟨k :: zs, .cons k tk h1, fun t => by rw [List.map_cons, ← h2 t]; rfl⟩
theorem sorted_X {Q : Value → Shared → Prop} (R : SetX P w s.heap a S n) (calm : A.handled = none) (few : n < 64)
    (want : ∀ s' p (out : Array Value) (c : Nat) (zs : List PySem.Str), (∀ b o, s.heap.get? b = some o → s'.heap.get? b = some o) → s'.gens = s.gens → s'.os = s.os → s.heap.objs.size ≤ p →
      s'.heap.get? p = some (seqObj "list" out c) → StrsAre out.toList zs → sortedS zs = true → zs.Nodup → (∀ k, k ∈ zs ↔ S k = true) → zs.length = n → Q (.ref p) s') :
    wpAny (model P w) A (call (.builtin "sorted") [.ref a]) Q E s := by
  obtain ⟨o, es, ep, t, ho, hex, hd, g, nd, hm, hb, hf, hn, hr, hl⟩ := R
  refine Calls.call_function_entry kind_sorted plain_sorted entry_sorted (args_sorted1 _) ?_
  unfold Builtin.«sorted»
  refine wpAny_bind (m := checkCount "sorted" 1 1 _) (wpAny_pure ?_)
  refine wpAny_bind (collect_set (A := A.in1) calm ⟨o, ho, hex.1, hd⟩ hf hb hr hl fun s1 vs kept size gens os perm => ?_)
  have len : vs.length = n := by rw [perm.length_eq, List.length_map, Array.length_toList]; exact hn
  obtain ⟨zs, isS, keys⟩ := strs_of_vals (l := vs) fun v hv => by
    obtain ⟨e, he, q⟩ := List.mem_map.mp (perm.mem_iff.mp hv)
    obtain ⟨k, tk, h1, _⟩ := g e he
    exact ⟨k, tk, by rw [← q]; exact h1⟩
  have permK : zs.Perm (es.toList.map keyS) := by
    rw [keys 0]
    have q := perm.map fun v => keyS (0, v)
    rw [List.map_map] at q
    exact q
  refine wpAny_bind (wpAny_newList ?_ (by rw [len, sizeLine_eq]; omega))
  have atL : (s1.heap.push (seqObj "list" vs.toArray 0)).get? s1.heap.objs.size = some (seqObj "list" vs.toArray 0) := Heap.get?_push_size _ rfl
  refine wpAny_bind (wpAny_holding (wpAny_call_entry slot_list_sort ⟨_, atL, rfl⟩ entry_list_sort (list_sort_treeK strKind_oneLt atL isS.keysOf (fun v1 v2 rest e => keyKind_strs (by rw [← e]; exact isS)) (by rw [len]; exact few) fun st' hp hs => ?_) (args_list_sort _)))
  obtain ⟨ys, g1, g2, g3⟩ := sorted_out_str isS hp hs
  obtain ⟨c, hc⟩ := sortedHeap_at (vs := vs) (out := (arrOf st').map (·.2)) atL
  have permY := g2.trans permK
  refine ⟨_, rfl, wpAny_pure ⟨_, rfl, want _ s1.heap.objs.size ((arrOf st').map (·.2)) c ys (fun b u e => ?_) gens os size hc g1 g3 (permY.nodup_iff.mpr nd) (fun k => by rw [permY.mem_iff, ← hm k]) ?_⟩⟩
  · have q := kept b u e
    have lt := Heap.lt_size q
    show (sortedHeap (s1.heap.push (seqObj "list" vs.toArray 0)) s1.heap.objs.size vs _).get? b = some u
    rw [sortedHeap_old (Nat.ne_of_lt lt) (by rw [size_push']; exact Nat.lt_succ_of_lt lt)]
    exact Heap.get?_push_of_some _ q
  · rw [permY.length_eq, List.length_map, Array.length_toList]
    exact hn
end
/-- sorted(set of texts), fewer than 64 -/
def rSortedX (P : Program) (w : World) : List V → Hp → VK → Prop := fun vs H Q => ∃ (a : Addr) (S : PySem.Str → Bool) (n : Nat), vs = [V.ref a] ∧ H a = some (SetXO P w a S n) ∧ n < 64 ∧
  ∀ (zs : List PySem.Str) (p : Addr), sortedS zs = true → zs.Nodup → (∀ k, k ∈ zs ↔ S k = true) → zs.length = n → H p = none → Q (.ref p) (upd H p (.lst (zs.map V.str)))
theorem cr_sortedX {X : Cx} (hc : X.calm = true) : CallR X (.builtin "sorted") (rSortedX X.prog X.w) := by
  intro pins s σ H vs us Q I r h
  obtain ⟨a, S, n, rfl, ha, few, q⟩ := h
  have R := setX_get I ha
  rw [Vals.ref1 r]
  refine sorted_X R (I.ok.hd hc) few fun s' p out c zs k g o hp hg hi hs nd hm hl => ?_
  have hlen : (zs.map V.str).length ≤ sizeLine := by rw [List.length_map, hl, sizeLine_eq]; omega
  have hn : H p = none := I.hok.fresh hp
  have J : Inv X pins σ (upd H p (.lst (zs.map V.str))) { s with heap := s'.heap, gens := s'.gens, drawn := s'.drawn, toks := s'.toks } :=
    I.call (ch := []) (Un.laid k hp hn) (I.hok.laid k hp ⟨hlen, out.toList, c, vals_of_strs hi, hg⟩) (by rw [g]; exact I.bare) (fun _ z => nomatch z)
  have e : s' = { s with heap := s'.heap, gens := s'.gens, drawn := s'.drawn, toks := s'.toks } := by
    cases s'
    cases s
    cases o
    rfl
  rw [e]
  exact ⟨.ref p, _, J, rfl, q zs p hs nd hm hl hn⟩
end SxT

set_option Elab.async false
set_option linter.all false
set_option maxRecDepth 100000
set_option maxHeartbeats 1000000
namespace K2
open PySem L2 Lw TL
inductive RowsAt (K : PySem.W.Frag) (a : Ad) (H : Hp) : List V → List Row0 → Prop
  | nil : RowsAt K a H [] []
  | cons {v : V} {vs : List V} {r : Row0} {rs : List Row0} : RowAt K a H v r → RowsAt K a H vs rs → RowsAt K a H (v :: vs) (r :: rs)
section
variable {K : PySem.W.Frag} {a : Ad} {H H' : Hp}
theorem RowsAt.same (s : Same H H') : ∀ {vs : List V} {rs : List Row0}, RowsAt K a H vs rs → RowsAt K a H' vs rs
  | _, _, .nil => .nil
  | _, _, .cons h t => .cons (h.same s) (RowsAt.same s t)
theorem RowsAt.len : ∀ {vs : List V} {rs : List Row0}, RowsAt K a H vs rs → vs.length = rs.length
  | _, _, .nil => rfl
  | _, _, .cons _ t => congrArg (· + 1) t.len
theorem RowsAt.at_ : ∀ {vs : List V} {rs : List Row0} {j : Nat} {v : V}, RowsAt K a H vs rs → vs[j]? = some v → ∃ r, rs[j]? = some r ∧ RowAt K a H v r
  | _, _, _, _, .nil, e => by simp at e
  | _, _, 0, _, .cons h _, e => by
    obtain rfl := Option.some.inj e
    exact ⟨_, rfl, h⟩
  | _, _, j + 1, _, .cons _ t, e => RowsAt.at_ (j := j) t (by simpa using e)
theorem RowsAt.app : ∀ {vs ws : List V} {rs qs : List Row0}, RowsAt K a H vs rs → RowsAt K a H ws qs → RowsAt K a H (vs ++ ws) (rs ++ qs)
  | _, _, _, _, .nil, h => h
  | _, _, _, _, .cons h t, q => .cons h (t.app q)
/-- the turns of a comprehension over rows -/
theorem turnsRows {i : Nat} {σ : L2.St} {tt : TT} {te : TE} (out : Row0 → Option V) {xs : List V} {rs : List Row0} (hR : RowsAt K a H xs rs) (few : xs.length ≤ 1000)
    (keep : ∀ x r y H1 (Q : VK), r ∈ rs → RowAt K a H1 x r → out r = some y → Same H H1 → (∀ H2, Same H1 H2 → Q y H2) → tt (σ.set i (some x)) H1 fun b H3 => b = true ∧ Same H1 H3 ∧ te (σ.set i (some x)) H3 Q)
    (drop : ∀ x r H1, r ∈ rs → RowAt K a H1 x r → out r = none → Same H H1 → tt (σ.set i (some x)) H1 fun b H3 => b = false ∧ Same H1 H3) : Turns H i σ xs (rs.map out) tt te := by
  refine ⟨by rw [List.length_map, hR.len], Nat.le_trans few (by decide), fun j x y H1 Q hx hy s1 q => ?_, fun j x H1 hx hy s1 => ?_⟩
  · obtain ⟨r, er, hr⟩ := hR.at_ hx
    rw [List.getElem?_map, er] at hy
    have hy : out r = some y := by simpa using hy
    exact keep x r y H1 Q (List.mem_of_getElem? er) (hr.same s1) hy s1 q
  · obtain ⟨r, er, hr⟩ := hR.at_ hx
    rw [List.getElem?_map, er] at hy
    have hy : out r = none := by simpa using hy
    exact drop x r H1 (List.mem_of_getElem? er) (hr.same s1) hy s1
theorem turnsRowsY {i : Nat} {σ : L2.St} {te : TE} (f : Row0 → V) {xs : List V} {rs : List Row0} (hR : RowsAt K a H xs rs) (few : xs.length ≤ 1000)
    (el : ∀ x r H1 (Q : VK), r ∈ rs → RowAt K a H1 x r → Same H H1 → (∀ H2, Same H1 H2 → Q (f r) H2) → te (σ.set i (some x)) H1 Q) : Turns H i σ xs (rs.map fun r => some (f r)) tYes te :=
  turnsRows (fun r => some (f r)) hR few (fun x r y H1 Q hm hr e s q => ⟨rfl, Same.refl _, el x r H1 Q hm hr s (by obtain rfl := Option.some.inj e; exact q)⟩) fun x r H1 _ _ e _ => by cases e
theorem outRows (f : Row0 → V) (rs : List Row0) : outOf (rs.map fun r => some (f r)) = rs.map f := by
  unfold outOf
  induction rs with
  | nil => rfl
  | cons d r ih =>
    rw [List.map_cons, List.map_cons, List.filterMap_cons]
    exact congrArg _ ih
theorem row_place {x dx : Addr} {fs : List (Str × V)} {r : Row0} (h : fieldsOk K H fs r) : fs.lookup ("place" : Str) = some (.str (placeR r)) := by
  cases r with
  | ask p n ws => exact h.1
  | note p w t => exact h.1
  | gate p m n e => exact h.1
  | end_ p => exact h.1
/-- [f(then) for row in rows for then in row.leads()], the row in slot 3, the place in slot 4 -/
theorem lc2_then {p : Addr} {H1 : Hp} {D : Addr} {s0 s1 s2 v3 v4 : Option V} {xs : List V} {rs : List Row0} {J : L2.It} {Qd : Hp → Prop} {wi1 : TI} {te : TE} (hJ : JA K H1 p xs J) (hR : RowsAt K a H1 xs rs) (un : H1 D = none) (f : Str → V) (few : (rs.map leadsR).flatten.length ≤ 1000)
    (walk : ∀ (x : V) (r : Row0) (H : Hp) (R : L2.It → Hp → Prop), r ∈ rs → RowAt K a H x r → Same H1 H → (∀ H' t, Same H H' → SqT K H' t ((leadsR r).map V.str) → R (Itt K t) H') → wi1 [s0, s1, s2, some x, none] H R)
    (el : ∀ (x : V) (z : Str) (H : Hp) (Q : VK), Same H1 H → (∀ H', Same H H' → Q (f z) H') → te [s0, s1, s2, some x, some (.str z)] H Q)
    (fin : ∀ H', Same H1 H' → H' D = some (.lst ((rs.map leadsR).flatten.map f)) → Qd H') :
    ∃ W : Nat → Nat → Hp → Prop, (∃ m, W 0 m (upd H1 D (.lst []))) ∧ ∀ i m H, W i m H →
      (J.stop i H ∧ Qd H) ∨ (J.go i H ∧ ∃ Nx : Hp → Prop, (∀ H', Nx H' → ∃ m', m' < m ∧ W (i + 1) m' H') ∧ ∀ x H', J.yld i H x H' → gName 3 x (wipe [s0, s1, s2, v3, v4] [3, 4]) H' fun σ2 H2 => wipe σ2 [3, 4] = wipe [s0, s1, s2, v3, v4] [3, 4] ∧ tYes σ2 H2 fun b H3 =>
        if b = true then wi1 σ2 H3 fun J1 H4 => ∃ W1 : Nat → Nat → Hp → Prop, (∃ m, W1 0 m H4) ∧ ∀ j k H, W1 j k H →
          (J1.stop j H ∧ Nx H) ∨ (J1.go j H ∧ ∃ Nx1 : Hp → Prop, (∀ H', Nx1 H' → ∃ k', k' < k ∧ W1 (j + 1) k' H') ∧ ∀ x H', J1.yld j H x H' → gName 4 x (wipe σ2 [4]) H' fun σ3 H5 => wipe σ3 [4] = wipe σ2 [4] ∧ tYes σ3 H5 fun b H6 =>
            if b = true then te σ3 H6 fun y H7 => ∃ acc, H7 D = some (.lst acc) ∧ acc.length < sizeLine ∧ Nx1 (upd H7 D (.lst (acc ++ [y]))) else Nx1 H6)
        else Nx H3) := by
  have turn : ∀ (j : Nat) (x : V) (H : Hp), xs[j]? = some x → Same H1 H → H D = some (.lst (((rs.take j).map leadsR).flatten.map f)) →
      gName 3 x (wipe [s0, s1, s2, v3, v4] [3, 4]) H fun σ2 H2 => wipe σ2 [3, 4] = wipe [s0, s1, s2, v3, v4] [3, 4] ∧ tYes σ2 H2 fun b H3 =>
        if b = true then wi1 σ2 H3 fun J1 H4 => ∃ W1 : Nat → Nat → Hp → Prop, (∃ m, W1 0 m H4) ∧ ∀ j' k H, W1 j' k H →
          (J1.stop j' H ∧ (Same H1 H ∧ H D = some (.lst (((rs.take (j + 1)).map leadsR).flatten.map f)))) ∨ (J1.go j' H ∧ ∃ Nx1 : Hp → Prop, (∀ H', Nx1 H' → ∃ k', k' < k ∧ W1 (j' + 1) k' H') ∧ ∀ x H', J1.yld j' H x H' → gName 4 x (wipe σ2 [4]) H' fun σ3 H5 => wipe σ3 [4] = wipe σ2 [4] ∧ tYes σ3 H5 fun b H6 =>
            if b = true then te σ3 H6 fun y H7 => ∃ acc, H7 D = some (.lst acc) ∧ acc.length < sizeLine ∧ Nx1 (upd H7 D (.lst (acc ++ [y]))) else Nx1 H6)
        else (Same H1 H3 ∧ H3 D = some (.lst (((rs.take (j + 1)).map leadsR).flatten.map f))) := by
    intro j x H hx sH hD
    obtain ⟨r, er, hr⟩ := hR.at_ hx
    have htk : ((rs.take (j + 1)).map leadsR).flatten.map f = ((rs.take j).map leadsR).flatten.map f ++ (leadsR r).map f := by
      rw [List.take_add_one, er, List.map_append, List.flatten_append, List.map_append]
      simp
    have bound : (((rs.take j).map leadsR).flatten.map f).length + ((leadsR r).map f).length ≤ 1000 := by
      rw [← List.length_append, ← htk, List.length_map]
      have e : (rs.map leadsR).flatten = ((rs.take (j + 1)).map leadsR).flatten ++ ((rs.drop (j + 1)).map leadsR).flatten := by rw [← List.flatten_append, ← List.map_append, List.take_append_drop]
      have := congrArg List.length e
      rw [List.length_append] at this
      omega
    refine ⟨rfl, ?_⟩
    dsimp only [tYes]
    refine iteT (walk x r H _ (List.mem_of_getElem? er) (hr.same sH) sH fun H2 t s2 ht => ?_)
    refine ⟨fun j' k H' => k = ((leadsR r).map V.str).length - j' ∧ j' ≤ ((leadsR r).map V.str).length ∧ Same H1 H' ∧ SqT K H' t ((leadsR r).map V.str) ∧ H' D = some (.lst (((rs.take j).map leadsR).flatten.map f ++ ((leadsR r).map f).take j')), ⟨((leadsR r).map V.str).length, by simp, Nat.zero_le _, sH.trans s2, ht, by simpa using s2 _ _ hD⟩, ?_⟩
    rintro j' k H' ⟨rfl, hj, s3, q, hD'⟩
    by_cases lt : j' < ((leadsR r).map V.str).length
    · refine .inr ⟨⟨_, ((leadsR r).map V.str)[j'], q, by simp [lt]⟩, fun H'' => Same H1 H'' ∧ SqT K H'' t ((leadsR r).map V.str) ∧ H'' D = some (.lst (((rs.take j).map leadsR).flatten.map f ++ ((leadsR r).map f).take (j' + 1))), fun H'' z => ⟨((leadsR r).map V.str).length - (j' + 1), by omega, rfl, lt, z⟩, fun y H'' yy => ?_⟩
      obtain ⟨e, yy⟩ := yy
      subst e
      have ey := yy _ q
      rw [List.getElem?_map] at ey
      obtain ⟨z, ez, rfl⟩ := Option.map_eq_some_iff.mp ey
      refine ⟨rfl, ?_⟩
      dsimp only [tYes]
      refine iteT (el x z _ _ s3 fun H4 s4 => ⟨_, s4 _ _ hD', ?_, fun b o eb => ?_, tup_off (s4 _ _ hD') (same_tup s4 q), ?_⟩)
      · rw [List.length_append, List.length_take]
        exact Nat.lt_of_le_of_lt (show _ ≤ 100000 by omega) (by decide)
      · rw [upd_ne (ne_of_none eb un)]
        exact s4 _ _ (s3 _ _ eb)
      · rw [upd_same, List.take_add_one, List.getElem?_map, ez, List.append_assoc]
        rfl
    · have e : j' = ((leadsR r).map V.str).length := by omega
      subst e
      rw [List.length_map, ← List.length_map (f := f), List.take_length] at hD'
      exact .inl ⟨⟨_, q, Nat.le_refl _⟩, s3, by rw [htk]; exact hD'⟩
  have len := hR.len
  refine ⟨fun j m H' => m = xs.length - j ∧ j ≤ xs.length ∧ Same H1 H' ∧ H' D = some (.lst (((rs.take j).map leadsR).flatten.map f)), ⟨xs.length, by simp, Nat.zero_le _, same_new un, by rw [upd_same]; simp⟩, ?_⟩
  rintro j m H' ⟨rfl, hj, s1', hD⟩
  have done : j = xs.length → Qd H' := fun e => fin H' s1' (by rwa [e, len, List.take_length] at hD)
  cases hJ with
  | l hs =>
    have q : SqL K H' p xs := s1'.seq hs
    by_cases lt : j < xs.length
    · refine .inr ⟨⟨xs, xs[j], q, by simp [lt]⟩, fun H' => Same H1 H' ∧ H' D = some (.lst (((rs.take (j + 1)).map leadsR).flatten.map f)), fun H' p' => ⟨xs.length - (j + 1), by omega, rfl, lt, p'⟩, fun x H'' y => ?_⟩
      obtain ⟨e, y⟩ := y
      subst e
      exact turn j x _ (y xs q) s1' hD
    · have e : j = xs.length := by omega
      exact .inl ⟨⟨xs, q, Nat.le_of_eq e.symm⟩, done e⟩
  | t hs =>
    have q : SqT K H' p xs := same_tup s1' hs
    by_cases lt : j < xs.length
    · refine .inr ⟨⟨xs, xs[j], q, by simp [lt]⟩, fun H' => Same H1 H' ∧ H' D = some (.lst (((rs.take (j + 1)).map leadsR).flatten.map f)), fun H' p' => ⟨xs.length - (j + 1), by omega, rfl, lt, p'⟩, fun x H'' y => ?_⟩
      obtain ⟨e, y⟩ := y
      subst e
      exact turn j x _ (y xs q) s1' hD
    · have e : j = xs.length := by omega
      exact .inl ⟨⟨xs, q, Nat.le_of_eq e.symm⟩, done e⟩
end
end K2

set_option Elab.async false
set_option linter.all false
set_option maxRecDepth 100000
set_option maxHeartbeats 1000000
namespace K2
open PySem L2 Lw TL
def strD : PyData → Str
  | .str z => z
  | _ => Str.empty
def unlikeL (ds : List PyData) : Bool := ds.all nameD && decide ((ds.map strD).Nodup)
def unlikeD : PyData → Bool
  | .list ds => unlikeL ds
  | .tuple ds => unlikeL ds
  | _ => false
theorem names_are {ds : List PyData} (h : ds.all nameD = true) : ds = (ds.map strD).map PyData.str := by
  induction ds with
  | nil => rfl
  | cons d r ih =>
    rw [List.all_cons, Bool.and_eq_true] at h
    rw [List.map_cons, List.map_cons, ← ih h.2]
    cases d with
    | str z => rfl
    | _ => exact absurd h.1 (by simp [nameD])
theorem ty_seq {K : PySem.W.Frag} {H : Hp} {p : Addr} {xs : List V} (hs : SqA K H p xs) : ∃ d : PyData, TyX K H (.ref p) (.type (tyD d)) ∧ isSeq d = true ∧ (∀ kvs, d ≠ .dict kvs) := by
  rcases hs with hs | hs
  · refine ⟨.list [], ?_, rfl, fun _ z => by cases z⟩
    rcases hs with (hs | ⟨o, hs⟩) | ⟨o, _, _, hs, hc, _⟩
    · exact .base (.lst hs)
    · exact .base (.frz hs)
    · exact .kList hs hc
  · refine ⟨.tuple [], ?_, rfl, fun _ z => by cases z⟩
    rcases hs with (hs | ⟨o, hs⟩) | ⟨o, _, _, hs, hc, _⟩
    · exact .base (.tup hs)
    · exact .fTuple hs
    · exact .kTuple hs hc
def spUnlike (K : PySem.W.Frag) : Sp := fun vs H Q _ => ∃ (v : V) (d : PyData), vs = [v] ∧ Dp K H v d ∧ fine d = true ∧ ∀ H', Same H H' → Q (.bl (unlikeD d)) H'
def spAreRows (K : PySem.W.Frag) (a : Ad) : Sp := fun vs H Q _ => ∃ (p : Addr) (xs : List V) (rs : List Row0), vs = [.ref p] ∧ SqA K H p xs ∧ RowsAt K a H xs rs ∧ rs.length ≤ 1000 ∧ ∀ H', Same H H' → Q (.bl (!rs.isEmpty)) H'
section
open Hd
variable {P : Program} {w : World} {K : PySem.W.Frag} {mg : Str → Option Value} {base : Heap} {a : Ad} {fEq fStr : Addr} {dEq dStr : FuncData}
theorem scUn : FnScope ["value", "name"] ["value"] (defScope sUnlike) := ⟨rfl, rfl, rfl, by decide +kernel, rfl, by decide +kernel, by decide +kernel⟩
theorem scAR : FnScope ["value", "row"] ["value"] (defScope sAreRows) := ⟨rfl, rfl, rfl, by decide +kernel, rfl, by decide +kernel, by decide +kernel⟩
theorem okUnlike (T : Txt K mg a) {f : Addr} {fd : FuncData} (F : Fun K "are_unlike_names" "are_unlike_names" sUnlike f fd) : FnOk P w K mg base CX0 2 f fd ["value"] (spUnlike K) := by
  refine F.ok scUn (fun vs H Q E h => ?_) (fun cdv A outer s H vs Q E hr h => ?_)
  · obtain ⟨v, d, rfl, _⟩ := h
    rfl
  · obtain ⟨v, d, rfl, hd, hz, fin⟩ := h
    refine ⟨_, pss_cons (ps_if (PW.pt (pw_or (pt_not (pt_val (pe_callB call_isiT (by rfl) T.tIs PyProof.Rows.boot_isinstance (pa_cons (pv 0) (pa_cons (pe_tup (pa_cons (pe_bltn (v := .ty "list") (by rfl) T.tList PyProof.Rows.boot_list rfl) (pa_cons (pe_bltn (v := .ty "tuple") (by rfl) T.tTuple PyProof.Rows.boot_tuple rfl) pa_nil))) pa_nil)))))
        (pw_or1 (pt_not (pt_val (pe_callB (cr_all rfl) (by rfl) T.tAll PyProof.Rows.boot_all (pa_cons (pe_lc (own := [("name", 1)]) (g := gName 1) (tt := tYes) (by rfl) scUn.nd (pi_seq (pv 0))
          (blkOk_by (own := [("name", 1)]) (N := ["value", "name"]) (sc := defScope sUnlike) (by decide +kernel)) (fun _ _ _ _ _ => pg_name (i := 1) scUn.nd rfl (Or.inl rfl)) (fun _ _ _ _ _ => pts_nil)
          (fun _ _ _ _ _ => pe_call T.okN hr rfl T.isName.g T.isName.F.kp T.isName.b .nil pass0 (pa_cons (pv 1) pa_nil))) pa_nil))))))) (pss_one (ps_ret pe_bl)) pss_nil)
      (pss_one (ps_ret (pe_cmpR op_eq (pe_callB Sx.cr_lenK (by rfl) T.tLen PySem.boot_len (pa_cons (pe_callTy (Sx.cr_setOf rfl) (by rfl) T.tSet (by decide +kernel) (pa_cons (pv 0) pa_nil)) pa_nil)) (pe_callB call_len_seq (by rfl) T.tLen PySem.boot_len (pa_cons (pv 0) pa_nil)) (nomark _)))), ?_⟩
    refine ⟨_, rfl, (by show 2 ≤ sizeLine; decide), fun tp hp => ?_⟩
    have s0 : Same H (upd H tp (.tup [.ty "list", .ty "tuple"])) := same_new hp
    have hd0 := dp_same s0 _ _ hd
    refine ⟨v, tp, _, _, _, _, rfl, upd_same, .cons (.ty "list") (.cons (.ty "tuple") .nil), ty_data hd0, kit_seq (no_dict hd), _, rfl, ?_⟩
    rcases seqOr hd hz with ⟨p, xs, ds, rfl, hs, ha, few, hf, es, ed⟩ | es
    · rw [es]
      have el := dpAll_len ha
      have hs0 := hs.same s0
      have ha0 := dpAll_same s0 _ _ ha
      have ew : unlikeD d = unlikeL ds := by rcases ed with rfl | rfl <;> rfl
      rw [ew] at fin
      refine iteF (seq_run rfl hs0 fun J hJ D un => lc_of_J (ds.map fun d => some (.bl (nameD d))) hJ un (turnsData (fun d => .bl (nameD d)) ha0 (el ▸ few) fun x d H2 Q2 _ hm hx _ q => ?_) mono_yes fun H1 s1 h1 => ?_)
      · exact ⟨_, rfl, x, d, rfl, hx, fineAll_mem hf hm, q⟩
      · rw [outData] at h1
        have e1 : ds.map (fun d => V.bl (nameD d)) = (ds.map nameD).map V.bl := by rw [List.map_map]; rfl
        rw [e1] at h1
        refine ⟨D, _, rfl, SqL.of h1, _, rfl, ?_⟩
        have e2 : (ds.map nameD).all id = ds.all nameD := by rw [List.all_map]; rfl
        rw [e2]
        have s01 := s0.trans s1
        cases ea : ds.all nameD with
        | false =>
          refine iteT ?_
          have z := fin _ s01
          rwa [show unlikeL ds = false from by rw [unlikeL, ea, Bool.false_and]] at z
        | true =>
          refine iteF ?_
          have eds := names_are ea
          have hxs : xs = (ds.map strD).map V.str := by
            rw [eds] at ha0
            exact strs_of ha0
          have hks : xs = ((ds.map strD).map (Sum.inr : Str → Key)).map kV := by
            rw [hxs]
            simp only [List.map_map]
            rfl
          have hs1 := hs0.same s1
          refine ⟨_, rfl, p, (ds.map strD).map Sum.inr, rfl, by rw [← hks]; exact hs1, by rw [List.length_map, List.length_map]; omega, fun D2 u2 => ?_⟩
          have s2 := same_new (o := SetK P w D2 (fun k => decide (k ∈ (ds.map strD).map (Sum.inr : Str → Key))) (Sx.nub ((ds.map strD).map Sum.inr)).length) u2
          refine ⟨D2, _, _, rfl, upd_same, _, rfl, p, xs, rfl, hs1.same s2, rfl, ?_⟩
          rw [dec_int]
          have z := fin _ (s01.trans s2)
          have e3 : unlikeL ds = (((Sx.nub ((ds.map strD).map (Sum.inr : Str → Key))).length : Int) == (xs.length : Int)) := by
            rw [unlikeL, ea, Bool.true_and, Bool.eq_iff_iff]
            have e5 := Sx.nub_nodup_iff (l := (ds.map strD).map (Sum.inr : Str → Key))
            rw [nodup_keys, List.length_map, List.length_map] at e5
            rw [decide_eq_true_iff, ← e5, beq_iff_eq, el]
            omega
          rwa [e3] at z
    · rw [es]
      have ew : unlikeD d = false := by
        cases d with
        | list _ => cases es
        | tuple _ => cases es
        | _ => rfl
      have z := fin _ s0
      rw [ew] at z
      exact iteT (iteT z)
theorem okAreRows (T : Txt K mg a) (R : RowF K a fEq fStr dEq dStr) {f : Addr} {fd : FuncData} (F : Fun K "_are_rows" "_are_rows" sAreRows f fd) : FnOk P w K mg base CX0 1 f fd ["value"] (spAreRows K a) := by
  refine F.ok scAR (fun vs H Q E h => ?_) (fun cdv A outer s H vs Q E hr h => ?_)
  · obtain ⟨p, xs, rs, rfl, _⟩ := h
    rfl
  · obtain ⟨p, xs, rs, rfl, hs, hR, few, fin⟩ := h
    refine ⟨_, pss_cons (ps_if (PW.pt (pw_or (pt_not (pt_val (pe_callB call_isiT (by rfl) T.tIs PyProof.Rows.boot_isinstance (pa_cons (pv 0) (pa_cons (pe_tup (pa_cons (pe_bltn (v := .ty "list") (by rfl) T.tList PyProof.Rows.boot_list rfl) (pa_cons (pe_bltn (v := .ty "tuple") (by rfl) T.tTuple PyProof.Rows.boot_tuple rfl) pa_nil))) pa_nil)))))
        (pw_or1 (pt_cmpR op_eq (pe_callB call_len_seq (by rfl) T.tLen PySem.boot_len (pa_cons (pv 0) pa_nil)) pe_int (nomark _))))) (pss_one (ps_ret pe_bl)) pss_nil)
      (pss_one (ps_ret (pe_callB (cr_all rfl) (by rfl) T.tAll PyProof.Rows.boot_all (pa_cons (pe_lc (own := [("row", 1)]) (g := gName 1) (tt := tYes) (te := tCB (rIsi K) (tCons (tVar 1) (tCons (tC (.ref a.cRow)) tNil))) (by rfl) scAR.nd (pi_seq (pv 0))
          (blkOk_by (own := [("row", 1)]) (N := ["value", "row"]) (sc := defScope sAreRows) (by decide +kernel)) (fun _ _ _ _ _ => pg_name (i := 1) scAR.nd rfl (Or.inl rfl)) (fun _ _ _ _ _ => pts_nil)
          (fun _ _ _ _ _ => pe_callB call_isi (by rfl) T.tIs PyProof.Rows.boot_isinstance (pa_cons (pv 1) (pa_cons (pe_glob (v := .ref a.cRow) (by rfl) T.row.g rfl) pa_nil)))) pa_nil)))), ?_⟩
    refine ⟨_, rfl, (by show 2 ≤ sizeLine; decide), fun tp hp => ?_⟩
    have s0 : Same H (upd H tp (.tup [.ty "list", .ty "tuple"])) := same_new hp
    have hs0 := hs.same s0
    have hR0 := hR.same s0
    obtain ⟨d, ty, isq, nodict⟩ := ty_seq hs0
    refine ⟨.ref p, tp, _, _, _, _, rfl, upd_same, .cons (.ty "list") (.cons (.ty "tuple") .nil), ty, kit_seq nodict, _, rfl, ?_⟩
    rw [isq]
    refine iteF ⟨_, rfl, p, xs, rfl, hs0, rfl, _, rfl, ?_⟩
    rw [dec_int]
    have el := hR.len
    cases rs with
    | nil =>
      have e : xs.length = 0 := el
      rw [show ((xs.length : Int) == 0) = true from by simpa using e]
      exact iteT (fin _ s0)
    | cons r0 rs0 =>
      rw [List.length_cons] at el
      rw [show ((xs.length : Int) == 0) = false from by simpa using (by omega : (xs.length : Int) ≠ 0)]
      refine iteF (seq_run rfl hs0 fun J hJ D un => lc_of_J ((r0 :: rs0).map fun _ => some (.bl true)) hJ un (turnsRowsY (fun _ => .bl true) hR0 (by rw [List.length_cons] at few; omega) fun x r H1 Q1 _ hr1 _ q => ?_) mono_yes fun H1 s1 h1 => ?_)
      · obtain ⟨y, dy, fs, rfl, hy, hf, hb⟩ := hr1.ex
        exact ⟨_, rfl, _, _, _, _, _, rfl, .own a.cRow, R.ty (cls_mem r) hy, R.row _ (cls_mem r), q _ (Same.refl _)⟩
      · rw [outRows] at h1
        have e1 : (r0 :: rs0).map (fun _ => V.bl true) = ((r0 :: rs0).map fun _ => true).map V.bl := by rw [List.map_map]; rfl
        rw [e1] at h1
        refine ⟨D, _, rfl, SqL.of h1, ?_⟩
        have e2 : ((r0 :: rs0).map fun _ => true).all id = true := by
          rw [List.all_map, List.all_eq_true]
          intro x _
          rfl
        rw [e2]
        exact fin _ (s0.trans s1)
end
end K2

set_option Elab.async false
set_option linter.all false
set_option maxRecDepth 100000
set_option maxHeartbeats 1000000
namespace K2
open PySem L2 Lw TL
/-! ### comprehensions over rows, the rows themselves kept -/
def outZ (c : Row0 → Bool) (f : V → Row0 → V) : List V → List Row0 → List (Option V)
  | x :: xs, r :: rs => (if c r then some (f x r) else none) :: outZ c f xs rs
  | _, _ => []
theorem outZ_len {c : Row0 → Bool} {f : V → Row0 → V} : ∀ {xs : List V} {rs : List Row0}, xs.length = rs.length → (outZ c f xs rs).length = xs.length
  | [], [], _ => rfl
  | _ :: xs, _ :: rs, h => by
    have ih := outZ_len (c := c) (f := f) (xs := xs) (rs := rs) (by simpa using h)
    simp [outZ, ih]
theorem outZ_at {c : Row0 → Bool} {f : V → Row0 → V} : ∀ {xs : List V} {rs : List Row0} {j : Nat} {x : V} {r : Row0}, xs[j]? = some x → rs[j]? = some r → (outZ c f xs rs)[j]? = some (if c r then some (f x r) else none)
  | x :: xs, r :: rs, 0, _, _, h1, h2 => by
    obtain rfl := Option.some.inj h1
    obtain rfl := Option.some.inj h2
    rfl
  | x :: xs, r :: rs, j + 1, _, _, h1, h2 => outZ_at (xs := xs) (rs := rs) (j := j) (by simpa using h1) (by simpa using h2)
  | [], _, _, _, _, h1, _ => by simp at h1
  | _ :: _, [], _, _, _, _, h2 => by simp at h2
/-- what is read off the rows kept -/
theorem outZ_read (c : Row0 → Bool) (g : Row0 → V) : ∀ {xs : List V} {rs : List Row0}, xs.length = rs.length → outOf (outZ c (fun _ r => g r) xs rs) = (rs.filter c).map g
  | [], [], _ => rfl
  | x :: xs, r :: rs, h => by
    have ih := outZ_read c g (xs := xs) (rs := rs) (by simpa using h)
    unfold outOf at ih ⊢
    cases e : c r with
    | true => simp [outZ, e, ih]
    | false => simp [outZ, e, ih]
section
variable {K : PySem.W.Frag} {a : Ad} {H H1 : Hp}
/-- the rows kept -/
theorem outZ_rows (c : Row0 → Bool) : ∀ {xs : List V} {rs : List Row0}, RowsAt K a H xs rs → RowsAt K a H (outOf (outZ c (fun x _ => x) xs rs)) (rs.filter c)
  | _, _, .nil => .nil
  | _, _, .cons (v := v) (vs := vs) (r := r) (rs := rs) h t => by
    have ih := outZ_rows c t
    unfold outOf at ih ⊢
    cases e : c r with
    | true =>
      simp only [outZ, e, if_true, List.filterMap_cons, id, List.filter_cons_of_pos e]
      exact .cons h ih
    | false =>
      rw [List.filter_cons_of_neg (by simp [e])]
      simpa [outZ, e] using ih
theorem rows_J {p : Addr} {D : Addr} {i : Nat} {σ : L2.St} {xs : List V} {rs : List Row0} {J : L2.It} {Qd : Hp → Prop} {tt : TT} {te : TE} (c : Row0 → Bool) (f : V → Row0 → V) (hJ : JA K H1 p xs J) (hR : RowsAt K a H1 xs rs) (few : rs.length ≤ 1000) (un : H1 D = none)
    (test : ∀ x r H (R : Bool → Hp → Prop), r ∈ rs → RowAt K a H x r → Same H1 H → (∀ H', Same H H' → R (c r) H') → tt ((σ.set i none).set i (some x)) H R)
    (el : ∀ x r H (Q : VK), r ∈ rs → c r = true → RowAt K a H x r → Same H1 H → (∀ H', Same H H' → Q (f x r) H') → te ((σ.set i none).set i (some x)) H Q)
    (fin : ∀ H', Same H1 H' → H' D = some (.lst (outOf (outZ c f xs rs))) → Qd H') :
    ∃ W : Nat → Nat → Hp → Prop, (∃ m, W 0 m (upd H1 D (.lst []))) ∧ ∀ i' m H, W i' m H →
      (J.stop i' H ∧ Qd H) ∨ (J.go i' H ∧ ∃ Nx : Hp → Prop, (∀ H', Nx H' → ∃ m', m' < m ∧ W (i' + 1) m' H') ∧ ∀ x H', J.yld i' H x H' → gName i x (wipe σ [i]) H' fun σ2 H2 => wipe σ2 [i] = wipe σ [i] ∧ tt σ2 H2 fun b H3 =>
        if b = true then te σ2 H3 fun y H4 => ∃ acc, H4 D = some (.lst acc) ∧ acc.length < sizeLine ∧ Nx (upd H4 D (.lst (acc ++ [y]))) else Nx H3) := by
  have len := hR.len
  have lz := outZ_len (c := c) (f := f) len
  have turn : ∀ (j : Nat) (x : V) (H : Hp), xs[j]? = some x → Same H1 H → H D = some (.lst (outOf ((outZ c f xs rs).take j))) →
      gName i x (wipe σ [i]) H fun σ2 H2 => wipe σ2 [i] = wipe σ [i] ∧ tt σ2 H2 fun b H3 =>
        if b = true then te σ2 H3 fun y H4 => ∃ acc, H4 D = some (.lst acc) ∧ acc.length < sizeLine ∧ (Same H1 (upd H4 D (.lst (acc ++ [y]))) ∧ (upd H4 D (.lst (acc ++ [y]))) D = some (.lst (outOf ((outZ c f xs rs).take (j + 1))))) else (Same H1 H3 ∧ H3 D = some (.lst (outOf ((outZ c f xs rs).take (j + 1))))) := by
    intro j x H hx s1 hD
    obtain ⟨r, er, hr⟩ := hR.at_ hx
    have ho := outZ_at (c := c) (f := f) hx er
    have hm := List.mem_of_getElem? er
    refine ⟨by simp [wipe], ?_⟩
    show tt ((σ.set i none).set i (some x)) H _
    refine test x r H _ hm (hr.same s1) s1 fun H3 s3 => ?_
    cases e : c r with
    | false =>
      rw [e] at ho
      refine iteF ⟨s1.trans s3, ?_⟩
      rw [outOf_take ho]
      simpa using s3 _ _ hD
    | true =>
      rw [e] at ho
      refine iteT (el x r H3 _ hm e (hr.same (s1.trans s3)) (s1.trans s3) fun H4 s4 => ⟨_, s4 _ _ (s3 _ _ hD), ?_, fun b o eb => ?_, ?_⟩)
      · have := outOf_len ((outZ c f xs rs).take j)
        rw [List.length_take] at this
        exact Nat.lt_of_le_of_lt (show _ ≤ 1000 by omega) (by decide)
      · rw [upd_ne (ne_of_none eb un)]
        exact s4 _ _ (s3 _ _ (s1 _ _ eb))
      · rw [upd_same, outOf_take ho]
        rfl
  cases hJ with
  | l hl =>
    refine lc_list (K := K) (a := p) (xs := xs) (fun j H => Same H1 H ∧ H D = some (.lst (outOf ((outZ c f xs rs).take j)))) ⟨same_new un, by rw [upd_same, outOf_zero]⟩ (fun j H _ q => q.1.seq hl) (fun j x H hx q => turn j x H hx q.1 q.2) fun H q => fin H q.1 ?_
    have q2 := q.2
    rw [← lz, List.take_length] at q2
    exact q2
  | t hl =>
    refine lc_tup (K := K) (a := p) (xs := xs) (fun j H => Same H1 H ∧ H D = some (.lst (outOf ((outZ c f xs rs).take j)))) ⟨same_new un, by rw [upd_same, outOf_zero]⟩ (fun j H _ q => same_tup q.1 hl) (fun j x H hx q => turn j x H hx q.1 q.2) fun H q => fin H q.1 ?_
    have q2 := q.2
    rw [← lz, List.take_length] at q2
    exact q2
end
/-! ### rings -/
def noteB : Row0 → Bool | .note _ _ _ => true | _ => false
def gateB : Row0 → Bool | .gate _ _ _ _ => true | _ => false
def askB : Row0 → Bool | .ask _ _ _ => true | _ => false
def onB (r : Row0) : Bool := noteB r || gateB r
def keptF (left : List Row0) : List Row0 := left.filter fun r => (leadsR r).any fun z => decide (z ∈ left.map placeR)
theorem kept_le (left : List Row0) : (keptF left).length ≤ left.length := List.length_filter_le _ _
def ringN : Nat → List Row0 → Bool
  | 0, left => !left.isEmpty
  | n + 1, left => if (keptF left).length = left.length then !left.isEmpty else ringN n (keptF left)
def ringF (rs : List Row0) : Bool := ringN (rs.filter onB).length (rs.filter onB)
/-- enough turns are enough -/
theorem ringN_more : ∀ (n m : Nat) (left : List Row0), left.length ≤ n → left.length ≤ m → ringN n left = ringN m left
  | 0, 0, _, _, _ => rfl
  | 0, m + 1, left, h, _ => by
    obtain rfl : left = [] := List.eq_nil_of_length_eq_zero (by omega)
    rfl
  | n + 1, 0, left, _, h => by
    obtain rfl : left = [] := List.eq_nil_of_length_eq_zero (by omega)
    rfl
  | n + 1, m + 1, left, h1, h2 => by
    rw [ringN, ringN]
    by_cases e : (keptF left).length = left.length
    · rw [if_pos e, if_pos e]
    · rw [if_neg e, if_neg e]
      have := kept_le left
      exact ringN_more n m (keptF left) (by omega) (by omega)
theorem ring_stop {left : List Row0} (e : (keptF left).length = left.length) : ringN left.length left = !left.isEmpty := by
  cases left with
  | nil => rfl
  | cons r l =>
    rw [List.length_cons] at e
    rw [List.length_cons, ringN, if_pos (by rw [List.length_cons]; exact e)]
theorem ring_go {left : List Row0} (e : (keptF left).length ≠ left.length) : ringN left.length left = ringN (keptF left).length (keptF left) := by
  cases left with
  | nil => exact absurd rfl e
  | cons r l =>
    have := kept_le (r :: l)
    rw [List.length_cons] at e this ⊢
    rw [ringN, if_neg (by rw [List.length_cons]; exact e)]
    exact ringN_more _ _ _ (by omega) (Nat.le_refl _)
theorem inV_strs (z : Str) (zs : List Str) : inV (.str z) (zs.map V.str) = decide (z ∈ zs) := by
  rw [Bool.eq_iff_iff, decide_eq_true_iff]
  unfold inV
  rw [List.any_eq_true]
  constructor
  · rintro ⟨y, hy, e⟩
    obtain ⟨k, hk, rfl⟩ := List.mem_map.mp hy
    have e : (k == z) = true := e
    rw [← eq_of_beq e]
    exact hk
  · exact fun h => ⟨_, List.mem_map_of_mem h, by simp [eqV]⟩
theorem flat_strs (zs : List Str) : (zs.map V.str).all flatV = true := by
  rw [List.all_eq_true]
  intro x hx
  obtain ⟨k, _, rfl⟩ := List.mem_map.mp hx
  rfl
/-- what the edition's file asks of its names -/
structure EdN (K : PySem.W.Frag) (mg : Str → Option Value) (a : Ad) : Prop where
  any : mg "any" = none
  sorted : mg "sorted" = none
  note : ∀ r : Row0, PySem.W.kitOne K (.ref (clsR a r)) (.ref a.cNote) = some (noteB r)
  gate : ∀ r : Row0, PySem.W.kitOne K (.ref (clsR a r)) (.ref a.cGate) = some (gateB r)
  ask : ∀ r : Row0, PySem.W.kitOne K (.ref (clsR a r)) (.ref a.cAsk) = some (askB r)
end K2

set_option Elab.async false
set_option linter.all false
set_option maxRecDepth 100000
set_option maxHeartbeats 1000000
namespace K2
open PySem L2 Lw TL
def spRing (K : PySem.W.Frag) (a : Ad) : Sp := fun vs H Q _ => ∃ (p : Addr) (xs : List V) (rs : List Row0), vs = [.ref p] ∧ SqA K H p xs ∧ RowsAt K a H xs rs ∧ (∀ r ∈ rs, RowGood r) ∧ rs.length ≤ 1000 ∧ ∀ H', Same H H' → Q (.bl (ringF rs)) H'
abbrev nRing : List Str := ["rows", "left", "places", "kept", "row", "then"]
def bodyOf : Stmt → List Stmt
  | .FunctionDef (body := b) .. => b
  | .While _ b _ _ => b
  | _ => []
def valOf : Stmt → Expr
  | .Assign _ v _ => v
  | e => default
def ifOf : Expr → Expr
  | .ListComp _ [c] _ _ => c.ifs.headD default
  | e => e
def scOf : Expr → Scope
  | .ListComp _ _ s _ => s
  | _ => default
abbrev tIsi (K : PySem.W.Frag) (i : Nat) (C : Addr) : TT := tB (tCB (rIsi K) (tCons (tVar i) (tCons (tC (.ref C)) tNil)))
abbrev tOn (K : PySem.W.Frag) (a : Ad) (i : Nat) : TT := tOr (tIsi K i a.cNote) (tIsi K i a.cGate)
section
variable {P : Program} {w : World} {K : PySem.W.Frag} {mg : Str → Option Value} {base : Heap} {a : Ad} {fEq fStr : Addr} {dEq dStr : FuncData} {fR fA fN fG : Addr} {dR dA dN dG : FuncData}
theorem leads_few {r : Row0} (g : RowGood r) : (leadsR r).length ≤ 100000 := by
  cases r with
  | ask p n ws =>
    have few : ws.length ≤ 3 := g.2.2.2.1
    show (ws.map _).length ≤ _
    rw [List.length_map]
    omega
  | note p w t => show 1 ≤ 100000; decide
  | gate p m n e => show 2 ≤ 100000; decide
  | end_ p => show 0 ≤ 100000; decide
theorem scRing : FnScope nRing ["rows"] (defScope sRing) := ⟨rfl, rfl, rfl, by decide +kernel, rfl, by decide +kernel, by decide +kernel⟩
theorem okRing (T : Txt K mg a) (R : RowF K a fEq fStr dEq dStr) (L : LeadsF K a fR fA fN fG dR dA dN dG) (N : EdN K mg a) {f : Addr} {fd : FuncData} (F : Fun K "_has_ring" "_has_ring" sRing f fd) : FnOk P w K mg base CX0 2 f fd ["rows"] (spRing K a) := by
  refine F.ok scRing (fun vs H Q E h => ?_) (fun cdv A outer s H vs Q E hr h => ?_)
  · obtain ⟨p, xs, rs, rfl, _⟩ := h
    rfl
  · obtain ⟨p, xs, rs, rfl, hs, hR, gr, few, fin⟩ := h
    refine ⟨_, pss_cons (ps_setLc (i := 1) (own := [("row", 4)]) (g := gName 4) (tt := tOn K a 4) (te := tVar 4) (by rfl) scRing.nd rfl rfl (sw_true rfl rfl rfl (by decide +kernel)) (pi_seq (pv 0))
          (blkOk_by (own := [("row", 4)]) (N := nRing) (sc := defScope sRing) (by decide +kernel)) (fun _ _ _ _ _ => pg_name (i := 4) scRing.nd rfl (Or.inl rfl))
          (fun _ _ _ _ _ => pts_one (PW.pt (pw_or (pt_val (pe_callB call_isi (by rfl) T.tIs PyProof.Rows.boot_isinstance (pa_cons (pv 4) (pa_cons (pe_glob (v := .ref a.cNote) (by rfl) T.note.g rfl) pa_nil)))) (pw_or1 (pt_val (pe_callB call_isi (by rfl) T.tIs PyProof.Rows.boot_isinstance (pa_cons (pv 4) (pa_cons (pe_glob (v := .ref a.cGate) (by rfl) T.gate.g rfl) pa_nil))))))))
          (fun _ _ _ _ _ => pv 4))
      (pss_one (ps_while PassesOwn.never (pt_val pe_bl)
        (pss_cons (ps_set (i := 2) scRing.nd rfl (Or.inr rfl) (pe_lc (own := [("row", 4)]) (g := gName 4) (tt := tYes) (te := tFld K (tVar 4) "place") (by rfl) scRing.nd (pi_list (pv 1))
          (blkOk_by (own := [("row", 4)]) (N := nRing) (sc := defScope sRing) (by decide +kernel)) (fun _ _ _ _ _ => pg_name (i := 4) scRing.nd rfl (Or.inl rfl)) (fun _ _ _ _ _ => pts_nil)
          (fun _ _ _ _ _ => pe_fld (pv 4) rfl)))
        (pss_cons (ps_setLc (i := 3) (own := [("row", 4)]) (g := gName 4) (tt := tB (tCB (rAny K) (tCons (tLc (iTup K (tLeads K a (tVar 4))) (gName 5) tYes (tOp (rIn K false) (tVar 5) (tVar 2)) [5]) tNil))) (te := tVar 4) (by rfl) scRing.nd rfl rfl (sw_true rfl rfl rfl (by decide +kernel)) (pi_list (pv 1))
          (blkOk_by (own := [("row", 4)]) (N := nRing) (sc := defScope sRing) (by decide +kernel)) (fun _ _ _ _ _ => pg_name (i := 4) scRing.nd rfl (Or.inl rfl))
          (fun _ _ _ _ _ => pts_one (pt_val (pe_callB (cr_any rfl) (by rfl) N.any PyProof.Rows.boot_any (pa_cons (pe_lc (own := [("then", 5)]) (g := gName 5) (tt := tYes) (te := tOp (rIn K false) (tVar 5) (tVar 2)) (by rfl) scRing.nd (pi_tup (pe_leads L T (pv 4) hr))
            (blkOk_by (own := [("then", 5)]) (N := nRing) (by rfl)) (fun _ _ _ _ _ => pg_name (i := 5) scRing.nd rfl (Or.inl rfl)) (fun _ _ _ _ _ => pts_nil)
            (fun _ _ _ _ _ => pe_cmpR op_in_seq (pv 5) (pv 2) rfl)) pa_nil))))
          (fun _ _ _ _ _ => pv 4))
        (pss_cons (ps_if (pt_cmpR op_eq (pe_callB call_len_seq (by rfl) T.tLen PySem.boot_len (pa_cons (pv 3) pa_nil)) (pe_callB call_len_seq (by rfl) T.tLen PySem.boot_len (pa_cons (pv 1) pa_nil)) (nomark _))
          (pss_one (ps_ret (pe_cmpR op_gt (pe_callB call_len_seq (by rfl) T.tLen PySem.boot_len (pa_cons (pv 1) pa_nil)) pe_int (nomark _)))) pss_nil)
        (pss_one (ps_set (i := 1) scRing.nd rfl (Or.inl rfl) (pv 3)))))))), ?_⟩
    refine seq_run rfl hs fun J hJ D un => rows_J onB (fun x _ => x) hJ hR few un (fun x r H1 R1 hm hx s1 k => ?_) (fun x r H1 Q1 hm e hx s1 k => ⟨_, rfl, k _ (Same.refl _)⟩) fun H1 s1 h1 => ?_
    · obtain ⟨y, dy, fs, rfl, hy, hf, hb⟩ := hx.ex
      refine ⟨_, rfl, _, _, _, _, _, rfl, .own a.cNote, R.ty (cls_mem r) hy, N.note r, _, rfl, ?_⟩
      have k0 := k _ (Same.refl _)
      cases e : noteB r with
      | true =>
        refine iteT ?_
        rwa [onB, e, Bool.true_or] at k0
      | false =>
        refine iteF ⟨_, rfl, _, _, _, _, _, rfl, .own a.cGate, R.ty (cls_mem r) hy, N.gate r, _, rfl, ?_⟩
        rwa [onB, e, Bool.false_or] at k0
    · have hR1 := outZ_rows onB (hR.same s1)
      refine ⟨fun c σ H2 => ∃ (q : Addr) (ys : List V) (left : List Row0) (v2 v3 : Option V), c = left.length ∧ σ = [some (.ref p), some (.ref q), v2, v3, none, none] ∧ Same H H2 ∧ SqL K H2 q ys ∧ RowsAt K a H2 ys left ∧ (∀ r ∈ left, RowGood r) ∧ left.length ≤ 1000 ∧ ringN left.length left = ringF rs, ⟨_, D, _, _, none, none, rfl, rfl, s1, SqL.of h1, hR1, fun r hr => gr r (List.mem_filter.mp hr).1, Nat.le_trans (List.length_filter_le _ _) few, rfl⟩, ?_⟩
      rintro _ _ H2 ⟨q, ys, left, v2, v3, rfl, rfl, s2, hq, hL, gl, fl, el⟩
      have ly := hL.len
      have ep : (left.map fun r => V.str (placeR r)) = (left.map placeR).map V.str := by rw [List.map_map]; rfl
      refine ⟨_, rfl, iteT ⟨fun σ H3 => ∃ (q : Addr) (ys : List V) (l3 : List Row0) (v2 v3 : Option V), l3.length < left.length ∧ σ = [some (.ref p), some (.ref q), v2, v3, none, none] ∧ Same H H3 ∧ SqL K H3 q ys ∧ RowsAt K a H3 ys l3 ∧ (∀ r ∈ l3, RowGood r) ∧ l3.length ≤ 1000 ∧ ringN l3.length l3 = ringF rs, ?_, ?_⟩⟩
      · rintro σ H3 ⟨q3, y3, l3, a2, a3, lt, z⟩
        exact ⟨l3.length, lt, q3, y3, l3, a2, a3, rfl, z⟩
      · refine ⟨_, rfl, q, rfl, ⟨_, hq⟩, fun D2 u2 => lc_of_list (left.map fun r => some (.str (placeR r))) hq u2 (turnsRowsY (fun r => .str (placeR r)) hL (by omega) fun x r H3 Q3 hm hx s3 k => ?_) mono_yes fun H3 s3 h3 => ?_⟩
        · obtain ⟨y, dy, fs, rfl, hy, hf, hb⟩ := hx.ex
          exact ⟨_, rfl, y, _, dy, fs, _, rfl, hy, R.cls _ (cls_mem r), T.no _ (cls_mem r) _ (by simp), row_place (x := y) (dx := dy) hf, k _ (Same.refl _)⟩
        · rw [outRows] at h3
          have hq3 := s3.seq hq
          refine ⟨_, rfl, q, rfl, ⟨_, hq3⟩, fun D4 u4 => rows_J (fun r => (leadsR r).any fun z => decide (z ∈ left.map placeR)) (fun x _ => x) (.l hq3) (hL.same s3) fl u4 (fun x r H4 R4 hm hx s4 k => ?_) (fun x r H4 Q4 hm e hx s4 k => ⟨_, rfl, k _ (Same.refl _)⟩) fun H4 s4 h4 => ?_⟩
          · refine leads_run rfl hx (gl r hm) fun H5 t s5 ht => ⟨t, rfl, ⟨_, SqT.of ht⟩, fun D5 u5 => lc_of_tup (((leadsR r).map V.str).map fun x => some (.bl (inV x (left.map fun r => .str (placeR r))))) (SqT.of ht) u5 (turns_map (fun x => .bl (inV x (left.map fun r => .str (placeR r)))) ?_ fun x6 H6 Q6 hx6 s6 k6 => ?_) mono_yes fun H6 s6 h6 => ?_⟩
            · have g4 := gl r hm
              rw [List.length_map]
              exact leads_few g4
            · obtain ⟨z, hz, rfl⟩ := List.mem_map.mp hx6
              exact ⟨_, rfl, _, rfl, D2, _, rfl, .inl (s6.seq (s5.seq (s4.seq (SqL.of h3)))), rfl, (by rw [ep]; exact flat_strs _), k6 _ (Same.refl _)⟩
            · rw [out_map] at h6
              have e1 : ((leadsR r).map V.str).map (fun x => V.bl (inV x (left.map fun r => .str (placeR r)))) = ((leadsR r).map fun z => decide (z ∈ left.map placeR)).map V.bl := by
                rw [List.map_map, List.map_map]
                refine List.map_congr_left fun z _ => ?_
                show V.bl (inV (.str z) (left.map fun r => .str (placeR r))) = V.bl (decide (z ∈ left.map placeR))
                rw [ep, inV_strs]
              rw [e1] at h6
              refine ⟨D5, _, rfl, SqL.of h6, _, rfl, ?_⟩
              rw [List.any_map]
              exact k _ (s5.trans s6)
          · have hk : RowsAt K a H4 _ (keptF left) := outZ_rows (fun r => (leadsR r).any fun z => decide (z ∈ left.map placeR)) (hL.same (s3.trans s4))
            have lk := hk.len
            have hq4 := s4.seq hq3
            have s24 := s2.trans (s3.trans s4)
            refine ⟨_, rfl, D4, _, rfl, .inl (SqL.of h4), _, rfl, q, _, rfl, .inl hq4, rfl, _, rfl, ?_⟩
            rw [dec_int, lk, ly]
            by_cases e : (keptF left).length = left.length
            · rw [show (((keptF left).length : Int) == (left.length : Int)) = true from beq_iff_eq.mpr (by omega)]
              refine iteT ⟨_, rfl, q, _, rfl, .inl hq4, _, _, rfl, rfl, ?_⟩
              rw [ring_stop e] at el
              have z := fin _ s24
              rw [← el] at z
              have e9 : decide ((0 : Int) < (ys.length : Int)) = !left.isEmpty := by
                rw [ly]
                cases left with
                | nil => rfl
                | cons r l => simp
              rwa [← e9] at z
            · rw [show (((keptF left).length : Int) == (left.length : Int)) = false from beq_eq_false_iff_ne.mpr (by omega)]
              refine iteF ⟨_, rfl, ?_⟩
              exact ⟨D4, _, keptF left, _, _, Nat.lt_of_le_of_ne (kept_le left) e, rfl, s24, SqL.of h4, hk, fun r hr => gl r (List.mem_filter.mp hr).1, Nat.le_trans (kept_le left) fl, by rw [← ring_go e]; exact el⟩
end
end K2

set_option Elab.async false
set_option linter.all false
set_option maxRecDepth 100000
set_option maxHeartbeats 1000000
namespace K2
open PySem L2 Lw TL
def dropsL : PyData → List Str
  | .list ds => ds.map strD
  | .tuple ds => ds.map strD
  | _ => []
def markR : Row0 → Str
  | .gate _ m _ _ => m
  | _ => Str.empty
def thenB (rs : List Row0) : Bool := (rs.map leadsR).flatten.all fun z => decide (z ∈ rs.map placeR)
def markB (rs : List Row0) (zs : List Str) : Bool := (rs.filter gateB).any fun r => decide (markR r ∈ zs)
def wrongF (rs : List Row0) (d : PyData) : Option Str :=
  if rs.isEmpty = true then some "rows" else if unlikeD d = false then some "drops" else if (rs.map placeR).Nodup then
    if thenB rs = false then some "then" else if markB rs (dropsL d) = true then some "mark" else if ringF rs = true then some "ring" else none
  else some "place"
def vOpt : Option Str → V
  | some z => .str z
  | none => .non
def spWrong (K : PySem.W.Frag) (a : Ad) : Sp := fun vs H Q _ => ∃ (p : Addr) (v : V) (xs : List V) (rs : List Row0) (d : PyData), vs = [.ref p, v] ∧ SqA K H p xs ∧ RowsAt K a H xs rs ∧ (∀ r ∈ rs, RowGood r) ∧ rs.length ≤ 60 ∧ Dp K H v d ∧ fine d = true ∧ ∀ H', Same H H' → Q (vOpt (wrongF rs d)) H'
abbrev nWrong : List Str := ["rows", "drops", "places", "row", "then"]
theorem leads_le {r : Row0} (g : RowGood r) : (leadsR r).length ≤ 3 := by
  cases r with
  | ask p n ws =>
    have few : ws.length ≤ 3 := g.2.2.2.1
    show (ws.map _).length ≤ _
    rw [List.length_map]
    omega
  | note p w t => show 1 ≤ 3; decide
  | gate p m n e => show 2 ≤ 3; decide
  | end_ p => show 0 ≤ 3; decide
theorem flat_le : ∀ {rs : List Row0}, (∀ r ∈ rs, RowGood r) → (rs.map leadsR).flatten.length ≤ 3 * rs.length
  | [], _ => by simp
  | r :: rs, g => by
    have ih := flat_le (rs := rs) fun x hx => g x (by simp [hx])
    have := leads_le (g r (by simp))
    rw [List.map_cons, List.flatten_cons, List.length_append, List.length_cons]
    omega
section
variable {P : Program} {w : World} {K : PySem.W.Frag} {mg : Str → Option Value} {base : Heap} {a : Ad} {fEq fStr : Addr} {dEq dStr : FuncData} {fR fA fN fG : Addr} {dR dA dN dG : FuncData}
theorem unlike_seq {H : Hp} {v : V} {d : PyData} (hd : Dp K H v d) (hz : fine d = true) (u : unlikeD d = true) : ∃ (p : Addr) (zs : List Str), v = .ref p ∧ SqA K H p (zs.map V.str) ∧ dropsL d = zs ∧ zs.Nodup ∧ zs.length ≤ 1000 ∧ ∀ z ∈ zs, nameOk z = true := by
  rcases seqOr hd hz with ⟨p, xs, ds, rfl, hs, ha, few, hf, es, ed⟩ | es
  · have ew : unlikeL ds = true := by rcases ed with rfl | rfl <;> exact u
    rw [unlikeL, Bool.and_eq_true, decide_eq_true_iff] at ew
    have eds := names_are ew.1
    have hxs : xs = (ds.map strD).map V.str := by
      rw [eds] at ha
      exact strs_of ha
    refine ⟨p, ds.map strD, rfl, hxs ▸ hs, by rcases ed with rfl | rfl <;> rfl, ew.2, by rwa [List.length_map], fun z hz => ?_⟩
    have h1 := ew.1
    rw [eds, List.all_map, List.all_eq_true] at h1
    exact h1 z hz
  · cases d with
    | list _ => cases es
    | tuple _ => cases es
    | _ => cases u
theorem scWrong : FnScope nWrong ["rows", "drops"] (defScope sWrong) := ⟨rfl, rfl, rfl, by decide +kernel, rfl, by decide +kernel, by decide +kernel⟩
theorem okWrong (T : Txt K mg a) (R : RowF K a fEq fStr dEq dStr) (L : LeadsF K a fR fA fN fG dR dA dN dG) (N : EdN K mg a)
    {gA gU gR : Addr} {eA eU eR : FuncData} (FA : Fun K "_are_rows" "_are_rows" sAreRows gA eA) (BA : Binds K eA ["value"] []) (mA : mg "_are_rows" = some (.ref gA))
    (FU : Fun K "are_unlike_names" "are_unlike_names" sUnlike gU eU) (BU : Binds K eU ["value"] []) (mU : mg "are_unlike_names" = some (.ref gU))
    (FR : Fun K "_has_ring" "_has_ring" sRing gR eR) (BR : Binds K eR ["rows"] []) (mR : mg "_has_ring" = some (.ref gR))
    {f : Addr} {fd : FuncData} (F : Fun K "_wrong" "_wrong" sWrong f fd) : FnOk P w K mg base CX0 3 f fd ["rows", "drops"] (spWrong K a) := by
  refine F.ok scWrong (fun vs H Q E h => ?_) (fun cdv A outer s H vs Q E hr h => ?_)
  · obtain ⟨p, v, xs, rs, d, rfl, _⟩ := h
    rfl
  · obtain ⟨p, v, xs, rs, d, rfl, hs, hR, gr, few, hd, hz, fin⟩ := h
    have hr1 : Room 1 _ := hr.mono (by decide)
    have OA : FnOk P w K mg base CX0 1 gA eA ["value"] (spAreRows K a) := okAreRows T R FA
    have OU : FnOk P w K mg base CX0 2 gU eU ["value"] (spUnlike K) := okUnlike T FU
    have OR : FnOk P w K mg base CX0 2 gR eR ["rows"] (spRing K a) := okRing T R L N FR
    refine ⟨_, pss_cons (ps_if (pt_not (pt_val (pe_call OA hr1 rfl mA FA.kp BA .nil pass0 (pa_cons (pv 0) pa_nil)))) (pss_one (ps_ret pe_str)) pss_nil)
      (pss_cons (ps_if (pt_not (pt_val (pe_call OU hr rfl mU FU.kp BU .nil pass0 (pa_cons (pv 1) pa_nil)))) (pss_one (ps_ret pe_str)) pss_nil)
      (pss_cons (ps_set (i := 2) scWrong.nd rfl (Or.inr rfl) (pe_lc (own := [("row", 3)]) (g := gName 3) (tt := tYes) (te := tFld K (tVar 3) "place") (by rfl) scWrong.nd (pi_seq (pv 0))
          (blkOk_by (own := [("row", 3)]) (N := nWrong) (sc := defScope sWrong) (by decide +kernel)) (fun _ _ _ _ _ => pg_name (i := 3) scWrong.nd rfl (Or.inl rfl)) (fun _ _ _ _ _ => pts_nil)
          (fun _ _ _ _ _ => pe_fld (pv 3) rfl)))
      (pss_cons (ps_if (pt_cmpR op_lt (pe_callB Sx.cr_lenK (by rfl) T.tLen PySem.boot_len (pa_cons (pe_callTy (Sx.cr_setOf rfl) (by rfl) T.tSet (by decide +kernel) (pa_cons (pv 2) pa_nil)) pa_nil)) (pe_callB call_len_seq (by rfl) T.tLen PySem.boot_len (pa_cons (pv 2) pa_nil)) (nomark _)) (pss_one (ps_ret pe_str)) pss_nil)
      (pss_cons (ps_if (pt_not (pt_val (pe_callB (cr_all rfl) (by rfl) T.tAll PyProof.Rows.boot_all (pa_cons (pe_lc2 (own := [("row", 3), ("then", 4)]) (vs1 := [4]) (g := gName 3) (tt := tYes) (g1 := gName 4) (tt1 := tYes) (wi1 := iTup K (tLeads K a (tVar 3))) (te := tOp (rIn K false) (tVar 4) (tVar 2)) (by rfl) scWrong.nd (pi_seq (pv 0))
          (blkOk_by (own := [("row", 3), ("then", 4)]) (N := nWrong) (sc := defScope sWrong) (by decide +kernel)) (by decide)
          (fun _ _ _ _ _ => pg_name (i := 3) scWrong.nd rfl (Or.inl rfl)) (fun _ _ _ _ _ => pts_nil) (fun _ _ _ _ _ => pi_tup (pe_leads L T (pv 3) hr1)) (fun _ _ _ _ _ => pg_name (i := 4) scWrong.nd rfl (Or.inl rfl)) (fun _ _ _ _ _ => pts_nil) (fun _ _ _ _ _ => pe_cmpR op_in_seq (pv 4) (pv 2) rfl)) pa_nil)))) (pss_one (ps_ret pe_str)) pss_nil)
      (pss_cons (ps_if (pt_val (pe_callB (cr_any rfl) (by rfl) N.any PyProof.Rows.boot_any (pa_cons (pe_lc (own := [("row", 3)]) (g := gName 3) (tt := tIsi K 3 a.cGate) (te := tOp (rIn K false) (tFld K (tVar 3) "mark") (tVar 1)) (by rfl) scWrong.nd (pi_seq (pv 0))
          (blkOk_by (own := [("row", 3)]) (N := nWrong) (sc := defScope sWrong) (by decide +kernel)) (fun _ _ _ _ _ => pg_name (i := 3) scWrong.nd rfl (Or.inl rfl))
          (fun _ _ _ _ _ => pts_one (pt_val (pe_callB call_isi (by rfl) T.tIs PyProof.Rows.boot_isinstance (pa_cons (pv 3) (pa_cons (pe_glob (v := .ref a.cGate) (by rfl) T.gate.g rfl) pa_nil)))))
          (fun _ _ _ _ _ => pe_cmpR op_in_seq (pe_fld (pv 3) rfl) (pv 1) rfl)) pa_nil))) (pss_one (ps_ret pe_str)) pss_nil)
      (pss_cons (ps_if (pt_val (pe_call OR hr rfl mR FR.kp BR .nil pass0 (pa_cons (pv 0) pa_nil))) (pss_one (ps_ret pe_str)) pss_nil)
      (pss_one (ps_ret pe_non)))))))), ?_⟩
    have empty : rs.isEmpty = true ∨ rs.isEmpty = false := by cases rs.isEmpty <;> simp
    refine ⟨_, rfl, p, xs, rs, rfl, hs, hR, by omega, fun H1 s1 => ⟨_, rfl, ?_⟩⟩
    rcases empty with e1 | e1
    · rw [e1]
      refine iteT ?_
      have z := fin _ s1
      rwa [wrongF, if_pos e1] at z
    rw [e1]
    refine iteF ?_
    refine ⟨_, rfl, v, d, rfl, dp_same s1 _ _ hd, hz, fun H2 s2 => ⟨_, rfl, ?_⟩⟩
    have S2 := s1.trans s2
    have e1' : ¬ (rs.isEmpty = true) := by rw [e1]; decide
    cases e2 : unlikeD d with
    | false =>
      refine iteT ?_
      have z := fin _ S2
      rwa [wrongF, if_neg e1', if_pos e2] at z
    | true =>
      refine iteF ?_
      obtain ⟨q, zs, rfl, hzs, edr, ndz, fewz, _⟩ := unlike_seq (dp_same S2 _ _ hd) hz e2
      refine seq_run rfl (hs.same S2) fun J hJ D3 u3 => lc_of_J (rs.map fun r => some (.str (placeR r))) hJ u3 (turnsRowsY (fun r => .str (placeR r)) (hR.same S2) (by rw [hR.len]; omega) fun x r H3 Q3 hm hx s3 k => ?_) mono_yes fun H3 s3 h3 => ?_
      · obtain ⟨y, dy, fs, rfl, hy, hf, hb⟩ := hx.ex
        exact ⟨_, rfl, y, _, dy, fs, _, rfl, hy, R.cls _ (cls_mem r), T.no _ (cls_mem r) _ (by simp), row_place (x := y) (dx := dy) hf, k _ (Same.refl _)⟩
      rw [outRows] at h3
      have ep : (rs.map fun r => V.str (placeR r)) = (rs.map placeR).map V.str := by rw [List.map_map]; rfl
      rw [ep] at h3
      have hks : (rs.map placeR).map V.str = ((rs.map placeR).map (Sum.inr : Str → Key)).map kV := by
        simp only [List.map_map]
        rfl
      have S3 := S2.trans s3
      have l3 : SqL K H3 D3 ((rs.map placeR).map V.str) := SqL.of h3
      refine ⟨_, rfl, D3, (rs.map placeR).map Sum.inr, rfl, by rw [← hks]; exact .inl l3, by rw [List.length_map, List.length_map]; omega, fun D4 u4 => ?_⟩
      have s4 := same_new (o := SetK P w D4 (fun k => decide (k ∈ (rs.map placeR).map (Sum.inr : Str → Key))) (Sx.nub ((rs.map placeR).map Sum.inr)).length) u4
      have l4 := s4.seq l3
      refine ⟨D4, _, _, rfl, upd_same, _, rfl, D3, _, rfl, .inl l4, _, _, rfl, rfl, _, rfl, ?_⟩
      have S4 := S3.trans s4
      have e5 := Sx.nub_nodup_iff (l := (rs.map placeR).map (Sum.inr : Str → Key))
      rw [nodup_keys, List.length_map] at e5
      have le5 := Sx.len_nub_le _ ((rs.map placeR).map (Sum.inr : Str → Key)) rfl
      rw [List.length_map] at le5
      by_cases nd : (rs.map placeR).Nodup
      · have n5 := e5.mpr nd
        rw [show decide (((Sx.nub ((rs.map placeR).map (Sum.inr : Str → Key))).length : Int) < (((rs.map placeR).map V.str).length : Int)) = false from decide_eq_false (by rw [List.length_map]; omega)]
        refine iteF ?_
        have few2 : (rs.map leadsR).flatten.length ≤ 1000 := Nat.le_trans (flat_le gr) (by omega)
        refine seq_run rfl (hs.same S4) fun J5 hJ5 D5 u5 => lc2_then (f := fun z => .bl (decide (z ∈ rs.map placeR))) hJ5 (hR.same S4) u5 few2 (fun x r H5 R5 hm hx s5 k => ?_) (fun x z H5 Q5 s5 k => ?_) fun H5 s5 h5 => ?_
        · exact leads_run rfl hx (gr r hm) fun H6 t s6 ht => ⟨t, rfl, ⟨_, SqT.of ht⟩, k H6 t s6 (SqT.of ht)⟩
        · refine ⟨_, rfl, _, rfl, D3, _, rfl, .inl (s5.seq l4), rfl, flat_strs _, ?_⟩
          rw [show (if false = true then !inV (V.str z) ((rs.map placeR).map V.str) else inV (V.str z) ((rs.map placeR).map V.str)) = inV (V.str z) ((rs.map placeR).map V.str) from rfl, inV_strs]
          exact k _ (Same.refl _)
        · have e6 : (rs.map leadsR).flatten.map (fun z => V.bl (decide (z ∈ rs.map placeR))) = ((rs.map leadsR).flatten.map fun z => decide (z ∈ rs.map placeR)).map V.bl := by
            rw [List.map_map]
            rfl
          rw [e6] at h5
          refine ⟨D5, _, rfl, SqL.of h5, _, rfl, ?_⟩
          rw [List.all_map]
          have S5 := S4.trans s5
          have et : ((rs.map leadsR).flatten.all (id ∘ fun z => decide (z ∈ rs.map placeR))) = thenB rs := rfl
          rw [et]
          have e2' : ¬ (unlikeD d = false) := by rw [e2]; decide
          cases e7 : thenB rs with
          | false =>
            refine iteT ?_
            have z := fin _ S5
            rwa [wrongF, if_neg e1', if_neg e2', if_pos nd, if_pos e7] at z
          | true =>
            refine iteF ?_
            have e7' : ¬ (thenB rs = false) := by rw [e7]; decide
            have hz5 := hzs.same ((s3.trans s4).trans s5)
            refine seq_run rfl (hs.same S5) fun J6 hJ6 D6 u6 => rows_J gateB (fun _ r => .bl (decide (markR r ∈ zs))) hJ6 (hR.same S5) (by omega) u6 (fun x r H6 R6 hm hx s6 k => ?_) (fun x r H6 Q6 hm e hx s6 k => ?_) fun H6 s6 h6 => ?_
            · obtain ⟨y, dy, fs, rfl, hy, hf, hb⟩ := hx.ex
              exact ⟨_, rfl, _, _, _, _, _, rfl, .own a.cGate, R.ty (cls_mem r) hy, N.gate r, _, rfl, k _ (Same.refl _)⟩
            · obtain ⟨y, dy, fs, rfl, hy, hf, hb⟩ := hx.ex
              have hc := cls_mem (a := a) r
              cases r with
              | gate p0 m0 n0 e0 =>
                refine ⟨_, rfl, y, _, dy, fs, _, rfl, hy, R.cls _ hc, T.no _ hc _ (by simp), hf.2.1, _, rfl, q, _, rfl, hz5.same s6, rfl, flat_strs _, ?_⟩
                rw [show (if false = true then !inV (V.str m0) (zs.map V.str) else inV (V.str m0) (zs.map V.str)) = inV (V.str m0) (zs.map V.str) from rfl, inV_strs]
                exact k _ (Same.refl _)
              | _ => cases e
            · rw [outZ_read gateB (fun r => .bl (decide (markR r ∈ zs))) hR.len] at h6
              have e8 : (rs.filter gateB).map (fun r => V.bl (decide (markR r ∈ zs))) = ((rs.filter gateB).map fun r => decide (markR r ∈ zs)).map V.bl := by
                rw [List.map_map]
                rfl
              rw [e8] at h6
              refine ⟨D6, _, rfl, SqL.of h6, _, rfl, ?_⟩
              rw [List.any_map]
              have em : ((rs.filter gateB).any (id ∘ fun r => decide (markR r ∈ zs))) = markB rs (dropsL d) := by rw [edr]; rfl
              rw [em]
              have S6 := S5.trans s6
              cases e9 : markB rs (dropsL d) with
              | true =>
                refine iteT ?_
                have z := fin _ S6
                rwa [wrongF, if_neg e1', if_neg e2', if_pos nd, if_neg e7', if_pos e9] at z
              | false =>
                refine iteF ?_
                have e9' : ¬ (markB rs (dropsL d) = true) := by rw [e9]; decide
                refine ⟨_, rfl, p, xs, rs, rfl, hs.same S6, hR.same S6, gr, by omega, fun H7 s7 => ⟨_, rfl, ?_⟩⟩
                cases e10 : ringF rs with
                | true =>
                  refine iteT ?_
                  have z := fin _ (S6.trans s7)
                  rwa [wrongF, if_neg e1', if_neg e2', if_pos nd, if_neg e7', if_neg e9', if_pos e10] at z
                | false =>
                  refine iteF ?_
                  have z := fin _ (S6.trans s7)
                  rwa [wrongF, if_neg e1', if_neg e2', if_pos nd, if_neg e7', if_neg e9', if_neg (by rw [e10]; decide)] at z
      · have n5 : ¬ _ := fun z => nd (e5.mp z)
        rw [show decide (((Sx.nub ((rs.map placeR).map (Sum.inr : Str → Key))).length : Int) < (((rs.map placeR).map V.str).length : Int)) = true from decide_eq_true (by rw [List.length_map]; omega)]
        refine iteT ?_
        have z := fin _ S4
        rwa [wrongF, if_neg e1', if_neg (by rw [e2]; decide), if_neg nd] at z
end
end K2

set_option Elab.async false
set_option linter.all false
set_option maxRecDepth 100000
set_option maxHeartbeats 1000000
namespace SxT
open PySem PyProof.Rows L2
theorem collect_tup {prog : Program} {w : World} {A : Around} {E : Value → Shared → Prop} {s : Shared} {l : Addr} {vs : List Value} {Q : List Value → Shared → Prop} (ht : IsTup s.heap l vs.toArray)
    (h : Q vs { s with heap := (s.heap.push (seqObj "list" #[] 0)).update s.heap.objs.size (Obj.mapSeq fun x => x ++ vs.toArray) }) (hsz : vs.length ≤ sizeLine) :
    wpAny (model prog w) A (collect (.ref l)) Q E s := by
  obtain ⟨o, ho, hc, n, hd⟩ := ht
  unfold collect
  refine wpAny_bind (wpAny_runValue (codeAny_builtin entry_proto_collect' ?_))
  unfold Builtin.«proto.collect»
  dsimp only
  refine wpAny_bind (wpAny_newList (wpAny_pure ⟨?_, codeAny_builtin entry_list_iadd' ?_⟩) ?_)
  · exact Code.quiet_builtin _ (by decide +kernel)
  · have ho' := Heap.get?_push_of_some (seqObj "list" #[] 0) ho
    change wpAny _ _ (Builtin.List.listExtendWith (.ref s.heap.objs.size) (.ref l) (.ref s.heap.objs.size)) _ _ _
    unfold Builtin.List.listExtendWith
    refine wpAny_bind (wpAny_typeOf (v := .ref l) (T := "tuple") (Exists.intro o ⟨ho', hc⟩) ?_)
    rw [if_pos (by simp)]
    refine wpAny_bind (listItems_at ho' hd (wpAny_bind (listItems_at (Heap.get?_push_size _ rfl) rfl ?_)))
    change wpAny _ _ (do Builtin.List.listUpdate (Value.ref s.heap.objs.size) (fun x => x ++ vs.toArray); ret (Value.ref s.heap.objs.size)) _ _ _
    refine wpAny_bind (listUpdate_at (Heap.get?_push_size _ rfl) rfl ?_ (by simp) (by simp; omega))
    refine wpAny_pure ?_
    refine wpAny_bind (wpAny_load (get?_update_seq (Heap.get?_push_size _ rfl) fun x => x ++ vs.toArray) ?_)
    refine wpAny_pure ?_
    have e : (#[] ++ vs.toArray).toList = vs := by simp
    show Q (#[] ++ vs.toArray).toList _
    rw [e]
    exact h
  · exact Nat.zero_le _
theorem sorted_tup {prog : Program} {w : World} {A : Around} {E : Value → Shared → Prop} {s : Shared} {l : Addr} {vs : List Value} {ss : List PySem.Str} {Q : Value → Shared → Prop} (ht : IsTup s.heap l vs.toArray) (isS : StrsAre vs ss) (few : vs.length < 64)
    (want : ∀ (out : Array Value) (ss' : List PySem.Str), StrsAre out.toList ss' → ss'.Perm ss → sortedS ss' = true → Q (.ref (s.heap.objs.size + 1)) { s with heap := sortedAll s.heap vs out }) :
    wpAny (model prog w) A (call (.builtin "sorted") [.ref l]) Q E s := by
  refine Calls.call_function_entry kind_sorted plain_sorted entry_sorted (args_sorted1 _) ?_
  unfold Builtin.«sorted»
  refine wpAny_bind (m := checkCount "sorted" 1 1 _) (wpAny_pure ?_)
  refine wpAny_bind (collect_tup (A := A.in1) ht ?_ (by rw [sizeLine_eq]; omega))
  refine wpAny_bind (wpAny_newList ?_ (by rw [sizeLine_eq]; omega))
  have sz : ((s.heap.push (seqObj "list" #[] 0)).update s.heap.objs.size (Obj.mapSeq fun x => x ++ vs.toArray)).objs.size = s.heap.objs.size + 1 := by
    rw [Heap.size_update, size_push']
  have atL : (((s.heap.push (seqObj "list" #[] 0)).update s.heap.objs.size (Obj.mapSeq fun x => x ++ vs.toArray)).push (seqObj "list" vs.toArray 0)).get? (s.heap.objs.size + 1) = some (seqObj "list" vs.toArray 0) := by
    rw [← sz]
    exact Heap.get?_push_size _ rfl
  refine wpAny_bind (wpAny_holding ?_)
  dsimp only
  rw [sz]
  refine wpAny_call_entry slot_list_sort ⟨_, atL, rfl⟩ entry_list_sort (list_sort_treeK strKind_oneLt atL isS.keysOf (fun v1 v2 rest e => keyKind_strs (by rw [← e]; exact isS)) few fun st' hp hs => ?_) (args_list_sort _)
  obtain ⟨ys, g1, g2, g3⟩ := sorted_out_str isS hp hs
  have z := want _ ys g1 g2 g3
  exact ⟨_, rfl, wpAny_pure ⟨_, rfl, z⟩⟩
def rSortedA (K : PySem.W.Frag) : List V → Hp → VK → Prop := fun vs H Q => ∃ (a : Addr) (xs : List PySem.Str), vs = [V.ref a] ∧ (SqL K H a (xs.map V.str) ∨ SqT K H a (xs.map V.str)) ∧ xs.length < 64 ∧
  ∀ (ys : List PySem.Str) (p : Addr), ys.Perm xs → sortedS ys = true → H p = none → Q (.ref p) (upd H p (.lst (ys.map V.str)))
/-- sorted(list or tuple of texts) -/
theorem cr_sortedA {X : Cx} : CallR X (.builtin "sorted") (rSortedA X.K) := by
  intro pins s σ H vs us Q I r h
  obtain ⟨a, xs, rfl, hs, few, q⟩ := h
  rcases hs with hs | hs
  · exact cr_sortedS pins s σ H [V.ref a] us Q I r ⟨a, xs, rfl, hs, few, q⟩
  · obtain ⟨its, rv, hl, hsz⟩ := I.tuple hs
    rw [Vals.ref1 r]
    have hlen0 := rv.length
    rw [List.length_map] at hlen0
    refine sorted_tup hl (Vals.strs rv) (by omega) fun out ys h1 h2 h3 => ?_
    obtain ⟨ep, he'⟩ := sortedAll_at s.heap its out
    have hlen : (ys.map V.str).length ≤ sizeLine := by rw [List.length_map, h2.length_eq, sizeLine_eq]; omega
    exact ⟨.ref (s.heap.objs.size + 1), upd H (s.heap.objs.size + 1) (.lst (ys.map V.str)),
      I.laid (fun x x1 => sortedAll_old) (Nat.le_succ _) ⟨hlen, out.toList, ep, vals_of_strs h1, he'⟩, rfl, q ys _ h2 h3 (I.hok.fresh (Nat.le_succ _))⟩
end SxT

set_option Elab.async false
set_option linter.all false
set_option maxRecDepth 100000
set_option maxHeartbeats 1000000
namespace K2
open PySem L2 Lw TL SxT
section
variable {P : Program} {w : World} {K : PySem.W.Frag} {a : Ad} {H H1 : Hp}
/-- any walk over a list or a tuple -/
theorem walk_J {p : Addr} {xs : List V} {J : L2.It} {H0 : Hp} {Qd : Hp → Prop} {G : V → Hp → (Hp → Prop) → Prop} (Pv : Nat → Hp → Prop) (hJ : JA K H1 p xs J) (h0 : Pv 0 H0) (keep : ∀ j H, Pv j H → Same H1 H)
    (turn : ∀ j x H (Nx : Hp → Prop), xs[j]? = some x → Pv j H → (∀ H', Pv (j + 1) H' → Nx H') → G x H Nx) (done : ∀ H, Pv xs.length H → Qd H) :
    ∃ W : Nat → Nat → Hp → Prop, (∃ m, W 0 m H0) ∧ ∀ i m H, W i m H → (J.stop i H ∧ Qd H) ∨ (J.go i H ∧ ∃ Nx : Hp → Prop, (∀ H', Nx H' → ∃ m', m' < m ∧ W (i + 1) m' H') ∧ ∀ x H', J.yld i H x H' → G x H' Nx) := by
  refine ⟨fun j m H' => m = xs.length - j ∧ j ≤ xs.length ∧ Pv j H', ⟨xs.length, by simp, Nat.zero_le _, h0⟩, ?_⟩
  rintro j m H' ⟨rfl, hj, pv⟩
  cases hJ with
  | l hs =>
    have q : SqL K H' p xs := (keep _ _ pv).seq hs
    by_cases lt : j < xs.length
    · refine .inr ⟨⟨xs, xs[j], q, by simp [lt]⟩, Pv (j + 1), fun H' p' => ⟨xs.length - (j + 1), by omega, rfl, lt, p'⟩, fun x H'' y => ?_⟩
      obtain ⟨e, y⟩ := y
      subst e
      exact turn j x _ _ (y xs q) pv fun _ z => z
    · have e : j = xs.length := by omega
      exact .inl ⟨⟨xs, q, Nat.le_of_eq e.symm⟩, done _ (e ▸ pv)⟩
  | t hs =>
    have q : SqT K H' p xs := same_tup (keep _ _ pv) hs
    by_cases lt : j < xs.length
    · refine .inr ⟨⟨xs, xs[j], q, by simp [lt]⟩, Pv (j + 1), fun H' p' => ⟨xs.length - (j + 1), by omega, rfl, lt, p'⟩, fun x H'' y => ?_⟩
      obtain ⟨e, y⟩ := y
      subst e
      exact turn j x _ _ (y xs q) pv fun _ z => z
    · have e : j = xs.length := by omega
      exact .inl ⟨⟨xs, q, Nat.le_of_eq e.symm⟩, done _ (e ▸ pv)⟩
/-- {g(row) for row in rows if c(row)} -/
theorem scx_J {p : Addr} {D : Addr} {i : Nat} {σ : L2.St} {xs : List V} {rs : List Row0} {J : L2.It} {Qd : Hp → Prop} {tt : TT} {te : TE} (c : Row0 → Bool) (g : Row0 → Str) (hJ : JA K H1 p xs J) (hR : RowsAt K a H1 xs rs) (few : rs.length ≤ 60) (un : H1 D = none)
    (test : ∀ x r H (R : Bool → Hp → Prop), r ∈ rs → RowAt K a H x r → Same H1 H → (∀ H', Same H H' → R (c r) H') → tt ((σ.set i none).set i (some x)) H R)
    (el : ∀ x r H (Q : VK), r ∈ rs → c r = true → RowAt K a H x r → Same H1 H → (∀ H', Same H H' → Q (.str (g r)) H') → te ((σ.set i none).set i (some x)) H Q)
    (fin : ∀ H' S n, Same H1 H' → H' D = some (SetXO P w D S n) → n ≤ rs.length → (∀ k, S k = true ↔ k ∈ (rs.filter c).map g) → Qd H') :
    ∃ W : Nat → Nat → Hp → Prop, (∃ m, W 0 m (upd H1 D (SetXO P w D (fun _ => false) 0))) ∧ ∀ i' m H, W i' m H →
      (J.stop i' H ∧ Qd H) ∨ (J.go i' H ∧ ∃ Nx : Hp → Prop, (∀ H', Nx H' → ∃ m', m' < m ∧ W (i' + 1) m' H') ∧ ∀ x H', J.yld i' H x H' → gName i x (wipe σ [i]) H' fun σ2 H2 => wipe σ2 [i] = wipe σ [i] ∧ tt σ2 H2 fun b H3 =>
        if b = true then te σ2 H3 (TurnX P w D Nx) else Nx H3) := by
  have len := hR.len
  refine walk_J (fun j H => Same H1 H ∧ ∃ S n, H D = some (SetXO P w D S n) ∧ n ≤ j ∧ ∀ k, S k = true ↔ k ∈ ((rs.take j).filter c).map g) hJ ⟨same_new un, _, _, upd_same, Nat.le_refl _, fun k => by simp⟩ (fun _ _ z => z.1) ?_ ?_
  · rintro j x H Nx hx ⟨s1, S, n, hD, hn, hk⟩ nx
    obtain ⟨r, er, hr⟩ := hR.at_ hx
    have hm := List.mem_of_getElem? er
    have hj : j < rs.length := (List.getElem?_eq_some_iff.mp er).1
    have tk : (rs.take (j + 1)).filter c = (rs.take j).filter c ++ (if c r = true then [r] else []) := by
      rw [List.take_add_one, er, List.filter_append]
      cases e : c r <;> simp [e]
    refine ⟨by simp [wipe], ?_⟩
    show tt ((σ.set i none).set i (some x)) H _
    refine test x r H _ hm (hr.same s1) s1 fun H3 s3 => ?_
    cases e : c r with
    | false =>
      refine iteF (nx _ ⟨s1.trans s3, S, n, s3 _ _ hD, by omega, fun k => ?_⟩)
      rw [hk k, tk, e]
      simp
    | true =>
      refine iteT (el x r H3 _ hm e (hr.same (s1.trans s3)) (s1.trans s3) fun H4 s4 => ⟨g r, S, n, rfl, s4 _ _ (s3 _ _ hD), ?_, nx _ ⟨fun b o eb => ?_, _, _, upd_same, ?_, fun k => ?_⟩⟩)
      · exact Nat.lt_of_le_of_lt (show n + 1 ≤ 61 by omega) (by decide)
      · rw [upd_ne (ne_of_none eb un)]
        exact s4 _ _ (s3 _ _ (s1 _ _ eb))
      · split <;> omega
      · rw [tk, e, Bool.or_eq_true, hk k, decide_eq_true_iff]
        simp
  · rintro H ⟨s1, S, n, hD, hn, hk⟩
    rw [len, List.take_length] at hk
    exact fin H S n s1 hD (by omega) hk
/-- {row.place: row for row in rows} -/
def tabZ (xs : List V) (rs : List Row0) : List (Key × V) := List.zipWith (fun x r => ((Sum.inr (placeR r) : Key), x)) xs rs
theorem tabZ_at {xs : List V} {rs : List Row0} {j : Nat} {x : V} {r : Row0} (h1 : xs[j]? = some x) (h2 : rs[j]? = some r) : (tabZ xs rs)[j]? = some (Sum.inr (placeR r), x) := by
  rw [tabZ, List.getElem?_zipWith, h1, h2]
theorem dc_J {p : Addr} {D : Addr} {i : Nat} {σ : L2.St} {xs : List V} {rs : List Row0} {J : L2.It} {Qd : Hp → Prop} {tk tv : TE} (hJ : JA K H1 p xs J) (hR : RowsAt K a H1 xs rs) (few : rs.length ≤ 60) (un : H1 D = none) (nd : (rs.map placeR).Nodup)
    (key : ∀ x r H (Q : VK), r ∈ rs → RowAt K a H x r → Same H1 H → (∀ H', Same H H' → Q (.str (placeR r)) H') → tk ((σ.set i none).set i (some x)) H Q)
    (val : ∀ x r H (Q : VK), r ∈ rs → RowAt K a H x r → Same H1 H → (∀ H', Same H H' → Q x H') → tv ((σ.set i none).set i (some x)) H Q)
    (fin : ∀ H', Same H1 H' → H' D = some (.dK (tabZ xs rs)) → Qd H') :
    ∃ W : Nat → Nat → Hp → Prop, (∃ m, W 0 m (upd H1 D (.dK []))) ∧ ∀ i' m H, W i' m H →
      (J.stop i' H ∧ Qd H) ∨ (J.go i' H ∧ ∃ Nx : Hp → Prop, (∀ H', Nx H' → ∃ m', m' < m ∧ W (i' + 1) m' H') ∧ ∀ x H', J.yld i' H x H' → gName i x (wipe σ [i]) H' fun σ2 H2 => wipe σ2 [i] = wipe σ [i] ∧ tYes σ2 H2 fun b H3 =>
        if b = true then tk σ2 H3 fun y H4 => tv σ2 H4 fun z H5 => ∃ kvs k, y = kV k ∧ H5 D = some (.dK kvs) ∧ kvs.length < sizeLine ∧ Nx (upd H5 D (.dK (putK kvs k z))) else Nx H3) := by
  have len := hR.len
  refine walk_J (fun j H => Same H1 H ∧ H D = some (.dK ((tabZ xs rs).take j))) hJ ⟨same_new un, by rw [upd_same]; simp⟩ (fun _ _ z => z.1) ?_ ?_
  · rintro j x H Nx hx ⟨s1, hD⟩ nx
    obtain ⟨r, er, hr⟩ := hR.at_ hx
    have hm := List.mem_of_getElem? er
    have hj : j < rs.length := (List.getElem?_eq_some_iff.mp er).1
    refine ⟨by simp [wipe], ?_⟩
    dsimp only [tYes]
    refine iteT ?_
    show tk ((σ.set i none).set i (some x)) H _
    refine key x r H _ hm (hr.same s1) s1 fun H3 s3 => ?_
    refine val x r H3 _ hm (hr.same (s1.trans s3)) (s1.trans s3) fun H4 s4 => ⟨_, Sum.inr (placeR r), rfl, s4 _ _ (s3 _ _ hD), ?_, nx _ ⟨fun b o eb => ?_, ?_⟩⟩
    · rw [List.length_take]
      exact Nat.lt_of_le_of_lt (show _ ≤ 60 by omega) (by decide)
    · rw [upd_ne (ne_of_none eb un)]
      exact s4 _ _ (s3 _ _ (s1 _ _ eb))
    · have no : ((tabZ xs rs).take j).any (fun kv => decide (kv.1 = (Sum.inr (placeR r) : Key))) = false := by
        rw [Bool.eq_false_iff]
        intro h
        obtain ⟨kv, hkv, e⟩ := List.any_eq_true.mp h
        obtain ⟨m, hm', em⟩ := List.mem_take_iff_getElem.mp hkv
        have em2 : (tabZ xs rs)[m]? = some kv := by rw [← em]; simp
        have ml : m < j := by
          have := hm'
          omega
        have mr : m < rs.length := by omega
        have e3 := tabZ_at (xs := xs) (rs := rs) (j := m) (x := xs[m]) (r := rs[m]) (by simp) (by simp)
        rw [em2] at e3
        obtain rfl := Option.some.inj e3
        have e4 : placeR rs[m] = placeR r := by
          have := of_decide_eq_true e
          exact Sum.inr.inj this
        have e5 : (rs.map placeR)[m]? = (rs.map placeR)[j]? := by
          rw [List.getElem?_map, List.getElem?_map, er, List.getElem?_eq_getElem mr]
          simp [e4]
        have := (List.getElem?_inj (by rw [List.length_map]; exact mr) nd).mp e5
        omega
      rw [upd_same, putK, if_neg (by rw [no]; decide), List.take_add_one, tabZ_at hx er]
      rfl
  · rintro H ⟨s1, hD⟩
    have e : (tabZ xs rs).length = xs.length := by rw [tabZ, List.length_zipWith]; omega
    rw [← e, List.take_length] at hD
    exact fin H s1 hD
end
end K2

set_option Elab.async false
set_option linter.all false
set_option maxRecDepth 100000
set_option maxHeartbeats 4000000
namespace K2
open PySem L2 Lw TL SxT
abbrev nEd : List Str := ["self", "rows", "drops", "word", "head", "row"]
/-- what the edition's class stands on -/
structure Ae where
  cEd : Addr
  fEd : Addr
  dEd : FuncData
  fIe : Addr
  dIe : FuncData
  gA : Addr
  eA : FuncData
  gU : Addr
  eU : FuncData
  gR : Addr
  eR : FuncData
  gW : Addr
  eW : FuncData
  tD : Addr
structure EdT (K : PySem.W.Frag) (mg : Str → Option Value) (a : Ad) (b : Ae) : Prop where
  N : EdN K mg a
  are : Top K mg "_are_rows" sAreRows b.gA b.eA ["value"]
  unl : Top K mg "are_unlike_names" sUnlike b.gU b.eU ["value"]
  ring : Top K mg "_has_ring" sRing b.gR b.eR ["rows"]
  wrong : Top K mg "_wrong" sWrong b.gW b.eW ["rows", "drops"]
  F : FunD K "__init__" "Edition.__init__" (defArgs sEd) (defBody sEd) (defScope sEd) [.ref b.tD] [] b.fEd b.dEd
  dT : ∃ (o : Obj) (n : Nat), K.lookup b.tD = some o ∧ o.cls = .type "tuple" ∧ o.data = .seq #[] n
  cl : Cls K b.cEd
  no : ∀ n ∈ edFields, NoAttr K b.cEd n
  gIe : mg "InvalidEdition" = some (.ref a.cIe)
  ie : OexC K a.cIe
  ieF : Fun K "__init__" "InvalidEdition.__init__" sIe b.fIe b.dIe
  ieB : Binds K b.dIe ["self", "word"] []
  ieI : PySem.W.findIn K (.ref a.cIe) "__init__" = some (some (.ref b.fIe))
  ieT : PySem.W.typeIn K (.ref b.fIe) = some (.type "function")
  ieW : PySem.W.findIn K (.ref a.cIe) "word" = some none
section
variable {P : Program} {w : World} {K : PySem.W.Frag} {mg : Str → Option Value} {base : Heap} {a : Ad} {b : Ae} {fEq fStr : Addr} {dEq dStr : FuncData} {fR fA fN fG : Addr} {dR dA dN dG : FuncData}
theorem scIe : FnScope ["self", "word"] ["self", "word"] (defScope sIe) := ⟨rfl, rfl, rfl, by decide +kernel, rfl, by decide +kernel, by decide +kernel⟩
theorem EdT.okIe (E : EdT K mg a b) : FnOk P w K mg base CX0 1 b.fIe b.dIe ["self", "word"] (spErr a.cIe "word") := by
  refine E.ieF.ok scIe (fun vs H Q E h => ?_) (fun cdv A outer s H vs Q E' hr h => ?_)
  · obtain ⟨a, x, rfl, _⟩ := h
    rfl
  · obtain ⟨x, v, rfl, hx, fin⟩ := h
    exact ⟨_, pss_one (ps_ost (pv 0) (pv 1)), _, rfl, _, rfl, x, _, rfl, E.ie, E.ieW, .inl ⟨hx, fin⟩⟩
/-- sorted texts, each once, just those of a list -/
def Rises (zs l : List Str) : Prop := PyProof.Rows.sortedS zs = true ∧ zs.Nodup ∧ ∀ k, k ∈ zs ↔ k ∈ l
def nameR : Row0 → Str
  | .ask _ n _ => n
  | _ => Str.empty
def wordR : Row0 → Str
  | .note _ w _ => w
  | _ => Str.empty
/-- the text of an edition -/
def textE (rs : List Row0) (dz : List Str) : Str := Txt.join "\n" (Txt.join " " ("drops" :: dz) :: rs.map textR)
/-- an edition's attributes -/
structure EdAt (K : PySem.W.Frag) (H : Hp) (fs : List (Str × V)) (xs : List V) (rs : List Row0) (d : PyData) : Prop where
  rows : ∃ t, fs.lookup ("rows" : Str) = some (.ref t) ∧ SqT K H t xs
  drops : ∃ t dz, fs.lookup ("drops" : Str) = some (.ref t) ∧ SqT K H t (dz.map V.str) ∧ Rises dz (dropsL d) ∧ fs.lookup ("_text" : Str) = some (.str (textE rs dz))
  first : ∃ r rest, rs = r :: rest ∧ fs.lookup ("first" : Str) = some (.str (placeR r))
  names : ∃ t zs, fs.lookup ("names" : Str) = some (.ref t) ∧ SqT K H t (zs.map V.str) ∧ Rises zs ((rs.filter askB).map nameR)
  marks : ∃ t zs, fs.lookup ("marks" : Str) = some (.ref t) ∧ SqT K H t (zs.map V.str) ∧ Rises zs ((rs.filter gateB).map markR)
  words : ∃ t zs, fs.lookup ("words" : Str) = some (.ref t) ∧ SqT K H t (zs.map V.str) ∧ Rises zs ((rs.filter noteB).map wordR)
  table : ∃ t, fs.lookup ("_table" : Str) = some (.ref t) ∧ H t = some (.dK (tabZ xs rs))
  bare : ∀ g : Str, g ∉ edFields → fs.lookup g = none
def spEd (K : PySem.W.Frag) (a : Ad) (b : Ae) : Sp := fun vs H Q E => ∃ (e dx p : Addr) (v : V) (xs : List V) (rs : List Row0) (d : PyData), vs = [.ref e, .ref p, v] ∧ H e = some (.ins b.cEd dx []) ∧ SqA K H p xs ∧ RowsAt K a H xs rs ∧ (∀ r ∈ rs, RowGood r) ∧ rs.length ≤ 60 ∧ Dp K H v d ∧ fine d = true ∧ (dropsL d).length < 64 ∧
  (wrongF rs d = none → ∀ (H' : Hp) (fs : List (Str × V)), But e H H' → H' e = some (.ins b.cEd dx fs) → EdAt K H' fs xs rs d → Q .non H') ∧
  (∀ z, wrongF rs d = some z → ∀ (H' : Hp) (q : Addr), Same H H' → H q = none → H' q = some (.xd [("word", .str z)]) → E (.ref a.cIe) (some q) H')
/-! ### lengths -/
theorem join_len (y : Str) (l : List Str) : (Txt.join y l).length ≤ (l.map (·.length)).sum + l.length * y.length := by
  have e : Txt.join y l = y.join l := by
    show Builtin.Str.glued y l = _
    exact StrLaws.glued_eq_join ..
  rw [e]
  exact StrLaws.join_length_le y l
theorem ok4 {z : Str} (h : nameOk z = true) : z.length ≤ 4 := by
  obtain ⟨_, e, l⟩ := nameD_is (d := .str z) h
  cases e
  exact l
theorem words_many {r : Row0} (g : RowGood r) : (wordsR r).length ≤ 9 := by
  cases r with
  | ask p n ws =>
    have few : ws.length ≤ 3 := g.2.2.2.1
    have h : ∀ l : List (Str × Str), ((l.map fun w => [w.1, w.2]).flatten).length = 2 * l.length := by
      intro l
      induction l with
      | nil => rfl
      | cons a l ih => rw [List.map_cons, List.flatten_cons, List.length_append, ih]; simp only [List.length_cons, List.length_nil]; omega
    show ((ws.map fun w => [w.1, w.2]).flatten).length + 1 + 1 + 1 ≤ 9
    rw [h]
    omega
  | note p w t => show 4 ≤ 9; decide
  | gate p m n e => show 5 ≤ 9; decide
  | end_ p => show 2 ≤ 9; decide
theorem textR_len {r : Row0} (g : RowGood r) : (textR r).length ≤ 100 := by
  have h1 := join_len " " (wordsR r)
  have h2 := sum4 (ys := wordsR r) fun z hz => ok4 (good_words g z hz)
  have h3 := words_many g
  have e : (" " : Str).length = 1 := by decide
  rw [e] at h1
  show (Txt.join " " (wordsR r)).length ≤ 100
  omega
theorem sum_le {n : Nat} : ∀ {ys : List Str}, (∀ y ∈ ys, y.length ≤ n) → (ys.map (·.length)).sum ≤ n * ys.length
  | [], _ => by simp
  | y :: r, h => by
    have ih := sum_le (ys := r) fun z hz => h z (List.mem_cons_of_mem _ hz)
    have h1 := h y List.mem_cons_self
    rw [List.map_cons, List.sum_cons, List.length_cons, Nat.mul_add]
    omega
/-! ### while the object is made -/
theorem row_but {H H' : Hp} {e C dx : Addr} (he : H e = some (.ins C dx [])) (k : But e H H') {v : V} {r : Row0} (h : RowAt K a H v r) : RowAt K a H' v r := by
  obtain ⟨x, dy, fs, rfl, hx, hf, hb⟩ := h.ex
  have ne : x ≠ e := fun z => by
    rw [z, he] at hx
    have e1 : fs = [] := by
      injection hx with q
      injection q with _ _ q
      exact q.symm
    have := row_place (x := x) (dx := dy) hf
    rw [e1] at this
    cases this
  refine ⟨x, dy, fs, rfl, k _ _ hx ne, ?_, hb⟩
  cases r with
  | ask p n ws =>
    obtain ⟨h1, h2, ⟨wa, h3, h4⟩, h5⟩ := hf
    exact ⟨h1, h2, ⟨wa, h3, dp_but he k _ _ h4⟩, h5⟩
  | _ => exact hf
theorem rows_but {H H' : Hp} {e C dx : Addr} (he : H e = some (.ins C dx [])) (k : But e H H') : ∀ {vs : List V} {rs : List Row0}, RowsAt K a H vs rs → RowsAt K a H' vs rs
  | _, _, .nil => .nil
  | _, _, .cons h t => .cons (row_but he k h) (rows_but he k t)
structure Mid (K : PySem.W.Frag) (C e dx : Addr) (H H1 : Hp) (fs : List (Str × V)) (n : Nat) (L : List (Str × List V)) (M : List (Str × V)) : Prop where
  but : But e H H1
  at_ : H1 e = some (.ins C dx fs)
  len : fs.length ≤ n
  tup : ∀ q ∈ L, ∃ t, fs.lookup q.1 = some (.ref t) ∧ SqT K H1 t q.2
  sca : ∀ q ∈ M, fs.lookup q.1 = some q.2
  bare : ∀ g : Str, g ∉ edFields → fs.lookup g = none
theorem Mid.zero {C e dx : Addr} {H : Hp} (he : H e = some (.ins C dx [])) : Mid K C e dx H H [] 0 [] [] := ⟨fun _ _ h _ => h, he, Nat.le_refl _, fun _ h => (nomatch h), fun _ h => (nomatch h), fun _ _ => rfl⟩
theorem Mid.move {C e dx : Addr} {H H1 H2 : Hp} {fs : List (Str × V)} {n : Nat} {L : List (Str × List V)} {M : List (Str × V)} (m : Mid K C e dx H H1 fs n L M) (s : Same H1 H2) : Mid K C e dx H H2 fs n L M :=
  ⟨fun b o h ne => s _ _ (m.but b o h ne), s _ _ m.at_, m.len, fun q hq => let ⟨t, h1, h2⟩ := m.tup q hq; ⟨t, h1, same_tup s h2⟩, m.sca, m.bare⟩
theorem Mid.putS {C e dx : Addr} {H H1 : Hp} {fs : List (Str × V)} {n : Nat} {L : List (Str × List V)} {M : List (Str × V)} (m : Mid K C e dx H H1 fs n L M) (f : Str) (v : V) (nL : ∀ q ∈ L, q.1 ≠ f) (nM : ∀ q ∈ M, q.1 ≠ f) (hf : f ∈ edFields := by simp) :
    Mid K C e dx H (upd H1 e (.ins C dx (putF f v fs))) (putF f v fs) (n + 1) L ((f, v) :: M) := by
  have k : But e H1 (upd H1 e (.ins C dx (putF f v fs))) := fun b o h ne => by rw [upd_ne ne]; exact h
  refine ⟨fun b o h ne => k _ _ (m.but b o h ne) ne, upd_same, ?_, fun q hq => ?_, fun q hq => ?_, fun g hg => by rw [lookup_putF, if_neg (fun z : g = f => hg (by rw [z]; exact hf))]; exact m.bare g hg⟩
  · have := length_putF f v fs
    have := m.len
    omega
  · obtain ⟨t, h1, h2⟩ := m.tup q hq
    exact ⟨t, by rw [lookup_putF, if_neg (nL q hq)]; exact h1, But.tup m.at_ k h2⟩
  · rcases List.mem_cons.mp hq with rfl | hq
    · rw [lookup_putF, if_pos rfl]
    · rw [lookup_putF, if_neg (nM q hq)]
      exact m.sca q hq
theorem Mid.putT {C e dx : Addr} {H H1 : Hp} {fs : List (Str × V)} {n : Nat} {L : List (Str × List V)} {M : List (Str × V)} (m : Mid K C e dx H H1 fs n L M) (f : Str) {t : Addr} {ys : List V} (ht : SqT K H1 t ys) (nL : ∀ q ∈ L, q.1 ≠ f) (nM : ∀ q ∈ M, q.1 ≠ f) (hf : f ∈ edFields := by simp) :
    Mid K C e dx H (upd H1 e (.ins C dx (putF f (.ref t) fs))) (putF f (.ref t) fs) (n + 1) ((f, ys) :: L) M := by
  have k : But e H1 (upd H1 e (.ins C dx (putF f (.ref t) fs))) := fun b o h ne => by rw [upd_ne ne]; exact h
  have z := m.putS f (.ref t) nL nM hf
  refine ⟨z.but, z.at_, z.len, fun q hq => ?_, fun q hq => z.sca q (List.mem_cons_of_mem _ hq), z.bare⟩
  rcases List.mem_cons.mp hq with rfl | hq
  · exact ⟨t, by rw [lookup_putF, if_pos rfl], But.tup m.at_ k ht⟩
  · exact z.tup q hq
theorem rises_of {zs l : List Str} {S : Str → Bool} (h1 : PyProof.Rows.sortedS zs = true) (h2 : zs.Nodup) (h3 : ∀ k, k ∈ zs ↔ S k = true) (h4 : ∀ k, S k = true ↔ k ∈ l) : Rises zs l := ⟨h1, h2, fun k => (h3 k).trans (h4 k)⟩
theorem rises_perm {zs l : List Str} (h : zs.Perm l) (s : PyProof.Rows.sortedS zs = true) (nd : l.Nodup) : Rises zs l := ⟨s, h.nodup_iff.mpr nd, fun _ => h.mem_iff⟩
theorem wrong_none {rs : List Row0} {d : PyData} (h : wrongF rs d = none) : rs ≠ [] ∧ unlikeD d = true ∧ (rs.map placeR).Nodup := by
  unfold wrongF at h
  split at h
  · cases h
  split at h
  · cases h
  split at h
  · refine ⟨fun z => ?_, ?_, by assumption⟩
    · subst z
      simp at *
    · simp_all
  · cases h
theorem fld_text {H : Hp} {fs : List (Str × V)} {r : Row0} (h : fieldsOk K H fs r) : fs.lookup ("_text" : Str) = some (.str (textR r)) := by
  cases r with
  | ask p n ws => exact h.2.2.2
  | note p m n => exact h.2.2.2
  | gate p m n o => exact h.2.2.2.2
  | end_ p => exact h.2
theorem fld_ask {H : Hp} {fs : List (Str × V)} {r : Row0} (h : fieldsOk K H fs r) (e : askB r = true) : fs.lookup ("name" : Str) = some (.str (nameR r)) := by
  cases r with
  | ask p n ws => exact h.2.1
  | _ => cases e
theorem fld_gate {H : Hp} {fs : List (Str × V)} {r : Row0} (h : fieldsOk K H fs r) (e : gateB r = true) : fs.lookup ("mark" : Str) = some (.str (markR r)) := by
  cases r with
  | gate p m n o => exact h.2.1
  | _ => cases e
theorem fld_note {H : Hp} {fs : List (Str × V)} {r : Row0} (h : fieldsOk K H fs r) (e : noteB r = true) : fs.lookup ("word" : Str) = some (.str (wordR r)) := by
  cases r with
  | note p m n => exact h.2.1
  | _ => cases e
theorem scEd : FnScope nEd ["self", "rows", "drops"] (defScope sEd) := ⟨rfl, rfl, rfl, by decide +kernel, rfl, by decide +kernel, by decide +kernel⟩
abbrev tCol (P : Program) (w : World) (K : PySem.W.Frag) (C : Addr) (f : Str) : TE := tScx P w (fun σ H R => iList K (tVar 1) σ H R ∨ iTup K (tVar 1) σ H R) (gName 5) (tIsi K 5 C) (tFld K (tVar 5) f) [5]
theorem EdT.okEd (T : Txt K mg a) (R : RowF K a fEq fStr dEq dStr) (L : LeadsF K a fR fA fN fG dR dA dN dG) (D : EdT K mg a b) (strI : PySem.W.isFn K (.ref fStr) = true) (strAt : ∀ C ∈ rowCs a, PySem.W.findIn K (.ref C) "__str__" = some (some (.ref fStr))) : FnOk P w K mg base (L2.CX P w) 5 b.fEd b.dEd ["self", "rows", "drops"] (spEd K a b) := by
  refine D.F.ok scEd (fun vs H Q E h => ?_) (fun cdv A outer s H vs Q E hr h => ?_)
  · obtain ⟨e, dx, p, v, xs, rs, d, rfl, _⟩ := h
    rfl
  · obtain ⟨e, dx, p, v, xs, rs, d, rfl, he, hs, hR, gr, few, hd, hz, fewd, kN, kE⟩ := h
    have hr3 : Room 3 _ := hr.mono (by decide)
    have hr2 : Room 2 _ := hr.mono (by decide)
    have OW : FnOk P w K mg base CX0 3 b.gW b.eW ["rows", "drops"] (spWrong K a) := okWrong T R L D.N D.are.F D.are.b D.are.g D.unl.F D.unl.b D.unl.g D.ring.F D.ring.b D.ring.g D.wrong.F
    have OIe : FnOk P w K mg base CX0 1 b.fIe b.dIe ["self", "word"] (spErr a.cIe "word") := D.okIe
    have OS : FnOk P w K mg base CX0 1 fStr dStr ["self"] (spStrR K a) := R.okStr T
    refine ⟨_, pss_cons (ps_set (i := 3) scEd.nd rfl (Or.inl rfl) (pe_call OW hr3 rfl D.wrong.g D.wrong.F.kp D.wrong.b .nil pass0 (pa_cons (pv 1) (pa_cons (pv 2) pa_nil))))
      (pss_cons (ps_if (pt_cmpR op_notN (pv 3) pe_non rfl) (pss_one (ps_raise rfl (takes_of rfl rfl rfl rfl) (pmk_oex D.ie D.ieI D.ieT OIe hr2 D.ieB .nil pass0 rfl D.gIe (pa_cons (pv 3) pa_nil)))) pss_nil)
      (pss_cons (ps_fld (pv 0) (pe_callTy call_tuple_of (by rfl) T.tTuple PyProof.Rows.boot_tuple (pa_cons (pv 1) pa_nil)) rfl)
      (pss_cons (ps_fld (pv 0) (pe_callTy call_tuple_of (by rfl) T.tTuple PyProof.Rows.boot_tuple (pa_cons (pe_callB cr_sortedA (by rfl) D.N.sorted PyProof.Rows.boot_sorted (pa_cons (pv 2) pa_nil)) pa_nil)) rfl)
      (pss_cons (ps_fld (pv 0) (pe_fld (pe_ix ix_tup (pe_fld (pv 0) rfl) pe_int (fun _ _ => rfl)) rfl) rfl)
      (pss_cons (ps_fld (pv 0) (pe_callTy call_tuple_of (by rfl) T.tTuple PyProof.Rows.boot_tuple (pa_cons (pe_callB (cr_sortedX rfl) (by rfl) D.N.sorted PyProof.Rows.boot_sorted (pa_cons (pe_scx (own := [("row", 5)]) (g := gName 5) (tt := tIsi K 5 a.cAsk) (te := tFld K (tVar 5) "name") (by rfl) scEd.nd (pi_seq (pv 1))
          (blkOk_by (own := [("row", 5)]) (N := nEd) (sc := defScope sEd) (by decide +kernel)) (fun _ _ _ _ _ => pg_name (i := 5) scEd.nd rfl (Or.inl rfl)) (fun _ _ _ _ _ => pts_one (pt_val (pe_callB call_isi (by rfl) T.tIs PyProof.Rows.boot_isinstance (pa_cons (pv 5) (pa_cons (pe_glob (v := .ref a.cAsk) (by rfl) T.ask.g rfl) pa_nil))))) (fun _ _ _ _ _ => pe_fld (pv 5) rfl)) pa_nil)) pa_nil)) rfl)
      (pss_cons (ps_fld (pv 0) (pe_callTy call_tuple_of (by rfl) T.tTuple PyProof.Rows.boot_tuple (pa_cons (pe_callB (cr_sortedX rfl) (by rfl) D.N.sorted PyProof.Rows.boot_sorted (pa_cons (pe_scx (own := [("row", 5)]) (g := gName 5) (tt := tIsi K 5 a.cGate) (te := tFld K (tVar 5) "mark") (by rfl) scEd.nd (pi_seq (pv 1))
          (blkOk_by (own := [("row", 5)]) (N := nEd) (sc := defScope sEd) (by decide +kernel)) (fun _ _ _ _ _ => pg_name (i := 5) scEd.nd rfl (Or.inl rfl)) (fun _ _ _ _ _ => pts_one (pt_val (pe_callB call_isi (by rfl) T.tIs PyProof.Rows.boot_isinstance (pa_cons (pv 5) (pa_cons (pe_glob (v := .ref a.cGate) (by rfl) T.gate.g rfl) pa_nil))))) (fun _ _ _ _ _ => pe_fld (pv 5) rfl)) pa_nil)) pa_nil)) rfl)
      (pss_cons (ps_fld (pv 0) (pe_callTy call_tuple_of (by rfl) T.tTuple PyProof.Rows.boot_tuple (pa_cons (pe_callB (cr_sortedX rfl) (by rfl) D.N.sorted PyProof.Rows.boot_sorted (pa_cons (pe_scx (own := [("row", 5)]) (g := gName 5) (tt := tIsi K 5 a.cNote) (te := tFld K (tVar 5) "word") (by rfl) scEd.nd (pi_seq (pv 1))
          (blkOk_by (own := [("row", 5)]) (N := nEd) (sc := defScope sEd) (by decide +kernel)) (fun _ _ _ _ _ => pg_name (i := 5) scEd.nd rfl (Or.inl rfl)) (fun _ _ _ _ _ => pts_one (pt_val (pe_callB call_isi (by rfl) T.tIs PyProof.Rows.boot_isinstance (pa_cons (pv 5) (pa_cons (pe_glob (v := .ref a.cNote) (by rfl) T.note.g rfl) pa_nil))))) (fun _ _ _ _ _ => pe_fld (pv 5) rfl)) pa_nil)) pa_nil)) rfl)
      (pss_cons (ps_fld (pv 0) (pe_dc (own := [("row", 5)]) (g := gName 5) (tt := tYes) (tk := tFld K (tVar 5) "place") (tv := tVar 5) (by rfl) scEd.nd (pi_seq (pv 1))
          (blkOk_by (own := [("row", 5)]) (N := nEd) (sc := defScope sEd) (by decide +kernel)) (fun _ _ _ _ _ => pg_name (i := 5) scEd.nd rfl (Or.inl rfl)) (fun _ _ _ _ _ => pts_nil) (fun _ _ _ _ _ => pe_fld (pv 5) rfl) (fun _ _ _ _ _ => pv 5)) rfl)
      (pss_cons (ps_set (i := 4) scEd.nd rfl (Or.inl rfl) (pe_join pe_str (pe_lst (pa_cons pe_str (StX.pa_star (pe_fld (pv 0) rfl) pa_nil)))))
      (pss_one (ps_fld (pv 0) (pe_join pe_str (pe_lst (pa_cons (pv 4) (StX.pa_star (pe_lc (own := [("row", 5)]) (g := gName 5) (tt := tYes) (te := tCB (rStrOwn K fStr (spStrR K a) (fun _ _ _ => False)) (tCons (tVar 5) tNil)) (by rfl) scEd.nd (pi_seq (pv 1))
          (blkOk_by (own := [("row", 5)]) (N := nEd) (sc := defScope sEd) (by decide +kernel)) (fun _ _ _ _ _ => pg_name (i := 5) scEd.nd rfl (Or.inl rfl)) (fun _ _ _ _ _ => pts_nil)
          (fun _ _ _ _ _ => pe_callTy (call_strOwn OS hr3 strI R.strB pass0) (by rfl) T.tStr PyProof.Rows.boot_str (pa_cons (pv 5) pa_nil))) pa_nil)))) rfl))))))))))), ?_⟩
    have e3 : PyData → True := fun _ => trivial
    refine ⟨_, rfl, _, rfl, p, v, xs, rs, d, rfl, hs, hR, gr, few, hd, hz, fun H1 s1 => ?_⟩
    dsimp only [gName, tNext]
    refine ⟨_, rfl, rfl, _, rfl, ?_⟩
    cases ew : wrongF rs d with
    | some z =>
      refine iteT ⟨_, rfl, (by show 1 ≤ 1000; decide), fun x hx => ⟨x, _, rfl, upd_same, fun q n1 n2 => ⟨rfl, q, _, upd_same, by rw [upd_ne n2]; exact upd_same, ?_, ?_⟩⟩⟩
      · rwa [upd_ne n2] at n1
      · rw [err_heap hx n1 n2]
        have hq' : H1 q = none := by rwa [upd_ne n2] at n1
        exact kE z ew _ q (s1.trans (same_new hq')) (s1.free hq') upd_same
    | none =>
      refine iteF ?_
      rw [show vOpt none = V.non from rfl]
      dsimp only [tNext]
      obtain ⟨nonempty, ud, ndp⟩ := wrong_none ew
      obtain ⟨qd, zs, rfl, hzs, edr, ndz, _, nzs⟩ := unlike_seq hd hz ud
      have fz : zs.length < 64 := by rw [← edr]; exact fewd
      have m0 := (Mid.zero (K := K) he).move s1
      have lt {fs : List (Str × V)} {n : Nat} {L : List (Str × List V)} {M : List (Str × V)} {H2 : Hp} (m : Mid K b.cEd e dx H H2 fs n L M) (h : n < 10) : fs.length < 1000 := Nat.lt_of_le_of_lt m.len (Nat.lt_trans h (by decide))
      refine seq_cut (fun σ1 H2 => σ1 = [some (.ref e), some (.ref p), some (.ref qd), some .non, none, none] ∧ ∃ fs, Mid K b.cEd e dx H H2 fs 1 [("rows", xs)] []) ?after fun after => ?go
      case go =>
        refine ⟨_, rfl, p, xs, rfl, ?_⟩
        rcases hs.same s1 with hs1 | hs1
        · refine .inl ⟨hs1, fun l ul => ?_⟩
          have m1 := m0.move (same_new (o := .tup xs) ul)
          exact ⟨_, rfl, e, b.cEd, dx, _, rfl, m1.at_, D.cl, D.no _ (by simp), lt m1 (by decide), after _ _ ⟨rfl, _, m1.putT "rows" (SqT.of upd_same) (by (first | (simp; done) | (simp; decide))) (by (first | (simp; done) | (simp; decide)))⟩⟩
        · exact .inr ⟨hs1, _, rfl, e, b.cEd, dx, _, rfl, m0.at_, D.cl, D.no _ (by simp), lt m0 (by decide), after _ _ ⟨rfl, _, m0.putT "rows" hs1 (by (first | (simp; done) | (simp; decide))) (by (first | (simp; done) | (simp; decide)))⟩⟩
      case after =>
        rintro _ H2 ⟨rfl, fs, m⟩
        -- drops
        refine seq_cut (fun σ1 H2 => σ1 = [some (.ref e), some (.ref p), some (.ref qd), some .non, none, none] ∧ ∃ fs dz, Rises dz (dropsL d) ∧ dz.Perm zs ∧ Mid K b.cEd e dx H H2 fs 2 [("drops", dz.map V.str), ("rows", xs)] []) ?after2 fun after => ?go2
        case go2 =>
          refine ⟨_, rfl, qd, _, rfl, But.sqA he m.but hzs, fz, fun dz l pz sz ul => ?_⟩
          have m1 := m.move (same_new (o := .lst (dz.map V.str)) ul)
          refine ⟨l, _, rfl, .inl ⟨SqL.of upd_same, fun t ut => ?_⟩⟩
          have m2 := m1.move (same_new (o := .tup (dz.map V.str)) ut)
          exact ⟨_, rfl, e, b.cEd, dx, _, rfl, m2.at_, D.cl, D.no _ (by simp), lt m2 (by decide), after _ _ ⟨rfl, _, dz, rises_perm (by rw [edr]; exact pz) sz (by rw [edr]; exact ndz), pz, m2.putT "drops" (SqT.of upd_same) (by (first | (simp; done) | (simp; decide))) (by (first | (simp; done) | (simp; decide)))⟩⟩
        case after2 =>
          rintro _ H2 ⟨rfl, fs, dz, rz, pz, m⟩
          -- first
          obtain ⟨r0, rest, ers⟩ : ∃ r0 rest, rs = r0 :: rest := by
            cases rs with
            | nil => exact absurd rfl nonempty
            | cons r l => exact ⟨r, l, rfl⟩
          refine seq_cut (fun σ1 H2 => σ1 = [some (.ref e), some (.ref p), some (.ref qd), some .non, none, none] ∧ ∃ fs, Mid K b.cEd e dx H H2 fs 3 [("drops", dz.map V.str), ("rows", xs)] [("first", .str (placeR r0))]) ?after3 fun after => ?go3
          case go3 =>
            have hR2 := rows_but he m.but hR
            obtain ⟨tr, ltr, htr⟩ := m.tup ("rows", xs) (by simp)
            cases hR2 with
            | nil => cases ers
            | cons hx hrest =>
              injection ers with e1 e2
              subst e1 e2
              obtain ⟨y, dy, gs, rfl, hy, hf, hb⟩ := hx.ex
              refine ⟨_, rfl, e, b.cEd, dx, fs, _, rfl, m.at_, D.cl, D.no _ (by simp), ltr, tr, _, 0, _, rfl, rfl, htr, atI_nat (j := 0) rfl, ?_⟩
              exact ⟨y, _, dy, gs, _, rfl, hy, R.cls _ (cls_mem _), T.no _ (cls_mem _) _ (by simp), row_place (x := y) (dx := dy) hf, _, rfl, e, b.cEd, dx, _, rfl, m.at_, D.cl, D.no _ (by simp), lt m (by decide), after _ _ ⟨rfl, _, m.putS "first" _ (by (first | (simp; done) | (simp; decide))) (by (first | (simp; done) | (simp; decide)))⟩⟩
          case after3 =>
            rintro _ H2 ⟨rfl, fs, m⟩
            have isi : ∀ {x : V} {r : Row0} {H4 : Hp} {C : Addr} {f : Row0 → Bool} {Q : Bool → Hp → Prop}, RowAt K a H4 x r → (∀ r, PySem.W.kitOne K (.ref (clsR a r)) (.ref C) = some (f r)) → (Q (f r) H4) → tIsi K 5 C [some (.ref e), some (.ref p), some (.ref qd), some .non, none, some x] H4 Q := fun {x r H4 C f Q} hx kt q => by
              obtain ⟨y, dy, gs, rfl, hy, hf, hb⟩ := hx.ex
              exact ⟨_, rfl, _, _, _, _, _, rfl, .own C, R.ty (cls_mem r) hy, kt r, _, rfl, q⟩
            -- names
            refine seq_cut (fun σ1 H2 => σ1 = [some (.ref e), some (.ref p), some (.ref qd), some .non, none, none] ∧ ∃ fs zs4, Rises zs4 ((rs.filter askB).map nameR) ∧ Mid K b.cEd e dx H H2 fs 4 [("names", zs4.map V.str), ("drops", dz.map V.str), ("rows", xs)] [("first", .str (placeR r0))]) ?after4 fun after => ?go4
            case go4 =>
              have hR2 := rows_but he m.but hR
              refine seq_run rfl (But.sqA he m.but hs) fun J hJ DD un => scx_J askB nameR hJ hR2 few un (fun x r H3 Q3 hm hx s3 k => isi hx D.N.ask (k _ (Same.refl _))) (fun x r H3 Q3 hm ea hx s3 k => ?_) fun H3 S n s3 h3 hn hk => ?_
              · obtain ⟨y, dy, gs, rfl, hy, hf, hb⟩ := hx.ex
                exact ⟨_, rfl, y, _, dy, gs, _, rfl, hy, R.cls _ (cls_mem r), T.no _ (cls_mem r) _ (by simp), fld_ask hf ea, k _ (Same.refl _)⟩
              · refine ⟨DD, S, n, rfl, h3, by omega, fun zs4 l sz nd2 mem ln ul => ⟨l, _, rfl, .inl ⟨SqL.of upd_same, fun t ut => ?_⟩⟩⟩
                have m1 := m.move s3
                have m2 := m1.move (same_new (o := .lst (zs4.map V.str)) ul)
                have m3 := m2.move (same_new (o := .tup (zs4.map V.str)) ut)
                exact ⟨_, rfl, e, b.cEd, dx, _, rfl, m3.at_, D.cl, D.no _ (by simp), lt m3 (by decide), after _ _ ⟨rfl, _, zs4, rises_of sz nd2 mem hk, m3.putT "names" (SqT.of upd_same) (by (first | (simp; done) | (simp; decide))) (by (first | (simp; done) | (simp; decide)))⟩⟩
            case after4 =>
              rintro _ H2 ⟨rfl, fs, zs4, rz4, m⟩
              -- marks
              refine seq_cut (fun σ1 H2 => σ1 = [some (.ref e), some (.ref p), some (.ref qd), some .non, none, none] ∧ ∃ fs zs5, Rises zs5 ((rs.filter gateB).map markR) ∧ Mid K b.cEd e dx H H2 fs 5 [("marks", zs5.map V.str), ("names", zs4.map V.str), ("drops", dz.map V.str), ("rows", xs)] [("first", .str (placeR r0))]) ?after5 fun after => ?go5
              case go5 =>
                have hR2 := rows_but he m.but hR
                refine seq_run rfl (But.sqA he m.but hs) fun J hJ DD un => scx_J gateB markR hJ hR2 few un (fun x r H3 Q3 hm hx s3 k => isi hx D.N.gate (k _ (Same.refl _))) (fun x r H3 Q3 hm ea hx s3 k => ?_) fun H3 S n s3 h3 hn hk => ?_
                · obtain ⟨y, dy, gs, rfl, hy, hf, hb⟩ := hx.ex
                  exact ⟨_, rfl, y, _, dy, gs, _, rfl, hy, R.cls _ (cls_mem r), T.no _ (cls_mem r) _ (by simp), fld_gate hf ea, k _ (Same.refl _)⟩
                · refine ⟨DD, S, n, rfl, h3, by omega, fun zs5 l sz nd2 mem ln ul => ⟨l, _, rfl, .inl ⟨SqL.of upd_same, fun t ut => ?_⟩⟩⟩
                  have m1 := m.move s3
                  have m2 := m1.move (same_new (o := .lst (zs5.map V.str)) ul)
                  have m3 := m2.move (same_new (o := .tup (zs5.map V.str)) ut)
                  exact ⟨_, rfl, e, b.cEd, dx, _, rfl, m3.at_, D.cl, D.no _ (by simp), lt m3 (by decide), after _ _ ⟨rfl, _, zs5, rises_of sz nd2 mem hk, m3.putT "marks" (SqT.of upd_same) (by (first | (simp; done) | (simp; decide))) (by (first | (simp; done) | (simp; decide)))⟩⟩
              case after5 =>
                rintro _ H2 ⟨rfl, fs, zs5, rz5, m⟩
                -- words
                refine seq_cut (fun σ1 H2 => σ1 = [some (.ref e), some (.ref p), some (.ref qd), some .non, none, none] ∧ ∃ fs zs6, Rises zs6 ((rs.filter noteB).map wordR) ∧ Mid K b.cEd e dx H H2 fs 6 [("words", zs6.map V.str), ("marks", zs5.map V.str), ("names", zs4.map V.str), ("drops", dz.map V.str), ("rows", xs)] [("first", .str (placeR r0))]) ?after6 fun after => ?go6
                case go6 =>
                  have hR2 := rows_but he m.but hR
                  refine seq_run rfl (But.sqA he m.but hs) fun J hJ DD un => scx_J noteB wordR hJ hR2 few un (fun x r H3 Q3 hm hx s3 k => isi hx D.N.note (k _ (Same.refl _))) (fun x r H3 Q3 hm ea hx s3 k => ?_) fun H3 S n s3 h3 hn hk => ?_
                  · obtain ⟨y, dy, gs, rfl, hy, hf, hb⟩ := hx.ex
                    exact ⟨_, rfl, y, _, dy, gs, _, rfl, hy, R.cls _ (cls_mem r), T.no _ (cls_mem r) _ (by simp), fld_note hf ea, k _ (Same.refl _)⟩
                  · refine ⟨DD, S, n, rfl, h3, by omega, fun zs6 l sz nd2 mem ln ul => ⟨l, _, rfl, .inl ⟨SqL.of upd_same, fun t ut => ?_⟩⟩⟩
                    have m1 := m.move s3
                    have m2 := m1.move (same_new (o := .lst (zs6.map V.str)) ul)
                    have m3 := m2.move (same_new (o := .tup (zs6.map V.str)) ut)
                    exact ⟨_, rfl, e, b.cEd, dx, _, rfl, m3.at_, D.cl, D.no _ (by simp), lt m3 (by decide), after _ _ ⟨rfl, _, zs6, rises_of sz nd2 mem hk, m3.putT "words" (SqT.of upd_same) (by (first | (simp; done) | (simp; decide))) (by (first | (simp; done) | (simp; decide)))⟩⟩
                case after6 =>
                  rintro _ H2 ⟨rfl, fs, zs6, rz6, m⟩
                  -- the table
                  refine seq_cut (fun σ1 H2 => σ1 = [some (.ref e), some (.ref p), some (.ref qd), some .non, none, none] ∧ ∃ fs DD, H2 DD = some (.dK (tabZ xs rs)) ∧ Mid K b.cEd e dx H H2 fs 7 [("words", zs6.map V.str), ("marks", zs5.map V.str), ("names", zs4.map V.str), ("drops", dz.map V.str), ("rows", xs)] [("_table", .ref DD), ("first", .str (placeR r0))]) ?after7 fun after => ?go7
                  case go7 =>
                    have hR2 := rows_but he m.but hR
                    refine seq_run rfl (But.sqA he m.but hs) fun J hJ DD un => dc_J hJ hR2 few un ndp (fun x r H3 Q3 hm hx s3 k => ?_) (fun x r H3 Q3 hm hx s3 k => ⟨_, rfl, k _ (Same.refl _)⟩) fun H3 s3 h3 => ?_
                    · obtain ⟨y, dy, gs, rfl, hy, hf, hb⟩ := hx.ex
                      exact ⟨_, rfl, y, _, dy, gs, _, rfl, hy, R.cls _ (cls_mem r), T.no _ (cls_mem r) _ (by simp), row_place (x := y) (dx := dy) hf, k _ (Same.refl _)⟩
                    · have m3 := m.move s3
                      have ne : DD ≠ e := fun z => by rw [z, m3.at_] at h3; cases h3
                      exact ⟨_, rfl, e, b.cEd, dx, _, rfl, m3.at_, D.cl, D.no _ (by simp), lt m3 (by decide), after _ _ ⟨rfl, _, DD, by rw [upd_ne ne]; exact h3, m3.putS "_table" (.ref DD) (by (first | (simp; done) | (simp; decide))) (by (first | (simp; done) | (simp; decide)))⟩⟩
                  case after7 =>
                    rintro _ H2 ⟨rfl, fs, DD, hDD, m⟩
                    -- the head
                    obtain ⟨td, ltd, htd⟩ := m.tup ("drops", dz.map V.str) (by simp)
                    have dzl : dz.length < 64 := by rw [pz.length_eq]; exact fz
                    have dzo : ∀ z ∈ dz, nameOk z = true := fun z hz => nzs z (pz.mem_iff.mp hz)
                    have sdz := sum_le (n := 4) (ys := dz) fun z hz => ok4 (dzo z hz)
                    have hsum : (("drops" :: dz : List Str).map (·.length)).sum ≤ 5 + 4 * 64 := by
                      rw [List.map_cons, List.sum_cons]
                      have e5 : ("drops" : Str).length = 5 := by decide
                      omega
                    have lhead : (Txt.join " " ("drops" :: dz)).length ≤ 1000 := by
                      have h1 := join_len " " ("drops" :: dz)
                      have e : (" " : Str).length = 1 := by decide
                      rw [e, List.length_cons] at h1
                      omega
                    refine ⟨⟨_, rfl⟩, _, rfl, e, b.cEd, dx, fs, _, rfl, m.at_, D.cl, D.no "drops" (by simp), ltd, td, _, rfl, .inl htd, ?_, fun l ul => ?_⟩
                    · rw [List.append_nil, List.length_cons, List.length_map]
                      exact Nat.le_trans (show dz.length + 1 ≤ 65 by omega) (by decide)
                    · rw [List.append_nil]
                      have m1 := m.move (same_new (o := .lst (V.str "drops" :: dz.map V.str)) ul)
                      refine ⟨_, l, "drops" :: dz, rfl, rfl, .inl (SqL.of upd_same), ?_, ?_⟩
                      · have e : (" " : Str).length = 1 := by decide
                        rw [e, List.length_cons]
                        omega
                      have hDD1 : (upd H2 l (.lst (V.str "drops" :: dz.map V.str))) DD = some (.dK (tabZ xs rs)) := (same_new ul) _ _ hDD
                      generalize (upd H2 l (.lst (V.str "drops" :: dz.map V.str))) = H3 at m1 hDD1 ⊢
                      dsimp only [gName, tNext]
                      have hR3 := rows_but he m1.but hR
                      refine ⟨⟨_, rfl⟩, _, rfl, ?_⟩
                      refine seq_run rfl (But.sqA he m1.but hs) fun J hJ D7 u7 => lc_of_J (rs.map fun r => some (.str (textR r))) hJ u7 (turnsRowsY (fun r => .str (textR r)) hR3 (by rw [hR3.len]; omega) fun x r H4 Q4 hm hx s4 k => ?_) mono_yes fun H4 s4 h4 => ?_
                      · obtain ⟨y, dy, gs, rfl, hy, hf, hb⟩ := hx.ex
                        exact ⟨_, rfl, y, _, dy, gs, rfl, hy, strAt _ (cls_mem r), y, _, dy, gs, _, rfl, hy, cls_mem r, fld_text hf, _, rfl, k _ (Same.refl _)⟩
                      · rw [outRows] at h4
                        refine ⟨D7, _, rfl, .inr (SqL.of h4), ?_, fun l2 ul2 => ?_⟩
                        · rw [List.append_nil, List.length_cons, List.length_map]
                          exact Nat.le_trans (show rs.length + 1 ≤ 61 by omega) (by decide)
                        · rw [List.append_nil]
                          have m2 := (m1.move s4).move (same_new (o := .lst (V.str (Txt.join " " ("drops" :: dz)) :: rs.map fun r => V.str (textR r))) ul2)
                          have hDD2 := (same_new (o := .lst (V.str (Txt.join " " ("drops" :: dz)) :: rs.map fun r => V.str (textR r))) ul2) _ _ (s4 _ _ hDD1)
                          have et : (V.str (Txt.join " " ("drops" :: dz)) :: rs.map fun r => V.str (textR r)) = (Txt.join " " ("drops" :: dz) :: rs.map textR).map V.str := by
                            rw [List.map_cons, List.map_map]
                            rfl
                          rw [et] at m2 hDD2 ⊢
                          refine ⟨_, l2, Txt.join " " ("drops" :: dz) :: rs.map textR, rfl, rfl, .inl (SqL.of upd_same), ?_, ?_⟩
                          · have h1 := sum_le (n := 100) (ys := rs.map textR) fun z hz => by
                              obtain ⟨r, hr, rfl⟩ := List.mem_map.mp hz
                              exact textR_len (gr r hr)
                            rw [List.length_map] at h1
                            have e : ("\n" : Str).length = 1 := by decide
                            rw [e, List.map_cons, List.sum_cons, List.length_cons, List.length_map]
                            omega
                          · have m3 := m2.putS "_text" (.str (Txt.join "\n" (Txt.join " " ("drops" :: dz) :: rs.map textR))) (by (first | (simp; done) | (simp; decide))) (by (first | (simp; done) | (simp; decide)))
                            have neD : DD ≠ e := fun z => by rw [z, m2.at_] at hDD2; cases hDD2
                            refine ⟨_, rfl, e, b.cEd, dx, _, rfl, m2.at_, D.cl, D.no "_text" (by simp), lt m2 (by decide), ?_⟩
                            refine kN ew _ _ m3.but m3.at_ ⟨m3.tup ("rows", xs) (by simp), ?_, ⟨r0, rest, ers, m3.sca ("first", _) (by simp)⟩, ?_, ?_, ?_, ⟨DD, m3.sca ("_table", _) (by simp), by rw [upd_ne neD]; exact hDD2⟩, m3.bare⟩
                            · obtain ⟨t, q1, q2⟩ := m3.tup ("drops", dz.map V.str) (by simp)
                              exact ⟨t, dz, q1, q2, rz, m3.sca ("_text", _) List.mem_cons_self⟩
                            · obtain ⟨t, q1, q2⟩ := m3.tup ("names", zs4.map V.str) (by simp)
                              exact ⟨t, zs4, q1, q2, rz4⟩
                            · obtain ⟨t, q1, q2⟩ := m3.tup ("marks", zs5.map V.str) (by simp)
                              exact ⟨t, zs5, q1, q2, rz5⟩
                            · obtain ⟨t, q1, q2⟩ := m3.tup ("words", zs6.map V.str) (by simp)
                              exact ⟨t, zs6, q1, q2, rz6⟩
end
end K2

set_option Elab.async false
set_option linter.all false
set_option maxRecDepth 100000
set_option maxHeartbeats 1000000
namespace Lw
theorem iteTb {A B : Prop} {b : Bool} (e : b = true) (h : A) : if b = true then A else B := by rw [if_pos e]; exact h
theorem iteFb {A B : Prop} {b : Bool} (e : b = false) (h : B) : if b = true then A else B := by rw [if_neg (by rw [e]; exact Bool.false_ne_true)]; exact h
end Lw
namespace K2
open PySem L2 Lw TL SxT
/-- the edition's methods and its class -/
structure EdM (K : PySem.W.Frag) (mg : Str → Option Value) (cEd fRow fLen fEq fStr : Addr) (dRow dLen dEq dStr : FuncData) : Prop where
  g : mg "Edition" = some (.ref cEd)
  cl : Cls K cEd
  no : ∀ n ∈ edFields, NoAttr K cEd n
  rowF : Fun K "row" "Edition.row" sEdRow fRow dRow
  rowB : Binds K dRow ["self", "place"] []
  lenF : Fun K "__len__" "Edition.__len__" sEdLen fLen dLen
  lenB : Binds K dLen ["self"] []
  eqF : Fun K "__eq__" "Edition.__eq__" sEdEq fEq dEq
  eqB : Binds K dEq ["self", "other"] []
  strF : Fun K "__str__" "Edition.__str__" sEdStr fStr dStr
  strB : Binds K dStr ["self"] []
  isA : PySem.W.findIn K (.ref cEd) "__class__" = some (some (.builtin "object.__class__"))
  get : PySem.W.specialIn K (.builtin "object.__class__") "__get__" = some (some (.builtin "getset_descriptor.__get__"))
  tak : PySem.W.takesIn K (.builtin "object.__class__") = some true
  obj : PySem.W.mroIn K cEd (.type "object") = some true
  own : PySem.W.kitOne K (.ref cEd) (.ref cEd) = some true
  noEd : ∀ T ∈ (["tuple", "str", "list"] : List String), PySem.W.kitOne K (.type T) (.ref cEd) = some false
def spEdStr (cEd : Addr) : Sp := fun vs H Q _ => ∃ (p dx : Addr) (fs : List (Str × V)) (z : Str), vs = [.ref p] ∧ H p = some (.ins cEd dx fs) ∧ fs.lookup ("_text" : Str) = some (.str z) ∧ Q (.str z) H
def spEdLen (K : PySem.W.Frag) (cEd : Addr) : Sp := fun vs H Q _ => ∃ (p dx t : Addr) (fs : List (Str × V)) (xs : List V), vs = [.ref p] ∧ H p = some (.ins cEd dx fs) ∧ fs.lookup ("rows" : Str) = some (.ref t) ∧ SqT K H t xs ∧ Q (.int xs.length) H
def spEdEq (K : PySem.W.Frag) (cEd : Addr) : Sp := fun vs H Q _ => ∃ (p dx : Addr) (fs : List (Str × V)) (z : Str) (y : V), vs = [.ref p, y] ∧ H p = some (.ins cEd dx fs) ∧ fs.lookup ("_text" : Str) = some (.str z) ∧
  ((∃ (q dy : Addr) (gs : List (Str × V)) (z' : Str), y = .ref q ∧ H q = some (.ins cEd dy gs) ∧ gs.lookup ("_text" : Str) = some (.str z') ∧ Q (.bl (decide (z = z'))) H) ∨
    ∃ T, T ∈ (["tuple", "str", "list"] : List String) ∧ TyX K H y (.type T) ∧ Q (.bl false) H)
/-- the row of a place that is there -/
def spEdRow (cEd : Addr) : Sp := fun vs H Q _ => ∃ (p dx t : Addr) (fs : List (Str × V)) (kvs : List (Key × V)) (z : Str) (x : V), vs = [.ref p, .str z] ∧ H p = some (.ins cEd dx fs) ∧ fs.lookup ("_table" : Str) = some (.ref t) ∧ H t = some (.dK kvs) ∧ valV kvs (Sum.inr z) = some x ∧ Q x H
section
variable {P : Program} {w : World} {K : PySem.W.Frag} {mg : Str → Option Value} {base : Heap} {a : Ad} {cEd fRow fLen fEq fStr : Addr} {dRow dLen dEq dStr : FuncData}
theorem tab_val {xs : List V} {rs : List Row0} {j : Nat} {x : V} {r : Row0} (nd : (rs.map placeR).Nodup) (h1 : xs[j]? = some x) (h2 : rs[j]? = some r) : valV (tabZ xs rs) (Sum.inr (placeR r)) = some x := by
  induction xs generalizing rs j with
  | nil => simp at h1
  | cons x0 xs ih =>
    cases rs with
    | nil => simp at h2
    | cons r0 rs =>
      rw [List.map_cons, List.nodup_cons] at nd
      cases j with
      | zero =>
        obtain rfl := Option.some.inj h1
        obtain rfl := Option.some.inj h2
        simp [tabZ, valV]
      | succ j =>
        have h1' : xs[j]? = some x := by simpa using h1
        have h2' : rs[j]? = some r := by simpa using h2
        have ne : placeR r0 ≠ placeR r := fun z => nd.1 (by rw [z]; exact List.mem_map_of_mem (List.mem_of_getElem? h2'))
        have z := ih nd.2 h1' h2'
        simp only [tabZ, valV, List.zipWith_cons_cons] at z ⊢
        rw [List.find?_cons_of_neg (by simp [ne])]
        exact z
theorem scEdRow : FnScope ["self", "place"] ["self", "place"] (defScope sEdRow) := ⟨rfl, rfl, rfl, by decide +kernel, rfl, by decide +kernel, by decide +kernel⟩
theorem scEdLen : FnScope ["self"] ["self"] (defScope sEdLen) := ⟨rfl, rfl, rfl, by decide +kernel, rfl, by decide +kernel, by decide +kernel⟩
theorem scEdEq : FnScope ["self", "other"] ["self", "other"] (defScope sEdEq) := ⟨rfl, rfl, rfl, by decide +kernel, rfl, by decide +kernel, by decide +kernel⟩
theorem scEdStr : FnScope ["self"] ["self"] (defScope sEdStr) := ⟨rfl, rfl, rfl, by decide +kernel, rfl, by decide +kernel, by decide +kernel⟩
theorem EdM.ty (M : EdM K mg cEd fRow fLen fEq fStr dRow dLen dEq dStr) {H : Hp} {p dx : Addr} {fs : List (Str × V)} (h : H p = some (.ins cEd dx fs)) : TyX K H (.ref p) (.ref cEd) := .base (.ins h M.cl M.isA M.get M.tak M.obj)
theorem EdM.okStr (M : EdM K mg cEd fRow fLen fEq fStr dRow dLen dEq dStr) (T : Txt K mg a) : FnOk P w K mg base CX0 1 fStr dStr ["self"] (spEdStr cEd) := by
  refine M.strF.ok scEdStr (fun vs H Q E h => ?_) (fun cdv A outer s H vs Q E hr h => ?_)
  · obtain ⟨p, dx, fs, z, rfl, _⟩ := h
    rfl
  · obtain ⟨p, dx, fs, z, rfl, hp, hz, fin⟩ := h
    exact ⟨_, pss_one (ps_ret (pe_callTy SkE.call_str_str (by rfl) T.tStr PyProof.Rows.boot_str (pa_cons (pe_fld (pv 0) rfl) pa_nil))), _, rfl, p, cEd, dx, fs, _, rfl, hp, M.cl, M.no "_text" (by simp), hz, _, rfl, fin⟩
theorem EdM.okLen (M : EdM K mg cEd fRow fLen fEq fStr dRow dLen dEq dStr) (T : Txt K mg a) : FnOk P w K mg base CX0 1 fLen dLen ["self"] (spEdLen K cEd) := by
  refine M.lenF.ok scEdLen (fun vs H Q E h => ?_) (fun cdv A outer s H vs Q E hr h => ?_)
  · obtain ⟨p, dx, t, fs, xs, rfl, _⟩ := h
    rfl
  · obtain ⟨p, dx, t, fs, xs, rfl, hp, hz, ht, fin⟩ := h
    exact ⟨_, pss_one (ps_ret (pe_callB call_len_seq (by rfl) T.tLen PySem.boot_len (pa_cons (pe_fld (pv 0) rfl) pa_nil))), _, rfl, p, cEd, dx, fs, _, rfl, hp, M.cl, M.no "rows" (by simp), hz, t, xs, rfl, .inr ht, fin⟩
theorem EdM.okEq (M : EdM K mg cEd fRow fLen fEq fStr dRow dLen dEq dStr) (T : Txt K mg a) : FnOk P w K mg base CX0 1 fEq dEq ["self", "other"] (spEdEq K cEd) := by
  refine M.eqF.ok scEdEq (fun vs H Q E h => ?_) (fun cdv A outer s H vs Q E hr h => ?_)
  · obtain ⟨p, dx, fs, z, y, rfl, _⟩ := h
    rfl
  · obtain ⟨p, dx, fs, z, y, rfl, hp, hz, alt⟩ := h
    have na : NoAttr K cEd "_text" := M.no "_text" (by simp)
    refine ⟨_, pss_one (ps_ret (pe_and (pe_callB call_isi (by rfl) T.tIs PyProof.Rows.boot_isinstance (pa_cons (pv 1) (pa_cons (pe_glob (v := .ref cEd) (by rfl) M.g rfl) pa_nil))) (pe_one (pe_cmpR op_eq (pe_fld (pv 0) rfl) (pe_fld (pv 1) rfl) (nomark _))))), ?_⟩
    rcases alt with ⟨q, dy, gs, z', rfl, hq, hz', fin⟩ | ⟨S, hS, ty, fin⟩
    · refine ⟨_, rfl, _, _, _, _, _, rfl, .own cEd, M.ty hq, M.own, _, rfl, ?_⟩
      refine iteT ⟨_, rfl, p, cEd, dx, fs, _, rfl, hp, M.cl, na, hz, _, rfl, q, cEd, dy, gs, _, rfl, hq, M.cl, na, hz', rfl, ?_⟩
      have e : decide (V.str z = V.str z') = decide (z = z') := decide_eq_decide.mpr ⟨fun h => by cases h; rfl, fun h => by rw [h]⟩
      rw [e]
      exact fin
    · refine ⟨_, rfl, _, _, _, _, _, rfl, .own cEd, ty, M.noEd S hS, _, rfl, ?_⟩
      exact iteF fin
theorem EdM.okRow (M : EdM K mg cEd fRow fLen fEq fStr dRow dLen dEq dStr) (T : Txt K mg a) : FnOk P w K mg base CX0 2 fRow dRow ["self", "place"] (spEdRow cEd) := by
  refine M.rowF.ok scEdRow (fun vs H Q E h => ?_) (fun cdv A outer s H vs Q E hr h => ?_)
  · obtain ⟨p, dx, t, fs, kvs, z, x, rfl, _⟩ := h
    rfl
  · obtain ⟨p, dx, t, fs, kvs, z, x, rfl, hp, ht, hd, hv, fin⟩ := h
    have hu : (A.deeper (PyProof.Rows.envOfC (Str.ofString "Edition.row") (defScope sEdRow) s.heap.objs.size fRow cdv)).units + 1 < cLine := by
      have := hr.units
      omega
    refine ⟨_, pss_cons (ps_if (PW.pt (pw_or (pt_not (pt_val (pe_callB call_isi (by rfl) T.tIs PyProof.Rows.boot_isinstance (pa_cons (pv 1) (pa_cons (pe_bltn (v := .ty "str") (by rfl) T.tStr PyProof.Rows.boot_str rfl) pa_nil)))))
        (pw_or1 (pt_cmp (pc_dnotin hu (pv 1) (pe_fld (pv 0) rfl)) rfl)))) (pss_one ps_dead) pss_nil)
      (pss_one (ps_ret (pe_dget hu (pe_fld (pv 0) rfl) (pv 1) (fun _ _ => rfl)))), ?_⟩
    refine ⟨_, rfl, _, _, _, _, _, rfl, .ty "str", ty_data (K := K) (H := H) (d := .str z) (.str z), kit_str (no_dict (K := K) (H := H) (.str z)), _, rfl, ?_⟩
    refine iteFb (by rfl) ⟨_, rfl, _, rfl, p, cEd, dx, fs, _, rfl, hp, M.cl, M.no "_table" (by simp), ht, t, some x, rfl, .inl ⟨kvs, Sum.inr z, .inl hd, rfl, hv.symm⟩, _, rfl, ?_⟩
    refine iteF ?_
    exact ⟨_, rfl, p, cEd, dx, fs, _, rfl, hp, M.cl, M.no "_table" (by simp), ht, _, rfl, t, x, rfl, .inl ⟨kvs, Sum.inr z, .inl hd, rfl, hv.symm⟩, fin⟩
end
end K2

set_option Elab.async false
set_option linter.all false
set_option maxRecDepth 100000
set_option maxHeartbeats 4000000
namespace SxT
open PySem PySem.Spec PyProof.Rows L2 Sx
/-! ### {y for x in .. for y in ..}: texts, two fors -/
abbrev duo (el ta ia tb ib : Expr) (fa fb : List Expr) (sc : Scope) (ps : Pos) : Expr := .SetComp el [⟨ta, ia, fa, 0⟩, ⟨tb, ib, fb, 0⟩] sc ps
theorem duo_first (el ta ia tb ib : Expr) (fa fb : List Expr) (sc : Scope) (ps : Pos) (src out : Value) (en : Env) : compTurn (duo el ta ia tb ib fa fb sc ps) 0 src out en = (do
    standAt ia.pos
    match ← pyNext src with
    | none => pure (.done .next)
    | some got =>
      letOwnedTupleGo ta src got
      assign ta en got
      let mut good := true
      for c in fa do
        if good then good ← isTrue c en (eval c en)
      if good then
        let more ← eval ib en
        standAt ib.pos
        let more ← foldedSetIterable ib en more
        let _ ← runOwn (.compStart (duo el ta ia tb ib fa fb sc ps) 1 (← holding [more] (pyIter more)) out en) en
      again (.compLoop (duo el ta ia tb ib fa fb sc ps) 0 src out en)) := by rfl
theorem duo_second (el ta ia tb ib : Expr) (fa fb : List Expr) (sc : Scope) (ps : Pos) (src out : Value) (en : Env) : compTurn (duo el ta ia tb ib fa fb sc ps) 1 src out en = (do
    standAt ib.pos
    match ← pyNext src with
    | none => pure (.done .next)
    | some got =>
      letOwnedTupleGo tb src got
      assign tb en got
      let mut good := true
      for c in fb do
        if good then good ← isTrue c en (eval c en)
      if good then
        (do let y ← eval el en; standAt el.pos; let _ ← call (.builtin "set.add") [out, y])
      again (.compLoop (duo el ta ia tb ib fa fb sc ps) 1 src out en)) := by rfl
section
variable {prog : Program} {w : World} {A : Around} {R : Result → Shared → Prop} {s : Shared} {el ta ia tb ib : Expr} {fa fb : List Expr} {sc : Scope} {ps : Pos} {src out : Value} {en : Env}
/-- what a raise would ask -/
abbrev wishE (prog : Program) (w : World) (A : Around) (en : Env) (R : Result → Shared → Prop) : Value → Shared → Prop := notedBy (model prog w) A en fun e t => R (.error e) t
abbrev asked (en : Env) (fs : List Expr) : Sem Bool := forIn fs true fun c r => if r = true then do let good ← isTrue c en (eval c en); pure (ForInStep.yield good) else pure (ForInStep.yield r)
theorem duo_outer (plain : ∀ x, foldedSetIterable ib en x = pure x) (Pv : Nat → Shared → Prop)
    (turn : ∀ n s, Pv n s → wpAny (model prog w) A (pyNext src) (fun got s1 => match got with
      | none => R (.ok .next) s1
      | some v => wpAny (model prog w) A (letOwnedTupleGo ta src v) (fun _ s2 => wpAny (model prog w) A (assign ta en v) (fun _ s3 => wpAny (model prog w) A (asked en fa) (fun good s4 =>
          if good = true then wpAny (model prog w) A (eval ib en) (fun x s5 => wpAny (model prog w) A (pyIter x) (fun it s6 => codeAny (model prog w) A (.compStart (duo el ta ia tb ib fa fb sc ps) 1 it out en) (fun r t => match r with
                | .ok _ => ∃ m, m < n ∧ Pv m t
                | .error _ => False) s6) (wishE prog w A en R) s5) (wishE prog w A en R) s4
          else ∃ m, m < n ∧ Pv m s4) (wishE prog w A en R) s3) (wishE prog w A en R) s2) (wishE prog w A en R) s1) (wishE prog w A en R) s)
    (n : Nat) (h : Pv n s) : codeAny (model prog w) A (.compLoop (duo el ta ia tb ib fa fb sc ps) 0 src out en) R s := by
  refine codeAny_loop rfl Pv (fun n s p => ?_) n h
  show wpAny _ A ((compTurn (duo el ta ia tb ib fa fb sc ps) 0 src out en).onRaise (fun x => do noteFrame x en; theTreesLotGoes x)) _ _ s
  refine wpAny_noted ?_
  rw [duo_first]
  refine wpAny_bind (wpAny_standAt (wpAny_bind (wpAny_mono (turn n s p) (fun got s1 h1 => ?_) fun _ _ z => z)))
  cases got with
  | none => exact wpAny_pure h1
  | some v =>
    refine wpAny_bind (wpAny_mono h1 (fun _ s2 h2 => wpAny_bind (wpAny_mono h2 (fun _ s3 h3 => wpAny_bind (wpAny_mono h3 (fun good s4 h4 => ?_) fun _ _ z => z)) fun _ _ z => z)) fun _ _ z => z)
    cases good with
    | false => exact wpAny_pure ⟨rfl, h4⟩
    | true =>
      refine wpAny_bind (wpAny_mono h4 (fun x s5 h5 => ?_) fun _ _ z => z)
      refine wpAny_bind (wpAny_standAt (wpAny_bind (wpAny_of_eq (plain x) (wpAny_bind (wpAny_holding (wpAny_mono h5 (fun it s6 h6 => ?_) fun _ _ z => z))))))
      refine wpAny_bind (wpAny_runOwn ?_)
      rw [Around.mark_none]
      refine codeAny_mono h6 fun r t hr => ?_
      cases r with
      | ok f => first | exact wpAny_pure ⟨rfl, hr⟩ | exact wpAny_bind (wpAny_pure (wpAny_pure ⟨rfl, hr⟩))
      | error e => exact hr.elim
theorem duo_inner (Pv : Nat → Shared → Prop)
    (turn : ∀ n s, Pv n s → wpAny (model prog w) A (pyNext src) (fun got s1 => match got with
      | none => R (.ok .next) s1
      | some v => wpAny (model prog w) A (letOwnedTupleGo tb src v) (fun _ s2 => wpAny (model prog w) A (assign tb en v) (fun _ s3 => wpAny (model prog w) A (asked en fb) (fun good s4 =>
          if good = true then wpAny (model prog w) A (eval el en) (fun x s5 => wpAny (model prog w) A (call (.builtin "set.add") [out, x]) (fun _ t => ∃ m, m < n ∧ Pv m t) (wishE prog w A en R) s5) (wishE prog w A en R) s4
          else ∃ m, m < n ∧ Pv m s4) (wishE prog w A en R) s3) (wishE prog w A en R) s2) (wishE prog w A en R) s1) (wishE prog w A en R) s)
    (n : Nat) (h : Pv n s) : codeAny (model prog w) A (.compLoop (duo el ta ia tb ib fa fb sc ps) 1 src out en) R s := by
  refine codeAny_loop rfl Pv (fun n s p => ?_) n h
  show wpAny _ A ((compTurn (duo el ta ia tb ib fa fb sc ps) 1 src out en).onRaise (fun x => do noteFrame x en; theTreesLotGoes x)) _ _ s
  refine wpAny_noted ?_
  rw [duo_second]
  refine wpAny_bind (wpAny_standAt (wpAny_bind (wpAny_mono (turn n s p) (fun got s1 h1 => ?_) fun _ _ z => z)))
  cases got with
  | none => exact wpAny_pure h1
  | some v =>
    refine wpAny_bind (wpAny_mono h1 (fun _ s2 h2 => wpAny_bind (wpAny_mono h2 (fun _ s3 h3 => wpAny_bind (wpAny_mono h3 (fun good s4 h4 => ?_) fun _ _ z => z)) fun _ _ z => z)) fun _ _ z => z)
    cases good with
    | false => exact wpAny_pure ⟨rfl, h4⟩
    | true => exact wpAny_bind (wpAny_bind (wpAny_mono h4 (fun x s5 h5 => wpAny_bind (wpAny_standAt (wpAny_bind (wpAny_mono h5 (fun _ t h6 => wpAny_pure (wpAny_pure ⟨rfl, h6⟩)) fun _ _ z => z)))) fun _ _ z => z))
theorem duo_start (now : codeAny (model prog w) A (.compLoop (duo el ta ia tb ib fa fb sc ps) 1 src out en) R s)
    (late : wpAny (model prog w) A (pyIter src) (fun it t => codeAny (model prog w) A (.compLoop (duo el ta ia tb ib fa fb sc ps) 1 it out en) R t) (wishE prog w A en R) s) :
    codeAny (model prog w) A (.compStart (duo el ta ia tb ib fa fb sc ps) 1 src out en) R s := by
  refine codeAny_of_tree ?_
  show wpAny _ _ ((compStart (duo el ta ia tb ib fa fb sc ps) 1 src out en).onRaise (fun x => do noteFrame x en; standAt theWindowsPlace)) _ _ s
  refine wpAny_notedAt ?_
  unfold compStart
  show wpAny _ _ (ask >>= _) _ _ s
  refine wpAny_bind (wpAny_askSetting (wpAny_ite ?_))
  split
  · first | exact wpAny_bind (wpAny_pure (wpAny_pure (And.intro rfl now))) | exact wpAny_pure (And.intro rfl now)
  · first
      | exact wpAny_bind (wpAny_rule (wpAny_bind (wpAny_standAt (wpAny_bind (wpAny_mono late (fun it t h => wpAny_pure (And.intro rfl h)) fun _ _ z => z)))))
      | (refine wpAny_bind (wpAny_rule ?_); show wpAny _ _ (standAt ib.pos >>= _) _ _ s; exact wpAny_bind (wpAny_standAt (wpAny_bind (wpAny_mono late (fun it t h => wpAny_pure (And.intro rfl h)) fun _ _ z => z))))
end
section
variable {X : Cx}
/-- {y for x in xs if .. for y in ys if ..} -/
def tScx2 (P : Program) (w : World) (wi : TI) (g : TG) (tt : TT) (wj : TI) (gj : TG) (tj : TT) (te : TE) (vs us : List Nat) : TE := fun σ H Q => wi σ H fun J H1 => ∀ D, H1 D = none →
  ∃ W : Nat → Nat → Hp → Prop, (∃ m, W 0 m (upd H1 D (SetXO P w D (fun _ => false) 0))) ∧ ∀ i m H, W i m H →
    (J.stop i H ∧ Q (.ref D) H) ∨
    (J.go i H ∧ ∃ Nx : Hp → Prop, (∀ H', Nx H' → ∃ m', m' < m ∧ W (i + 1) m' H') ∧ ∀ x H', J.yld i H x H' →
      g x (wipe σ vs) H' fun σ2 H2 => wipe σ2 vs = wipe σ vs ∧ tt σ2 H2 fun b H3 => if b = true then wj σ2 H3 (fun I H4 => ∃ V : Nat → Nat → Hp → Prop, (∃ m, V 0 m H4) ∧ ∀ j k H, V j k H →
          (I.stop j H ∧ Nx H) ∨
          (I.go j H ∧ ∃ Ny : Hp → Prop, (∀ H', Ny H' → ∃ k', k' < k ∧ V (j + 1) k' H') ∧ ∀ y H', I.yld j H y H' →
            gj y (wipe σ2 us) H' fun σ3 H5 => wipe σ3 us = wipe σ2 us ∧ tj σ3 H5 fun b H6 => if b = true then te σ3 H6 (TurnX P w D Ny) else Ny H6)) else Nx H3)
variable {el tg it tg2 it2 : Expr} {fs fs2 : List Expr} {scope : Scope} {own : List (PySem.Str × Nat)} {us : List Nat} {pos : Pos} {wi wj : TI} {g gj : TG} {tt tj : TT} {te : TE}
theorem pe_scx2 (calm : X.calm = true) (nd : X.N.Nodup) (hi : PI X tg it wi) (ok : BlkOk X.N X.env.scope scope own) (sub : ∀ i ∈ us, i ∈ own.map (·.2))
    (hg : ∀ s H C cl fp, PG (Blk X scope s H C cl fp) tg g) (ht : ∀ s H C cl fp, PTs (Blk X scope s H C cl fp) fs tt) (hj : ∀ s H C cl fp, PI (Blk X scope s H C cl fp) tg2 it2 wj) (hg2 : ∀ s H C cl fp, PG (Blk X scope s H C cl fp) tg2 gj)
    (ht2 : ∀ s H C cl fp, PTs (Blk X scope s H C cl fp) fs2 tj) (he : ∀ s H C cl fp, PE (Blk X scope s H C cl fp) el te) (hs : ∀ x, foldedSetIterable it X.env x = pure x := by intro _; rfl) (hs2 : ∀ env x, foldedSetIterable it2 env x = pure x := by intro _ _; rfl) :
    PE X (.SetComp el [⟨tg, it, fs, 0⟩, ⟨tg2, it2, fs2, 0⟩] scope pos) (tScx2 X.prog X.w wi g tt wj gj tj te (own.map (·.2)) us) := by
  refine ⟨fun pins s σ H Q I h => ?_⟩
  rw [PpSet.eval_SetComp]
  have captured : ∀ y ∈ scope.names, y.2 = .free → ∃ c, X.env.cells.lookup y.1 = some c := fun y hy e => (ok.free y hy e).elim (fun z => I.ok.has _ (.inl z)) fun z => I.ok.has _ (.inr z)
  refine wpAny_comprehension_free (use := none) rfl hs (closure_ok captured) ok.kind (fun y hy e => by rw [ok.uniq y hy, e]) (thn (hi.run pins s σ H _ I h) fun xv s1 q1 => thn q1 fun itv s2 q2 => ?_)
  obtain ⟨ia, fp, tn, J, H2, ei, I2, T, st2, f2, q⟩ := q2
  subst ei
  refine PpSet.newSet_ok (newEnv_comp ?_)
  generalize eD : s2.heap.objs.size = D
  have freeD : H2 D = none := I2.hok.fresh (Nat.le_of_eq eD)
  obtain ⟨W, ⟨m0, w0⟩, turn⟩ := q D freeD
  generalize es3 : ({ s2 with heap := s2.heap.push { cls := .type "set", dict := none, data := .set #[] 0 (.fresh 0 0 (!X.w.params.followText "set-order")) } } : Shared) = s3
  generalize eH3 : upd H2 D (SetXO X.prog X.w D (fun _ => false) 0) = H3 at w0
  have heap3 : s3.heap = s2.heap.push { cls := .type "set", dict := none, data := .set #[] 0 (.fresh 0 0 (!X.w.params.followText "set-order")) } := by rw [← es3]
  have I3 : Inv X pins σ H3 s3 := by
    rw [← es3, ← eH3]
    refine I2.laid (t' := s2.toks) (fun b o e => Heap.get?_push_of_some _ e) (Nat.le_of_eq eD) (setX_new ?_)
    rw [← eD]
    exact freshX _ _
  have below : ∀ b ∈ fp, b < s2.heap.objs.size := fun b hb => let ⟨_, e, _⟩ := T.obj _ _ st2 b hb; Heap.lt_size e
  have f3 : ∀ b ∈ fp, FpOk X pins H3 b ∧ b < s3.heap.objs.size := fun b hb => by
    have lt := below b hb
    refine ⟨⟨?_, (f2 b hb).2⟩, ?_⟩
    · rw [← eH3, upd_ne (by rw [← eD]; exact Nat.ne_of_lt lt)]
      exact (f2 b hb).1
    · rw [heap3, Heap.size_push]
      exact Nat.lt_succ_of_lt lt
  have st3 : tn 0 s3.heap := T.keep _ _ _ st2 fun b _ o e => by rw [heap3]; exact Heap.get?_push_of_some _ e
  have I4 := block_start I3 ok nd f3
  show codeAny _ _ (.compStart (duo el tg it tg2 it2 fs fs2 scope pos) 0 (.ref ia) (.ref D) (compEnvC scope (cellsFrom (s3.heap.objs.size + 1) scope.names (cloFrom X.env.cells scope.names [])) s3.heap.objs.size X.env)) (compPost (model X.prog X.w) X.A X.xe none (EP X pins σ Q) (.ref D) s3.heap.objs.size) { s3 with heap := pushCells (s3.heap.push { cls := .type "dict", data := .dict #[] }) scope.names }
  generalize cellsFrom (s3.heap.objs.size + 1) scope.names (cloFrom X.env.cells scope.names []) = cl at I4 ⊢
  have pg := hg s3 H3 s3.heap.objs.size cl fp
  have pt := ht s3 H3 s3.heap.objs.size cl fp
  have pe := he s3 H3 s3.heap.objs.size cl fp
  have pj := hj s3 H3 s3.heap.objs.size cl fp
  have pg2 := hg2 s3 H3 s3.heap.objs.size cl fp
  have pt2 := ht2 s3 H3 s3.heap.objs.size cl fp
  unfold Blk at pg pt pe pj pg2 pt2
  generalize ece : compEnvC scope cl s3.heap.objs.size X.env = ce at I4 pg pt pe pj pg2 pt2 ⊢
  have atC : ce.locals = s3.heap.objs.size := by rw [← ece]; rfl
  generalize es4 : ({ s3 with heap := pushCells (s3.heap.push { cls := .type "dict", data := .dict #[] }) scope.names } : Shared) = s4 at I4 ⊢
  have st4 : tn 0 s4.heap := T.keep _ _ _ st3 fun b _ o e => by rw [← es4]; exact pushCells_keeps _ _ _ _ (Heap.get?_push_of_some _ e)
  have still : ∀ {σ' : L2.St} {H' : Hp} {s' : Shared}, Inv (X.blk s3 H3 scope ce fp) [] σ' H' s' → (∀ b ∈ fp, H' b = none) → ∀ b ∈ fp, FpOk (X.blk s3 H3 scope ce fp) [] H' b := fun {σ' H' s'} J' un b hb =>
    ⟨un b hb, (J'.ok.exf b hb).1, J'.ok.exfs b hb, .inl hb, fun x c e => (J'.ok.exf b hb).2 x c e, fun p hp => absurd (show p ∈ ([] : List (Addr × Obj)) ++ [] from hp) (by simp)⟩
  refine PpSet.codeAny_compStart_set ?loop (T.self X.A 0 _ _ _ st4 ?loop)
  refine duo_outer (hs2 ce) (fun n s' => ∃ i H', Inv (X.blk s3 H3 scope ce fp) [] (wipe σ (own.map (·.2))) H' s' ∧ tn i s'.heap ∧ (∀ b ∈ fp, H' b = none) ∧ W i n H') ?_ m0 ⟨0, H3, I4, st4, fun b hb => (f3 b hb).1.1, w0⟩
  rintro n s5 ⟨i, H5, I5, st5, un5, w5⟩
  rcases turn i n H5 w5 with ⟨stop, fin⟩ | ⟨go, Nx, next, step⟩
  · -- the end: back in the def
    refine thnF (T.done (X.blk s3 H3 scope ce fp) rfl rfl rfl calm i [] s5 _ H5 (fun _ _ => False) I5 (still I5 un5) st5 stop) fun r s6 ⟨er, I6⟩ => ?_
    subst er
    have I7 : Inv X pins σ H5 s6 := I3.call' (ch := fp) I6.os I6.base I6.hok I6.bare fun b hb => ⟨(f3 b hb).1.2.2.2.1, (f3 b hb).1.2.1, (f3 b hb).1.2.2.2.2.1, (f3 b hb).1.2.2.2.2.2⟩
    have unC : H5 s3.heap.objs.size = none := by
      have z : H5 ce.locals = none := I6.free
      rwa [atC] at z
    obtain ⟨m, ns, _⟩ := I6.loc
    have ns : s6.heap.Ns ce.locals m := ns
    rw [atC] at ns
    refine ⟨m, ns, fun h'' sb => ?_⟩
    obtain ⟨f0, f1, _, fr3, fr4, fr5⟩ := I3.fpOk (Nat.le_refl _) unC
    exact ⟨.ref D, H5, I7.turned (t' := s6.toks) (fun b o hb e => (sb.2 b hb).trans e) f0 f1 fr3 fr4 fr5, rfl, fin⟩
  · refine thnF (T.item (X.blk s3 H3 scope ce fp) rfl rfl rfl calm i [] s5 _ H5 (fun _ _ => False) I5 (still I5 un5) st5 go) fun r s6 ⟨u, er, q6⟩ => ?_
    subst er
    refine thnF q6 fun _ s7 ⟨x, H7, I7, r7, y7, st7, un7⟩ => ?_
    have I7' := I7.pinned (still I7 un7) (T.obj _ _ st7)
    refine thnF (pg.run _ s7 _ H7 x u _ I7' r7 (step x H7 y7)) fun _ s8 ⟨σ8, H8, I8, same, q8⟩ => ?_
    refine thnF (pt.run _ s8 σ8 H8 _ I8 q8) fun b s9 ⟨H9, I9, q9⟩ => ?_
    have back : ∀ {σ9 : L2.St} {s' : Shared} {H' : Hp}, Inv (X.blk s3 H3 scope ce fp) ([] ++ pinsAt fp s7.heap) σ9 H' s' → (wipe σ (own.map (·.2))).length = σ9.length → (∀ (j : Nat) v, (wipe σ (own.map (·.2)))[j]? = some (some v) → σ9[j]? = some (some v)) → Nx H' →
        ∃ m, m < n ∧ ∃ i H', Inv (X.blk s3 H3 scope ce fp) [] (wipe σ (own.map (·.2))) H' s' ∧ tn i s'.heap ∧ (∀ b ∈ fp, H' b = none) ∧ W i m H' := fun {σ9 s' H'} I' len keep nx => by
      obtain ⟨m', lt, w'⟩ := next H' nx
      have pin : ∀ b ∈ fp, ∀ o, s7.heap.get? b = some o → s'.heap.get? b = some o ∧ H' b = none := fun b hb o e =>
        let z := I'.pin (b, o) (List.mem_append_right _ (List.mem_append_right _ (mem_pinsAt hb e)))
        ⟨z.1, z.2.1⟩
      refine ⟨m', lt, i + 1, H', (I'.unpinned (pins := [])).weak len keep, T.keep _ _ _ st7 fun b hb o e => (pin b hb o e).1, fun b hb => ?_, w'⟩
      obtain ⟨o, e, _⟩ := T.obj _ _ st7 b hb
      exact (pin b hb o e).2
    have len8 : (wipe σ (own.map (·.2))).length = σ8.length := by rw [← same, wipe_length]
    have keep8 : ∀ (j : Nat) v, (wipe σ (own.map (·.2)))[j]? = some (some v) → σ8[j]? = some (some v) := fun j v e => by
      rw [← same] at e
      exact (wipe_some e).1
    have keepU : ∀ (j : Nat) v, (wipe σ (own.map (·.2)))[j]? = some (some v) → (wipe σ8 us)[j]? = some (some v) := fun j v e => by
      rw [← same] at e
      obtain ⟨e1, e2⟩ := wipe_some e
      rw [wipe_out fun z => e2 (sub j z)]
      exact e1
    cases b with
    | false =>
      simp only [Bool.false_eq_true, if_false] at q9 ⊢
      exact back I9 len8 keep8 q9
    | true =>
      simp only [if_true] at q9 ⊢
      refine thnF (pj.run _ s9 σ8 H9 _ I9 q9) fun xv s10 hx => thnF hx fun itv s11 h11 => ?_
      obtain ⟨ib, fq, tm, J2, H11, e11, I11, T2, st11, f11, V, ⟨m1, v1⟩, turn2⟩ := h11
      subst e11
      have still2 : ∀ {H' : Hp}, (∀ b ∈ fq, H' b = none) → ∀ b ∈ fq, FpOk (X.blk s3 H3 scope ce fp) ([] ++ pinsAt fp s7.heap) H' b := fun un b hb => ⟨un b hb, (f11 b hb).2⟩
      refine duo_start ?inner (T2.self X.A 0 _ _ _ st11 ?inner)
      refine duo_inner (fun k s' => ∃ j H', Inv (X.blk s3 H3 scope ce fp) ([] ++ pinsAt fp s7.heap) (wipe σ8 us) H' s' ∧ tm j s'.heap ∧ (∀ b ∈ fq, H' b = none) ∧ V j k H') ?_ m1 ⟨0, H11, I11.weak (wipe_length _ _) (fun j v e => (wipe_some e).1), st11, fun b hb => (f11 b hb).1, v1⟩
      rintro k s12 ⟨j, H12, I12, st12, un12, v12⟩
      rcases turn2 j k H12 v12 with ⟨stop2, nx⟩ | ⟨go2, Ny, next2, step2⟩
      · refine thnF (T2.done (X.blk s3 H3 scope ce fp) rfl rfl rfl calm j _ s12 (wipe σ8 us) H12 (fun _ _ => False) I12 (still2 un12) st12 stop2) fun r s13 ⟨er, I13⟩ => ?_
        subst er
        exact back I13 (len8.trans (wipe_length σ8 us).symm) keepU nx
      · refine thnF (T2.item (X.blk s3 H3 scope ce fp) rfl rfl rfl calm j _ s12 (wipe σ8 us) H12 (fun _ _ => False) I12 (still2 un12) st12 go2) fun r s13 ⟨u2, er, q13⟩ => ?_
        subst er
        refine thnF q13 fun _ s14 ⟨y, H14, I14, r14, y14, st14, un14⟩ => ?_
        have I14' := I14.pinned (still2 un14) (T2.obj _ _ st14)
        refine thnF (pg2.run _ s14 (wipe σ8 us) H14 y u2 _ I14' r14 (step2 y H14 y14)) fun _ s15 ⟨σ15, H15, I15, same2, q15⟩ => ?_
        refine thnF (pt2.run _ s15 σ15 H15 _ I15 q15) fun b2 s16 ⟨H16, I16, q16⟩ => ?_
        have back2 : ∀ {s' : Shared} {H' : Hp}, Inv (X.blk s3 H3 scope ce fp) (([] ++ pinsAt fp s7.heap) ++ pinsAt fq s14.heap) σ15 H' s' → Ny H' →
            ∃ m, m < k ∧ ∃ j H', Inv (X.blk s3 H3 scope ce fp) ([] ++ pinsAt fp s7.heap) (wipe σ8 us) H' s' ∧ tm j s'.heap ∧ (∀ b ∈ fq, H' b = none) ∧ V j m H' := fun {s' H'} I' ny => by
          obtain ⟨m', lt, w'⟩ := next2 H' ny
          have pin : ∀ b ∈ fq, ∀ o, s14.heap.get? b = some o → s'.heap.get? b = some o ∧ H' b = none := fun b hb o e =>
            let z := I'.pin (b, o) (List.mem_append_right _ (List.mem_append_right _ (mem_pinsAt hb e)))
            ⟨z.1, z.2.1⟩
          refine ⟨m', lt, j + 1, H', I'.unpinned.weak (by rw [← same2, wipe_length]) (fun j v e => by rw [← same2] at e; exact (wipe_some e).1), T2.keep _ _ _ st14 fun b hb o e => (pin b hb o e).1, fun b hb => ?_, w'⟩
          obtain ⟨o, e, _⟩ := T2.obj _ _ st14 b hb
          exact (pin b hb o e).2
        cases b2 with
        | false =>
          simp only [Bool.false_eq_true, if_false] at q16 ⊢
          exact back2 I16 q16
        | true =>
          simp only [if_true] at q16 ⊢
          refine thnF (pe.run _ s16 σ15 H16 _ I16 q16) fun z s17 ⟨yv, H17, I17, r17, kk, S0, n0, ey, at0, room, ny⟩ => ?_
          subst ey
          exact add_text (X := X.blk s3 H3 scope ce fp) I17 at0 room r17 fun s18 I18 => back2 I18 ny
end
end SxT

set_option Elab.async false
set_option linter.all false
set_option maxRecDepth 100000
set_option maxHeartbeats 1000000
/-! sorted of a list of pairs of a text and a bool. -/
namespace SxT
open PySem PyProof.Rows L2 Lw
def wayE (w : PySem.Str × Bool) : PyData := .tuple [.str w.1, .bool w.2]
/-- as Python sorts them -/
def sortW (ws : List (PySem.Str × Bool)) : List (PySem.Str × Bool) := ws.mergeSort (PySem.W.dataLe false wayE)
def rSortedW (K : PySem.W.Frag) : List V → Hp → VK → Prop := fun vs H Q => ∃ (a : Addr) (xs : List V) (ws : List (PySem.Str × Bool)), vs = [V.ref a] ∧ SqL K H a xs ∧ DpAll K H xs (ws.map wayE) ∧ ws.length ≤ 1000 ∧
  ∀ (ys : List V) (p : Addr), DpAll K H ys ((sortW ws).map wayE) → H p = none → Q (.ref p) (upd H p (.lst ys))
section
variable {X : Cx} {pins : List (Addr × Obj)} {σ : L2.St} {H : Hp} {s : Shared}
theorem way_reads (I : Inv X pins σ H s) {v : V} {u : Value} {w : PySem.Str × Bool} (h : Dp X.K H v (wayE w)) (r : RelV v u) : ∃ as, Reads s.heap u (wayE w) as := by
  unfold wayE at h
  cases h with
  | @tup p xs _ hs ha =>
  cases ha with
  | cons h0 ha =>
  cases ha with
  | cons h1 ha =>
  cases ha
  cases h0
  cases h1
  cases r
  obtain ⟨its, rv, hl, hsz⟩ := I.tuple hs
  obtain ⟨o, ho, hc, n, hd⟩ := hl
  cases rv with
  | cons r0 rv =>
  cases rv with
  | cons r1 rv =>
  cases rv
  obtain ⟨t0, rfl⟩ := r0
  obtain rfl := r1
  exact ⟨_, .tuple ho hc hd (.cons (.str _ _) (.cons (.bool _) .nil))⟩
theorem each_ways (I : Inv X pins σ H s) : ∀ {xs : List V} {its : List Value} {ws : List (PySem.Str × Bool)}, Vals xs its → DpAll X.K H xs (ws.map wayE) →
    PySem.W.EachIs (fun v (b : V × PySem.Str × Bool) => RelV b.1 v ∧ Dp X.K H b.1 (wayE b.2)) its (xs.zip ws) ∧ PySem.W.EachIs (fun v (b : V × PySem.Str × Bool) => ∃ as, Reads s.heap v (wayE b.2) as) its (xs.zip ws) ∧ (xs.zip ws).map (·.2) = ws ∧ xs.length = ws.length
  | [], _, [], .nil, _ => ⟨.nil, .nil, rfl, rfl⟩
  | x :: xs, _, w :: ws, .cons r rs, h => by
    cases h with
    | cons h1 h2 =>
      obtain ⟨a, b, c, d⟩ := each_ways I rs h2
      exact ⟨.cons ⟨r, h1⟩ a, .cons (way_reads I h1 r) b, by rw [List.zip_cons_cons, List.map_cons, c], congrArg (· + 1) d⟩
  | [], _, _ :: _, _, h => by cases h
  | _ :: _, _, [], _, h => by cases h
theorem ways_back {K : PySem.W.Frag} : ∀ {out : List Value} {bs : List (V × PySem.Str × Bool)}, PySem.W.EachIs (fun v (b : V × PySem.Str × Bool) => RelV b.1 v ∧ Dp K H b.1 (wayE b.2)) out bs → Vals (bs.map (·.1)) out ∧ DpAll K H (bs.map (·.1)) ((bs.map (·.2)).map wayE)
  | _, _, .nil => ⟨.nil, .nil⟩
  | _, _, .cons h t => by
    obtain ⟨a, b⟩ := ways_back t
    exact ⟨.cons h.1 a, .cons h.2 b⟩
end
theorem cr_sortedW {X : Cx} (hu : X.A.units + 8 < cLine) : CallR X (.builtin "sorted") (rSortedW X.K) := by
  intro pins s σ H vs us Q I r h
  obtain ⟨a, xs, ws, rfl, hs, hd, few, q⟩ := h
  obtain ⟨its, rv, hl, hsz⟩ := I.list hs
  rw [Vals.ref1 r]
  obtain ⟨e1, e2, e3, e4⟩ := each_ways I rv hd
  have lb : (xs.zip ws).length = ws.length := by rw [List.length_zip, e4, Nat.min_self]
  refine PySem.W.sorted_data (enc := fun b : V × PySem.Str × Bool => wayE b.2) hl.isList e1 e2 (PySem.W.AllAlike.of fun b b' => rfl) (PySem.W.Sortable.tuples fun b => ⟨_, _, rfl⟩) (by rw [lb, sizeLine_eq]; omega) (fun b _ => ?_) fun out ho eo => ?_
  · show X.A.units + 2 + (wayE b.2).depth < cLine
    have : (wayE b.2).depth ≤ 2 := by simp [wayE, PyData.depth, PyData.depthAll]
    omega
  · obtain ⟨v1, d1⟩ := ways_back eo
    have em : ((xs.zip ws).mergeSort (PySem.W.dataLe false fun b : V × PySem.Str × Bool => wayE b.2)).map (·.2) = sortW ws := by
      have z := List.map_mergeSort (r := PySem.W.dataLe false fun b : V × PySem.Str × Bool => wayE b.2) (s := PySem.W.dataLe false wayE) (f := fun b : V × PySem.Str × Bool => b.2) (l := xs.zip ws) (fun a _ b _ => rfl)
      rw [e3] at z
      exact z
    rw [em] at d1
    obtain ⟨ep, he'⟩ := sortedAll_at s.heap its out.toArray
    have hlen : (((xs.zip ws).mergeSort (PySem.W.dataLe false fun b : V × PySem.Str × Bool => wayE b.2)).map (·.1)).length ≤ sizeLine := by
      rw [List.length_map, List.length_mergeSort, lb, sizeLine_eq]; omega
    exact ⟨.ref (s.heap.objs.size + 1), upd H (s.heap.objs.size + 1) (.lst _), I.laid (fun x x1 => sortedAll_old) (Nat.le_succ _) ⟨hlen, out, ep, v1, he'⟩, rfl, q _ _ d1 (I.hok.fresh (Nat.le_succ _))⟩
end SxT

set_option Elab.async false
set_option linter.all false
set_option maxHeartbeats 1000000
namespace Lw
open PySem PySem.Spec PyProof.Rows
/-! sorted texts, each once, are told by what is among them -/
def leS (x y : PySem.Str) : Prop := ltCps y.cps.toList x.cps.toList = false
theorem leS_iff {x y : PySem.Str} : leS x y ↔ x.cps.toList ≤ y.cps.toList := by
  unfold leS
  rw [ltCps_eq, decide_eq_false_iff_not]
  exact Iff.rfl
theorem leS_trans {x y z : PySem.Str} (h1 : leS x y) (h2 : leS y z) : leS x z := leS_iff.mpr (List.le_trans (leS_iff.mp h1) (leS_iff.mp h2))
theorem leS_anti {x y : PySem.Str} (h1 : leS x y) (h2 : leS y x) : x = y := by
  have z : x.cps.toList = y.cps.toList := List.le_antisymm (leS_iff.mp h1) (leS_iff.mp h2)
  cases x
  cases y
  simp only [Str.mk.injEq]
  exact Array.toList_inj.mp z
theorem rising_pair : ∀ {l : List PySem.Str} {p : PySem.Str}, risingS p l = true → (p :: l).Pairwise leS
  | [], p, _ => by simp
  | x :: r, p, h => by
    have h : (!ltCps x.cps.toList p.cps.toList && risingS x r) = true := h
    rw [Bool.and_eq_true, Bool.not_eq_true'] at h
    have ih := rising_pair h.2
    have px : leS p x := h.1
    refine List.pairwise_cons.mpr ⟨fun y hy => ?_, ih⟩
    rcases List.mem_cons.mp hy with rfl | hy
    · exact px
    · exact leS_trans px ((List.pairwise_cons.mp ih).1 y hy)
theorem sorted_pair : ∀ {l : List PySem.Str}, sortedS l = true → l.Pairwise leS
  | [], _ => .nil
  | x :: r, h => rising_pair (l := r) (p := x) h
theorem sorted_eq : ∀ {l m : List PySem.Str}, l.Pairwise leS → m.Pairwise leS → l.Nodup → m.Nodup → (∀ k, k ∈ l ↔ k ∈ m) → l = m
  | [], [], _, _, _, _, _ => rfl
  | [], y :: m, _, _, _, _, h => by have := (h y).mpr List.mem_cons_self; cases this
  | x :: l, [], _, _, _, _, h => by have := (h x).mp List.mem_cons_self; cases this
  | x :: l, y :: m, hl, hm, nl, nm, h => by
    obtain ⟨a1, a2⟩ := List.pairwise_cons.mp hl
    obtain ⟨b1, b2⟩ := List.pairwise_cons.mp hm
    obtain ⟨c1, c2⟩ := List.nodup_cons.mp nl
    obtain ⟨d1, d2⟩ := List.nodup_cons.mp nm
    have e : x = y := by
      rcases List.mem_cons.mp ((h x).mp List.mem_cons_self) with e | hx
      · exact e
      · rcases List.mem_cons.mp ((h y).mpr List.mem_cons_self) with e | hy
        · exact e.symm
        · exact leS_anti (a1 y hy) (b1 x hx)
    subst e
    rw [sorted_eq a2 b2 c2 d2 fun k => ?_]
    constructor
    · intro hk
      rcases List.mem_cons.mp ((h k).mp (List.mem_cons_of_mem _ hk)) with rfl | z
      · exact absurd hk c1
      · exact z
    · intro hk
      rcases List.mem_cons.mp ((h k).mpr (List.mem_cons_of_mem _ hk)) with rfl | z
      · exact absurd hk d1
      · exact z
end Lw

set_option Elab.async false
set_option linter.all false
set_option maxRecDepth 100000
set_option maxHeartbeats 1000000
/-! walks over things that are told by others -/
namespace K2
open PySem L2 Lw TL SxT
section
variable {P : Program} {w : World} {K : PySem.W.Frag} {H1 : Hp} {α : Type}
/-- things of a list or a tuple, each told by another -/
structure Els (Rl : Hp → V → α → Prop) (H : Hp) (xs : List V) (as : List α) : Prop where
  len : xs.length = as.length
  at_ : ∀ (j : Nat) (x : V), xs[j]? = some x → ∃ a : α, as[j]? = some a ∧ Rl H x a
structure Stays (Rl : Hp → V → α → Prop) : Prop where
  on : ∀ {H H' x a}, Same H H' → Rl H x a → Rl H' x a
theorem Els.same {Rl : Hp → V → α → Prop} (m : Stays Rl) {H H' : Hp} {xs : List V} {as : List α} (h : Els Rl H xs as) (s : Same H H') : Els Rl H' xs as :=
  ⟨h.len, fun j x e => let ⟨a, e1, r⟩ := h.at_ j x e; ⟨a, e1, m.on s r⟩⟩
/-- [g(a) for a in as if c(a)] -/
theorem els_J {Rl : Hp → V → α → Prop} (m : Stays Rl) {p : Addr} {D : Addr} {i : Nat} {σ : L2.St} {xs : List V} {as : List α} {J : L2.It} {Qd : Hp → Prop} {tt : TT} {te : TE} (c : α → Bool) (g : α → V) (hJ : JA K H1 p xs J) (hR : Els Rl H1 xs as) (few : as.length ≤ 1000) (un : H1 D = none)
    (test : ∀ x a H (R : Bool → Hp → Prop), a ∈ as → Rl H x a → Same H1 H → (∀ H', Same H H' → R (c a) H') → tt ((σ.set i none).set i (some x)) H R)
    (el : ∀ x a H (Q : VK), a ∈ as → c a = true → Rl H x a → Same H1 H → (∀ H', Same H H' → Q (g a) H') → te ((σ.set i none).set i (some x)) H Q)
    (fin : ∀ H', Same H1 H' → H' D = some (.lst ((as.filter c).map g)) → Qd H') :
    ∃ W : Nat → Nat → Hp → Prop, (∃ m, W 0 m (upd H1 D (.lst []))) ∧ ∀ i' m H, W i' m H →
      (J.stop i' H ∧ Qd H) ∨ (J.go i' H ∧ ∃ Nx : Hp → Prop, (∀ H', Nx H' → ∃ m', m' < m ∧ W (i' + 1) m' H') ∧ ∀ x H', J.yld i' H x H' → gName i x (wipe σ [i]) H' fun σ2 H2 => wipe σ2 [i] = wipe σ [i] ∧ tt σ2 H2 fun b H3 =>
        if b = true then te σ2 H3 fun y H4 => ∃ acc, H4 D = some (.lst acc) ∧ acc.length < sizeLine ∧ Nx (upd H4 D (.lst (acc ++ [y]))) else Nx H3) := by
  refine walk_J (fun j H => Same H1 H ∧ H D = some (.lst (((as.take j).filter c).map g))) hJ ⟨same_new un, by rw [upd_same]; simp⟩ (fun _ _ z => z.1) ?_ ?_
  · rintro j x H Nx hx ⟨s1, hD⟩ nx
    obtain ⟨a, ea, ha⟩ := hR.at_ j x hx
    have hm := List.mem_of_getElem? ea
    have hj : j < as.length := (List.getElem?_eq_some_iff.mp ea).1
    have tk : (as.take (j + 1)).filter c = (as.take j).filter c ++ (if c a = true then [a] else []) := by
      rw [List.take_add_one, ea, List.filter_append]
      cases e : c a <;> simp [e]
    refine ⟨by simp [wipe], ?_⟩
    show tt ((σ.set i none).set i (some x)) H _
    refine test x a H _ hm (m.on s1 ha) s1 fun H3 s3 => ?_
    cases e : c a with
    | false =>
      refine iteF (nx _ ⟨s1.trans s3, ?_⟩)
      rw [tk, e]
      simpa using s3 _ _ hD
    | true =>
      refine iteT (el x a H3 _ hm e (m.on (s1.trans s3) ha) (s1.trans s3) fun H4 s4 => ⟨_, s4 _ _ (s3 _ _ hD), ?_, nx _ ⟨fun b o eb => ?_, ?_⟩⟩)
      · rw [List.length_map]
        have := List.length_filter_le c (as.take j)
        rw [List.length_take] at this
        exact Nat.lt_of_le_of_lt (show _ ≤ 1000 by omega) (by decide)
      · rw [upd_ne (ne_of_none eb un)]
        exact s4 _ _ (s3 _ _ (s1 _ _ eb))
      · rw [upd_same, tk, e, List.map_append]
        rfl
  · rintro H ⟨s1, hD⟩
    rw [hR.len, List.take_length] at hD
    exact fin H s1 hD
theorem tup_hide {q D : Addr} {H : Hp} {ys : List V} {o : HO} (h : SqT K H q ys) (hD : H D = some o) (n1 : ∀ zs, o ≠ .tup zs) (n2 : ∀ u zs, o ≠ .frz u (.tup zs)) : SqT K (hide D H) q ys := by
  rcases h with (h | ⟨u, h⟩) | h
  · have ne : q ≠ D := fun z => by rw [z, hD] at h; exact n1 _ (Option.some.inj h)
    exact .inl (.inl (by rw [hide_ne ne]; exact h))
  · have ne : q ≠ D := fun z => by rw [z, hD] at h; exact n2 _ _ (Option.some.inj h)
    exact .inl (.inr ⟨u, by rw [hide_ne ne]; exact h⟩)
  · exact .inr h
theorem hide_sub {D : Addr} {H : Hp} : Same (hide D H) H := fun b o e => by
  unfold hide at e
  split at e
  · cases e
  · exact e
theorem hide_put {D : Addr} {H H' : Hp} {o : HO} (s : Same (hide D H) H') : Same (hide D H) (upd H' D o) := fun b u e => by
  have ne : b ≠ D := fun z => by rw [z, hide_same] at e; cases e
  rw [upd_ne ne]
  exact s _ _ e
theorem same_hide {D : Addr} {H1 H : Hp} (un : H1 D = none) (s : Same H1 H) : Same H1 (hide D H) := fun b o e => by
  rw [hide_ne (ne_of_none e un)]
  exact s _ _ e
/-- [part for a in as for part in parts(a)], parts texts in a tuple -/
theorem els2_J {Rl : Hp → V → α → Prop} (m : Stays Rl) {p : Addr} {D : Addr} {i k : Nat} {vs : List Nat} {σ : L2.St} (hv : ∀ x, wipe ((wipe σ vs).set i (some x)) vs = wipe σ vs) (hk : ∀ x y, ((wipe ((wipe σ vs).set i x) [k]).set k y)[k]? = some y) {xs : List V} {as : List α} {J : L2.It} {Qd : Hp → Prop} {wj : TI} (ys : α → List Str) (hJ : JA K H1 p xs J) (hR : Els Rl H1 xs as) (few : ((as.map ys).flatten).length ≤ 1000) (un : H1 D = none)
    (iter : ∀ x a H (R : L2.It → Hp → Prop), a ∈ as → Rl H x a → Same H1 H → (∀ H' q, Same H H' → SqT K H' q ((ys a).map V.str) → R (Itt K q) H') → wj ((wipe σ vs).set i (some x)) H R)
    (fin : ∀ H', Same H1 H' → H' D = some (.lst (((as.map ys).flatten).map V.str)) → Qd H') :
    ∃ W : Nat → Nat → Hp → Prop, (∃ m, W 0 m (upd H1 D (.lst []))) ∧ ∀ i' m H, W i' m H →
      (J.stop i' H ∧ Qd H) ∨ (J.go i' H ∧ ∃ Nx : Hp → Prop, (∀ H', Nx H' → ∃ m', m' < m ∧ W (i' + 1) m' H') ∧ ∀ x H', J.yld i' H x H' → gName i x (wipe σ vs) H' fun σ2 H2 => wipe σ2 vs = wipe σ vs ∧ tYes σ2 H2 fun b H3 =>
        if b = true then wj σ2 H3 fun J1 H4 => ∃ W1 : Nat → Nat → Hp → Prop, (∃ m, W1 0 m H4) ∧ ∀ j k' H, W1 j k' H →
          (J1.stop j H ∧ Nx H) ∨ (J1.go j H ∧ ∃ Nx1 : Hp → Prop, (∀ H', Nx1 H' → ∃ k2, k2 < k' ∧ W1 (j + 1) k2 H') ∧ ∀ x H', J1.yld j H x H' → gName k x (wipe σ2 [k]) H' fun σ3 H5 => wipe σ3 [k] = wipe σ2 [k] ∧ tYes σ3 H5 fun b H6 =>
            if b = true then tVar k σ3 H6 fun y H7 => ∃ acc, H7 D = some (.lst acc) ∧ acc.length < sizeLine ∧ Nx1 (upd H7 D (.lst (acc ++ [y]))) else Nx1 H6)
        else Nx H3) := by
  refine walk_J (fun j H => Same H1 H ∧ H D = some (.lst ((((as.take j).map ys).flatten).map V.str))) hJ ⟨same_new un, by rw [upd_same]; simp⟩ (fun _ _ z => z.1) ?_ ?_
  · rintro j x H Nx hx ⟨s1, hD⟩ nx
    obtain ⟨a, ea, ha⟩ := hR.at_ j x hx
    have hm := List.mem_of_getElem? ea
    have tk : ((as.take (j + 1)).map ys).flatten = ((as.take j).map ys).flatten ++ ys a := by
      rw [List.take_add_one, ea, List.map_append, List.flatten_append]
      simp
    have bound : ((as.take j).map ys).flatten.length + (ys a).length ≤ 1000 := by
      have e : (as.map ys).flatten = ((as.take (j + 1)).map ys).flatten ++ ((as.drop (j + 1)).map ys).flatten := by rw [← List.flatten_append, ← List.map_append, List.take_append_drop]
      have := congrArg List.length e
      rw [List.length_append, tk, List.length_append] at this
      omega
    refine ⟨hv x, ?_⟩
    dsimp only [tYes]
    refine iteT ?_
    show wj ((wipe σ vs).set i (some x)) H _
    refine iter x a H _ hm (m.on s1 ha) s1 fun H3 q s3 hq => ?_
    have hD3 := s3 _ _ hD
    refine walk_J (H1 := hide D H3) (fun j2 H' => Same (hide D H3) H' ∧ H' D = some (.lst ((((as.take j).map ys).flatten ++ (ys a).take j2).map V.str))) (.t (tup_hide hq hD3 (fun _ z => by cases z) (fun _ _ z => by cases z))) ⟨hide_sub, by simpa using hD3⟩ (fun _ _ z => z.1) ?_ ?_
    · rintro j2 y H' Ny hy ⟨s4, hD4⟩ ny
      rw [List.getElem?_map] at hy
      obtain ⟨z, hz, rfl⟩ := Option.map_eq_some_iff.mp hy
      refine ⟨by simp [wipe], ?_⟩
      refine iteT ⟨.str z, hk _ _, _, hD4, ?_, ny _ ⟨hide_put s4, ?_⟩⟩
      · rw [List.length_map, List.length_append, List.length_take]
        exact Nat.lt_of_le_of_lt (show _ ≤ 1000 by omega) (by decide)
      · rw [upd_same, List.take_add_one, hz]
        simp
    · rintro H' ⟨s4, hD4⟩
      rw [List.length_map, List.take_length, ← tk] at hD4
      exact nx _ ⟨(same_hide un (s1.trans s3)).trans s4, hD4⟩
  · rintro H ⟨s1, hD⟩
    rw [hR.len, List.take_length] at hD
    exact fin H s1 hD
/-- {part for a in as for part in parts(a)}, parts texts in a tuple -/
theorem sets2_J {Rl : Hp → V → α → Prop} (m : Stays Rl) {p : Addr} {D : Addr} {i k : Nat} {vs : List Nat} {σ : L2.St} (hv : ∀ x, wipe ((wipe σ vs).set i (some x)) vs = wipe σ vs) (hk : ∀ x y, ((wipe ((wipe σ vs).set i x) [k]).set k y)[k]? = some y) {xs : List V} {as : List α} {J : L2.It} {Qd : Hp → Prop} {wj : TI} (ys : α → List Str) (hJ : JA K H1 p xs J) (hR : Els Rl H1 xs as) (few : ((as.map ys).flatten).length ≤ 60) (un : H1 D = none)
    (iter : ∀ x a H (R : L2.It → Hp → Prop), a ∈ as → Rl H x a → Same H1 H → (∀ H' q, Same H H' → SqT K H' q ((ys a).map V.str) → R (Itt K q) H') → wj ((wipe σ vs).set i (some x)) H R)
    (fin : ∀ H' S n, Same H1 H' → H' D = some (SetXO P w D S n) → n ≤ 60 → (∀ k, S k = true ↔ k ∈ (as.map ys).flatten) → Qd H') :
    ∃ W : Nat → Nat → Hp → Prop, (∃ m, W 0 m (upd H1 D (SetXO P w D (fun _ => false) 0))) ∧ ∀ i' m H, W i' m H →
      (J.stop i' H ∧ Qd H) ∨ (J.go i' H ∧ ∃ Nx : Hp → Prop, (∀ H', Nx H' → ∃ m', m' < m ∧ W (i' + 1) m' H') ∧ ∀ x H', J.yld i' H x H' → gName i x (wipe σ vs) H' fun σ2 H2 => wipe σ2 vs = wipe σ vs ∧ tYes σ2 H2 fun b H3 =>
        if b = true then wj σ2 H3 (fun J1 H4 => ∃ W1 : Nat → Nat → Hp → Prop, (∃ m, W1 0 m H4) ∧ ∀ j k' H, W1 j k' H →
          (J1.stop j H ∧ Nx H) ∨ (J1.go j H ∧ ∃ Nx1 : Hp → Prop, (∀ H', Nx1 H' → ∃ k2, k2 < k' ∧ W1 (j + 1) k2 H') ∧ ∀ x H', J1.yld j H x H' → gName k x (wipe σ2 [k]) H' fun σ3 H5 => wipe σ3 [k] = wipe σ2 [k] ∧ tYes σ3 H5 fun b H6 =>
            if b = true then tVar k σ3 H6 (TurnX P w D Nx1) else Nx1 H6))
        else Nx H3) := by
  refine walk_J (fun j H => Same H1 H ∧ ∃ S n, H D = some (SetXO P w D S n) ∧ n ≤ (((as.take j).map ys).flatten).length ∧ ∀ k, S k = true ↔ k ∈ ((as.take j).map ys).flatten) hJ ⟨same_new un, _, _, upd_same, Nat.zero_le _, fun k => by simp⟩ (fun _ _ z => z.1) ?_ ?_
  · rintro j x H Nx hx ⟨s1, S, n, hD, hn, hS⟩ nx
    obtain ⟨a, ea, ha⟩ := hR.at_ j x hx
    have hm := List.mem_of_getElem? ea
    have tk : ((as.take (j + 1)).map ys).flatten = ((as.take j).map ys).flatten ++ ys a := by
      rw [List.take_add_one, ea, List.map_append, List.flatten_append]
      simp
    have bound : ((as.take j).map ys).flatten.length + (ys a).length ≤ 60 := by
      have e : (as.map ys).flatten = ((as.take (j + 1)).map ys).flatten ++ ((as.drop (j + 1)).map ys).flatten := by rw [← List.flatten_append, ← List.map_append, List.take_append_drop]
      have := congrArg List.length e
      rw [List.length_append, tk, List.length_append] at this
      omega
    refine ⟨hv x, ?_⟩
    dsimp only [tYes]
    refine iteT ?_
    show wj ((wipe σ vs).set i (some x)) H _
    refine iter x a H _ hm (m.on s1 ha) s1 fun H3 q s3 hq => ?_
    have hD3 := s3 _ _ hD
    refine walk_J (H1 := hide D H3) (fun j2 H' => Same (hide D H3) H' ∧ ∃ S n, H' D = some (SetXO P w D S n) ∧ n ≤ (((as.take j).map ys).flatten ++ (ys a).take j2).length ∧ ∀ k, S k = true ↔ k ∈ ((as.take j).map ys).flatten ++ (ys a).take j2) (.t (tup_hide hq hD3 (fun _ z => by cases z) (fun _ _ z => by cases z))) ⟨hide_sub, S, n, hD3, by simpa using hn, fun k => by simpa using hS k⟩ (fun _ _ z => z.1) ?_ ?_
    · rintro j2 y H' Ny hy ⟨s4, S4, n4, hD4, hn4, hS4⟩ ny
      rw [List.getElem?_map] at hy
      obtain ⟨z, hz, rfl⟩ := Option.map_eq_some_iff.mp hy
      have lt := (List.getElem?_eq_some_iff.mp hz).1
      have tk2 : (ys a).take (j2 + 1) = (ys a).take j2 ++ [z] := by rw [List.take_add_one, hz]; rfl
      refine ⟨by simp [wipe], ?_⟩
      refine iteT ⟨.str z, hk _ _, z, S4, n4, rfl, hD4, ?_, ny _ ⟨hide_put s4, _, _, upd_same, ?_, fun k => ?_⟩⟩
      · rw [List.length_append, List.length_take] at hn4
        exact Nat.lt_of_le_of_lt (show n4 + 1 ≤ 61 by omega) (by decide)
      · rw [tk2, ← List.append_assoc, List.length_append, List.length_singleton]
        split <;> omega
      · rw [tk2, ← List.append_assoc, List.mem_append, List.mem_singleton, Bool.or_eq_true, hS4 k, decide_eq_true_iff]
    · rintro H' ⟨s4, S4, n4, hD4, hn4, hS4⟩
      rw [List.length_map, List.take_length, ← tk] at hn4 hS4
      exact nx _ ⟨(same_hide un (s1.trans s3)).trans s4, S4, n4, hD4, hn4, hS4⟩
  · rintro H ⟨s1, S, n, hD, hn, hS⟩
    rw [hR.len, List.take_length] at hn hS
    exact fin H S n s1 hD (by omega) hS
end
end K2

set_option Elab.async false
set_option linter.all false
set_option maxRecDepth 100000
set_option maxHeartbeats 1000000
namespace Lw
open PySem PySem.Spec PyProof.Rows L2
/-! ### slices with a step -/
def pickV (xs : List V) (lo hi st : Option Int) : List V :=
  (sliceRange (sliceBounds lo hi st xs.length).1 (sliceBounds lo hi st xs.length).2.1 (sliceBounds lo hi st xs.length).2.2).filterMap (fun i => xs[i]?)
def tSl3 (K : PySem.W.Frag) (te : TE) (tl th ts : TO) : TE := fun σ H Q => te σ H fun x H1 => tl σ H1 fun l H2 => th σ H2 fun u H3 => ts σ H3 fun k H4 => ∃ (a : Addr) (xs : List V), x = .ref a ∧ SqL K H4 a xs ∧ k ≠ some 0 ∧ xs.length ≤ 1000 ∧
  ∀ p, H4 p = none → Q (.ref p) (upd H4 p (.lst (pickV xs l u k)))
theorem vals_pick {xs : List V} {its : List Value} (r : Vals xs its) : ∀ R : List Nat, Vals (R.filterMap fun i => xs[i]?) (R.filterMap fun i => its.toArray[i]?)
  | [] => .nil
  | i :: R => by
    have ih := vals_pick r R
    have e : its.toArray[i]? = its[i]? := by simp
    cases e1 : xs[i]? with
    | none =>
      have e2 : its[i]? = none := by
        rw [List.getElem?_eq_none_iff] at e1 ⊢
        have := r.length
        omega
      rw [List.filterMap_cons_none e1, List.filterMap_cons_none (by rw [e]; exact e2)]
      exact ih
    | some x =>
      obtain ⟨u, e2, ru⟩ := Vals.get r e1
      rw [List.filterMap_cons_some e1, List.filterMap_cons_some (by rw [e]; exact e2)]
      exact .cons ru ih
theorem slice_step {prog : Program} {w : World} {A : Around} {E : Value → Shared → Prop} {s : Shared} {env : Env} {value st : Expr} {lower upper : Option Expr} {p pos : Pos} {T id : String} {Q : Value → Shared → Prop}
    (hl : typeLookup (.type T) "__getitem__" = pure (some (.builtin id)))
    (h : wpAny (model prog w) A (eval value env) (fun o s₁ => wpAny (model prog w) A (eval (.Slice lower upper (some st) p) env) (fun i s₂ => s₂.TypeIs o T ∧ wpAny (model prog w) A (getItem o i) Q E s₂) E s₁) E s) :
    wpAny (model prog w) A (eval (.Subscript value (.Slice lower upper (some st) p) pos) env) Q E s := by
  rw [eval_Subscript]
  refine wpAny_bind (wpAny_mono h (fun o s₁ h₁ => wpAny_bind (wpAny_holding (wpAny_mono h₁ (fun i s₂ h₂ => wpAny_bind (wpAny_standAt ?_)) fun _ _ x => x)))
    fun _ _ x => x)
  have fin : wpAny (model prog w) A (operate [o, i] (getItem o i)) (fun r s₃ => wpAny (model prog w) A (letTemporaryGo value o r >>= fun _ => pure r) Q E s₃) E s₂ :=
    wpAny_operating (wpAny_mono h₂.2 (fun r s₃ h₃ => wpAny_bind (wpAny_letTemporaryGo (wpAny_pure h₃))) fun _ _ x => x)
  first
    | (refine wpAny_bind ?_
       rw [getitemInPython_of_ne h₂.1.not_modules]
       refine wpAny_bind (wpAny_specialOf h₂.1 hl ?_)
       first
         | exact wpAny_pure (wpAny_bind fin)
         | exact wpAny_bind (wpAny_pure (wpAny_bind fin))
         | exact wpAny_bind fin)
    | (refine wpAny_bind (wpAny_specialOf h₂.1 hl ?_)
       first
         | exact wpAny_bind (wpAny_pure (wpAny_bind fin))
         | exact wpAny_bind fin)
theorem pe_slice3 {X : Cx} {e : Expr} {te : TE} {lo hi : Option Expr} {st : Expr} {tl th ts : TO} {pos p2 : Pos} (he : PE X e te) (hl : PO X lo tl) (hh : PO X hi th) (hs : PO X (some st) ts) :
    PE X (e.Subscript (Expr.Slice lo hi (some st) p2) pos) (tSl3 X.K te tl th ts) := by
  refine ⟨fun pins s σ H Q I h => ?_⟩
  refine slice_step (T := "list") (id := "list.__getitem__") (by rfl) (thn (he.run pins s σ H _ I h) fun v s1 ⟨x, H1, I1, r1, q1⟩ => ?_)
  refine wpAny_Slice (thn (hl.run pins s1 σ H1 _ I1 q1) fun vl s2 ⟨l, H2, I2, pl, q2⟩ => thn (hh.run pins s2 σ H2 _ I2 q2) fun vu s3 ⟨u, H3, I3, pu, q3⟩ => thn (hs.run pins s3 σ H3 _ I3 q3) fun vk s4 ⟨k, H4, I4, pk, q4⟩ => ?_)
  obtain ⟨a, xs, rfl, hx, nz, few, q⟩ := q4
  obtain rfl : v = Value.ref a := r1
  have I5 := I4.kept (t' := s4.toks) fun b ob q => Heap.get?_push_of_some { cls := Value.type "slice", data := Data.fields #[vl, vu, vk] } q
  obtain ⟨its, r, ht, hz⟩ := I5.list hx
  have hl' := ht.isList
  refine ⟨?_, wpAny_getItem_list_slice hl' ⟨_, Heap.get?_push_size _ rfl, rfl, rfl⟩ pl pu pk nz ?_ ?_⟩
  · obtain ⟨o, n, h1, h2, _⟩ := ht
    exact ⟨o, h1, h2⟩
  · have len := r.length
    have sz : its.toArray.size = xs.length := by simp [len]
    have vp : Vals (pickV xs l u k) (slicePick its.toArray l u k).toList := by
      unfold pickV slicePick
      rw [sz]
      exact vals_pick r _
    have hlen : (pickV xs l u k).length ≤ sizeLine := by
      rw [vp.length, Array.length_toList]
      exact Nat.le_trans (slicePick_size_le _ _ _ _) (by rw [sz]; exact Nat.le_trans few (by decide))
    exact ⟨.ref _, _, I5.laid (o := .lst (pickV xs l u k)) (fun b ob q => Heap.get?_push_of_some _ q) (Nat.le_refl _) ⟨hlen, _, 0, vp, Heap.get?_push_size _ rfl⟩, rfl, q _ (I5.hok.fresh (Nat.le_refl _))⟩
  · have len := r.length
    show its.toArray.size ≤ sizeLine
    simp
    omega
end Lw

set_option Elab.async false
set_option linter.all false
set_option maxRecDepth 100000
set_option maxHeartbeats 4000000
namespace Lw
open PySem PySem.Spec PyProof.Rows L2
theorem cut_take {xs : List V} {m : Int} (h0 : 0 ≤ m) (h1 : m ≤ xs.length) : cutV xs none (some m) = xs.take m.toNat := by
  have e : HT.sIx xs.length xs.length (some m) = min m.toNat xs.length := by
    show (if m < 0 then _ else _) = _
    rw [if_neg (by omega)]
  have e2 : HT.sIx xs.length 0 none = 0 := rfl
  unfold cutV
  rw [e, e2, List.drop_zero, Nat.sub_zero, Nat.min_eq_left (by omega)]
theorem cut_drop {xs : List V} {m : Int} (h0 : 0 ≤ m) : cutV xs (some m) none = xs.drop m.toNat := by
  have e : HT.sIx xs.length 0 (some m) = min m.toNat xs.length := by
    show (if m < 0 then _ else _) = _
    rw [if_neg (by omega)]
  have e2 : HT.sIx xs.length xs.length none = xs.length := rfl
  unfold cutV
  rw [e, e2]
  by_cases h : m.toNat ≤ xs.length
  · rw [Nat.min_eq_left h, ← List.length_drop, List.take_length]
  · rw [Nat.min_eq_right (by omega), List.drop_length, List.drop_eq_nil_of_le (by omega), List.take_nil]
theorem perm_str {ys : List V} {zs : List Str} (h : ys.Perm (zs.map V.str)) : ∃ us : List Str, ys = us.map V.str ∧ us.Perm zs := by
  have all : ∀ y ∈ ys, ∃ z, y = V.str z := fun y hy => by
    obtain ⟨z, _, e⟩ := List.mem_map.mp (h.mem_iff.mp hy)
    exact ⟨z, e.symm⟩
  refine ⟨ys.map fun | .str z => z | _ => Str.empty, ?_, ?_⟩
  · rw [List.map_map]
    conv => lhs; rw [← List.map_id ys]
    refine List.map_congr_left fun y hy => ?_
    obtain ⟨z, rfl⟩ := all y hy
    rfl
  · have z := h.map (fun | .str z => z | _ => Str.empty : V → Str)
    rw [List.map_map] at z
    have e : zs.map ((fun | .str z => z | _ => Str.empty : V → Str) ∘ V.str) = zs := by
      conv => rhs; rw [← List.map_id zs]
      exact List.map_congr_left fun _ _ => rfl
    rwa [e] at z
end Lw

set_option Elab.async false
set_option linter.all false
set_option maxRecDepth 100000
set_option maxHeartbeats 1000000
namespace K2
open PySem L2 Lw TL SxT
def spBehind : Sp := fun vs H Q _ => ∃ (h z w : Str) (ws : List Str), vs = [.str h, .str z] ∧ z.length ≤ 100000 ∧ Txt.split z " " = w :: ws ∧ ws.length ≤ 1000 ∧ (∀ y ∈ ws, fine (.str y) = true) ∧
  (w = h → ws.all nameOk = true → ∀ H' l, Same H H' → H l = none → H' l = some (.lst (ws.map V.str)) → Q (.ref l) H') ∧ (¬ (w = h ∧ ws.all nameOk = true) → ∀ H', Same H H' → Q .non H')
section
variable {P : Program} {w : World} {K : PySem.W.Frag} {mg : Str → Option Value} {base : Heap} {a : Ad}
theorem scBehind : FnScope ["head", "line", "words", "word"] ["head", "line"] (defScope sBehind) := ⟨rfl, rfl, rfl, by decide +kernel, rfl, by decide +kernel, by decide +kernel⟩
theorem okBehind (T : Txt K mg a) {f : Addr} {fd : FuncData} (F : Fun K "names_behind" "names_behind" sBehind f fd) : FnOk P w K mg base CX0 2 f fd ["head", "line"] spBehind := by
  refine F.ok scBehind (fun vs H Q E h => ?_) (fun cdv A outer s H vs Q E hr h => ?_)
  · obtain ⟨h, z, w, ws, rfl, _⟩ := h
    rfl
  · obtain ⟨h, z, w, ws, rfl, len, sp, few, hf, good, bad⟩ := h
    refine ⟨_, pss_cons (ps_set (i := 2) scBehind.nd rfl (Or.inl rfl) (pe_split (pv 1) pe_str))
      (pss_cons (ps_if (PW.pt (pw_or (pt_cmpR op_ne (pe_ix ix_list (pv 2) pe_int (fun _ _ => rfl)) (pv 0) (nomark _))
        (pw_or1 (pt_not (pt_val (pe_callB (cr_all rfl) (by rfl) T.tAll PyProof.Rows.boot_all (pa_cons (pe_lc (own := [("word", 3)]) (g := gName 3) (tt := tYes) (by rfl) scBehind.nd (pi_list (pe_slice sl_list (pv 2) (po_some pe_int) po_none))
          (blkOk_by (own := [("word", 3)]) (N := ["head", "line", "words", "word"]) (sc := defScope sBehind) (by decide +kernel)) (fun _ _ _ _ _ => pg_name (i := 3) scBehind.nd rfl (Or.inl rfl)) (fun _ _ _ _ _ => pts_nil)
          (fun _ _ _ _ _ => pe_call T.okN hr rfl T.isName.g T.isName.F.kp T.isName.b .nil pass0 (pa_cons (pv 3) pa_nil))) pa_nil))))))) (pss_one (ps_ret pe_non)) pss_nil)
      (pss_one (ps_ret (pe_slice sl_list (pv 2) (po_some pe_int) po_none)))), ?_⟩
    refine ⟨_, rfl, ⟨_, rfl⟩, _, _, rfl, rfl, by decide +kernel, Nat.le_trans (Nat.add_le_add_right len 2) (by decide), fun p up => ?_⟩
    rw [sp]
    have s1 : Same H (upd H p (.lst ((w :: ws).map V.str))) := same_new up
    have hp : SqL K (upd H p (.lst ((w :: ws).map V.str))) p ((w :: ws).map V.str) := SqL.of upd_same
    generalize (upd H p (.lst ((w :: ws).map V.str))) = H1 at s1 hp ⊢
    dsimp only [gName, tNext]
    refine ⟨_, rfl, p, _, 0, _, rfl, rfl, hp, atI_nat (j := 0) rfl, _, rfl, rfl, _, rfl, ?_⟩
    have cut : cutV ((w :: ws).map V.str) (some 1) none = ws.map V.str := by
      rw [cut_drop (by decide)]
      rfl
    by_cases e : w = h
    · subst e
      rw [show (!decide (V.str w = V.str w)) = false from by simp]
      refine iteF ⟨_, rfl, _, rfl, p, _, rfl, hp, fun q uq => ⟨q, rfl, ⟨_, SqL.of upd_same⟩, fun D un => ?_⟩⟩
      have s2 := same_new (o := .lst (cutV ((w :: ws).map V.str) (some 1) none)) uq
      refine lc_of_list ((cutV ((w :: ws).map V.str) (some 1) none).map fun x => some (.bl (match x with | .str z => nameOk z | _ => false))) (SqL.of upd_same) un (turns_map _ (by rw [cut, List.length_map]; omega) fun x H2 Q2 hx s3 k => ?_) mono_yes fun H2 s3 h2 => ?_
      · rw [cut] at hx
        obtain ⟨y, hy, rfl⟩ := List.mem_map.mp hx
        exact ⟨_, rfl, .str y, .str y, rfl, .str y, hf y hy, fun H3 s4 => k H3 s4⟩
      · rw [out_map, cut] at h2
        have eb : (ws.map V.str).map (fun x => V.bl (match x with | .str z => nameOk z | _ => false)) = (ws.map nameOk).map V.bl := by
          rw [List.map_map, List.map_map]
          rfl
        rw [eb] at h2
        refine ⟨D, _, rfl, SqL.of h2, _, rfl, ?_⟩
        have S := s2.trans s3
        rw [show (ws.map nameOk).all id = ws.all nameOk from by rw [List.all_map]; rfl]
        cases ea : ws.all nameOk with
        | false => exact iteT (bad (fun z => by rw [ea] at z; cases z.2) _ (s1.trans S))
        | true =>
          refine iteF ⟨_, rfl, _, rfl, p, _, rfl, S.seq hp, fun l ul => ?_⟩
          rw [cut]
          exact good rfl ea _ l ((s1.trans S).trans (same_new ul)) ((s1.trans S).free ul) upd_same
    · rw [show (!decide (V.str w = V.str h)) = true from by simp [e]]
      exact iteT (iteT (bad (fun z => e z.1) _ s1))
end
end K2

set_option Elab.async false
set_option linter.all false
set_option maxRecDepth 100000
set_option maxHeartbeats 1000000
/-! list(zip(a, b)) of two lists: the list of the new pairs. -/
namespace PySem.F
theorem zip_no_len : typeLookup (.type "zip") "__len__" = pure none := am_miss_of_fast (by decide +kernel)
theorem zip_no_hint : typeLookup (.type "zip") "__length_hint__" = pure none := am_miss_of_fast (by decide +kernel)
end PySem.F
namespace Lw
open PySem PySem.Spec PyProof.Rows L2
/-- a zip of two lists, i items given out, the last one held -/
def ZSt (z TI TO i1 i2 l1 l2 q : Addr) (i : Nat) (h : Heap) : Prop :=
  (IsZip h z TI TO .none ∨ ∃ T f oT, IsZipHeld h z TI TO T f ∧ T ≠ q ∧ h.get? T = some oT) ∧ (∃ a b, IsPair h TO a b) ∧ IsPair h TI (.ref i1) (.ref i2) ∧ h.IsListIter i1 l1 i ∧ h.IsListIter i2 l2 i
theorem ZSt.type {z TI TO i1 i2 l1 l2 q : Addr} {i : Nat} {s : Shared} (st : ZSt z TI TO i1 i2 l1 l2 q i s.heap) : s.TypeIs (.ref z) "zip" := by
  rcases st.1 with hz | ⟨T, f, oT, hz, _⟩
  · exact ⟨_, hz, rfl⟩
  · exact ⟨_, hz, rfl⟩
theorem ZSt.kept {z TI TO i1 i2 l1 l2 q : Addr} {i : Nat} {h h' : Heap} (st : ZSt z TI TO i1 i2 l1 l2 q i h) (hn : ∀ c ∈ [z, TI, TO, i1, i2], c ≠ q) (k : ∀ b o, b ≠ q → h.get? b = some o → h'.get? b = some o) : ZSt z TI TO i1 i2 l1 l2 q i h' := by
  obtain ⟨hz, ⟨a, b, hTO⟩, hTI, h1, h2⟩ := st
  refine ⟨?_, ⟨a, b, k _ _ (hn _ (by simp)) hTO⟩, k _ _ (hn _ (by simp)) hTI, h1.at fun o e => k _ o (hn _ (by simp)) e, h2.at fun o e => k _ o (hn _ (by simp)) e⟩
  rcases hz with hz | ⟨T, f, oT, hz, ne, hT⟩
  · exact .inl (k _ _ (hn _ (by simp)) hz)
  · exact .inr ⟨T, f, oT, k _ _ (hn _ (by simp)) hz, ne, k _ _ ne hT⟩
theorem ZSt.lt {z TI TO i1 i2 l1 l2 q : Addr} {i : Nat} {h : Heap} (st : ZSt z TI TO i1 i2 l1 l2 q i h) : ∀ c ∈ [z, TI, TO, i1, i2], c < h.objs.size := fun c hcm => by
  obtain ⟨hz, ⟨a, b, hTO⟩, hTI, h1, h2⟩ := st
  have e' : c = z ∨ c = TI ∨ c = TO ∨ c = i1 ∨ c = i2 := by simpa using hcm
  rcases e' with e | e | e | e | e
  · rw [e]
    rcases hz with hz | ⟨T, f, oT, hz, _⟩
    · exact Heap.lt_size hz
    · exact Heap.lt_size hz
  · rw [e]; exact Heap.lt_size hTI
  · rw [e]; exact Heap.lt_size hTO
  · rw [e]; obtain ⟨_, e1, _⟩ := h1; exact Heap.lt_size e1
  · rw [e]; obtain ⟨_, e1, _⟩ := h2; exact Heap.lt_size e1
section
variable {X : Cx} {pins : List (Addr × Obj)} {σ : L2.St} {H : Hp} {s : Shared} {z TI TO i1 i2 l1 l2 q : Addr} {xs ys : List V}
theorem zs_item {A : Around} {E : Value → Shared → Prop} {Q : Option Value → Shared → Prop} {i : Nat} {x y : V} {acc : List V} (D : ZipApart z TI TO i1 i2 l1 l2) (I : Inv X pins σ H s) (hf : ∀ c ∈ [z, TI, TO, i1, i2], FpOk X pins H c)
    (st : ZSt z TI TO i1 i2 l1 l2 q i s.heap) (hq : H q = some (.lst acc)) (hx : SqL X.K H l1 xs) (hy : SqL X.K H l2 ys) (ex : xs[i]? = some x) (ey : ys[i]? = some y)
    (h : ∀ T s', Inv X pins σ (upd H T (.tup [x, y])) s' → H T = none → ZSt z TI TO i1 i2 l1 l2 q (i + 1) s'.heap → (∀ c ∈ [z, TI, TO, i1, i2], FpOk X pins (upd H T (.tup [x, y])) c) → Q (some (.ref T)) s') :
    wpAny (model X.prog X.w) A (pyNext (.ref z)) Q E s := by
  have lts := st.lt
  obtain ⟨hz, ⟨a, b, hTO⟩, hTI, h1, h2⟩ := st
  obtain ⟨its, rv, p, _⟩ := I.list hx
  obtain ⟨its2, rv2, p2, _⟩ := I.list hy
  obtain ⟨u, hu, ru⟩ := rv.get ex
  obtain ⟨u2, hu2, ru2⟩ := rv2.get ey
  obtain ⟨_, itq, nq, _, _, eq⟩ := I.lstM hq
  have hql : q < s.heap.objs.size := Heap.lt_size eq
  have fp : ∀ c ∈ [z, TI, TO, i1, i2], FpOk X pins (upd H s.heap.objs.size (.tup [x, y])) c := fun c hcm => ⟨by rw [upd_ne (Nat.ne_of_lt (lts c hcm))]; exact (hf c hcm).1, (hf c hcm).2⟩
  have new : ∀ h' : Heap, IsPair h' s.heap.objs.size u u2 → ObjOk X.prog X.w (upd H s.heap.objs.size (.tup [x, y])) h' s.heap.objs.size (.tup [x, y]) := fun h' hT => ⟨by show 2 ≤ sizeLine; decide, [u, u2], .cons ru (.cons ru2 .nil), ⟨_, hT, rfl, _, rfl⟩⟩
  rcases hz with hz | ⟨T, f, oT, hz, ne, hT⟩
  · refine wpAny_pyNext_zip_item D hz hTI hTO h1 h2 p.isList p2.isList (x := u) (y := u2) (by simpa using hu) (by simpa using hu2) fun h' z' TO' h1' h2' hT hsz hk => ?_
    have I1 : Inv X pins σ (upd H s.heap.objs.size (.tup [x, y])) { s with heap := h' } :=
      I.turnedNew (t' := s.toks) (ch := [z, TI, TO, i1, i2]) (fun c o hb w => hk c o (fun w' => hb (by simp [w'])) (fun w' => hb (by simp [w'])) (fun w' => hb (by simp [w'])) (fun w' => hb (by simp [w'])) w) hf (Nat.le_refl _) (new h' hT)
    exact h _ _ I1 (I.hok.fresh (Nat.le_refl _)) ⟨.inr ⟨_, false, _, z', Nat.ne_of_gt hql, hT⟩, ⟨_, _, TO'⟩, hk _ _ D.TIz D.TITO D.TIi1 D.TIi2 hTI, h1', h2'⟩ fp
  · refine wpAny_pyNext_zip_item_held D hz hT hTI h1 h2 p.isList p2.isList (x := u) (y := u2) (by simpa using hu) (by simpa using hu2) fun h' z' h1' h2' hN hsz hk => ?_
    have I1 : Inv X pins σ (upd H s.heap.objs.size (.tup [x, y])) { s with heap := h' } :=
      I.turnedNew (t' := s.toks) (ch := [z, TI, TO, i1, i2]) (fun c o hb w => hk c o (fun w' => hb (by simp [w'])) (fun w' => hb (by simp [w'])) (fun w' => hb (by simp [w'])) w) hf (Nat.le_refl _) (new h' hN)
    have hT' : ∃ o, h'.get? T = some o := by
      by_cases c1 : T = z
      · rw [c1]; exact ⟨_, z'⟩
      by_cases c2 : T = i1
      · obtain ⟨o, e, _⟩ := h1'; rw [c2]; exact ⟨o, e⟩
      by_cases c3 : T = i2
      · obtain ⟨o, e, _⟩ := h2'; rw [c3]; exact ⟨o, e⟩
      exact ⟨_, hk _ _ c1 c2 c3 hT⟩
    obtain ⟨o', hT'⟩ := hT'
    exact h _ _ I1 (I.hok.fresh (Nat.le_refl _)) ⟨.inr ⟨_, true, _, z', ne, hT'⟩, ⟨_, _, hk _ _ D.TOz D.TOi1 D.TOi2 hTO⟩, hk _ _ D.TIz D.TIi1 D.TIi2 hTI, h1', h2'⟩ fp
theorem zs_end {A : Around} {E : Value → Shared → Prop} {Q : Option Value → Shared → Prop} {i : Nat} (hh : A.handled = none) (D : ZipApart z TI TO i1 i2 l1 l2) (I : Inv X pins σ H s) (hf : ∀ c ∈ [z, TI, TO, i1, i2], FpOk X pins H c)
    (st : ZSt z TI TO i1 i2 l1 l2 q i s.heap) (hx : SqL X.K H l1 xs) (hy : SqL X.K H l2 ys) (he : xs.length ≤ i ∨ ys.length ≤ i)
    (h : ∀ s', Inv X pins σ H s' → Q none s') : wpAny (model X.prog X.w) A (pyNext (.ref z)) Q E s := by
  obtain ⟨hz, ⟨a, b, hTO⟩, hTI, h1, h2⟩ := st
  obtain ⟨its, rv, p, _⟩ := I.list hx
  obtain ⟨its2, rv2, p2, _⟩ := I.list hy
  have n1 := rv.length
  have n2 := rv2.length
  have he' : its.toArray[i]? = none ∨ its2.toArray[i]? = none := by
    rcases he with w | w
    · exact .inl (by simp; omega)
    · exact .inr (by simp; omega)
  rcases hz with hz | ⟨T, f, oT, hz, ne, hT⟩
  · exact wpAny_pyNext_zip_end hh D hz hTI hTO h1 h2 p.isList p2.isList he' fun h' hk => h _ (I.turnedL (t' := s.toks) (ch := [z, TI, TO, i1, i2]) (fun c o hb w => hk c o (fun w' => hb (by simp [w'])) (fun w' => hb (by simp [w'])) (fun w' => hb (by simp [w'])) (fun w' => hb (by simp [w'])) w) hf)
  · exact wpAny_pyNext_zip_end_held hh D hz hT hTI h1 h2 p.isList p2.isList he' fun h' hk => h _ (I.turnedL (t' := s.toks) (ch := [z, TI, TO, i1, i2]) (fun c o hb w => hk c o (fun w' => hb (by simp [w'])) (fun w' => hb (by simp [w'])) (fun w' => hb (by simp [w'])) w) hf)
/-- the pairs of two lists at these places -/
def Pairs (H : Hp) (as : List Addr) (xs ys : List V) : Prop := ∀ (j : Nat) (a : Addr), as[j]? = some a → ∃ x y, xs[j]? = some x ∧ ys[j]? = some y ∧ H a = some (.tup [x, y])
theorem zl_loop {A1 : Around} {Rs : Result → Shared → Prop} {G : Hp} (hh : A1.in1.handled = none) (D : ZipApart z TI TO i1 i2 l1 l2) (big : xs.length ≤ 100000) (hx0 : SqL X.K G l1 xs) (hy0 : SqL X.K G l2 ys) (Gq : G q = none)
    (hdone : ∀ (as : List Addr) H s, Inv X pins σ H s → H q = some (.lst (as.map V.ref)) → as.length = min xs.length ys.length → Pairs H as xs ys → Same G H → Rs (.ok (.ret .none)) s) :
    ∀ (m i : Nat) (as : List Addr) (H : Hp) (s : Shared), min xs.length ys.length = i + m → as.length = i → Inv X pins σ H s → H q = some (.lst (as.map V.ref)) → ZSt z TI TO i1 i2 l1 l2 q i s.heap →
      (∀ c ∈ [z, TI, TO, i1, i2], FpOk X pins H c) → Pairs H as xs ys → (∀ a ∈ as, a ≠ q) → Same G H → codeAny (model X.prog X.w) A1 (.builtin "list.extend.loop" ⟨[.ref q, .ref z, .none], []⟩) Rs s := by
  intro m
  induction m with
  | zero =>
    intro i as H s hm hl I hq st hf hp nq hG
    refine codeAny_builtin PySem.F.entry_extend_loop ?_
    rw [Around.under_plainId PySem.F.plain_extend_loop _]
    show wpAny _ A1.in1 (pyNext (.ref z) >>= _) _ _ s
    refine wpAny_bind (zs_end hh D I hf st (hG.seq hx0) (hG.seq hy0) (by omega) fun s' I' => ?_)
    exact wpAny_pure (hdone as H s' I' hq (by omega) hp hG)
  | succ m ih =>
    intro i as H s hm hl I hq st hf hp nq hG
    refine codeAny_builtin PySem.F.entry_extend_loop ?_
    rw [Around.under_plainId PySem.F.plain_extend_loop _]
    show wpAny _ A1.in1 (pyNext (.ref z) >>= _) _ _ s
    have lx : i < xs.length := by omega
    have ly : i < ys.length := by omega
    refine wpAny_bind (zs_item D I hf st hq (hG.seq hx0) (hG.seq hy0) (List.getElem?_eq_getElem lx) (List.getElem?_eq_getElem ly) fun T s' I' hT st' hf' => ?_)
    have neT : q ≠ T := fun e => by rw [e, hT] at hq; cases hq
    have hq' : (upd H T (.tup [xs[i], ys[i]])) q = some (.lst (as.map V.ref)) := by rw [upd_ne neT]; exact hq
    show wpAny _ A1.in1 (updateSeq q (·.push (.ref T)) >>= _) _ _ _
    obtain ⟨_, its, k, r2, hlen, e⟩ := I'.lstM hq'
    have il : its.length = i := by rw [← hlen, List.length_map, hl]
    have bi : i < 100000 := by omega
    have szl : 100001 ≤ sizeLine := by rw [sizeLine_eq]; decide
    refine wpAny_bind (wpAny_updateSeq e rfl (wpAny_pure ⟨plainId_quiet PySem.F.plain_extend_loop _, ?_⟩) (by rw [List.size_toArray]; omega) (by show (its.toArray.push _).size ≤ sizeLine + 1; rw [Array.size_push, List.size_toArray]; omega))
    have I2 := I'.lset (f := (·.push (Value.ref T))) (its' := its ++ [.ref T]) (ys := (as ++ [T]).map V.ref) (t' := s'.toks) hq' e (by simp) (by rw [List.map_append]; exact r2.append (.cons rfl .nil)) (by rw [List.length_map, List.length_append, List.length_singleton]; omega)
    have nqc : ∀ c ∈ [z, TI, TO, i1, i2], c ≠ q := fun c hcm w => by have := (hf' c hcm).1; rw [w, hq'] at this; cases this
    refine ih (i + 1) (as ++ [T]) _ _ (by omega) (by rw [List.length_append, hl]; rfl) I2 upd_same ?_ ?_ ?_ ?_ ?_
    · exact st'.kept nqc fun b o ne hb => (Heap.get?_update_other _ _ (Ne.symm ne)).trans hb
    · exact fun c hcm => ⟨by rw [upd_ne (nqc c hcm)]; exact (hf' c hcm).1, (hf' c hcm).2⟩
    · intro j a hj
      rw [List.getElem?_append] at hj
      split at hj
      · rename_i lj
        obtain ⟨x, y, e1, e2, e3⟩ := hp j a hj
        have na : a ≠ q := nq a (List.mem_of_getElem? hj)
        have nt : a ≠ T := fun w => by rw [w, hT] at e3; cases e3
        exact ⟨x, y, e1, e2, by rw [upd_ne na, upd_ne nt]; exact e3⟩
      · rename_i lj
        have ej : j = i := by
          have : j - as.length = 0 := by
            rcases Nat.eq_zero_or_pos (j - as.length) with w | w
            · exact w
            · rw [List.getElem?_eq_none (by simp; omega)] at hj; cases hj
          omega
        subst ej
        rw [hl, Nat.sub_self] at hj
        have : a = T := by simpa using hj.symm
        subst this
        exact ⟨xs[j], ys[j], List.getElem?_eq_getElem lx, List.getElem?_eq_getElem ly, by rw [upd_ne (Ne.symm neT), upd_same]⟩
    · intro a ha
      rcases List.mem_append.mp ha with w | w
      · exact nq a w
      · rw [List.mem_singleton.mp w]; exact Ne.symm neT
    · intro b o hb
      have ne : b ≠ q := fun w => by rw [w, Gq] at hb; cases hb
      rw [upd_ne ne]
      exact same_new hT _ _ (hG b o hb)
theorem call_listZip {Q : VK} (hc : X.calm = true) (D : ZipApart z TI TO i1 i2 l1 l2) (I : Inv X pins σ H s) (hf : ∀ c ∈ [z, TI, TO, i1, i2], FpOk X pins H c) (st : ZSt z TI TO i1 i2 l1 l2 s.heap.objs.size 0 s.heap)
    (hx : SqL X.K H l1 xs) (hy : SqL X.K H l2 ys) (big : xs.length ≤ 100000)
    (fin : ∀ (H' : Hp) (q : Addr) (as : List Addr), Same H H' → H q = none → H' q = some (.lst (as.map V.ref)) → as.length = min xs.length ys.length → Pairs H' as xs ys → Q (.ref q) H') :
    wpAny (model X.prog X.w) X.A (call (.type "list") [.ref z]) (EP X pins σ Q) X.xe s := by
  refine callType_codes (Q₁ := fun obj s₁ => obj = .ref s.heap.objs.size ∧ s₁ = { s with heap := s.heap.push { cls := .type "list", data := .seq #[] } }) PySem.F.called_list (PySem.F.typeCall_list_1 _) PySem.F.entry_list_init
    (code_list_new _ ⟨rfl, rfl⟩) fun obj s₁ h₁ => ?_
  obtain ⟨rfl, rfl⟩ := h₁
  have hS : (s.heap.push { cls := .type "list", data := .seq #[] }).get? s.heap.objs.size = some { cls := .type "list", data := .seq #[] } := Heap.get?_push_size _ rfl
  refine ⟨⟨_, hS, rfl⟩, PySem.F.args_list_init_2 _ _, ?_⟩
  have fr : H s.heap.objs.size = none := I.hok.fresh (Nat.le_refl _)
  have lts := st.lt
  generalize eq : s.heap.objs.size = q at *
  have nqc : ∀ c ∈ [z, TI, TO, i1, i2], c ≠ q := fun c hcm => Nat.ne_of_lt (lts c hcm)
  have I1 : Inv X pins σ (upd H q (.lst [])) { s with heap := s.heap.push { cls := .type "list", data := .seq #[] } } := eq ▸ I.lnew (its := []) (t' := s.toks) .nil (Nat.zero_le _)
  have st1 : ZSt z TI TO i1 i2 l1 l2 q 0 (s.heap.push { cls := .type "list", data := .seq #[] }) := st.kept nqc fun b o _ hb => Heap.get?_push_of_some _ hb
  show wpAny _ _ (do let old ← Builtin.List.listItems (.ref q); Builtin.List.listUpdate (.ref q) (fun _ => #[]); letGo old.toList.reverse; Builtin.List.listExtendWith (.ref q) (.ref z) .none) _ _ _
  refine wpAny_bind ?_
  unfold Builtin.List.listItems
  refine wpAny_bind (wpAny_seqItems hS rfl (wpAny_pure ?_))
  show wpAny _ _ (updateSeq q (fun _ => #[]) >>= fun _ => letGo (#[] : Array Value).toList.reverse >>= fun _ => Builtin.List.listExtendWith (.ref q) (.ref z) .none) _ _ _
  refine wpAny_bind (wpAny_updateSeq hS rfl ?_)
  have I2 := I1.lset (f := fun _ => #[]) (its := []) (its' := []) (ys := []) (t' := s.toks) upd_same hS rfl .nil (Nat.zero_le _)
  rw [upd_upd] at I2
  have st2 : ZSt z TI TO i1 i2 l1 l2 q 0 ((s.heap.push { cls := .type "list", data := .seq #[] }).update q (Obj.mapSeq fun _ => #[])) := st1.kept nqc fun b o ne hb => (Heap.get?_update_other _ _ (Ne.symm ne)).trans hb
  refine wpAny_bind (wpAny_letGo ?_)
  have hq2 : (upd H q (.lst [])) q = some (.lst []) := upd_same
  have hf2 : ∀ c ∈ [z, TI, TO, i1, i2], FpOk X pins (upd H q (.lst [])) c := fun c hcm => ⟨by rw [upd_ne (nqc c hcm)]; exact (hf c hcm).1, (hf c hcm).2⟩
  have s2 : Same H (upd H q (.lst [])) := same_new fr
  generalize (s.heap.push { cls := .type "list", data := .seq #[] }).update q (Obj.mapSeq fun _ => #[]) = hp2 at *
  unfold Builtin.List.listExtendWith
  have hT : (⟨hp2, s.gens, s.drawn, s.toks, s.os⟩ : Shared).TypeIs (.ref z) "zip" := ZSt.type (s := ⟨hp2, s.gens, s.drawn, s.toks, s.os⟩) st2
  refine wpAny_bind (wpAny_typeOf hT ?_)
  have h1 : Builtin.List.listSameRef (.ref q) (.ref z) = false := by simp [Builtin.List.listSameRef, Ne.symm (nqc z (by simp))]
  have h2 : (Value.type "zip" == Value.type "list") = false := by decide
  have h3 : (Value.type "zip" == Value.type "tuple") = false := by decide
  simp only [h1, h2, h3, Bool.or_false, Bool.false_eq_true, if_false]
  have hit : ∀ {A : Around} {E : Value → Shared → Prop} {Q : Value → Shared → Prop}, Q (.ref z) ⟨hp2, s.gens, s.drawn, s.toks, s.os⟩ → wpAny (model X.prog X.w) A (pyIter (.ref z)) Q E ⟨hp2, s.gens, s.drawn, s.toks, s.os⟩ := by
    intro A E Q h
    rcases st2.1 with hz | ⟨T, f, oT, hz, _⟩
    · exact wpAny_pyIter_zip hz h
    · refine wpAny_pyIter_slot hT F.slot_zip_iter (wpAny_call_entry F.slot_zip_iter hT F.entry_zip_iter ?_ (F.args_zip_iter_1 _))
      show wpAny _ _ (ret (.ref z)) _ _ _
      exact wpAny_pure ⟨_, rfl, "zip", _, hT, F.slot_zip_next.lookup, h⟩
  refine wpAny_bind (hit ?_)
  refine wpAny_bind (wpAny_holding ?_)
  unfold Builtin.List.listLengthHint
  refine wpAny_bind (wpAny_specialOf hT F.zip_no_len ?_)
  show wpAny _ _ (specialOf (Value.ref z) (Str.ofString "__length_hint__") >>= _) _ _ _
  refine wpAny_bind (wpAny_specialOf hT F.zip_no_hint ?_)
  refine wpAny_pure ?_
  show wpAny _ _ (rule "list.extend.makes-room" >>= fun _ => Builtin.List.listTouch (.ref q) >>= fun _ =>
    again (.builtin "list.extend.loop" ⟨[.ref q, .ref z, .none], []⟩)) _ _ _
  refine wpAny_bind (wpAny_rule ?_)
  refine wpAny_bind ?_
  show wpAny _ _ (updateSeq q (·.push .none) >>= fun _ => updateSeq q (·.pop)) _ _ _
  obtain ⟨z9, its3, k3, r3, hl3, e3⟩ := I2.lstM hq2
  cases r3
  refine wpAny_bind (wpAny_updateSeq e3 rfl ?_)
  have I3 := I2.lset (f := (·.push Value.none)) (its' := [Value.none]) (ys := [.non]) (t' := s.toks) hq2 e3 (by simp) (.cons rfl .nil) (by rw [List.length_singleton, sizeLine_eq]; decide)
  obtain ⟨z4, its4, k4, r4, hl4, e4⟩ := I3.lstM upd_same
  obtain ⟨u4, rfl, ru4⟩ := r4.one
  refine wpAny_updateSeq e4 rfl ?_ (by show 1 ≤ sizeLine; rw [sizeLine_eq]; decide) (by show 0 ≤ sizeLine + 1; exact Nat.zero_le _)
  have I4 := I3.lset (f := (·.pop)) (its := [u4]) (its' := []) (ys := []) (t' := s.toks) upd_same e4 (by rfl) .nil (Nat.zero_le _)
  rw [upd_upd, upd_upd] at I4
  refine wpAny_pure ⟨plainId_quiet PySem.F.plain_extend_loop _, ?_⟩
  refine zl_loop (A1 := X.A.in1) (Rs := wants (fun r s₂ => r = .none ∧ EP X pins σ Q (.ref q) s₂) X.xe) (G := H) (q := q) (xs := xs) (ys := ys) (show X.A.in1.in1.handled = none from I.ok.hd hc) D big hx hy fr (fun as H' s' I' hq' hl' hp' hs' => ?_) (min xs.length ys.length) 0 [] _ _ (by omega) rfl I4 upd_same ?_ hf2 (fun j a hj => by simp at hj) (fun a ha => nomatch ha) s2
  · exact ⟨rfl, .ref q, H', I', rfl, fin H' q as hs' fr hq' hl' hp'⟩
  · exact st2.kept nqc fun b o ne hb => (Heap.get?_update_other _ _ (Ne.symm ne)).trans ((Heap.get?_update_other _ _ (Ne.symm ne)).trans hb)
end
def tListZip (K : PySem.W.Frag) (ta : TA) : TE := fun σ H Q => ta σ H fun vs H1 => ∃ l1 l2 xs ys, vs = [.ref l1, .ref l2] ∧ SqL K H1 l1 xs ∧ SqL K H1 l2 ys ∧ xs.length ≤ 100000 ∧
  ∀ (H' : Hp) (q : Addr) (as : List Addr), Same H1 H' → H1 q = none → H' q = some (.lst (as.map V.ref)) → as.length = min xs.length ys.length → Pairs H' as xs ys → Q (.ref q) H'
theorem pe_listZip {X : Cx} {e e2 : Expr} {ta : TA} {p p2 q pos : Pos} (hg : Gl X "list") (hm : X.mg "list" = none) (hg2 : Gl X "zip") (hm2 : X.mg "zip" = none) (ha : PA X [e, e2] ta) (hc : X.calm = true := by rfl)
    (hs : starEach [e, e2] X.env = (false, eval e X.env) :: starEach [e2] X.env := by rfl) (hpl : (backTo q (starEach [e2] X.env)).any (·.1) = false := by rfl)
    (na : starEach [.Call (.Name "zip" p2) [e, e2] [] q] X.env = (false, eval (.Call (.Name "zip" p2) [e, e2] [] q) X.env) :: starEach [] X.env := by rfl) : PE X (.Call (.Name "list" p) [.Call (.Name "zip" p2) [e, e2] [] q] [] pos) (tListZip X.K ta) := by
  refine ⟨fun pins s σ H Q I h => ?_⟩
  refine Call_ (ld_blt I hg hm boot_list ?_)
  refine PyProof.Rows.callWith_type1 (PyProof.Rows.args_cons ?_ na) na rfl
  refine Call_ (ld_blt I hg2 hm2 PyProof.Rows.boot_zip (PyProof.Rows.callWith_type1 (thn (ha.run q pins s σ H _ I h) fun us s1 ⟨vs, H1, I1, r1, q1⟩ => ?_) hs hpl))
  obtain ⟨a, b, xs, ys, ex, hqx, hqy, big, fin⟩ := q1
  subst ex
  cases r1 with
  | cons r rr =>
    cases rr with
    | cons r' rr =>
      cases rr
      cases r
      cases r'
      have fresh5 : ∀ c, c ∈ [s1.heap.objs.size + 4, s1.heap.objs.size + 2, s1.heap.objs.size + 3, s1.heap.objs.size, s1.heap.objs.size + 1] → FpOk X pins H1 c := fun c hcm => by
        have e' : c = s1.heap.objs.size + 4 ∨ c = s1.heap.objs.size + 2 ∨ c = s1.heap.objs.size + 3 ∨ c = s1.heap.objs.size ∨ c = s1.heap.objs.size + 1 := by simpa using hcm
        have hle : s1.heap.objs.size ≤ c := by
          rcases e' with z | z | z | z | z
          · rw [z]; exact Nat.le_add_right _ _
          · rw [z]; exact Nat.le_add_right _ _
          · rw [z]; exact Nat.le_add_right _ _
          · rw [z]; exact Nat.le_refl _
          · rw [z]; exact Nat.le_add_right _ _
        exact I1.fpOk hle (I1.hok.fresh hle)
      obtain ⟨its, rv, p1, _⟩ := I1.list hqx
      obtain ⟨its2, rv2, p2', _⟩ := I1.list hqy
      refine call_zip_2 p1.isList p2'.isList fun h' hz hTI hTO h1 h2 hsz hk => PyProof.Rows.args_nil ?_
      have I2 : Inv X pins σ H1 { s1 with heap := h' } := I1.kept (t' := s1.toks) hk
      exact call_listZip hc (PySem.W.ktu_apart s1.heap.objs.size a b p1.lt p2'.lt) I2 fresh5 ⟨.inl hz, ⟨_, _, hTO⟩, hTI, h1, h2⟩ hqx hqy big fin
end Lw

set_option Elab.async false
set_option linter.all false
set_option maxRecDepth 100000
set_option maxHeartbeats 1000000
/-! enumerate(xs, start=k), xs a list. -/
namespace Lw
open PySem PySem.Spec PyProof.Rows L2
theorem callWith_type_kwB {M : Model} {A : Around} {E : Value → Shared → Prop} {s : Shared} {pos : Pos} {T : String} {first : List Value} {args : List (Bool × Sem Value)} {keywords : List (Option PySem.Str × Sem Value)} {Q : Value → Shared → Prop}
    (hplain : args.any (·.1) = false) (hkw : keywords.any (·.1.isNone) = false)
    (h : wpAny M A (evalArgs (.type T) true args keywords) (fun a s₁ => wpAny M A (call (.type T) (first ++ a.pos) a.kw) Q E s₁) E s) :
    wpAny M A (callWith pos (.type T) first args keywords) Q E s := by
  unfold callWith
  refine wpAny_bind (wpAny_holding (wpAny_mono h (fun a s₁ h₁ => wpAny_bind (wpAny_standAt ?_)) fun _ _ x => x))
  simp only [hplain, hkw, Bool.or_false]
  refine wpAny_bind (wpAny_pure ?_)
  exact wpAny_bind (wpAny_mono h₁ (fun r s₂ hr => wpAny_bind (wpAny_holding (wpAny_point (wpAny_pure hr)))) fun _ _ x => x)
/-- the list at a, each item in a new pair with a count from k -/
def Ites (K : PySem.W.Frag) (a : Addr) (k : Int) : It :=
  ⟨fun i H => ∃ (xs : List V) (x : V), SqL K H a xs ∧ xs[i]? = some x, fun i H v H' => ∃ T x, v = .ref T ∧ H T = none ∧ H' = upd H T (.tup [.int (k + (i : Nat)), x]) ∧ ∀ xs, SqL K H a xs → xs[i]? = some x, fun i H => ∃ xs : List V, SqL K H a xs ∧ xs.length = i⟩
theorem turn_enumS {P : Program} {w : World} {K : PySem.W.Frag} {elts : List Expr} {kk : Nat} {tpos : Pos} (k : Int) (a e it : Addr) :
    Turn P w K (.Tuple elts kk tpos) (Ites K a k) [e, it] e (fun i h => (∃ old, IsEnum h e it (k + ((i : Nat) : Int)) old) ∧ h.IsListIter it a i ∧ e ≠ it) where
  mem := by simp
  obj := fun i h st b hb => by
    obtain ⟨⟨old, isE⟩, ⟨o, ho, hc, hd⟩, _⟩ := st
    rcases (show b = e ∨ b = it by simpa using hb) with rfl | rfl
    · exact ⟨_, isE, fun v q => nomatch q⟩
    · exact ⟨o, ho, fun v q => by rw [hd] at q; cases q⟩
  keep := fun i h h' st k => by
    obtain ⟨⟨old, isE⟩, isI, ne⟩ := st
    exact ⟨⟨old, k e (by simp) _ isE⟩, isI.at fun o q => k it (by simp) o q, ne⟩
  item := by
    intro X hP hw hK hc i pins s σ H E I hf st hg
    subst hP hw hK
    obtain ⟨⟨old, isE⟩, isI, ne⟩ := st
    obtain ⟨xs, x, hq, hx⟩ := hg
    obtain ⟨its, rv, p, hz⟩ := I.list hq
    have isT : s.heap.IsList a its.toArray := p.isList
    obtain ⟨u, hu, ru⟩ := rv.get hx
    have inE : e < s.heap.objs.size := Heap.lt_size isE
    have inI : it < s.heap.objs.size := by obtain ⟨_, q, _⟩ := isI; exact Heap.lt_size q
    have neA : e ≠ a := fun z => by
      obtain ⟨o, q, qc, _⟩ := isT
      rw [← z, show s.heap.get? e = _ from isE] at q
      cases q
      exact absurd qc (by show ¬ Value.type "enumerate" = Value.type "list"; decide)
    have neI : a ≠ it := fun z => by
      obtain ⟨o, q, qc, _⟩ := isT
      obtain ⟨o', q', qc', _⟩ := isI
      rw [z, q'] at q
      cases q
      rw [qc'] at qc
      exact absurd qc (by decide)
    have few : i < its.toArray.size := by
      have := (List.getElem?_eq_some_iff.mp hu).1
      simpa using this
    refine wpAny_pyNext_enum_itemC (PySem.Draws.list (A := X.A.in1) (I.ok.hd hc) it a neI its.toArray) isE ⟨isI, isT⟩ few ne (by simp [ne, neA]) fun x2 h' tk hp2 out st2 hT hsz hk => ?_
    have e2 : x2 = u := by
      have hu' : its.toArray[i]? = some u := by simpa using hu
      rw [hu'] at hp2
      exact (Option.some.inj hp2).symm
    subst e2
    refine ⟨_, rfl, wpAny_letOwnedTupleGo_enum (s := { s with heap := h', toks := tk + 1 }) out fun h2 isE2 sb => ?_⟩
    have hT2 : h2.get? s.heap.objs.size = some { cls := .type "tuple", data := .seq #[.int (k + i) tk, x2] } := (sb.2 _ (Nat.ne_of_gt inE)).trans hT
    have new : ObjOk X.prog X.w (upd H s.heap.objs.size (.tup [.int (k + (i : Nat)), x])) h2 s.heap.objs.size (.tup [.int (k + (i : Nat)), x]) := ⟨by show 2 ≤ sizeLine; decide, [.int (k + i) tk, x2], .cons ⟨_, rfl⟩ (.cons ru .nil), ⟨_, hT2, rfl, _, rfl⟩⟩
    have I1 : Inv X pins σ (upd H s.heap.objs.size (.tup [.int (k + (i : Nat)), x])) { s with heap := h2, toks := tk + 1 } :=
      I.turnedNew (ch := [e, it]) (fun b ob hb q => (sb.2 b (fun z => hb (by simp [z]))).trans (hk b ob (fun z => hb (by simp [z])) (fun z => hb (by simp [z])) q)) hf (Nat.le_refl _) new
    refine ⟨.ref s.heap.objs.size, _, I1, rfl, ⟨_, x, rfl, I.hok.fresh (Nat.le_refl _), rfl, fun ys hy => by rw [I.list_inj hy hq]; exact hx⟩, ⟨⟨x2, ?_⟩, st2.1.at fun o q => (sb.2 it (Ne.symm ne)).trans q, ne⟩, fun b hb => ?_⟩
    · rw [show k + ((i + 1 : Nat) : Int) = k + (i : Int) + 1 by omega]
      exact isE2
    · have hb' : b < s.heap.objs.size := by
        rcases (show b = e ∨ b = it by simpa using hb) with rfl | rfl
        · exact inE
        · exact inI
      rw [upd_ne (Nat.ne_of_lt hb')]
      exact (hf b hb).1
  done := by
    intro X hP hw hK hc i pins s σ H E I hf st hg
    subst hP hw hK
    obtain ⟨⟨old, isE⟩, isI, ne⟩ := st
    obtain ⟨xs, hq, hx⟩ := hg
    obtain ⟨its, rv, p, hz⟩ := I.list hq
    have isT : s.heap.IsList a its.toArray := p.isList
    obtain ⟨f0, f1, f2, f3, f4, f5⟩ := hf it (by simp)
    have size : its.toArray.size = i := by rw [List.size_toArray, ← rv.length]; exact hx
    have neI : a ≠ it := fun z => by
      obtain ⟨o, q, qc, _⟩ := isT
      obtain ⟨o', q', qc', _⟩ := isI
      rw [z, q'] at q
      cases q
      rw [qc'] at qc
      exact absurd qc (by decide)
    exact wpAny_pyNext_enum_endD (PySem.Draws.list (A := X.A.in1) (I.ok.hd hc) it a neI its.toArray) isE ⟨by rw [size]; exact isI, isT⟩ fun h' eb => ⟨rfl, I.turned (t' := s.toks) (fun b o hb q => eb b o hb q) f0 f1 f3 f4 f5⟩
  self := fun A i s Q E st h => by
    obtain ⟨⟨_, isE⟩, _⟩ := st
    exact wpAny_pyIter_enum isE h
def iEnumS (K : PySem.W.Frag) (ta tk : TA) : TI := fun σ H R => ta σ H fun vs H1 => tk σ H1 fun zs H2 => ∃ a xs k, vs = [.ref a] ∧ zs = [.int k] ∧ 0 ≤ k ∧ k ≤ 100000 ∧ SqL K H2 a xs ∧ R (Ites K a k) H2
theorem pi_enumS {X : Cx} {e e2 : Expr} {ta tk : TA} {p pos kpos tpos : Pos} {elts : List Expr} {kk : Nat} (glob : Gl X "enumerate") (free : X.mg "enumerate" = none) (arg : PA X [e] ta) (kw : PK X [⟨some "start", e2, kpos⟩] tk)
    (he : starEach [e] X.env = (false, eval e X.env) :: starEach [] X.env := by rfl) :
    PI X (.Tuple elts kk tpos) (.Call (.Name "enumerate" p) [e] [⟨some "start", e2, kpos⟩] pos) (iEnumS X.K ta tk) := by
  constructor
  intro pins s σ H R I h
  refine wpAny_Call_Name_kw (ld_blt I glob free boot_enumerate ?_)
  refine callWith_type_kwB (by rw [he]; rfl) (by rfl) ?_
  rw [he]
  refine evalArgs_kwB (by rfl) ?_
  have run := arg.run pos pins s σ H _ I h
  rw [he] at run
  refine thn run fun us s1 ⟨vs, H1, I1, r1, q1⟩ => ?_
  refine thn (kw.run pos pins s1 σ H1 _ I1 q1) fun ws s2 ⟨zs, H2, I2, r2, q2⟩ => ?_
  obtain ⟨a, xs, k, rfl, rfl, k0, k1, hq, q⟩ := q2
  obtain ⟨u, rfl, ru⟩ := vals1 r1
  obtain ⟨u2, rfl, ru2⟩ := vals1 r2
  cases ru
  obtain ⟨t2, rfl⟩ := ru2
  obtain ⟨its, rv, p', hz⟩ := I2.list hq
  have isT : s2.heap.IsList a its.toArray := p'.isList
  show wpAny _ _ (call (.type "enumerate") [.ref a] [(Str.ofString "start", .int k t2)]) _ _ _
  refine enum_begins_start (begins_list a its.toArray) isT (by omega) (by omega) fun h' isE hit hsz hk => wpAny_pyIter_enum isE ?_
  have I3 : Inv X pins σ H2 { s2 with heap := h' } := I2.kept (t' := s2.toks) hk
  refine ⟨s2.heap.objs.size + 1, [s2.heap.objs.size + 1, s2.heap.objs.size], _, _, H2, rfl, I3, turn_enumS k a (s2.heap.objs.size + 1) s2.heap.objs.size, ⟨⟨.none, by rw [show k + ((0 : Nat) : Int) = k by omega]; exact isE⟩, ⟨_, hit, rfl, rfl⟩, Nat.succ_ne_self _⟩, fun b hb => ?_, q⟩
  have up : s2.heap.objs.size ≤ b := by
    rcases (show b = s2.heap.objs.size + 1 ∨ b = s2.heap.objs.size by simpa using hb) with rfl | rfl
    · exact Nat.le_succ _
    · exact Nat.le_refl _
  exact I2.fpOk up (I2.hok.fresh up)
/-- a comprehension over it -/
theorem lc_enumS {K : PySem.W.Frag} {a : Addr} {k : Int} {xs : List V} {g : TG} {tt : TT} {te : TE} {vs : List Nat} {σ : L2.St} {H1 : Hp} {D : Addr} {Qd : Hp → Prop} (Pv : Nat → Hp → Prop) (h0 : Pv 0 (upd H1 D (.lst []))) (hl : ∀ i H, Pv i H → SqL K H a xs)
    (hs : ∀ i x T H, xs[i]? = some x → Pv i H → H T = none → g (.ref T) (wipe σ vs) (upd H T (.tup [.int (k + (i : Nat)), x])) fun σ2 H2 => wipe σ2 vs = wipe σ vs ∧ tt σ2 H2 fun b H3 =>
      if b = true then te σ2 H3 fun y H4 => ∃ acc, H4 D = some (.lst acc) ∧ acc.length < sizeLine ∧ Pv (i + 1) (upd H4 D (.lst (acc ++ [y]))) else Pv (i + 1) H3) (hd : ∀ H, Pv xs.length H → Qd H) :
    ∃ W : Nat → Nat → Hp → Prop, (∃ m, W 0 m (upd H1 D (.lst []))) ∧ ∀ i m H, W i m H →
      ((Ites K a k).stop i H ∧ Qd H) ∨ ((Ites K a k).go i H ∧ ∃ Nx : Hp → Prop, (∀ H', Nx H' → ∃ m', m' < m ∧ W (i + 1) m' H') ∧ ∀ x H', (Ites K a k).yld i H x H' → g x (wipe σ vs) H' fun σ2 H2 => wipe σ2 vs = wipe σ vs ∧ tt σ2 H2 fun b H3 =>
        if b = true then te σ2 H3 fun y H4 => ∃ acc, H4 D = some (.lst acc) ∧ acc.length < sizeLine ∧ Nx (upd H4 D (.lst (acc ++ [y]))) else Nx H3) := by
  refine ⟨fun i m H => m = xs.length - i ∧ i ≤ xs.length ∧ Pv i H, ⟨xs.length, by simp, Nat.zero_le _, h0⟩, ?_⟩
  rintro i m H ⟨rfl, hi, p⟩
  have q := hl i H p
  by_cases hlt : i < xs.length
  · refine .inr ⟨⟨xs, xs[i], q, by simp [hlt]⟩, Pv (i + 1), fun H' p' => ⟨xs.length - (i + 1), by omega, rfl, hlt, p'⟩, fun x H' y => ?_⟩
    obtain ⟨T, x', rfl, hT, rfl, f⟩ := y
    exact hs i x' T H (f xs q) p hT
  · have e : i = xs.length := by omega
    subst e
    exact .inl ⟨⟨xs, q, rfl⟩, hd H p⟩
end Lw

set_option Elab.async false
set_option linter.all false
set_option maxRecDepth 100000
set_option maxHeartbeats 1000000
namespace Lw
open PySem PySem.Spec PyProof.Rows L2
/-- C(..), C held by a local -/
def tMakeL (i : Nat) (C : Addr) (sp : Sp) (dvs : List V) (E : XK) (t : TA) : TE := fun σ H Q => σ[i]? = some (some (.ref C)) ∧ tMake C sp dvs E t σ H Q
theorem pe_makeL {X : Cx} {CX : CXT} {k i : Nat} {C f : Addr} {fd : FuncData} {ps : List PySem.Str} {sp : Sp} {dvs : List V} {ds : List Value} {E : XK} {x : PySem.Str} {p pos : Pos} {e : Expr} {es : List Expr} {t : TA} (M : Mk X.K C f) (F : FnOk X.prog X.w X.K X.mg X.base CX k f fd ps sp) (hr : Room (k + 1) X.A)
    (hN : X.N[i]? = some x) (hv : Vis X.env.scope x) (hb : Binds X.K fd ps ds) (hd : Vals dvs ds) (hx : Passes CX X E) (ha : PA X (e :: es) t)
    (hdb : (x == ("__debug__" : PySem.Str)) = false := by decide) (hcd : (x == ("__classdict__" : PySem.Str)) = false := by decide)
    (he : starEach (e :: es) X.env = (false, eval e X.env) :: starEach es X.env := by rfl) (hpl : (backTo pos (starEach es X.env)).any (·.1) = false := by rfl) : PE X (.Call (.Name x p) (e :: es) [] pos) (tMakeL i C sp dvs E t) := by
  refine ⟨fun pins s σ H Q I h => ?_⟩
  obtain ⟨hs, ht⟩ := h
  refine wpAny_Call_Name_kw (thn ((pe_var (pos := p) hN hv hdb hcd).run pins s σ H (fun v H1 => v = .ref C ∧ H1 = H) I ⟨.ref C, hs, rfl, rfl⟩) fun u s1 ⟨v, H1, I1, r1, q1⟩ => ?_)
  obtain ⟨rfl, rfl⟩ := q1
  cases r1
  refine PySem.W.callWith_K (h₀ := X.base) I1.ok.mod.kin M.kp (thn (ha.run pos pins s1 σ _ _ I1 ht) fun us s2 ⟨vs, H2, I2, r, q⟩ => ⟨I2.kIn, ?_⟩) he hpl
  exact run_make M F hr hb hd hx I2 r q
end Lw
namespace K2
open PySem L2 Lw TL SxT
/-- what reads rows and editions -/
structure RdF (K : PySem.W.Frag) (mg : Str → Option Value) (a : Ad) (b : Ae) (fO fR fL fB fP fE : Addr) (dO dR dL dB dP dE : FuncData) (pR pE : Addr) : Prop where
  of : Top K mg "_row_of" sRowOf fO dO ["words"]
  rdF : Fun K "read" "Row.read" sRowRead fR dR
  rdB : Binds K dR ["cls", "text"] []
  rdM : ClX.CMet K a.cRow (.type "type") "read" pR fR
  line : Top K mg "_read_row" sReadRow fL dL ["line", "at"]
  behind : Top K mg "names_behind" sBehind fB dB ["head", "line"]
  parts : Top K mg "read_parts" sParts fP dP ["lines", "at"]
  edF : Fun K "read" "Edition.read" sEdRead fE dE
  edB : Binds K dE ["cls", "text"] []
  edR : ClX.CRead K b.cEd (.type "type")
  edM : ClX.CMet K b.cEd (.type "type") "read" pE fE
  edK : Mk K b.cEd b.fEd
  zip : mg "zip" = none
  enum : mg "enumerate" = none
def spRowOf (K : PySem.W.Frag) (a : Ad) : Sp := fun vs H Q _ => ∃ (l : Addr) (r : Row0), vs = [.ref l] ∧ SqL K H l ((wordsR r).map V.str) ∧ RowGood r ∧ ∀ (H' : Hp) (x : Addr), Same H H' → H x = none → RowAt K a H' (.ref x) r → Q (.ref x) H'
def spRowRead (K : PySem.W.Frag) (a : Ad) : Sp := fun vs H Q _ => ∃ (r : Row0), vs = [.ref a.cRow, .str (textR r)] ∧ RowGood r ∧ ∀ (H' : Hp) (x : Addr), Same H H' → H x = none → RowAt K a H' (.ref x) r → Q (.ref x) H'
def spReadRow (K : PySem.W.Frag) (a : Ad) : Sp := fun vs H Q _ => ∃ (r : Row0) (i : Int), vs = [.str (textR r), .int i] ∧ RowGood r ∧ ∀ (H' : Hp) (x : Addr), Same H H' → H x = none → RowAt K a H' (.ref x) r → Q (.ref x) H'
section
variable {P : Program} {w : World} {K : PySem.W.Frag} {mg : Str → Option Value} {base : Heap} {a : Ad} {b : Ae} {fO fR fL fB fP fE : Addr} {dO dR dL dB dP dE : FuncData} {pR pE : Addr}
theorem dp_pairs {H : Hp} : ∀ {as : List Addr} {ws : List (Str × Str)}, as.length = ws.length → (∀ (j : Nat) (x : Addr) (y : Str × Str), as[j]? = some x → ws[j]? = some y → H x = some (.tup [.str y.1, .str y.2])) → DpAll K H (as.map V.ref) (ws.map wayD)
  | [], [], _, _ => .nil
  | x :: as, y :: ws, h, f => .cons (.tup (SqT.of (f 0 x y rfl rfl)) (.cons (.str _) (.cons (.str _) .nil))) (dp_pairs (by simpa using h) fun j x' y' h1 h2 => f (j + 1) x' y' (by simpa using h1) (by simpa using h2))
  | [], _ :: _, h, _ => by simp at h
  | _ :: _, [], h, _ => by simp at h
theorem pick_one {p n : Str} : ∀ {ws : List (Str × Str)}, ws.length ≤ 3 → pickV ((wordsR (.ask p n ws)).map V.str) (some 3) none (some 2) = ws.map fun w => V.str w.1
  | [], _ => by
    show (sliceRange (sliceBounds (some 3) none (some 2) 3).1 (sliceBounds (some 3) none (some 2) 3).2.1 (sliceBounds (some 3) none (some 2) 3).2.2).filterMap _ = _
    rw [show sliceRange (sliceBounds (some 3) none (some 2) 3).1 (sliceBounds (some 3) none (some 2) 3).2.1 (sliceBounds (some 3) none (some 2) 3).2.2 = [] from by decide +kernel]
    rfl
  | [_], _ => by
    show (sliceRange (sliceBounds (some 3) none (some 2) 5).1 (sliceBounds (some 3) none (some 2) 5).2.1 (sliceBounds (some 3) none (some 2) 5).2.2).filterMap _ = _
    rw [show sliceRange (sliceBounds (some 3) none (some 2) 5).1 (sliceBounds (some 3) none (some 2) 5).2.1 (sliceBounds (some 3) none (some 2) 5).2.2 = [3] from by decide +kernel]
    rfl
  | [_, _], _ => by
    show (sliceRange (sliceBounds (some 3) none (some 2) 7).1 (sliceBounds (some 3) none (some 2) 7).2.1 (sliceBounds (some 3) none (some 2) 7).2.2).filterMap _ = _
    rw [show sliceRange (sliceBounds (some 3) none (some 2) 7).1 (sliceBounds (some 3) none (some 2) 7).2.1 (sliceBounds (some 3) none (some 2) 7).2.2 = [3, 5] from by decide +kernel]
    rfl
  | [_, _, _], _ => by
    show (sliceRange (sliceBounds (some 3) none (some 2) 9).1 (sliceBounds (some 3) none (some 2) 9).2.1 (sliceBounds (some 3) none (some 2) 9).2.2).filterMap _ = _
    rw [show sliceRange (sliceBounds (some 3) none (some 2) 9).1 (sliceBounds (some 3) none (some 2) 9).2.1 (sliceBounds (some 3) none (some 2) 9).2.2 = [3, 5, 7] from by decide +kernel]
    rfl
  | _ :: _ :: _ :: _ :: _, h => by simp at h
theorem pick_two {p n : Str} : ∀ {ws : List (Str × Str)}, ws.length ≤ 3 → pickV ((wordsR (.ask p n ws)).map V.str) (some 4) none (some 2) = ws.map fun w => V.str w.2
  | [], _ => by
    show (sliceRange (sliceBounds (some 4) none (some 2) 3).1 (sliceBounds (some 4) none (some 2) 3).2.1 (sliceBounds (some 4) none (some 2) 3).2.2).filterMap _ = _
    rw [show sliceRange (sliceBounds (some 4) none (some 2) 3).1 (sliceBounds (some 4) none (some 2) 3).2.1 (sliceBounds (some 4) none (some 2) 3).2.2 = [] from by decide +kernel]
    rfl
  | [_], _ => by
    show (sliceRange (sliceBounds (some 4) none (some 2) 5).1 (sliceBounds (some 4) none (some 2) 5).2.1 (sliceBounds (some 4) none (some 2) 5).2.2).filterMap _ = _
    rw [show sliceRange (sliceBounds (some 4) none (some 2) 5).1 (sliceBounds (some 4) none (some 2) 5).2.1 (sliceBounds (some 4) none (some 2) 5).2.2 = [4] from by decide +kernel]
    rfl
  | [_, _], _ => by
    show (sliceRange (sliceBounds (some 4) none (some 2) 7).1 (sliceBounds (some 4) none (some 2) 7).2.1 (sliceBounds (some 4) none (some 2) 7).2.2).filterMap _ = _
    rw [show sliceRange (sliceBounds (some 4) none (some 2) 7).1 (sliceBounds (some 4) none (some 2) 7).2.1 (sliceBounds (some 4) none (some 2) 7).2.2 = [4, 6] from by decide +kernel]
    rfl
  | [_, _, _], _ => by
    show (sliceRange (sliceBounds (some 4) none (some 2) 9).1 (sliceBounds (some 4) none (some 2) 9).2.1 (sliceBounds (some 4) none (some 2) 9).2.2).filterMap _ = _
    rw [show sliceRange (sliceBounds (some 4) none (some 2) 9).1 (sliceBounds (some 4) none (some 2) 9).2.1 (sliceBounds (some 4) none (some 2) 9).2.2 = [4, 6, 8] from by decide +kernel]
    rfl
  | _ :: _ :: _ :: _ :: _, h => by simp at h
theorem ask_many {p n : Str} : ∀ {ws : List (Str × Str)}, ws.length ≤ 3 → ((wordsR (.ask p n ws)).map V.str).length = 3 + 2 * ws.length
  | [], _ => rfl
  | [_], _ => rfl
  | [_, _], _ => rfl
  | [_, _, _], _ => rfl
  | _ :: _ :: _ :: _ :: _, h => by simp at h
theorem scRowOf : FnScope ["words", "kind"] ["words"] (defScope sRowOf) := ⟨rfl, rfl, rfl, by decide +kernel, rfl, by decide +kernel, by decide +kernel⟩
theorem okRowOf (T : Txt K mg a) (D : RdF K mg a b fO fR fL fB fP fE dO dR dL dB dP dE pR pE) : FnOk P w K mg base CX0 6 fO dO ["words"] (spRowOf K a) := by
  refine D.of.F.ok scRowOf (fun vs H Q E h => ?_) (fun cdv A outer s H vs Q E hr h => ?_)
  · obtain ⟨l, r, rfl, _⟩ := h
    rfl
  · obtain ⟨l, r, rfl, hs, gr, fin⟩ := h
    refine ⟨_, pss_cons (ps_set (i := 1) scRowOf.nd rfl (Or.inl rfl) (pe_ifExp (pt_cmpR op_gt (pe_callB call_len_seq (by rfl) T.tLen PySem.boot_len (pa_cons (pv 0) pa_nil)) pe_int (nomark _)) (pe_ix ix_list (pv 0) pe_int (fun _ _ => rfl)) pe_str))
      (pss_cons (ps_if (PW.pt (pw_and (pt_cmpR op_eq (pv 1) pe_str (nomark _)) (pw_and1 (pt_cmpR op_eq (pe_op op_mod (pe_callB call_len_seq (by rfl) T.tLen PySem.boot_len (pa_cons (pv 0) pa_nil)) pe_int) pe_int (nomark _)))))
        (pss_one (ps_ret (pe_make T.ask.mkd T.okAsk hr rfl T.ask.g T.ask.b .nil passL (pa_cons (pe_ix ix_list (pv 0) pe_int (fun _ _ => rfl)) (pa_cons (pe_ix ix_list (pv 0) pe_int (fun _ _ => rfl))
          (pa_cons (pe_listZip (by rfl) T.tList (by rfl) D.zip (pa_cons (pe_slice3 (pv 0) (po_some pe_int) po_none (po_some pe_int)) (pa_cons (pe_slice3 (pv 0) (po_some pe_int) po_none (po_some pe_int)) pa_nil))) pa_nil)))))) pss_nil)
      (pss_cons (ps_if (PW.pt (pw_and (pt_cmpR op_eq (pv 1) pe_str (nomark _)) (pw_and1 (pt_cmpR op_eq (pe_callB call_len_seq (by rfl) T.tLen PySem.boot_len (pa_cons (pv 0) pa_nil)) pe_int (nomark _)))))
        (pss_one (ps_ret (pe_make T.note.mkd T.okNote hr rfl T.note.g T.note.b .nil passL (pa_cons (pe_ix ix_list (pv 0) pe_int (fun _ _ => rfl)) (pa_cons (pe_ix ix_list (pv 0) pe_int (fun _ _ => rfl)) (pa_cons (pe_ix ix_list (pv 0) pe_int (fun _ _ => rfl)) pa_nil)))))) pss_nil)
      (pss_cons (ps_if (PW.pt (pw_and (pt_cmpR op_eq (pv 1) pe_str (nomark _)) (pw_and1 (pt_cmpR op_eq (pe_callB call_len_seq (by rfl) T.tLen PySem.boot_len (pa_cons (pv 0) pa_nil)) pe_int (nomark _)))))
        (pss_one (ps_ret (pe_make T.gate.mkd T.okGate hr rfl T.gate.g T.gate.b .nil passL (pa_cons (pe_ix ix_list (pv 0) pe_int (fun _ _ => rfl)) (pa_cons (pe_ix ix_list (pv 0) pe_int (fun _ _ => rfl)) (pa_cons (pe_ix ix_list (pv 0) pe_int (fun _ _ => rfl)) (pa_cons (pe_ix ix_list (pv 0) pe_int (fun _ _ => rfl)) pa_nil))))))) pss_nil)
      (pss_cons (ps_if (PW.pt (pw_and (pt_cmpR op_eq (pv 1) pe_str (nomark _)) (pw_and1 (pt_cmpR op_eq (pe_callB call_len_seq (by rfl) T.tLen PySem.boot_len (pa_cons (pv 0) pa_nil)) pe_int (nomark _)))))
        (pss_one (ps_ret (pe_make T.end_.mkd T.okEnd hr rfl T.end_.g T.end_.b .nil passL (pa_cons (pe_ix ix_list (pv 0) pe_int (fun _ _ => rfl)) pa_nil)))) pss_nil)
      (pss_one ps_dead))))), ?_⟩
    have fin' : ∀ (H' : Hp) (x dx : Addr) (fs : List (Str × V)), Same H H' → H x = none → H' x = some (.ins (clsR a r) dx fs) → fieldsOk K H' fs r → Bare fs → Q (.ref x) H' := fun H' x dx fs s hx h1 h2 h3 => fin H' x s hx ⟨x, dx, fs, rfl, h1, h2, h3⟩
    have eqT : ∀ z : Str, decide (V.str z = V.str z) = true := fun z => by simp
    cases r with
    | ask p n ws =>
      have few : ws.length ≤ 3 := gr.2.2.2.1
      have many := ask_many (p := p) (n := n) few
      refine ⟨_, rfl, l, _, rfl, .inl hs, _, _, rfl, rfl, _, rfl, ?_⟩
      refine iteTb (decide_eq_true (by rw [many]; omega)) ⟨_, rfl, l, _, 1, _, rfl, rfl, hs, atI_nat (j := 1) rfl, ?_⟩
      dsimp only [gName, tNext]
      refine ⟨_, rfl, rfl, _, rfl, iteTb (eqT _) ?_⟩
      refine ⟨_, rfl, l, _, rfl, .inl hs, _, _, rfl, rfl, (by show (0 : Int) < 2; decide), rfl, _, rfl, ?_⟩
      refine iteTb (decide_eq_true (by rw [many]; exact congrArg V.int (by omega))) ?_
      refine ⟨_, rfl, l, _, 0, _, rfl, rfl, hs, atI_nat (j := 0) rfl, _, rfl, l, _, 2, _, rfl, rfl, hs, atI_nat (j := 2) rfl, _, rfl, _, rfl, _, rfl, l, _, rfl, hs, by decide, by rw [many]; omega, fun q1 u1 => ?_⟩
      rw [pick_one few]
      have s1 := same_new (o := .lst (ws.map fun w => V.str w.1)) u1
      have h1 : (upd H q1 (.lst (ws.map fun w => V.str w.1))) q1 = some (.lst (ws.map fun w => V.str w.1)) := upd_same
      generalize (upd H q1 (.lst (ws.map fun w => V.str w.1))) = H1 at s1 h1 ⊢
      refine ⟨_, rfl, _, rfl, _, rfl, l, _, rfl, s1.seq hs, by decide, by rw [many]; omega, fun q2 u2 => ?_⟩
      rw [pick_two few]
      have s2 := same_new (o := .lst (ws.map fun w => V.str w.2)) u2
      have h2 : (upd H1 q2 (.lst (ws.map fun w => V.str w.2))) q2 = some (.lst (ws.map fun w => V.str w.2)) := upd_same
      generalize (upd H1 q2 (.lst (ws.map fun w => V.str w.2))) = H2 at s2 h2 ⊢
      refine ⟨q1, q2, _, _, rfl, SqL.of (s2 _ _ h1), SqL.of h2, by rw [List.length_map]; omega, fun H3 q as s3 uq hq la pa => ?_⟩
      have S := (s1.trans s2).trans s3
      rw [List.length_map, List.length_map, Nat.min_self] at la
      have hp : DpAll K H3 (as.map V.ref) (ws.map wayD) := dp_pairs la fun j x y e1 e2 => by
        obtain ⟨x', y', e3, e4, e5⟩ := pa j x e1
        rw [List.getElem?_map, e2] at e3 e4
        have e3 : V.str y.1 = x' := by simpa using e3
        have e4 : V.str y.2 = y' := by simpa using e4
        rw [e3, e4]
        exact e5
      exact make_list (σ := []) (ta := fun _ H Q => Q [.str p, .str n, .ref q] H) (fun Q z => z) (.cons (.str _) (.cons (.str _) (.cons (.lst (SqL.of hq) hp) .nil))) gr fun H' x dx fs s hx h1 h2 h3 => fin' H' x dx fs (S.trans s) (S.free hx) h1 h2 h3
    | note p w t =>
      refine ⟨_, rfl, l, _, rfl, .inl hs, _, _, rfl, rfl, _, rfl, ?_⟩
      refine iteTb rfl ⟨_, rfl, l, _, 1, _, rfl, rfl, hs, atI_nat (j := 1) rfl, ?_⟩
      dsimp only [gName, tNext]
      refine ⟨_, rfl, rfl, _, rfl, iteFb (by decide) (iteF ?_)⟩
      refine ⟨_, rfl, rfl, _, rfl, iteTb (eqT _) ?_⟩
      refine ⟨_, rfl, l, _, rfl, .inl hs, rfl, _, rfl, iteTb (by rfl) ?_⟩
      exact make_case (r := .note p w t) (fun Q q => ⟨_, rfl, l, _, 0, _, rfl, rfl, hs, atI_nat (j := 0) rfl, _, rfl, l, _, 2, _, rfl, rfl, hs, atI_nat (j := 2) rfl, _, rfl, l, _, 3, _, rfl, rfl, hs, atI_nat (j := 3) rfl, q⟩) (.cons (.str _) (.cons (.str _) (.cons (.str _) .nil))) (good_fine gr) rfl (good_due gr) fin'
    | gate p m n e =>
      refine ⟨_, rfl, l, _, rfl, .inl hs, _, _, rfl, rfl, _, rfl, ?_⟩
      refine iteTb rfl ⟨_, rfl, l, _, 1, _, rfl, rfl, hs, atI_nat (j := 1) rfl, ?_⟩
      dsimp only [gName, tNext]
      refine ⟨_, rfl, rfl, _, rfl, iteFb (by decide) (iteF ?_)⟩
      refine ⟨_, rfl, rfl, _, rfl, iteFb (by decide) (iteF ?_)⟩
      refine ⟨_, rfl, rfl, _, rfl, iteTb (eqT _) ?_⟩
      refine ⟨_, rfl, l, _, rfl, .inl hs, rfl, _, rfl, iteTb (by rfl) ?_⟩
      exact make_case (r := .gate p m n e) (fun Q q => ⟨_, rfl, l, _, 0, _, rfl, rfl, hs, atI_nat (j := 0) rfl, _, rfl, l, _, 2, _, rfl, rfl, hs, atI_nat (j := 2) rfl, _, rfl, l, _, 3, _, rfl, rfl, hs, atI_nat (j := 3) rfl, _, rfl, l, _, 4, _, rfl, rfl, hs, atI_nat (j := 4) rfl, q⟩) (.cons (.str _) (.cons (.str _) (.cons (.str _) (.cons (.str _) .nil)))) (good_fine gr) rfl (good_due gr) fin'
    | end_ p =>
      refine ⟨_, rfl, l, _, rfl, .inl hs, _, _, rfl, rfl, _, rfl, ?_⟩
      refine iteTb rfl ⟨_, rfl, l, _, 1, _, rfl, rfl, hs, atI_nat (j := 1) rfl, ?_⟩
      dsimp only [gName, tNext]
      refine ⟨_, rfl, rfl, _, rfl, iteFb (by decide) (iteF ?_)⟩
      refine ⟨_, rfl, rfl, _, rfl, iteFb (by decide) (iteF ?_)⟩
      refine ⟨_, rfl, rfl, _, rfl, iteFb (by decide) (iteF ?_)⟩
      refine ⟨_, rfl, rfl, _, rfl, iteTb (eqT _) ?_⟩
      refine ⟨_, rfl, l, _, rfl, .inl hs, rfl, _, rfl, iteTb (by rfl) ?_⟩
      exact make_case (r := .end_ p) (fun Q q => ⟨_, rfl, l, _, 0, _, rfl, rfl, hs, atI_nat (j := 0) rfl, q⟩) (.cons (.str _) .nil) (good_fine gr) rfl (good_due gr) fin'
theorem textR_short {r : Row0} (g : RowGood r) : (textR r).length ≤ 100 := textR_len g
theorem scRowRead : FnScope ["cls", "text", "words"] ["cls", "text"] (defScope sRowRead) := ⟨rfl, rfl, rfl, by decide +kernel, rfl, by decide +kernel, by decide +kernel⟩
theorem okRowRead (T : Txt K mg a) (D : RdF K mg a b fO fR fL fB fP fE dO dR dL dB dP dE pR pE) : FnOk P w K mg base CX0 7 fR dR ["cls", "text"] (spRowRead K a) := by
  refine D.rdF.ok scRowRead (fun vs H Q E h => ?_) (fun cdv A outer s H vs Q E hr h => ?_)
  · obtain ⟨r, rfl, _⟩ := h
    rfl
  · obtain ⟨r, rfl, gr, fin⟩ := h
    refine ⟨_, pss_cons (ps_set (i := 2) scRowRead.nd rfl (Or.inl rfl) (pe_split (pv 1) pe_str))
      (pss_one (ps_try_thru0 (pss_one (ps_ret (pe_call (okRowOf T D) hr rfl D.of.g D.of.F.kp D.of.b .nil pass0 (pa_cons (pv 2) pa_nil)))))), ?_⟩
    have lt := textR_len gr
    refine ⟨_, rfl, ⟨_, rfl⟩, _, _, rfl, rfl, by decide +kernel, Nat.le_trans (Nat.add_le_add_right lt 2) (by decide), fun p up => ?_⟩
    rw [good_split gr]
    dsimp only [gName, tNext]
    exact ⟨_, rfl, p, r, rfl, SqL.of upd_same, gr, fun H' x s hx hR => fin H' x ((same_new up).trans s) ((same_new up).free hx) hR⟩
theorem scReadRow : FnScope ["line", "at"] ["line", "at"] (defScope sReadRow) := ⟨rfl, rfl, rfl, by decide +kernel, rfl, by decide +kernel, by decide +kernel⟩
theorem okReadRow (T : Txt K mg a) (D : RdF K mg a b fO fR fL fB fP fE dO dR dL dB dP dE pR pE) : FnOk P w K mg base CX0 8 fL dL ["line", "at"] (spReadRow K a) := by
  refine D.line.F.ok scReadRow (fun vs H Q E h => ?_) (fun cdv A outer s H vs Q E hr h => ?_)
  · obtain ⟨r, i, rfl, _⟩ := h
    rfl
  · obtain ⟨r, i, rfl, gr, fin⟩ := h
    refine ⟨_, pss_one (ps_try_thru0 (pss_one (ps_ret (ClX.pe_cmeth (pe_glob (v := .ref a.cRow) (by rfl) T.row.g rfl) T.rowR D.rdM ((okRowRead T D).raw D.rdB .nil) hr pass0 (pa_cons (pv 0) pa_nil))))), ?_⟩
    exact ⟨rfl, _, rfl, r, rfl, gr, fin⟩
end
end K2

set_option Elab.async false
set_option linter.all false
set_option maxRecDepth 100000
set_option maxHeartbeats 1000000
namespace K2
open PySem L2 Lw TL SxT
section
variable {P : Program} {w : World} {K : PySem.W.Frag} {mg : Str → Option Value} {base : Heap} {a : Ad} {b : Ae} {fO fR fL fB fP fE : Addr} {dO dR dL dB dP dE : FuncData} {pR pE : Addr}
theorem EdT.bindAll (E : EdT K mg a b) : Binds K b.dEd ["self", "rows", "drops"] [] := by
  obtain ⟨ds, hv, hb⟩ := E.F.binds1 (ps := ["self", "rows", "drops"]) 3 1 (by simp) rfl (fun T kV doc pm an cdv ct us its hl hi => match us, hl, its, hi with | [_, _, _], _, [_], _ => ⟨_, rfl, rfl⟩)
  cases hv
  exact hb
theorem EdT.bindOne (E : EdT K mg a b) : ∃ ds, Vals [V.ref b.tD] ds ∧ Binds K b.dEd ["self", "rows", "drops"] ds :=
  E.F.binds1 (ps := ["self", "rows", "drops"]) 2 0 (by simp) rfl (fun T kV doc pm an cdv ct us its hl hi => match us, hl, its, hi with | [_, _], _, [_], _ => ⟨_, rfl, rfl⟩)
/-! ### rows made one by one -/
theorem row_off {H : Hp} {p : Addr} {ys : List V} {o : HO} {v : V} {r : Row0} (hp : H p = some (.lst ys)) (h : RowAt K a H v r) : RowAt K a (upd H p o) v r := by
  obtain ⟨x, dx, fs, e, hx, hf, hb⟩ := h.ex
  exact ⟨x, dx, fs, e, by rw [upd_ne (fun z => by rw [z, hp] at hx; cases hx)]; exact hx, fields_off hp hf, hb⟩
theorem rows_off {H : Hp} {p : Addr} {ys : List V} {o : HO} (hp : H p = some (.lst ys)) : ∀ {vs : List V} {rs : List Row0}, RowsAt K a H vs rs → RowsAt K a (upd H p o) vs rs
  | _, _, .nil => .nil
  | _, _, .cons h t => .cons (row_off hp h) (rows_off hp t)
def MadeR (K : PySem.W.Frag) (a : Ad) (H1 : Hp) (D : Addr) (rs : List Row0) (H' : Hp) : Prop := Same H1 H' ∧ ∃ acc, H' D = some (.lst acc) ∧ RowsAt K a H' acc rs
theorem MadeR.zero {H1 : Hp} {D : Addr} (u : H1 D = none) : MadeR K a H1 D [] (upd H1 D (.lst [])) := ⟨same_new u, [], upd_same, .nil⟩
theorem MadeR.mono {H1 H2 H3 : Hp} {D : Addr} {rs : List Row0} (h : MadeR K a H1 D rs H2) (s : Same H2 H3) : MadeR K a H1 D rs H3 := by
  obtain ⟨s1, acc, h1, h2⟩ := h
  exact ⟨s1.trans s, acc, s _ _ h1, h2.same s⟩
theorem MadeR.add {H1 H H4 : Hp} {D : Addr} {rs : List Row0} {r : Row0} {v : V} (h : MadeR K a H1 D rs H) (u : H1 D = none) (few : rs.length < 100000) (s : Same H H4) (hv : RowAt K a H4 v r) :
    ∃ acc, H4 D = some (.lst acc) ∧ acc.length < sizeLine ∧ MadeR K a H1 D (rs ++ [r]) (upd H4 D (.lst (acc ++ [v]))) := by
  obtain ⟨s1, acc, h1, h2⟩ := h
  have hD := s _ _ h1
  refine ⟨acc, hD, Nat.lt_of_le_of_lt (show acc.length ≤ 100000 by rw [h2.len]; omega) (by decide), fun b v eb => ?_, acc ++ [v], upd_same, ?_⟩
  · rw [upd_ne (ne_of_none eb u)]
    exact s _ _ (s1 _ _ eb)
  · exact rows_off hD ((h2.same s).app (.cons hv .nil))
def spParts (K : PySem.W.Frag) (a : Ad) : Sp := fun vs H Q _ => ∃ (p : Addr) (dz : List Str) (rs : List Row0) (i : Int), vs = [.ref p, .int i] ∧ SqL K H p ((Txt.join " " ("drops" :: dz) :: rs.map textR).map V.str) ∧ 0 ≤ i ∧ i ≤ 1000 ∧ (∀ z ∈ dz, nameOk z = true) ∧ dz.length ≤ 60 ∧ rs ≠ [] ∧ (∀ r ∈ rs, RowGood r) ∧ rs.length ≤ 60 ∧
  ∀ (H' : Hp) (t l q : Addr) (xs : List V), Same H H' → H t = none → H l = none → H q = none → H' t = some (.tup [.ref l, .ref q]) → H' l = some (.lst (dz.map V.str)) → H' q = some (.lst xs) → RowsAt K a H' xs rs → Q (.ref t) H'
theorem drops_split {dz : List Str} (h : ∀ z ∈ dz, nameOk z = true) : Txt.split (Txt.join " " ("drops" :: dz)) " " = ("drops" :: dz : List Str) := by
  refine split_join (s := 32) (S := []) (by decide +kernel) (by decide +kernel) (by simp) fun p hp => ?_
  rcases List.mem_cons.mp hp with rfl | hp
  · decide +kernel
  · exact name_no (h p hp) (by decide)
theorem head_len {dz : List Str} (h : ∀ z ∈ dz, nameOk z = true) (few : dz.length ≤ 60) : (Txt.join " " ("drops" :: dz)).length ≤ 400 := by
  have h1 := join_len " " ("drops" :: dz)
  have h2 := sum_le (n := 4) (ys := dz) fun z hz => ok4 (h z hz)
  have e : (" " : Str).length = 1 := by decide
  have e5 : ("drops" : Str).length = 5 := by decide
  rw [e, List.map_cons, List.sum_cons, List.length_cons, e5] at h1
  omega
abbrev nParts : List Str := ["lines", "at", "drops", "number", "line"]
theorem scParts : FnScope nParts ["lines", "at"] (defScope sParts) := ⟨rfl, rfl, rfl, by decide +kernel, rfl, by decide +kernel, by decide +kernel⟩
theorem okParts (T : Txt K mg a) (D : RdF K mg a b fO fR fL fB fP fE dO dR dL dB dP dE pR pE) : FnOk P w K mg base CX0 9 fP dP ["lines", "at"] (spParts K a) := by
  refine D.parts.F.ok scParts (fun vs H Q E h => ?_) (fun cdv A outer s H vs Q E hr h => ?_)
  · obtain ⟨p, dz, rs, i, rfl, _⟩ := h
    rfl
  · obtain ⟨p, dz, rs, i, rfl, hs, i0, i1, hz, fewz, ne, gr, few, fin⟩ := h
    have OB : FnOk P w K mg base CX0 2 fB dB ["head", "line"] spBehind := okBehind T D.behind.F
    have hr2 : Room 2 _ := hr.mono (by decide)
    refine ⟨_, pss_cons (ps_set (i := 2) scParts.nd rfl (Or.inl rfl) (pe_ifExp (pt_cmpR op_gt (pe_callB call_len_seq (by rfl) T.tLen PySem.boot_len (pa_cons (pv 0) pa_nil)) pe_int (nomark _)) (pe_call OB hr2 rfl D.behind.g D.behind.F.kp D.behind.b .nil pass0 (pa_cons pe_str (pa_cons (pe_ix ix_list (pv 0) pe_int (fun _ _ => rfl)) pa_nil))) pe_non))
      (pss_cons (ps_if (pt_cmpR op_isN (pv 2) pe_non rfl) (pss_one ps_dead) pss_nil)
      (pss_cons (ps_if (pt_cmpR op_eq (pe_callB call_len_seq (by rfl) T.tLen PySem.boot_len (pa_cons (pv 0) pa_nil)) pe_int (nomark _)) (pss_one ps_dead) pss_nil)
      (pss_one (ps_ret (pe_tup (pa_cons (pv 2) (pa_cons (pe_lc (own := [("number", 3), ("line", 4)]) (g := gTup K 2 (gCons (gName 3) (gCons (gName 4) gNil))) (tt := tYes) (te := tCall (spReadRow K a) [] E0 (tCons (tVar 4) (tCons (tVar 3) tNil))) (by rfl) scParts.nd
          (pi_enumS (by rfl) D.enum (pa_cons (pe_slice sl_list (pv 0) (po_some pe_int) po_none) pa_nil) (pk_cons (pe_op op_add (pv 1) pe_int) pk_nil))
          (blkOk_by (own := [("number", 3), ("line", 4)]) (N := nParts) (sc := defScope sParts) (by decide +kernel)) (fun _ _ _ _ _ => pg_tup rfl (pgs_cons (pg_name (i := 3) scParts.nd rfl (.inl rfl)) (pgs_cons (pg_name (i := 4) scParts.nd rfl (.inl rfl)) pgs_nil))) (fun _ _ _ _ _ => pts_nil)
          (fun _ _ _ _ _ => pe_call (okReadRow T D) hr rfl D.line.g D.line.F.kp D.line.b .nil pass0 (pa_cons (pv 4) (pa_cons (pv 3) pa_nil)))) pa_nil))))))), ?_⟩
    refine ⟨_, rfl, p, _, rfl, .inl hs, _, _, rfl, rfl, _, rfl, ?_⟩
    refine iteTb (decide_eq_true (by simp)) ⟨_, rfl, p, _, 0, _, rfl, rfl, hs, atI_nat (j := 0) rfl, ?_⟩
    have hl := head_len hz fewz
    refine ⟨_, _, "drops", dz, rfl, by omega, drops_split hz, by omega, fun y hy => name_fine (hz y hy), fun _ _ H1 l s1 ul hl1 => ?_, fun z => absurd ⟨rfl, List.all_eq_true.mpr hz⟩ z⟩
    dsimp only [gName, tNext]
    refine ⟨_, rfl, rfl, _, rfl, ?_⟩
    refine iteF ⟨_, rfl, p, _, rfl, .inl (s1.seq hs), rfl, _, rfl, ?_⟩
    refine iteFb (decide_eq_false fun z => ?_) ?_
    · simp only [V.int.injEq, List.length_map, List.length_cons] at z
      exact ne (List.length_eq_zero_iff.mp (by omega))
    refine ⟨_, rfl, _, rfl, _, rfl, p, _, rfl, s1.seq hs, fun q uq => ?_⟩
    have cut : cutV ((Txt.join " " ("drops" :: dz) :: rs.map textR).map V.str) (some 1) none = (rs.map textR).map V.str := by
      rw [cut_drop (by decide)]
      rfl
    rw [cut]
    have s2 := same_new (o := .lst ((rs.map textR).map V.str)) uq
    have hq : (upd H1 q (.lst ((rs.map textR).map V.str))) q = some (.lst ((rs.map textR).map V.str)) := upd_same
    generalize (upd H1 q (.lst ((rs.map textR).map V.str))) = H2 at s2 hq ⊢
    refine ⟨_, rfl, _, _, rfl, rfl, q, _, _, rfl, rfl, by omega, by omega, SqL.of hq, fun D0 un => lc_enumS (K := K) (a := q) (xs := (rs.map textR).map V.str) (fun j H' => MadeR K a H2 D0 (rs.take j) H') (MadeR.zero un) (fun j H' hv => hv.1.seq (SqL.of hq)) ?_ ?_⟩
    · intro j x t H3 hx hv ut
      rw [List.map_map, List.getElem?_map] at hx
      obtain ⟨r, er, rfl⟩ := Option.map_eq_some_iff.mp hx
      have gr1 := gr r (List.mem_of_getElem? er)
      refine ⟨t, _, rfl, SqT.of upd_same, rfl, _, _, rfl, _, _, rfl, rfl, ?_⟩
      refine ⟨rfl, ?_⟩
      dsimp only [tYes]
      have hv2 := hv.mono (same_new (o := .tup [.int (i + 1 + (j : Nat)), .str (textR r)]) ut)
      refine iteT ⟨_, rfl, _, rfl, r, _, rfl, gr1, fun H4 y s4 uy hy => ?_⟩
      rw [show rs.take (j + 1) = rs.take j ++ [r] from by rw [List.take_add_one, er]; rfl]
      exact hv2.add un (by rw [List.length_take]; omega) s4 hy
    · intro H3 hv
      rw [List.length_map, List.length_map, List.take_length] at hv
      obtain ⟨s3, acc, hD, hR⟩ := hv
      refine ⟨by show 2 ≤ sizeLine; decide, fun t ut => ?_⟩
      have s4 := same_new (o := .tup [.ref l, .ref D0]) ut
      have S := ((s1.trans s2).trans s3).trans s4
      exact fin _ t l D0 acc S (((s1.trans s2).trans s3).free ut) ul ((s1.trans s2).free un) upd_same (s4 _ _ (s3 _ _ (s2 _ _ hl1))) (s4 _ _ hD) (hR.same s4)
end
end K2

set_option Elab.async false
set_option linter.all false
set_option maxRecDepth 100000
set_option maxHeartbeats 1000000
namespace K2
open PySem L2 Lw TL SxT
theorem mem_joinL {c : Nat} {S : List Nat} : ∀ {ps : List (List Nat)}, c ∈ joinL S ps → c ∈ S ∨ ∃ p ∈ ps, c ∈ p
  | [], h => by cases h
  | [p], h => .inr ⟨p, by simp, h⟩
  | p :: q :: r, h => by
    rcases List.mem_append.mp (show c ∈ p ++ (S ++ joinL S (q :: r)) from h) with h | h
    · exact .inr ⟨p, by simp, h⟩
    rcases List.mem_append.mp h with h | h
    · exact .inl h
    rcases mem_joinL h with h | ⟨z, hz, h⟩
    · exact .inl h
    · exact .inr ⟨z, List.mem_cons_of_mem _ hz, h⟩
theorem mem_join {c : Nat} {y : Str} {ps : List Str} (h : c ∈ tl (Txt.join y ps)) : c ∈ tl y ∨ ∃ p ∈ ps, c ∈ tl p := by
  rw [join_eq, tl_join] at h
  rcases mem_joinL h with h | ⟨p, hp, h⟩
  · exact .inl h
  · obtain ⟨z, hz, rfl⟩ := List.mem_map.mp hp
    exact .inr ⟨z, hz, h⟩
theorem row_no {r : Row0} (g : RowGood r) {c : Nat} (hc : c < 97) (h32 : c ≠ 32) : c ∉ tl (textR r) := fun m => by
  rcases mem_join m with m | ⟨p, hp, m⟩
  · have e : tl (" " : Str) = [32] := by decide +kernel
    rw [e] at m
    exact h32 (List.mem_singleton.mp m)
  · exact name_no (good_words g p hp) hc m
theorem head_no {dz : List Str} (h : ∀ z ∈ dz, nameOk z = true) {c : Nat} (hc : c < 97) (h32 : c ≠ 32) : c ∉ tl (Txt.join " " ("drops" :: dz : List Str)) := fun m => by
  rcases mem_join m with m | ⟨p, hp, m⟩
  · have e : tl (" " : Str) = [32] := by decide +kernel
    rw [e] at m
    exact h32 (List.mem_singleton.mp m)
  · rcases List.mem_cons.mp hp with rfl | hp
    · have e : tl ("drops" : Str) = [100, 114, 111, 112, 115] := by decide +kernel
      rw [e] at m
      simp at m
      omega
    · exact name_no (h p hp) hc m
theorem ed_split {rs : List Row0} {dz : List Str} (h : ∀ z ∈ dz, nameOk z = true) (g : ∀ r ∈ rs, RowGood r) : Txt.split (textE rs dz) "\n" = Txt.join " " ("drops" :: dz) :: rs.map textR := by
  refine split_join (s := 10) (S := []) (by decide +kernel) (by decide +kernel) (by simp) fun p hp => ?_
  rcases List.mem_cons.mp hp with rfl | hp
  · exact head_no h (by decide) (by decide)
  · obtain ⟨r, hr, rfl⟩ := List.mem_map.mp hp
    exact row_no (g r hr) (by decide) (by decide)
theorem ed_len {rs : List Row0} {dz : List Str} (h : ∀ z ∈ dz, nameOk z = true) (fewz : dz.length ≤ 60) (g : ∀ r ∈ rs, RowGood r) (few : rs.length ≤ 60) : (textE rs dz).length ≤ 10000 := by
  have h0 := head_len h fewz
  have h1 := join_len "\n" (Txt.join " " ("drops" :: dz) :: rs.map textR)
  have h2 := sum_le (n := 100) (ys := rs.map textR) fun z hz => by
    obtain ⟨r, hr, rfl⟩ := List.mem_map.mp hz
    exact textR_len (g r hr)
  have e : ("\n" : Str).length = 1 := by decide
  rw [e, List.map_cons, List.sum_cons, List.length_cons] at h1
  rw [List.length_map] at h1 h2
  unfold textE
  omega
def dropsD (dz : List Str) : PyData := .list (dz.map PyData.str)
theorem drops_of (dz : List Str) : dropsL (dropsD dz) = dz := by
  show (dz.map PyData.str).map strD = dz
  rw [List.map_map]
  conv => rhs; rw [← List.map_id dz]
  rfl
theorem drops_fine : ∀ {dz : List Str}, (∀ z ∈ dz, nameOk z = true) → fineAll (dz.map PyData.str) = true
  | [], _ => rfl
  | z :: dz, h => by
    rw [List.map_cons, fineAll, name_fine (h z (by simp)), drops_fine (dz := dz) fun y hy => h y (List.mem_cons_of_mem _ hy)]
    rfl
theorem strs_dp {K : PySem.W.Frag} {H : Hp} : ∀ zs : List Str, DpAll K H (zs.map V.str) (zs.map PyData.str)
  | [] => .nil
  | z :: zs => .cons (.str z) (strs_dp zs)
def spEdRead (K : PySem.W.Frag) (a : Ad) (b : Ae) : Sp := fun vs H Q E => ∃ (dz : List Str) (rs : List Row0), vs = [.ref b.cEd, .str (textE rs dz)] ∧ (∀ z ∈ dz, nameOk z = true) ∧ dz.length ≤ 60 ∧ rs ≠ [] ∧ (∀ r ∈ rs, RowGood r) ∧ rs.length ≤ 60 ∧
  (wrongF rs (dropsD dz) = none → ∀ (H' : Hp) (x dx : Addr) (fs : List (Str × V)) (xs : List V), Same H H' → H x = none → H' x = some (.ins b.cEd dx fs) → EdAt K H' fs xs rs (dropsD dz) → RowsAt K a H' xs rs → Q (.ref x) H') ∧
  (∀ z, wrongF rs (dropsD dz) = some z → ∀ (H' : Hp) (q : Addr), Same H H' → H q = none → H' q = some (.xd [("word", .str z)]) → E (.ref a.cIe) (some q) H')
section
variable {P : Program} {w : World} {K : PySem.W.Frag} {mg : Str → Option Value} {base : Heap} {a : Ad} {b : Ae} {fO fR fL fB fP fE : Addr} {dO dR dL dB dP dE : FuncData} {pR pE : Addr} {fEq fStr : Addr} {dEq dStr : FuncData} {lR lA lN lG : Addr} {eR eA eN eG : FuncData}
theorem scEdRead : FnScope ["cls", "text", "drops", "rows"] ["cls", "text"] (defScope sEdRead) := ⟨rfl, rfl, rfl, by decide +kernel, rfl, by decide +kernel, by decide +kernel⟩
theorem okEdRead (T : Txt K mg a) (R : RowF K a fEq fStr dEq dStr) (L : LeadsF K a lR lA lN lG eR eA eN eG) (M : EdT K mg a b) (strI : PySem.W.isFn K (.ref fStr) = true) (strAt : ∀ C ∈ rowCs a, PySem.W.findIn K (.ref C) "__str__" = some (some (.ref fStr)))
    (D : RdF K mg a b fO fR fL fB fP fE dO dR dL dB dP dE pR pE) : FnOk P w K mg base (L2.CX P w) 10 fE dE ["cls", "text"] (spEdRead K a b) := by
  refine D.edF.okX scEdRead (fun vs H Q E h => ?_) (fun cdv A outer s H vs Q E hr h => ?_)
  · obtain ⟨dz, rs, rfl, _⟩ := h
    rfl
  · obtain ⟨dz, rs, rfl, hz, fewz, ne, gr, few, good, bad⟩ := h
    have OE : FnOk P w K mg base (L2.CX P w) 5 b.fEd b.dEd ["self", "rows", "drops"] (spEd K a b) := M.okEd T R L strI strAt
    have OP : FnOk P w K mg base CX0 9 fP dP ["lines", "at"] (spParts K a) := okParts T D
    have hr6 : Room 6 _ := hr.mono (by decide)
    refine ⟨_, pss_cons (ps_asg (pe_call OP hr rfl D.parts.g D.parts.F.kp D.parts.b .nil pass0 (pa_cons (pe_split (pv 1) pe_str) (pa_cons pe_int pa_nil))) (pg_tup rfl (pgs_cons (pg_name (i := 2) scEdRead.nd rfl (.inl rfl)) (pgs_cons (pg_name (i := 3) scEdRead.nd rfl (.inl rfl)) pgs_nil))))
      (pss_one (ps_ret (pe_makeL (i := 0) (E := E) D.edK OE hr6 rfl (Or.inl rfl) M.bindAll .nil (passes_call (takes_of rfl rfl rfl rfl) fun _ _ _ _ z => z) (pa_cons (pv 3) (pa_cons (pv 2) pa_nil))))), ?_⟩
    have lt := ed_len hz fewz gr few
    refine ⟨_, rfl, ⟨_, rfl⟩, _, _, rfl, rfl, by decide +kernel, Nat.le_trans (Nat.add_le_add_right lt 2) (by decide), fun p up => ?_⟩
    rw [ed_split hz gr]
    refine ⟨p, dz, rs, 0, rfl, SqL.of upd_same, by decide, by decide, hz, fewz, ne, gr, few, fun H1 t l q xs s1 ut _ _ ht hl hq hR => ?_⟩
    have S1 := (same_new up).trans s1
    refine ⟨t, _, rfl, SqT.of ht, rfl, _, _, rfl, _, _, rfl, rfl, ?_⟩
    refine ⟨rfl, _, rfl, _, rfl, fun x dx nx nd nex => ?_⟩
    have s2 : Same H1 (upd H1 dx (.own x)) := same_new nd
    have nx' : (upd H1 dx (.own x)) x = none := by rw [upd_ne nex.symm]; exact nx
    have s3 : Same (upd H1 dx (.own x)) (upd (upd H1 dx (.own x)) x (.ins b.cEd dx [])) := same_new nx'
    have S := s2.trans s3
    have hd : Dp K H1 (.ref l) (dropsD dz) := .lst (SqL.of hl) (strs_dp dz)
    refine ⟨x, dx, q, .ref l, xs, rs, dropsD dz, rfl, upd_same, .inl (S.seq (SqL.of hq)), hR.same S, gr, few, dp_same S _ _ hd, ?_, by rw [drops_of]; omega, fun e H' fs kp hi ea => ⟨rfl, ?_⟩, fun z ez H' y sy uy hy => ?_⟩
    · show fine (.list (dz.map PyData.str)) = true
      rw [fine, drops_fine hz, Bool.and_true, List.length_map]
      exact decide_eq_true (by omega)
    · have sm := Same.made nx nd kp
      exact good e H' x dx fs xs (S1.trans sm) (S1.free nx) hi ea (hR.same sm)
    · exact bad z ez H' y ((S1.trans S).trans sy) ((S1.trans S).free uy) hy
end
end K2

set_option Elab.async false
set_option linter.all false
set_option maxRecDepth 100000
set_option maxHeartbeats 4000000
/-! a chain made -/
namespace K2
open PySem L2 Lw TL SxT
abbrev nCh : List Str := ["self", "editions", "due", "head", "mark", "edition", "part"]
/-- what a chain asks of an edition: its text, its marks, those that it lets by -/
structure Ed1 where
  z : Str
  mz : List Str
  dz : List Str
def EdCh (K : PySem.W.Frag) (C : Addr) (H : Hp) (v : V) (e : Ed1) : Prop := ∃ (x dx tm td : Addr) (fs : List (Str × V)), v = .ref x ∧ H x = some (.ins C dx fs) ∧ fs.lookup ("_text" : Str) = some (.str e.z) ∧
  fs.lookup ("marks" : Str) = some (.ref tm) ∧ SqT K H tm (e.mz.map V.str) ∧ fs.lookup ("drops" : Str) = some (.ref td) ∧ SqT K H td (e.dz.map V.str)
theorem edCh_stays {K : PySem.W.Frag} {C : Addr} : Stays (EdCh K C) := ⟨fun s h => let ⟨x, dx, tm, td, fs, e, h1, h2, h3, h4, h5, h6⟩ := h; ⟨x, dx, tm, td, fs, e, s _ _ h1, h2, h3, same_tup s h4, h5, same_tup s h6⟩⟩
theorem edCh_but {K : PySem.W.Frag} {C C' x dx : Addr} {H H' : Hp} {v : V} {e : Ed1} (hx : H x = some (.ins C' dx [])) (k : But x H H') (h : EdCh K C H v e) : EdCh K C H' v e := by
  obtain ⟨y, dy, tm, td, fs, rfl, h1, h2, h3, h4, h5, h6⟩ := h
  have ne : y ≠ x := fun z => by
    rw [z, hx] at h1
    cases h1
    cases h2
  exact ⟨y, dy, tm, td, fs, rfl, k _ _ h1 ne, h2, h3, But.tup hx k h4, h5, But.tup hx k h6⟩
theorem els_but {K : PySem.W.Frag} {C C' x dx : Addr} {H H' : Hp} {vs : List V} {es : List Ed1} (hx : H x = some (.ins C' dx [])) (k : But x H H') (h : Els (EdCh K C) H vs es) : Els (EdCh K C) H' vs es := ⟨h.len, fun j v e => let ⟨a, e1, r⟩ := h.at_ j v e; ⟨a, e1, edCh_but hx k r⟩⟩
/-- the text of a chain -/
def textC (dz : List Str) (es : List Ed1) : Str := Txt.join "\n" (Txt.join " " ("due" :: dz) :: (es.map fun e => (["edition", e.z] : List Str)).flatten)
/-- a chain's attributes -/
structure ChAt (K : PySem.W.Frag) (H : Hp) (fs : List (Str × V)) (xs : List V) (es : List Ed1) (d : PyData) : Prop where
  eds : ∃ t, fs.lookup ("editions" : Str) = some (.ref t) ∧ SqT K H t xs
  due : ∃ t dz, fs.lookup ("due" : Str) = some (.ref t) ∧ SqT K H t (dz.map V.str) ∧ Rises dz (dropsL d) ∧ fs.lookup ("_text" : Str) = some (.str (textC dz es))
  marks : ∃ t zs, fs.lookup ("marks" : Str) = some (.ref t) ∧ SqT K H t (zs.map V.str) ∧ Rises zs ((es.map fun e => e.mz ++ e.dz).flatten)
  bare : ∀ g : Str, g ∉ chFields → fs.lookup g = none
structure Ac where
  cCh : Addr
  fCh : Addr
  dCh : FuncData
  gAE : Addr
  eAE : FuncData
  tC : Addr
structure ChT (K : PySem.W.Frag) (mg : Str → Option Value) (b : Ae) (c : Ac) (fStr : Addr) (dStr : FuncData) : Prop where
  are : Top K mg "_are_editions" sAreEds c.gAE c.eAE ["value"]
  F : FunD K "__init__" "Chain.__init__" (defArgs sCh) (defBody sCh) (defScope sCh) [.ref c.tC] [] c.fCh c.dCh
  cl : Cls K c.cCh
  no : ∀ n ∈ chFields, NoAttr K c.cCh n
  strI : PySem.W.isFn K (.ref fStr) = true
  strAt : PySem.W.findIn K (.ref b.cEd) "__str__" = some (some (.ref fStr))
def spAreEds (K : PySem.W.Frag) (C : Addr) : Sp := fun vs H Q _ => ∃ (p : Addr) (xs : List V) (es : List Ed1), vs = [.ref p] ∧ SqA K H p xs ∧ Els (EdCh K C) H xs es ∧ es.length ≤ 1000 ∧ ∀ H', Same H H' → Q (.bl (!es.isEmpty)) H'
/-- few texts -/
structure EdFew (es : List Ed1) : Prop where
  ne : es ≠ []
  few : es.length ≤ 10
  marks : ((es.map fun e => e.mz ++ e.dz).flatten).length ≤ 60
  z : ∀ e ∈ es, e.z.length ≤ 20000
def spCh (K : PySem.W.Frag) (b : Ae) (c : Ac) : Sp := fun vs H Q E => ∃ (x dx p : Addr) (v : V) (xs : List V) (es : List Ed1) (d : PyData), vs = [.ref x, .ref p, v] ∧ H x = some (.ins c.cCh dx []) ∧ SqA K H p xs ∧ Els (EdCh K b.cEd) H xs es ∧ EdFew es ∧ Dp K H v d ∧ fine d = true ∧ unlikeD d = true ∧ (dropsL d).length < 64 ∧
  ∀ (H' : Hp) (fs : List (Str × V)), But x H H' → H' x = some (.ins c.cCh dx fs) → ChAt K H' fs xs es d → Q .non H'
section
variable {P : Program} {w : World} {K : PySem.W.Frag} {mg : Str → Option Value} {base : Heap} {a : Ad} {b : Ae} {c : Ac} {fRow fLen fEq fStr : Addr} {dRow dLen dEq dStr : FuncData}
structure MidC (K : PySem.W.Frag) (C e dx : Addr) (H H1 : Hp) (fs : List (Str × V)) (n : Nat) (L : List (Str × List V)) (M : List (Str × V)) : Prop where
  but : But e H H1
  at_ : H1 e = some (.ins C dx fs)
  len : fs.length ≤ n
  tup : ∀ q ∈ L, ∃ t, fs.lookup q.1 = some (.ref t) ∧ SqT K H1 t q.2
  sca : ∀ q ∈ M, fs.lookup q.1 = some q.2
  bare : ∀ g : Str, g ∉ chFields → fs.lookup g = none
theorem MidC.zero {C e dx : Addr} {H : Hp} (he : H e = some (.ins C dx [])) : MidC K C e dx H H [] 0 [] [] := ⟨fun _ _ h _ => h, he, Nat.le_refl _, fun _ h => (nomatch h), fun _ h => (nomatch h), fun _ _ => rfl⟩
theorem MidC.move {C e dx : Addr} {H H1 H2 : Hp} {fs : List (Str × V)} {n : Nat} {L : List (Str × List V)} {M : List (Str × V)} (m : MidC K C e dx H H1 fs n L M) (s : Same H1 H2) : MidC K C e dx H H2 fs n L M :=
  ⟨fun b o h ne => s _ _ (m.but b o h ne), s _ _ m.at_, m.len, fun q hq => let ⟨t, h1, h2⟩ := m.tup q hq; ⟨t, h1, same_tup s h2⟩, m.sca, m.bare⟩
theorem MidC.putS {C e dx : Addr} {H H1 : Hp} {fs : List (Str × V)} {n : Nat} {L : List (Str × List V)} {M : List (Str × V)} (m : MidC K C e dx H H1 fs n L M) (f : Str) (v : V) (nL : ∀ q ∈ L, q.1 ≠ f) (nM : ∀ q ∈ M, q.1 ≠ f) (hf : f ∈ chFields := by simp) :
    MidC K C e dx H (upd H1 e (.ins C dx (putF f v fs))) (putF f v fs) (n + 1) L ((f, v) :: M) := by
  have k : But e H1 (upd H1 e (.ins C dx (putF f v fs))) := fun b o h ne => by rw [upd_ne ne]; exact h
  refine ⟨fun b o h ne => k _ _ (m.but b o h ne) ne, upd_same, ?_, fun q hq => ?_, fun q hq => ?_, fun g hg => by rw [lookup_putF, if_neg (fun z : g = f => hg (by rw [z]; exact hf))]; exact m.bare g hg⟩
  · have := length_putF f v fs
    have := m.len
    omega
  · obtain ⟨t, h1, h2⟩ := m.tup q hq
    exact ⟨t, by rw [lookup_putF, if_neg (nL q hq)]; exact h1, But.tup m.at_ k h2⟩
  · rcases List.mem_cons.mp hq with rfl | hq
    · rw [lookup_putF, if_pos rfl]
    · rw [lookup_putF, if_neg (nM q hq)]
      exact m.sca q hq
theorem MidC.putT {C e dx : Addr} {H H1 : Hp} {fs : List (Str × V)} {n : Nat} {L : List (Str × List V)} {M : List (Str × V)} (m : MidC K C e dx H H1 fs n L M) (f : Str) {t : Addr} {ys : List V} (ht : SqT K H1 t ys) (nL : ∀ q ∈ L, q.1 ≠ f) (nM : ∀ q ∈ M, q.1 ≠ f) (hf : f ∈ chFields := by simp) :
    MidC K C e dx H (upd H1 e (.ins C dx (putF f (.ref t) fs))) (putF f (.ref t) fs) (n + 1) ((f, ys) :: L) M := by
  have k : But e H1 (upd H1 e (.ins C dx (putF f (.ref t) fs))) := fun b o h ne => by rw [upd_ne ne]; exact h
  have z := m.putS f (.ref t) nL nM hf
  refine ⟨z.but, z.at_, z.len, fun q hq => ?_, fun q hq => z.sca q (List.mem_cons_of_mem _ hq), z.bare⟩
  rcases List.mem_cons.mp hq with rfl | hq
  · exact ⟨t, by rw [lookup_putF, if_pos rfl], But.tup m.at_ k ht⟩
  · exact z.tup q hq
theorem mem_flat_len {α β : Type} {f : α → List β} {x : α} : ∀ {l : List α}, x ∈ l → (f x).length ≤ ((l.map f).flatten).length
  | y :: l, h => by
    rw [List.map_cons, List.flatten_cons, List.length_append]
    rcases List.mem_cons.mp h with rfl | h
    · omega
    · have := mem_flat_len (f := f) h
      omega
theorem scAreEds : FnScope ["value", "edition"] ["value"] (defScope sAreEds) := ⟨rfl, rfl, rfl, by decide +kernel, rfl, by decide +kernel, by decide +kernel⟩
theorem okAreEds (T : Txt K mg a) (M : EdM K mg b.cEd fRow fLen fEq fStr dRow dLen dEq dStr) {f : Addr} {fd : FuncData} (F : Fun K "_are_editions" "_are_editions" sAreEds f fd) : FnOk P w K mg base CX0 1 f fd ["value"] (spAreEds K b.cEd) := by
  refine F.ok scAreEds (fun vs H Q E h => ?_) (fun cdv A outer s H vs Q E hr h => ?_)
  · obtain ⟨p, xs, rs, rfl, _⟩ := h
    rfl
  · obtain ⟨p, xs, rs, rfl, hs, hR, few, fin⟩ := h
    refine ⟨_, pss_cons (ps_if (PW.pt (pw_or (pt_not (pt_val (pe_callB call_isiT (by rfl) T.tIs PyProof.Rows.boot_isinstance (pa_cons (pv 0) (pa_cons (pe_tup (pa_cons (pe_bltn (v := .ty "list") (by rfl) T.tList PyProof.Rows.boot_list rfl) (pa_cons (pe_bltn (v := .ty "tuple") (by rfl) T.tTuple PyProof.Rows.boot_tuple rfl) pa_nil))) pa_nil)))))
        (pw_or1 (pt_cmpR op_eq (pe_callB call_len_seq (by rfl) T.tLen PySem.boot_len (pa_cons (pv 0) pa_nil)) pe_int (nomark _))))) (pss_one (ps_ret pe_bl)) pss_nil)
      (pss_one (ps_ret (pe_callB (cr_all rfl) (by rfl) T.tAll PyProof.Rows.boot_all (pa_cons (pe_lc (own := [("edition", 1)]) (g := gName 1) (tt := tYes) (te := tCB (rIsi K) (tCons (tVar 1) (tCons (tC (.ref b.cEd)) tNil))) (by rfl) scAreEds.nd (pi_seq (pv 0))
          (blkOk_by (own := [("edition", 1)]) (N := ["value", "edition"]) (sc := defScope sAreEds) (by decide +kernel)) (fun _ _ _ _ _ => pg_name (i := 1) scAreEds.nd rfl (Or.inl rfl)) (fun _ _ _ _ _ => pts_nil)
          (fun _ _ _ _ _ => pe_callB call_isi (by rfl) T.tIs PyProof.Rows.boot_isinstance (pa_cons (pv 1) (pa_cons (pe_glob (v := .ref b.cEd) (by rfl) M.g rfl) pa_nil)))) pa_nil)))), ?_⟩
    refine ⟨_, rfl, (by show 2 ≤ sizeLine; decide), fun tp hp => ?_⟩
    have s0 : Same H (upd H tp (.tup [.ty "list", .ty "tuple"])) := same_new hp
    have hs0 := hs.same s0
    have hR0 := hR.same edCh_stays s0
    obtain ⟨d, ty, isq, nodict⟩ := ty_seq hs0
    refine ⟨.ref p, tp, _, _, _, _, rfl, upd_same, .cons (.ty "list") (.cons (.ty "tuple") .nil), ty, kit_seq nodict, _, rfl, ?_⟩
    rw [isq]
    refine iteF ⟨_, rfl, p, xs, rfl, hs0, rfl, _, rfl, ?_⟩
    rw [dec_int]
    have el := hR.len
    cases rs with
    | nil =>
      have e : xs.length = 0 := el
      rw [show ((xs.length : Int) == 0) = true from by simpa using e]
      exact iteT (fin _ s0)
    | cons r0 rs0 =>
      rw [List.length_cons] at el
      rw [show ((xs.length : Int) == 0) = false from by simpa using (by omega : (xs.length : Int) ≠ 0)]
      refine iteF (seq_run rfl hs0 fun J hJ D un => els_J edCh_stays (fun _ => true) (fun _ => .bl true) hJ hR0 few un (fun x e H3 Q3 hm hx s3 k => k _ (Same.refl _)) (fun x e H3 Q3 hm _ hx s3 k => ?_) fun H1 s1 h1 => ?_)
      · obtain ⟨y, dy, tm, td, fs, rfl, hy, _⟩ := hx
        exact ⟨_, rfl, _, _, _, _, _, rfl, .own b.cEd, M.ty hy, M.own, k _ (Same.refl _)⟩
      · have e1 : ((r0 :: rs0).filter fun _ => true).map (fun _ => V.bl true) = ((r0 :: rs0).map fun _ => true).map V.bl := by rw [List.filter_eq_self.mpr (fun _ _ => rfl), List.map_map]; rfl
        rw [e1] at h1
        refine ⟨D, _, rfl, SqL.of h1, ?_⟩
        have e2 : ((r0 :: rs0).map fun _ => true).all id = true := by
          rw [List.all_map, List.all_eq_true]
          intro x _
          rfl
        rw [e2]
        exact fin _ (s0.trans s1)
theorem scCh : FnScope nCh ["self", "editions", "due"] (defScope sCh) := ⟨rfl, rfl, rfl, by decide +kernel, rfl, by decide +kernel, by decide +kernel⟩
theorem ChT.okCh (T : Txt K mg a) (E0 : EdT K mg a b) (M : EdM K mg b.cEd fRow fLen fEq fStr dRow dLen dEq dStr) (D : ChT K mg b c fStr dStr) : FnOk P w K mg base CX0 5 c.fCh c.dCh ["self", "editions", "due"] (spCh K b c) := by
  refine D.F.ok scCh (fun vs H Q E h => ?_) (fun cdv A outer s H vs Q E hr h => ?_)
  · obtain ⟨e, dx, p, v, xs, rs, d, rfl, _⟩ := h
    rfl
  · obtain ⟨e, dx, p, v, xs, es, d, rfl, he, hs, hR, few, hd, hz, ud, fewd, fin⟩ := h
    have hr3 : Room 3 _ := hr.mono (by decide)
    have hr2 : Room 2 _ := hr.mono (by decide)
    have hr1 : Room 1 _ := hr.mono (by decide)
    have OA : FnOk P w K mg base CX0 1 c.gAE c.eAE ["value"] (spAreEds K b.cEd) := okAreEds T M D.are.F
    have OU : FnOk P w K mg base CX0 2 b.gU b.eU ["value"] (spUnlike K) := okUnlike T E0.unl.F
    have OS : FnOk P w K mg base CX0 1 fStr dStr ["self"] (spEdStr b.cEd) := M.okStr T
    refine ⟨_, pss_cons (ps_if (pt_not (pt_val (pe_call OA hr1 rfl D.are.g D.are.F.kp D.are.b .nil pass0 (pa_cons (pv 1) pa_nil)))) (pss_one ps_dead) pss_nil)
      (pss_cons (ps_if (pt_not (pt_val (pe_call OU hr2 rfl E0.unl.g E0.unl.F.kp E0.unl.b .nil pass0 (pa_cons (pv 2) pa_nil)))) (pss_one ps_dead) pss_nil)
      (pss_cons (ps_fld (pv 0) (pe_callTy call_tuple_of (by rfl) T.tTuple PyProof.Rows.boot_tuple (pa_cons (pv 1) pa_nil)) rfl)
      (pss_cons (ps_fld (pv 0) (pe_callTy call_tuple_of (by rfl) T.tTuple PyProof.Rows.boot_tuple (pa_cons (pe_callB cr_sortedA (by rfl) E0.N.sorted PyProof.Rows.boot_sorted (pa_cons (pv 2) pa_nil)) pa_nil)) rfl)
      (pss_cons (ps_fld (pv 0) (pe_callTy call_tuple_of (by rfl) T.tTuple PyProof.Rows.boot_tuple (pa_cons (pe_callB (cr_sortedX rfl) (by rfl) E0.N.sorted PyProof.Rows.boot_sorted (pa_cons (pe_scx2 (own := [("edition", 5), ("mark", 4)]) (us := [4]) (g := gName 5) (tt := tYes) (gj := gName 4) (tj := tYes) (te := tVar 4) (wj := iTup K (tTup (StX.tStar K (tFld K (tVar 5) "marks") (StX.tStar K (tFld K (tVar 5) "drops") tNil)))) (by rfl) scCh.nd (pi_seq (pv 1))
          (blkOk_by (own := [("edition", 5), ("mark", 4)]) (N := nCh) (sc := defScope sCh) (by decide +kernel)) (by decide) (fun _ _ _ _ _ => pg_name (i := 5) scCh.nd rfl (Or.inl rfl)) (fun _ _ _ _ _ => pts_nil) (fun _ _ _ _ _ => pi_tup (pe_tup (StX.pa_star (pe_fld (pv 5) rfl) (StX.pa_star (pe_fld (pv 5) rfl) pa_nil)))) (fun _ _ _ _ _ => pg_name (i := 4) scCh.nd rfl (Or.inl rfl)) (fun _ _ _ _ _ => pts_nil) (fun _ _ _ _ _ => pv 4)) pa_nil)) pa_nil)) rfl)
      (pss_cons (ps_set (i := 3) scCh.nd rfl (Or.inl rfl) (pe_join pe_str (pe_lst (pa_cons pe_str (StX.pa_star (pe_fld (pv 0) rfl) pa_nil)))))
      (pss_one (ps_fld (pv 0) (pe_join pe_str (pe_lst (pa_cons (pv 3) (StX.pa_star (pe_lc2 (own := [("edition", 5), ("part", 6)]) (vs1 := [6]) (g := gName 5) (tt := tYes) (g1 := gName 6) (tt1 := tYes) (wi1 := iTup K (tTup (tCons (tC (.str "edition")) (tCons (tCB (rStrOwn K fStr (spEdStr b.cEd) (fun _ _ _ => False)) (tCons (tVar 5) tNil)) tNil)))) (te := tVar 6) (by rfl) scCh.nd (pi_seq (pv 1))
          (blkOk_by (own := [("edition", 5), ("part", 6)]) (N := nCh) (sc := defScope sCh) (by decide +kernel)) (by decide) (fun _ _ _ _ _ => pg_name (i := 5) scCh.nd rfl (Or.inl rfl)) (fun _ _ _ _ _ => pts_nil) (fun _ _ _ _ _ => pi_tup (pe_tup (pa_cons pe_str (pa_cons (pe_callTy (call_strOwn OS hr3 D.strI M.strB pass0) (by rfl) T.tStr PyProof.Rows.boot_str (pa_cons (pv 5) pa_nil)) pa_nil)))) (fun _ _ _ _ _ => pg_name (i := 6) scCh.nd rfl (Or.inl rfl)) (fun _ _ _ _ _ => pts_nil) (fun _ _ _ _ _ => pv 6)) pa_nil)))) rfl))))))), ?_⟩
    refine ⟨_, rfl, p, xs, es, rfl, hs, hR, Nat.le_trans few.few (by decide), fun H1 s1 => ?_⟩
    have ne1 : (!es.isEmpty) = true := by
      have := few.ne
      cases es with
      | nil => exact absurd rfl this
      | cons _ _ => rfl
    rw [ne1]
    refine ⟨_, rfl, iteF ?_⟩
    dsimp only [tNext]
    refine ⟨_, rfl, v, d, rfl, dp_same s1 _ _ hd, hz, fun H2 s2 => ?_⟩
    rw [ud]
    refine ⟨_, rfl, iteF ?_⟩
    dsimp only [tNext]
    have s12 := s1.trans s2
    obtain ⟨qd, zs, rfl, hzs, edr, ndz, _, nzs⟩ := unlike_seq hd hz ud
    have fz : zs.length < 64 := by rw [← edr]; exact fewd
    have m0 := (MidC.zero (K := K) he).move s12
    have lt {fs : List (Str × V)} {n : Nat} {L : List (Str × List V)} {M : List (Str × V)} {H2 : Hp} (m : MidC K c.cCh e dx H H2 fs n L M) (h : n < 10) : fs.length < 1000 := Nat.lt_of_le_of_lt m.len (Nat.lt_trans h (by decide))
    clear ne1
    refine seq_cut (fun σ1 H2 => σ1 = [some (.ref e), some (.ref p), some (.ref qd), none, none, none, none] ∧ ∃ fs, MidC K c.cCh e dx H H2 fs 1 [("editions", xs)] []) ?after fun after => ?go
    case go =>
      refine ⟨_, rfl, p, xs, rfl, ?_⟩
      rcases hs.same s12 with hs1 | hs1
      · refine .inl ⟨hs1, fun l ul => ?_⟩
        have m1 := m0.move (same_new (o := .tup xs) ul)
        exact ⟨_, rfl, e, c.cCh, dx, _, rfl, m1.at_, D.cl, D.no _ (by simp), lt m1 (by decide), after _ _ ⟨rfl, _, m1.putT "editions" (SqT.of upd_same) (by (first | (simp; done) | (simp; decide))) (by (first | (simp; done) | (simp; decide)))⟩⟩
      · exact .inr ⟨hs1, _, rfl, e, c.cCh, dx, _, rfl, m0.at_, D.cl, D.no _ (by simp), lt m0 (by decide), after _ _ ⟨rfl, _, m0.putT "editions" hs1 (by (first | (simp; done) | (simp; decide))) (by (first | (simp; done) | (simp; decide)))⟩⟩
    case after =>
      rintro _ H3 ⟨rfl, fs, m⟩
      -- due
      refine seq_cut (fun σ1 H2 => σ1 = [some (.ref e), some (.ref p), some (.ref qd), none, none, none, none] ∧ ∃ fs dz, Rises dz (dropsL d) ∧ dz.Perm zs ∧ MidC K c.cCh e dx H H2 fs 2 [("due", dz.map V.str), ("editions", xs)] []) ?after2 fun after => ?go2
      case go2 =>
        refine ⟨_, rfl, qd, _, rfl, But.sqA he m.but hzs, fz, fun dz l pz sz ul => ?_⟩
        have m1 := m.move (same_new (o := .lst (dz.map V.str)) ul)
        refine ⟨l, _, rfl, .inl ⟨SqL.of upd_same, fun t ut => ?_⟩⟩
        have m2 := m1.move (same_new (o := .tup (dz.map V.str)) ut)
        exact ⟨_, rfl, e, c.cCh, dx, _, rfl, m2.at_, D.cl, D.no _ (by simp), lt m2 (by decide), after _ _ ⟨rfl, _, dz, rises_perm (by rw [edr]; exact pz) sz (by rw [edr]; exact ndz), pz, m2.putT "due" (SqT.of upd_same) (by (first | (simp; done) | (simp; decide))) (by (first | (simp; done) | (simp; decide)))⟩⟩
      case after2 =>
        rintro _ H3 ⟨rfl, fs, dz, rz, pz, m⟩
        -- marks
        refine seq_cut (fun σ1 H2 => σ1 = [some (.ref e), some (.ref p), some (.ref qd), none, none, none, none] ∧ ∃ fs zm, Rises zm ((es.map fun e => e.mz ++ e.dz).flatten) ∧ MidC K c.cCh e dx H H2 fs 3 [("marks", zm.map V.str), ("due", dz.map V.str), ("editions", xs)] []) ?after3 fun after => ?go3
        case go3 =>
          have hR2 := els_but he m.but hR
          refine seq_run rfl (But.sqA he m.but hs) fun J hJ DD un => sets2_J edCh_stays (fun _ => rfl) (fun _ _ => rfl) (fun e => e.mz ++ e.dz) hJ hR2 few.marks un (fun x o H4 R hm hx s4 k => ?_) fun H4 S n s4 h4 hn hk => ?_
          · obtain ⟨y, dy, tm, td, gs, rfl, hy, hzz, h1, h2, h3, h5⟩ := hx
            refine ⟨_, rfl, y, _, dy, gs, _, rfl, hy, M.cl, M.no _ (by simp), h1, tm, _, rfl, .inl h2, _, rfl, y, _, dy, gs, _, rfl, hy, M.cl, M.no _ (by simp), h3, td, _, rfl, .inl h5, ?_⟩
            have lo := Nat.le_trans (mem_flat_len (f := fun e : Ed1 => e.mz ++ e.dz) hm) few.marks
            rw [List.length_append] at lo
            dsimp only [tNil]
            rw [List.append_nil, ← List.map_append]
            refine ⟨?_, fun q uq => ⟨q, rfl, ⟨_, SqT.of upd_same⟩, k _ q (same_new uq) (SqT.of upd_same)⟩⟩
            rw [List.length_map, List.length_append]
            exact Nat.le_trans lo (by decide)
          · refine ⟨DD, S, n, rfl, h4, by omega, fun zm l sz nd2 mem ln ul => ⟨l, _, rfl, .inl ⟨SqL.of upd_same, fun t ut => ?_⟩⟩⟩
            have m1 := m.move s4
            have m2 := m1.move (same_new (o := .lst (zm.map V.str)) ul)
            have m3 := m2.move (same_new (o := .tup (zm.map V.str)) ut)
            exact ⟨_, rfl, e, c.cCh, dx, _, rfl, m3.at_, D.cl, D.no _ (by simp), lt m3 (by decide), after _ _ ⟨rfl, _, zm, rises_of sz nd2 mem hk, m3.putT "marks" (SqT.of upd_same) (by (first | (simp; done) | (simp; decide))) (by (first | (simp; done) | (simp; decide)))⟩⟩
        case after3 =>
          rintro _ H3 ⟨rfl, fs, zm, rzm, m⟩
          -- the head
          obtain ⟨td, ltd, htd⟩ := m.tup ("due", dz.map V.str) (by simp)
          have dzl : dz.length < 64 := by rw [pz.length_eq]; exact fz
          have dzo : ∀ z ∈ dz, nameOk z = true := fun z hz => nzs z (pz.mem_iff.mp hz)
          have sdz := sum_le (n := 4) (ys := dz) fun z hz => ok4 (dzo z hz)
          have hsum : (("due" :: dz : List Str).map (·.length)).sum ≤ 5 + 4 * 64 := by
            rw [List.map_cons, List.sum_cons]
            have e5 : ("due" : Str).length = 3 := by decide
            omega
          have lhead : (Txt.join " " ("due" :: dz)).length ≤ 1000 := by
            have h1 := join_len " " ("due" :: dz)
            have e : (" " : Str).length = 1 := by decide
            rw [e, List.length_cons] at h1
            omega
          refine ⟨⟨_, rfl⟩, _, rfl, e, c.cCh, dx, fs, _, rfl, m.at_, D.cl, D.no "due" (by simp), ltd, td, _, rfl, .inl htd, ?_, fun l ul => ?_⟩
          · rw [List.append_nil, List.length_cons, List.length_map]
            exact Nat.le_trans (show dz.length + 1 ≤ 65 by omega) (by decide)
          · rw [List.append_nil]
            have m1 := m.move (same_new (o := .lst (V.str "due" :: dz.map V.str)) ul)
            refine ⟨_, l, "due" :: dz, rfl, rfl, .inl (SqL.of upd_same), ?_, ?_⟩
            · have e : (" " : Str).length = 1 := by decide
              rw [e, List.length_cons]
              omega
            generalize (upd H3 l (.lst (V.str "due" :: dz.map V.str))) = H4 at m1 ⊢
            dsimp only [gName, tNext]
            have hR3 := els_but he m1.but hR
            refine ⟨⟨_, rfl⟩, _, rfl, ?_⟩
            have lfl : ((es.map fun e => (["edition", e.z] : List Str)).flatten).length ≤ 20 := by
              have h : ∀ l : List Ed1, ((l.map fun e => (["edition", e.z] : List Str)).flatten).length = 2 * l.length := fun l => by
                induction l with
                | nil => rfl
                | cons a l ih => rw [List.map_cons, List.flatten_cons, List.length_append, ih]; simp only [List.length_cons, List.length_nil]; omega
              rw [h]
              have := few.few
              omega
            refine seq_run rfl (But.sqA he m1.but hs) fun J hJ D7 u7 => els2_J edCh_stays (fun _ => rfl) (fun _ _ => rfl) (fun e => (["edition", e.z] : List Str)) hJ hR3 (Nat.le_trans lfl (by decide)) u7 (fun x o H5 R hm hx s5 k => ?_) fun H5 s5 h5 => ?_
            · obtain ⟨y, dy, tm, td, gs, rfl, hy, hzz, h1, h2, h3, h5⟩ := hx
              refine ⟨_, rfl, y, _, dy, gs, rfl, hy, D.strAt, y, dy, gs, o.z, rfl, hy, hzz, _, rfl, ?_⟩
              exact ⟨(by show 2 ≤ sizeLine; decide), fun q uq => ⟨q, rfl, ⟨_, SqT.of upd_same⟩, k _ q (same_new uq) (SqT.of upd_same)⟩⟩
            · refine ⟨D7, _, rfl, .inr (SqL.of h5), ?_, fun l2 ul2 => ?_⟩
              · rw [List.append_nil, List.length_cons, List.length_map]
                exact Nat.le_trans (Nat.succ_le_succ lfl) (by decide)
              · rw [List.append_nil]
                have m2 := (m1.move s5).move (same_new (o := .lst (V.str (Txt.join " " ("due" :: dz)) :: ((es.map fun e => (["edition", e.z] : List Str)).flatten).map V.str)) ul2)
                rw [← List.map_cons (f := V.str)] at m2 ⊢
                refine ⟨_, l2, Txt.join " " ("due" :: dz) :: (es.map fun e => (["edition", e.z] : List Str)).flatten, rfl, rfl, .inl (SqL.of upd_same), ?_, ?_⟩
                · have h1 := sum_le (n := 20000) (ys := (es.map fun e => (["edition", e.z] : List Str)).flatten) fun z hz => by
                    obtain ⟨l, hl, hz⟩ := List.mem_flatten.mp hz
                    obtain ⟨o, ho, rfl⟩ := List.mem_map.mp hl
                    rcases List.mem_cons.mp hz with rfl | hz
                    · decide
                    · rw [List.mem_singleton.mp hz]
                      exact few.z o ho
                  have e : ("\n" : Str).length = 1 := by decide
                  rw [e, List.map_cons, List.sum_cons, List.length_cons]
                  omega
                · have m3 := m2.putS "_text" (.str (textC dz es)) (by (first | (simp; done) | (simp; decide))) (by (first | (simp; done) | (simp; decide)))
                  refine ⟨_, rfl, e, c.cCh, dx, _, rfl, m2.at_, D.cl, D.no "_text" (by simp), lt m2 (by decide), ?_⟩
                  refine fin _ _ m3.but m3.at_ ⟨m3.tup ("editions", xs) (by simp), ?_, ?_, m3.bare⟩
                  · obtain ⟨t, q1, q2⟩ := m3.tup ("due", dz.map V.str) (by simp)
                    exact ⟨t, dz, q1, q2, rz, m3.sca ("_text", _) List.mem_cons_self⟩
                  · obtain ⟨t, q1, q2⟩ := m3.tup ("marks", zm.map V.str) (by simp)
                    exact ⟨t, zm, q1, q2, rzm⟩
end
end K2

set_option Elab.async false
set_option linter.all false
set_option maxRecDepth 100000
set_option maxHeartbeats 1000000
namespace Lw
open PySem PySem.Spec PyProof.Rows L2
/-! ### x[i], x an instance of a class with a __getitem__ of its own -/
def rIxOwn (K : PySem.W.Frag) (f : Addr) (sp : Sp) (E : XK) : R2 := fun x y H Q => ∃ (a C dx : Addr) (fs : List (PySem.Str × V)), x = .ref a ∧ H a = some (.ins C dx fs) ∧ PySem.W.findIn K (.ref C) "__getitem__" = some (some (.ref f)) ∧ sp [.ref a, y] H Q E
theorem pe_ixOwn {X : Cx} {CX : CXT} {f : Addr} {fd : FuncData} {ps : List PySem.Str} {sp : Sp} {E : XK} {n : Nat} {a b : Expr} {ta tb : TE} {pos : Pos} (F : FnOk X.prog X.w X.K X.mg X.base CX n f fd ps sp) (hr : Room (n + 1) X.A) (hf : PySem.W.isFn X.K (.ref f) = true) (hfn : PySem.W.fnIn X.K f = true) (hb : Binds X.K fd ps []) (hx : Passes CX X E)
    (ha : PE X a ta) (hb2 : PE X b tb) (hs : ∀ o i, subscripted b true o i = runValue (.builtin "lifetime.subscript" ⟨[o, i], []⟩)) : PE X (.Subscript a b pos) (tOp (rIxOwn X.K f sp E) ta tb) := by
  refine ⟨fun pins s σ H Q I h => ?_⟩
  refine Subscript_ (binT ha hb2 I h fun v u s2 x y H2 I2 rx ry q => ?_)
  obtain ⟨p, C, dx, fs, rfl, hp, hfi, hsp⟩ := q
  obtain rfl : v = Value.ref p := rx
  obtain ⟨mA, J, _⟩ := ins_get I2.hok hp
  obtain ⟨od, J, _⟩ := J.look
  obtain ⟨m, hF⟩ := I2.fr
  have hr2 : Room n X.A.in1 := hr.in1
  have hl := F.len _ _ _ _ hsp
  have e0 : Env0 X.prog X.w X.K X.mg X.base X.A.in1 X.stack s2 H2 := by
    have e := I2.env0
    exact ⟨e.frames, e.mod, e.bs, e.bsz, e.funs, e.frf, e.hok, e.bare⟩
  refine PySem.W.sub_K hF I2.ok.mod.kin J hfi hfn hf (wpAny_call (codeAny_mono (F.run X.A.in1 X.stack s2 H2 ⟨[.ref p, u], []⟩ [.ref p, u] [.ref p, y] _ E hr2 e0 (by
      have := hb s2 [.ref p, u] I2.kIn (by simpa using hl)
      simpa using this) (.cons rfl (.cons ry .nil)) hsp) fun r s' hq => ?_)) (hs _ _)
  cases r with
  | error e => exact hx pins σ H2 s2 e s' I2 hq
  | ok fl =>
    cases fl with
    | ret u =>
      obtain ⟨v, H', I', r', q2⟩ := I2.after hq
      exact ⟨v, H', I', r', q2⟩
    | next => exact hq.elim
    | brk => exact hq.elim
    | cont => exact hq.elim
end Lw

set_option Elab.async false
set_option linter.all false
set_option maxRecDepth 100000
set_option maxHeartbeats 1000000
/-! a chain's methods -/
namespace K2
open PySem L2 Lw TL SxT
structure Am where
  fNum : Addr
  fLen : Addr
  fGet : Addr
  fEq : Addr
  fStr : Addr
  dNum : FuncData
  dLen : FuncData
  dGet : FuncData
  dEq : FuncData
  dStr : FuncData
/-- the chain's methods and its class -/
structure ChM (K : PySem.W.Frag) (mg : Str → Option Value) (cCh : Addr) (m : Am) : Prop where
  g : mg "Chain" = some (.ref cCh)
  cl : Cls K cCh
  no : ∀ n ∈ chFields, NoAttr K cCh n
  numF : Fun K "_expect_number" "Chain._expect_number" sChNum m.fNum m.dNum
  numB : Binds K m.dNum ["self", "at"] []
  numM : Meth K cCh "_expect_number" m.fNum
  lenF : Fun K "__len__" "Chain.__len__" sChLen m.fLen m.dLen
  lenB : Binds K m.dLen ["self"] []
  getF : Fun K "__getitem__" "Chain.__getitem__" sChGet m.fGet m.dGet
  getB : Binds K m.dGet ["self", "at"] []
  eqF : Fun K "__eq__" "Chain.__eq__" sChEq m.fEq m.dEq
  eqB : Binds K m.dEq ["self", "other"] []
  strF : Fun K "__str__" "Chain.__str__" sChStr m.fStr m.dStr
  strB : Binds K m.dStr ["self"] []
  isA : PySem.W.findIn K (.ref cCh) "__class__" = some (some (.builtin "object.__class__"))
  get : PySem.W.specialIn K (.builtin "object.__class__") "__get__" = some (some (.builtin "getset_descriptor.__get__"))
  tak : PySem.W.takesIn K (.builtin "object.__class__") = some true
  obj : PySem.W.mroIn K cCh (.type "object") = some true
  own : PySem.W.kitOne K (.ref cCh) (.ref cCh) = some true
  noCh : ∀ T ∈ (["tuple", "str", "list"] : List String), PySem.W.kitOne K (.type T) (.ref cCh) = some false
def spChNum (K : PySem.W.Frag) (cCh : Addr) : Sp := fun vs H Q _ => ∃ (p dx t : Addr) (fs : List (Str × V)) (xs : List V) (i : Nat), vs = [.ref p, .int i] ∧ H p = some (.ins cCh dx fs) ∧ fs.lookup ("editions" : Str) = some (.ref t) ∧ SqT K H t xs ∧ i < xs.length ∧ Q .non H
def spChGet (K : PySem.W.Frag) (cCh : Addr) : Sp := fun vs H Q _ => ∃ (p dx t : Addr) (fs : List (Str × V)) (xs : List V) (i : Nat) (x : V), vs = [.ref p, .int i] ∧ H p = some (.ins cCh dx fs) ∧ fs.lookup ("_expect_number" : Str) = none ∧ fs.lookup ("editions" : Str) = some (.ref t) ∧ SqT K H t xs ∧ xs[i]? = some x ∧ Q x H
def spChStr (cCh : Addr) : Sp := fun vs H Q _ => ∃ (p dx : Addr) (fs : List (Str × V)) (z : Str), vs = [.ref p] ∧ H p = some (.ins cCh dx fs) ∧ fs.lookup ("_text" : Str) = some (.str z) ∧ Q (.str z) H
def spChLen (K : PySem.W.Frag) (cCh : Addr) : Sp := fun vs H Q _ => ∃ (p dx t : Addr) (fs : List (Str × V)) (xs : List V), vs = [.ref p] ∧ H p = some (.ins cCh dx fs) ∧ fs.lookup ("editions" : Str) = some (.ref t) ∧ SqT K H t xs ∧ Q (.int xs.length) H
def spChEq (K : PySem.W.Frag) (cCh : Addr) : Sp := fun vs H Q _ => ∃ (p dx : Addr) (fs : List (Str × V)) (z : Str) (y : V), vs = [.ref p, y] ∧ H p = some (.ins cCh dx fs) ∧ fs.lookup ("_text" : Str) = some (.str z) ∧
  ((∃ (q dy : Addr) (gs : List (Str × V)) (z' : Str), y = .ref q ∧ H q = some (.ins cCh dy gs) ∧ gs.lookup ("_text" : Str) = some (.str z') ∧ Q (.bl (decide (z = z'))) H) ∨
    ∃ T, TyX K H y T ∧ PySem.W.kitOne K T (.ref cCh) = some false ∧ Q (.bl false) H)
section
variable {P : Program} {w : World} {K : PySem.W.Frag} {mg : Str → Option Value} {base : Heap} {a : Ad} {cCh : Addr} {m : Am}
theorem scChNum : FnScope ["self", "at"] ["self", "at"] (defScope sChNum) := ⟨rfl, rfl, rfl, by decide +kernel, rfl, by decide +kernel, by decide +kernel⟩
theorem scChGet : FnScope ["self", "at"] ["self", "at"] (defScope sChGet) := ⟨rfl, rfl, rfl, by decide +kernel, rfl, by decide +kernel, by decide +kernel⟩
theorem scChLen : FnScope ["self"] ["self"] (defScope sChLen) := ⟨rfl, rfl, rfl, by decide +kernel, rfl, by decide +kernel, by decide +kernel⟩
theorem scChEq : FnScope ["self", "other"] ["self", "other"] (defScope sChEq) := ⟨rfl, rfl, rfl, by decide +kernel, rfl, by decide +kernel, by decide +kernel⟩
theorem scChStr : FnScope ["self"] ["self"] (defScope sChStr) := ⟨rfl, rfl, rfl, by decide +kernel, rfl, by decide +kernel, by decide +kernel⟩
theorem ChM.ty (M : ChM K mg cCh m) {H : Hp} {p dx : Addr} {fs : List (Str × V)} (h : H p = some (.ins cCh dx fs)) : TyX K H (.ref p) (.ref cCh) := .base (.ins h M.cl M.isA M.get M.tak M.obj)
theorem ChM.okStr (M : ChM K mg cCh m) (T : Txt K mg a) : FnOk P w K mg base CX0 1 m.fStr m.dStr ["self"] (spChStr cCh) := by
  refine M.strF.ok scChStr (fun vs H Q E h => ?_) (fun cdv A outer s H vs Q E hr h => ?_)
  · obtain ⟨p, dx, fs, z, rfl, _⟩ := h
    rfl
  · obtain ⟨p, dx, fs, z, rfl, hp, hz, fin⟩ := h
    exact ⟨_, pss_one (ps_ret (pe_callTy SkE.call_str_str (by rfl) T.tStr PyProof.Rows.boot_str (pa_cons (pe_fld (pv 0) rfl) pa_nil))), _, rfl, p, cCh, dx, fs, _, rfl, hp, M.cl, M.no "_text" (by simp), hz, _, rfl, fin⟩
theorem ChM.okLen (M : ChM K mg cCh m) (T : Txt K mg a) : FnOk P w K mg base CX0 1 m.fLen m.dLen ["self"] (spChLen K cCh) := by
  refine M.lenF.ok scChLen (fun vs H Q E h => ?_) (fun cdv A outer s H vs Q E hr h => ?_)
  · obtain ⟨p, dx, t, fs, xs, rfl, _⟩ := h
    rfl
  · obtain ⟨p, dx, t, fs, xs, rfl, hp, hz, ht, fin⟩ := h
    exact ⟨_, pss_one (ps_ret (pe_callB call_len_seq (by rfl) T.tLen PySem.boot_len (pa_cons (pe_fld (pv 0) rfl) pa_nil))), _, rfl, p, cCh, dx, fs, _, rfl, hp, M.cl, M.no "editions" (by simp), hz, t, xs, rfl, .inr ht, fin⟩
theorem ChM.okEq (M : ChM K mg cCh m) (T : Txt K mg a) : FnOk P w K mg base CX0 1 m.fEq m.dEq ["self", "other"] (spChEq K cCh) := by
  refine M.eqF.ok scChEq (fun vs H Q E h => ?_) (fun cdv A outer s H vs Q E hr h => ?_)
  · obtain ⟨p, dx, fs, z, y, rfl, _⟩ := h
    rfl
  · obtain ⟨p, dx, fs, z, y, rfl, hp, hz, alt⟩ := h
    have na : NoAttr K cCh "_text" := M.no "_text" (by simp)
    refine ⟨_, pss_one (ps_ret (pe_and (pe_callB call_isi (by rfl) T.tIs PyProof.Rows.boot_isinstance (pa_cons (pv 1) (pa_cons (pe_glob (v := .ref cCh) (by rfl) M.g rfl) pa_nil))) (pe_one (pe_cmpR op_eq (pe_fld (pv 0) rfl) (pe_fld (pv 1) rfl) (nomark _))))), ?_⟩
    rcases alt with ⟨q, dy, gs, z', rfl, hq, hz', fin⟩ | ⟨S, ty, hS, fin⟩
    · refine ⟨_, rfl, _, _, _, _, _, rfl, .own cCh, M.ty hq, M.own, _, rfl, ?_⟩
      refine iteT ⟨_, rfl, p, cCh, dx, fs, _, rfl, hp, M.cl, na, hz, _, rfl, q, cCh, dy, gs, _, rfl, hq, M.cl, na, hz', rfl, ?_⟩
      have e : decide (V.str z = V.str z') = decide (z = z') := decide_eq_decide.mpr ⟨fun h => by cases h; rfl, fun h => by rw [h]⟩
      rw [e]
      exact fin
    · refine ⟨_, rfl, _, _, _, _, _, rfl, .own cCh, ty, hS, _, rfl, ?_⟩
      exact iteF fin
theorem ChM.okNum (M : ChM K mg cCh m) (T : Txt K mg a) : FnOk P w K mg base CX0 1 m.fNum m.dNum ["self", "at"] (spChNum K cCh) := by
  refine M.numF.ok scChNum (fun vs H Q E h => ?_) (fun cdv A outer s H vs Q E hr h => ?_)
  · obtain ⟨p, dx, t, fs, xs, i, rfl, _⟩ := h
    rfl
  · obtain ⟨p, dx, t, fs, xs, i, rfl, hp, hz, ht, hi, fin⟩ := h
    refine ⟨_, pss_one (ps_if (pt_not (pt_chain op_le op_lt pe_int (pv 1) (pe_callB call_len_seq (by rfl) T.tLen PySem.boot_len (pa_cons (pe_fld (pv 0) rfl) pa_nil)))) (pss_one ps_dead) pss_nil), ?_⟩
    refine ⟨_, rfl, _, _, rfl, rfl, _, rfl, ?_⟩
    rw [show decide ((0 : Int) ≤ (i : Int)) = true from decide_eq_true (by omega)]
    refine iteT ⟨_, rfl, p, cCh, dx, fs, _, rfl, hp, M.cl, M.no "editions" (by simp), hz, t, xs, rfl, .inr ht, _, _, rfl, rfl, _, rfl, ?_⟩
    rw [show decide ((i : Int) < (xs.length : Int)) = true from decide_eq_true (by omega)]
    exact iteF fin
theorem ChM.okGet (M : ChM K mg cCh m) (T : Txt K mg a) : FnOk P w K mg base CX0 2 m.fGet m.dGet ["self", "at"] (spChGet K cCh) := by
  refine M.getF.ok scChGet (fun vs H Q E h => ?_) (fun cdv A outer s H vs Q E hr h => ?_)
  · obtain ⟨p, dx, t, fs, xs, i, x, rfl, _⟩ := h
    rfl
  · obtain ⟨p, dx, t, fs, xs, i, x, rfl, hp, hb, hz, ht, hi, fin⟩ := h
    have ON : FnOk P w K mg base CX0 1 m.fNum m.dNum ["self", "at"] (spChNum K cCh) := M.okNum T
    have hr1 : Room 1 _ := hr.mono (by decide)
    refine ⟨_, pss_cons (ps_expr (pe_meth (pv 0) M.cl M.numM ON hr1 M.numB .nil pass0 (pa_cons (pv 1) pa_nil))) (pss_one (ps_ret (pe_ix ix_tup (pe_fld (pv 0) rfl) (pv 1) (fun _ _ => rfl)))), ?_⟩
    have lt := (List.getElem?_eq_some_iff.mp hi).1
    refine ⟨_, rfl, p, dx, fs, rfl, hp, hb, _, rfl, p, dx, t, fs, xs, i, rfl, hp, hz, ht, lt, ?_⟩
    exact ⟨_, rfl, p, cCh, dx, fs, _, rfl, hp, M.cl, M.no "editions" (by simp), hz, _, rfl, t, xs, _, x, rfl, rfl, ht, atI_nat hi, fin⟩
end
end K2

set_option Elab.async false
set_option linter.all false
set_option maxRecDepth 100000
set_option maxHeartbeats 1000000
namespace Lw
open PySem PySem.Spec PyProof.Rows L2 TL
/-! texts by their signs -/
theorem str_ext {x y : PySem.Str} (h : tl x = tl y) : x = y := by
  cases x
  cases y
  simp only [Str.mk.injEq]
  exact Array.toList_inj.mp h
theorem joinL_head (S c b : List Nat) : ∀ t : List (List Nat), joinL S ((c ++ b) :: t) = c ++ joinL S (b :: t)
  | [] => rfl
  | x :: t => by
    show (c ++ b) ++ (S ++ joinL S (x :: t)) = c ++ (b ++ (S ++ joinL S (x :: t)))
    rw [List.append_assoc]
theorem joinL_pairs (S : List Nat) : ∀ (l : List (List Nat × List Nat)) (x : List Nat), joinL S (x :: l.map fun w => w.1 ++ (S ++ w.2)) = joinL S (x :: (l.map fun w => [w.1, w.2]).flatten)
  | [], x => rfl
  | w :: l, x => by
    have ih := joinL_pairs S l w.2
    show x ++ (S ++ joinL S ((w.1 ++ (S ++ w.2)) :: l.map fun w => w.1 ++ (S ++ w.2))) = x ++ (S ++ (w.1 ++ (S ++ joinL S (w.2 :: (l.map fun w => [w.1, w.2]).flatten))))
    rw [← ih]
    have e1 := joinL_head S w.1 (S ++ w.2) (l.map fun w => w.1 ++ (S ++ w.2))
    have e2 := joinL_head S S w.2 (l.map fun w => w.1 ++ (S ++ w.2))
    rw [e1, e2]
theorem tl_join2 (y : PySem.Str) (l : List PySem.Str) : tl (Txt.join y l) = joinL (tl y) (l.map tl) := by
  have e : Txt.join y l = y.join l := by
    show Builtin.Str.glued y l = _
    exact StrLaws.glued_eq_join ..
  rw [e, tl_join]
theorem tl_sp : tl (" " : PySem.Str) = [32] := by decide +kernel
/-- the ways as words, or two by two -/
theorem join_ways (p q n : PySem.Str) (ws : List (PySem.Str × PySem.Str)) : Txt.join " " (p :: q :: n :: ws.map fun w => w.1 ++ (" " : PySem.Str) ++ w.2) = Txt.join " " (p :: q :: n :: (ws.map fun w => [w.1, w.2]).flatten) := by
  refine str_ext ?_
  rw [tl_join2, tl_join2, tl_sp]
  have e1 : (ws.map fun w => w.1 ++ (" " : PySem.Str) ++ w.2).map tl = (ws.map fun w => (tl w.1, tl w.2)).map fun w => w.1 ++ ([32] ++ w.2) := by
    rw [List.map_map, List.map_map]
    refine List.map_congr_left fun w _ => ?_
    show tl (w.1 ++ (" " : PySem.Str) ++ w.2) = tl w.1 ++ ([32] ++ tl w.2)
    rw [tl_append, tl_append, tl_sp, List.append_assoc]
  have e2 : ((ws.map fun w => [w.1, w.2]).flatten).map tl = ((ws.map fun w => (tl w.1, tl w.2)).map fun w => [w.1, w.2]).flatten := by
    rw [List.map_flatten, List.map_map, List.map_map]
    rfl
  have h := joinL_pairs [32] (ws.map fun w => (tl w.1, tl w.2)) (tl n)
  show tl p ++ ([32] ++ (tl q ++ ([32] ++ joinL [32] (tl n :: (ws.map fun w => w.1 ++ (" " : PySem.Str) ++ w.2).map tl)))) = tl p ++ ([32] ++ (tl q ++ ([32] ++ joinL [32] (tl n :: ((ws.map fun w => [w.1, w.2]).flatten).map tl))))
  rw [e1, e2, h]
/-- two words -/
theorem join_two (p q : PySem.Str) : Txt.join " " [p, q] = p ++ ((" " : PySem.Str) ++ q) := by
  refine str_ext ?_
  rw [tl_join2, tl_append, tl_append]
  rfl
end Lw

set_option Elab.async false
set_option linter.all false
set_option maxRecDepth 100000
set_option maxHeartbeats 1000000
/-! the text of a chain, line by line (nothing of the program) -/
namespace K2
open PySem L2 Lw TL SxT
theorem joinL_app (S : List Nat) : ∀ {a b : List (List Nat)}, a ≠ [] → b ≠ [] → joinL S (a ++ b) = joinL S a ++ (S ++ joinL S b)
  | [], _, h, _ => absurd rfl h
  | [x], [], _, h => absurd rfl h
  | [x], y :: b, _, _ => rfl
  | x :: y :: a, b, _, hb => by
    show x ++ (S ++ joinL S ((y :: a) ++ b)) = (x ++ (S ++ joinL S (y :: a))) ++ (S ++ joinL S b)
    rw [joinL_app S (by simp) hb]
    simp
theorem joinL_blocks (S : List Nat) : ∀ {bs : List (List (List Nat))}, (∀ b ∈ bs, b ≠ []) → joinL S (bs.map (joinL S)) = joinL S bs.flatten
  | [], _ => rfl
  | [b], _ => by simp [joinL]
  | b :: c :: bs, h => by
    have ne : (c :: bs).flatten ≠ [] := fun z => h c (by simp) (by
      have := List.flatten_eq_nil_iff.mp z c (by simp)
      exact this)
    rw [List.flatten_cons, joinL_app S (h b (by simp)) ne, ← joinL_blocks S fun x hx => h x (List.mem_cons_of_mem _ hx)]
    rfl
theorem join_blocks (y : Str) {bs : List (List Str)} (h : ∀ b ∈ bs, b ≠ []) : Txt.join y (bs.map (Txt.join y)) = Txt.join y bs.flatten := by
  refine str_ext ?_
  rw [tl_join2, tl_join2, List.map_map, List.map_flatten, ← joinL_blocks (tl y) (bs := bs.map (List.map tl)) fun b hb => by
    obtain ⟨c, hc, rfl⟩ := List.mem_map.mp hb
    exact fun z => h c hc (List.map_eq_nil_iff.mp z), List.map_map]
  exact congrArg _ (List.map_congr_left fun b _ => tl_join2 y b)
/-- an edition's rows, and marks as they are told -/
abbrev Ed0 := List Row0 × List Str
def linesE (e : Ed0) : List Str := Txt.join " " ("drops" :: e.2) :: e.1.map textR
def blockE (e : Ed0) : List Str := "edition" :: linesE e
def flatE (es : List Ed0) : List Str := (es.map blockE).flatten
/-- the text of a chain as it is told -/
def textK (uz : List Str) (es : List Ed0) : Str := Txt.join "\n" (Txt.join " " ("due" :: uz) :: flatE es)
theorem textE_lines (e : Ed0) : textE e.1 e.2 = Txt.join "\n" (linesE e) := rfl
theorem join_one (y x : Str) : Txt.join y [x] = x := by
  refine str_ext ?_
  rw [tl_join2]
  rfl
theorem textC_K (uz : List Str) (f : Ed0 → Ed1) (es : List Ed0) (h : ∀ e ∈ es, (f e).z = textE e.1 e.2) : textC uz (es.map f) = textK uz es := by
  have e1 : Txt.join " " ("due" :: uz) :: flatE es = (([Txt.join " " ("due" :: uz)] : List Str) :: (es.map fun e => ([["edition"], linesE e] : List (List Str))).flatten).flatten := by
    rw [List.flatten_cons]
    show _ :: _ = _ :: _
    congr 1
    unfold flatE
    clear h
    induction es with
    | nil => rfl
    | cons e es ih =>
      have ih2 : (es.map blockE).flatten = ((es.map fun e => ([["edition"], linesE e] : List (List Str))).flatten).flatten := ih
      show (blockE e ++ (es.map blockE).flatten) = _
      rw [ih2, List.map_cons, List.flatten_cons, List.flatten_append]
      have h3 : ([["edition"], linesE e] : List (List Str)).flatten = blockE e := by
        show (["edition"] : List Str) ++ (linesE e ++ []) = _
        rw [List.append_nil]
        rfl
      rw [h3]
      rfl
  unfold textK
  rw [e1, ← join_blocks]
  · unfold textC
    rw [List.map_cons, join_one]
    congr 2
    clear e1
    induction es with
    | nil => rfl
    | cons e es ih =>
      rw [List.map_cons, List.map_cons, List.flatten_cons, List.map_cons, List.flatten_cons, List.map_append, ih fun x hx => h x (List.mem_cons_of_mem _ hx), h e List.mem_cons_self]
      simp only [List.map_cons, List.map_nil, join_one]
      rfl
  · intro b hb
    rcases List.mem_cons.mp hb with rfl | hb
    · simp
    · obtain ⟨l, hl, hb⟩ := List.mem_flatten.mp hb
      obtain ⟨e, he, rfl⟩ := List.mem_map.mp hl
      rcases List.mem_cons.mp hb with rfl | hb
      · simp
      · rw [List.mem_singleton.mp hb]
        exact fun z => nomatch z
/-! which lines begin an edition -/
theorem join_sp {x y : Str} {l : List Str} : 32 ∈ tl (Txt.join " " (x :: y :: l)) := by
  rw [tl_join2, tl_sp]
  show 32 ∈ tl x ++ ([32] ++ joinL [32] ((y :: l).map tl))
  simp
theorem ed_no_sp : 32 ∉ tl ("edition" : Str) := by decide +kernel
theorem textR_ne (r : Row0) : textR r ≠ "edition" := fun z => by
  have h : 32 ∈ tl (textR r) := by
    cases r <;> exact join_sp
  rw [z] at h
  exact ed_no_sp h
theorem head_ne {w : Str} (hw : w ≠ "edition") (l : List Str) : Txt.join " " (w :: l) ≠ "edition" := fun z => by
  cases l with
  | nil =>
    rw [join_one] at z
    exact hw z
  | cons y l =>
    have h : 32 ∈ tl (Txt.join " " (w :: y :: l)) := join_sp
    rw [z] at h
    exact ed_no_sp h
theorem linesE_ne (e : Ed0) : ∀ l ∈ linesE e, l ≠ "edition" := fun l h => by
  rcases List.mem_cons.mp h with rfl | h
  · exact head_ne (by decide +kernel) _
  · obtain ⟨r, _, rfl⟩ := List.mem_map.mp h
    exact textR_ne r
/-- the numbers of lines that begin an edition -/
def idxF : Nat → List Str → List Nat
  | _, [] => []
  | i, l :: ls => (if l = "edition" then [i] else []) ++ idxF (i + 1) ls
theorem idxF_app : ∀ (i : Nat) (a b : List Str), idxF i (a ++ b) = idxF i a ++ idxF (i + a.length) b
  | i, [], b => by simp [idxF]
  | i, x :: a, b => by
    show (if x = "edition" then [i] else []) ++ idxF (i + 1) (a ++ b) = ((if x = "edition" then [i] else []) ++ idxF (i + 1) a) ++ _
    rw [idxF_app (i + 1) a b, List.append_assoc, List.length_cons, show i + 1 + a.length = i + (a.length + 1) from by omega]
theorem idxF_none : ∀ (i : Nat) {a : List Str}, (∀ l ∈ a, l ≠ "edition") → idxF i a = []
  | i, [], _ => rfl
  | i, x :: a, h => by
    show (if x = "edition" then [i] else []) ++ idxF (i + 1) a = []
    rw [if_neg (h x (by simp)), idxF_none (i + 1) fun l hl => h l (List.mem_cons_of_mem _ hl)]
    rfl
theorem idxF_len : ∀ (i : Nat) (a : List Str), (idxF i a).length ≤ a.length
  | i, [] => Nat.le_refl _
  | i, x :: a => by
    have := idxF_len (i + 1) a
    show ((if x = "edition" then [i] else []) ++ idxF (i + 1) a).length ≤ a.length + 1
    split <;> simp <;> omega
def lenE (e : Ed0) : Nat := e.1.length + 2
theorem blockE_len (e : Ed0) : (blockE e).length = lenE e := by simp [blockE, linesE, lenE]
def headsF : Nat → List Ed0 → List Nat
  | _, [] => []
  | i, e :: es => i :: headsF (i + lenE e) es
def endsL : Nat → List Ed0 → List Nat
  | _, [] => []
  | i, e :: es => (i + lenE e) :: endsL (i + lenE e) es
theorem idxF_flat : ∀ (i : Nat) (es : List Ed0), idxF i (flatE es) = headsF i es
  | _, [] => rfl
  | i, e :: es => by
    have h1 : flatE (e :: es) = blockE e ++ flatE es := rfl
    rw [h1, idxF_app, blockE_len, idxF_flat]
    show ((if ("edition" : Str) = "edition" then [i] else []) ++ idxF (i + 1) (linesE e)) ++ _ = _
    rw [if_pos rfl, idxF_none _ (linesE_ne e)]
    rfl
theorem flat_len : ∀ (es : List Ed0) (i : Nat) (e : Ed0), (headsF i (e :: es)).tail ++ [i + (flatE (e :: es)).length] = endsL i (e :: es)
  | [], i, e => by
    show [] ++ [i + (flatE [e]).length] = [i + lenE e]
    have : (flatE [e]).length = lenE e := by
      show (blockE e ++ []).length = _
      rw [List.append_nil, blockE_len]
    rw [this]
    rfl
  | e2 :: es, i, e => by
    have ih := flat_len es (i + lenE e) e2
    have l1 : (flatE (e :: e2 :: es)).length = lenE e + (flatE (e2 :: es)).length := by
      show (blockE e ++ flatE (e2 :: es)).length = _
      rw [List.length_append, blockE_len]
    show headsF (i + lenE e) (e2 :: es) ++ [i + (flatE (e :: e2 :: es)).length] = (i + lenE e) :: endsL (i + lenE e) (e2 :: es)
    rw [l1, ← ih, ← Nat.add_assoc]
    rfl
theorem heads_len : ∀ (i : Nat) (es : List Ed0), (headsF i es).length = es.length
  | _, [] => rfl
  | i, e :: es => congrArg (· + 1) (heads_len (i + lenE e) es)
theorem ends_len : ∀ (i : Nat) (es : List Ed0), (endsL i es).length = es.length
  | _, [] => rfl
  | i, e :: es => congrArg (· + 1) (ends_len (i + lenE e) es)
theorem part_at : ∀ (es : List Ed0) (pre : List Str) (j : Nat) (e : Ed0), es[j]? = some e → ∃ i, (headsF pre.length es)[j]? = some i ∧ (endsL pre.length es)[j]? = some (i + lenE e) ∧ i + lenE e ≤ (pre ++ flatE es).length ∧ ((pre ++ flatE es).take (i + lenE e)).drop (i + 1) = linesE e
  | [], _, _, _, h => by simp at h
  | e0 :: es, pre, 0, e, h => by
    obtain rfl := Option.some.inj h
    have h1 : flatE (e0 :: es) = blockE e0 ++ flatE es := rfl
    refine ⟨pre.length, rfl, rfl, by rw [h1, List.length_append, List.length_append, blockE_len]; omega, ?_⟩
    have h2 : pre ++ flatE (e0 :: es) = (pre ++ (["edition"] : List Str)) ++ linesE e0 ++ flatE es := by
      rw [h1]
      simp [blockE]
    have l2 : (pre ++ (["edition"] : List Str) ++ linesE e0).length = pre.length + lenE e0 := by
      simp [lenE, linesE]
    rw [h2, List.take_append_of_le_length (by rw [l2]; exact Nat.le_refl _), List.take_of_length_le (by rw [l2]; exact Nat.le_refl _)]
    rw [List.drop_append_of_le_length (by simp), List.drop_of_length_le (by simp)]
    rfl
  | e0 :: es, pre, j + 1, e, h => by
    obtain ⟨i, h1, h2, h3, h4⟩ := part_at es (pre ++ blockE e0) j e (by simpa using h)
    have l1 : (pre ++ blockE e0).length = pre.length + lenE e0 := by rw [List.length_append, blockE_len]
    rw [l1] at h1 h2
    have h5 : pre ++ flatE (e0 :: es) = (pre ++ blockE e0) ++ flatE es := by
      show pre ++ (blockE e0 ++ flatE es) = _
      rw [List.append_assoc]
    rw [h5]
    exact ⟨i, by simpa [headsF] using h1, by simpa [endsL] using h2, h3, h4⟩
end K2

set_option Elab.async false
set_option linter.all false
set_option maxRecDepth 100000
set_option maxHeartbeats 1000000
namespace Lw
open PySem PySem.Spec PyProof.Rows L2
/-! what is no list stays beside a deal -/
/-- a heap without its lists -/
def hard (H : Hp) : Hp := fun b => match H b with
  | some (.lst _) => none
  | o => o
theorem hard_of {H : Hp} {b : Addr} {o : HO} (h : H b = some o) (n : ∀ xs, o ≠ .lst xs) : hard H b = some o := by
  unfold hard
  rw [h]
  cases o <;> first | rfl | exact absurd rfl (n _)
theorem hard_lst {H : Hp} {b : Addr} {xs : List V} (h : H b = some (.lst xs)) : hard H b = none := by
  unfold hard
  rw [h]
theorem hard_sub {H : Hp} : Same (hard H) H := fun b o e => by
  unfold hard at e
  cases h : H b with
  | none => rw [h] at e; cases e
  | some u =>
    rw [h] at e
    cases u <;> first | exact e | cases e
def plus (G H : Hp) : Hp := fun b => match G b with
  | some o => some o
  | none => hard H b
theorem plus_left {G H : Hp} : Same G (plus G H) := fun b o e => by
  unfold plus
  rw [e]
theorem plus_right {G H : Hp} (s : Same G H) : Same (hard H) (plus G H) := fun b o e => by
  unfold plus
  cases h : G b with
  | none => exact e
  | some u =>
    have a := s b u h
    have c := hard_sub b o e
    rw [a] at c
    exact c
theorem Deal.wide {G H : Hp} {d l : Addr} (D : Deal G H d l) : Deal (plus G H) H d l := by
  obtain ⟨ns, m, a⟩ := D.it
  refine ⟨fun b o e => ?_, ?_, ?_, D.ne, ns, m, a⟩
  · unfold plus at e
    cases h : G b with
    | none => rw [h] at e; exact hard_sub b o e
    | some u => rw [h] at e; rw [← e]; exact D.same b u h
  · unfold plus
    rw [D.gd]
    exact hard_lst a.hd
  · unfold plus
    rw [D.gl]
    exact hard_lst a.hl
theorem hard_tup {K : PySem.W.Frag} {H : Hp} {a : Addr} {xs : List V} (h : SqT K H a xs) : SqT K (hard H) a xs := by
  rcases h with (h | ⟨o, h⟩) | h
  · exact .inl (.inl (hard_of h fun _ z => by cases z))
  · exact .inl (.inr ⟨o, hard_of h fun _ z => by cases z⟩)
  · exact .inr h
mutual
def noL : PyData → Bool
  | .list _ => false
  | .tuple ds => noLs ds
  | _ => true
def noLs : List PyData → Bool
  | [] => true
  | d :: ds => noL d && noLs ds
end
mutual
theorem dp_hard {K : PySem.W.Frag} {H : Hp} : ∀ (d : PyData) (v : V), noL d = true → Dp K H v d → Dp K (hard H) v d
  | .none, _, _, h => by cases h; exact .non
  | .bool b, _, _, h => by cases h; exact .bl b
  | .int i, _, _, h => by cases h; exact .int i
  | .str x, _, _, h => by cases h; exact .str x
  | .list ds, _, n, h => by cases n
  | .tuple ds, _, n, h => by
    cases h with
    | tup h1 h2 => exact .tup (hard_tup h1) (dpAll_hard ds _ (by simpa [noL] using n) h2)
  | .dict _, _, _, h => by cases h
theorem dpAll_hard {K : PySem.W.Frag} {H : Hp} : ∀ (ds : List PyData) (vs : List V), noLs ds = true → DpAll K H vs ds → DpAll K (hard H) vs ds
  | [], _, _, h => by cases h; exact .nil
  | d :: ds, _, n, h => by
    rw [noLs, Bool.and_eq_true] at n
    cases h with
    | cons h1 h2 => exact .cons (dp_hard d _ n.1 h1) (dpAll_hard ds _ n.2 h2)
end
theorem ways_noL : ∀ ws : List (Str × Str), noLs (ws.map wayD) = true
  | [] => rfl
  | w :: ws => by
    rw [List.map_cons, noLs, ways_noL ws, Bool.and_true]
    rfl
end Lw

set_option Elab.async false
set_option linter.all false
set_option maxRecDepth 100000
set_option maxHeartbeats 1000000
/-! a chain read -/
namespace K2
open PySem L2 Lw TL SxT
/-! ### what stands though lists change -/
theorem ways_noLC : ∀ ws : List (Str × Str), noLs (ws.map wayD) = true
  | [] => rfl
  | w :: ws => by rw [List.map_cons, noLs, ways_noLC ws]; rfl
theorem RowAt.hardC {K : PySem.W.Frag} {a : Ad} {H : Hp} {v : V} {r : Row0} (h : RowAt K a H v r) : RowAt K a (hard H) v r := by
  obtain ⟨x, dx, fs, e, hx, hf, hb⟩ := h.ex
  refine ⟨x, dx, fs, e, hard_of hx (fun _ z => nomatch z), ?_, hb⟩
  cases r with
  | ask p n ws =>
    obtain ⟨h1, h2, ⟨wa, h3, h4⟩, h5⟩ := hf
    refine ⟨h1, h2, ⟨wa, h3, dp_hard _ _ ?_ h4⟩, h5⟩
    rw [noL]
    exact ways_noLC ws
  | _ => exact hf
theorem RowsAt.hardC {K : PySem.W.Frag} {a : Ad} {H : Hp} : ∀ {xs : List V} {rs : List Row0}, RowsAt K a H xs rs → RowsAt K a (hard H) xs rs
  | _, _, .nil => .nil
  | _, _, .cons h t => .cons h.hardC t.hardC
theorem hard_hide {D : Addr} {H : Hp} {acc : List V} (hD : H D = some (.lst acc)) : Same (hard H) (hide D H) := fun b o e => by
  have ne : b ≠ D := fun z => by rw [z, hard_lst hD] at e; cases e
  rw [hide_ne ne]
  exact hard_sub b o e
theorem hide_hide {D : Addr} {H H' : Hp} (s : Same H H') : Same (hide D H) (hide D H') := fun b o e => by
  have ne : b ≠ D := fun z => by rw [z, hide_same] at e; cases e
  rw [hide_ne ne] at e ⊢
  exact s _ _ e
/-! ### a list that grows by new things -/
section
variable {α : Type} {Rl : Hp → V → α → Prop} {H1 H H2 H4 : Hp} {D : Addr} {as : List α}
structure Grown (Rl : Hp → V → α → Prop) (H1 : Hp) (D : Addr) (as : List α) (H : Hp) : Prop where
  s : Same H1 H
  ex : ∃ acc, H D = some (.lst acc) ∧ Els Rl (hide D H) acc as
theorem Grown.zero (un : H1 D = none) : Grown Rl H1 D [] (upd H1 D (.lst [])) := ⟨same_new un, [], upd_same, ⟨rfl, fun j x e => by simp at e⟩⟩
theorem Grown.mono (m : Stays Rl) (g : Grown Rl H1 D as H) (s : Same H H2) : Grown Rl H1 D as H2 := by
  obtain ⟨acc, h1, h2⟩ := g.ex
  exact ⟨g.s.trans s, acc, s _ _ h1, h2.same m (hide_hide s)⟩
theorem Grown.add (m : Stays Rl) (g : Grown Rl H1 D as H) (un : H1 D = none) (few : as.length < 100000) (s : Same H H4) {v : V} {a : α} (hv : Rl (hide D H4) v a) :
    ∃ acc, H4 D = some (.lst acc) ∧ acc.length < sizeLine ∧ Grown Rl H1 D (as ++ [a]) (upd H4 D (.lst (acc ++ [v]))) := by
  obtain ⟨acc, h1, h2⟩ := (g.mono m s).ex
  have eh : hide D (upd H4 D (.lst (acc ++ [v]))) = hide D H4 := by
    funext b
    unfold hide
    split
    · rfl
    · rw [upd_ne ‹_›]
  refine ⟨acc, h1, Nat.lt_of_le_of_lt (show acc.length ≤ 100000 by rw [h2.len]; omega) (by decide), ⟨fun b o eb => ?_, acc ++ [v], upd_same, ?_⟩⟩
  · rw [upd_ne (ne_of_none eb un)]
    exact s _ _ (g.s _ _ eb)
  · rw [eh]
    refine ⟨by simp [h2.len], fun j x e => ?_⟩
    by_cases lt : j < acc.length
    · rw [List.getElem?_append_left lt] at e
      obtain ⟨b, e1, r⟩ := h2.at_ j x e
      exact ⟨b, by rw [List.getElem?_append_left (by rw [← h2.len]; exact lt)]; exact e1, r⟩
    · rw [List.getElem?_append_right (by omega)] at e
      have ej : j - acc.length = 0 := by
        have := (List.getElem?_eq_some_iff.mp e).1
        simp at this
        omega
      rw [ej] at e
      obtain rfl : v = x := by simpa using e
      refine ⟨a, ?_, hv⟩
      rw [List.getElem?_append_right (by rw [← h2.len]; omega), ← h2.len, ej]
      rfl
end
theorem cut_midI {xs : List V} {m n : Int} (h0 : 0 ≤ m) (h1 : m ≤ n) (h2 : n ≤ xs.length) : cutV xs (some m) (some n) = (xs.take n.toNat).drop m.toNat := by
  have e1 : HT.sIx xs.length 0 (some m) = min m.toNat xs.length := by
    show (if m < 0 then _ else _) = _
    rw [if_neg (by omega)]
  have e2 : HT.sIx xs.length xs.length (some n) = min n.toNat xs.length := by
    show (if n < 0 then _ else _) = _
    rw [if_neg (by omega)]
  unfold cutV
  rw [e1, e2, Nat.min_eq_left (by omega), Nat.min_eq_left (by omega), List.drop_take]
theorem cut_mid {xs : List V} {i k : Nat} (h1 : i ≤ k) (h2 : k ≤ xs.length) : cutV xs (some (i : Int)) (some (k : Int)) = (xs.take k).drop i := cut_midI (by omega) (by omega) (by omega)
/-- a good edition as it is told -/
structure GoodE (e : Ed0) : Prop where
  dzok : ∀ z ∈ e.2, nameOk z = true
  fewz : e.2.length ≤ 60
  ne : e.1 ≠ []
  good : ∀ r ∈ e.1, RowGood r
  few : e.1.length ≤ 60
  right : wrongF e.1 (dropsD e.2) = none
structure GoodK (es : List Ed0) : Prop where
  ne : es ≠ []
  few : es.length ≤ 10
  each : ∀ e ∈ es, GoodE e
def PartR (K : PySem.W.Frag) (a : Ad) (H : Hp) (v : V) (e : Ed0) : Prop := ∃ (t l q : Addr) (xs : List V), v = .ref t ∧ H t = some (.tup [.ref l, .ref q]) ∧ H l = some (.lst (e.2.map V.str)) ∧ H q = some (.lst xs) ∧ RowsAt K a H xs e.1
theorem part_stays {K : PySem.W.Frag} {a : Ad} : Stays (PartR K a) := ⟨fun s h => let ⟨t, l, q, xs, e, h1, h2, h3, h4⟩ := h; ⟨t, l, q, xs, e, s _ _ h1, s _ _ h2, s _ _ h3, h4.same s⟩⟩
theorem flat_few {es : List Ed0} (g : GoodK es) : (flatE es).length ≤ 620 := by
  have h : ∀ l : List Ed0, (∀ e ∈ l, GoodE e) → (flatE l).length ≤ 62 * l.length := fun l => by
    induction l with
    | nil => intro _; exact Nat.le_refl _
    | cons e l ih =>
      intro hl
      have h1 := ih fun x hx => hl x (List.mem_cons_of_mem _ hx)
      have h2 := (hl e List.mem_cons_self).few
      show (blockE e ++ flatE l).length ≤ _
      rw [List.length_append, blockE_len, List.length_cons]
      unfold lenE
      omega
  have := h es g.each
  have := g.few
  omega
def spReadEds (K : PySem.W.Frag) (a : Ad) : Sp := fun vs H Q _ => ∃ (p : Addr) (h0 : Str) (es : List Ed0), vs = [.ref p] ∧ SqL K H p ((h0 :: flatE es).map V.str) ∧ h0 ≠ "edition" ∧ GoodK es ∧
  ∀ (H' : Hp) (q : Addr), Grown (PartR K a) H q es H' → H q = none → Q (.ref q) H'
section
variable {P : Program} {w : World} {K : PySem.W.Frag} {mg : Str → Option Value} {base : Heap} {a : Ad} {b : Ae} {fO fR fL fB fP fE : Addr} {dO dR dL dB dP dE : FuncData} {pR pE : Addr}
abbrev nRE : List Str := ["lines", "heads", "ends", "at", "line", "head", "end"]
theorem scRE : FnScope nRE ["lines"] (defScope sReadEds) := ⟨rfl, rfl, rfl, by decide +kernel, rfl, by decide +kernel, by decide +kernel⟩
theorem okReadEds (T : Txt K mg a) (D : RdF K mg a b fO fR fL fB fP fE dO dR dL dB dP dE pR pE) {f : Addr} {fd : FuncData} (F : Fun K "_read_editions" "_read_editions" sReadEds f fd) : FnOk P w K mg base CX0 10 f fd ["lines"] (spReadEds K a) := by
  refine F.ok scRE (fun vs H Q E h => ?_) (fun cdv A outer s H vs Q E hr h => ?_)
  · obtain ⟨p, h0, es, rfl, _⟩ := h
    rfl
  · obtain ⟨p, h0, es, rfl, hs, hh, g, fin⟩ := h
    have OP : FnOk P w K mg base CX0 9 fP dP ["lines", "at"] (spParts K a) := okParts T D
    have hr9 : Room 9 _ := hr.mono (by decide)
    refine ⟨_, pss_cons (ps_if (PW.pt (pw_or (pt_cmpR op_eq (pe_callB call_len_seq (by rfl) T.tLen PySem.boot_len (pa_cons (pv 0) pa_nil)) pe_int (nomark _)) (pw_or1 (pt_cmpR op_ne (pe_ix ix_list (pv 0) pe_int (fun _ _ => rfl)) pe_str (nomark _))))) (pss_one ps_dead) pss_nil)
      (pss_cons (ps_setLc (i := 1) (own := [("at", 3), ("line", 4)]) (g := gTup K 2 (gCons (gName 3) (gCons (gName 4) gNil))) (tt := tTest (tOp rEq (tVar 4) (tC (.str "edition")))) (te := tVar 3) (by rfl) scRE.nd rfl rfl (sw_true rfl rfl rfl (by decide +kernel)) (pi_enum (by rfl) D.enum (pa_cons (pv 0) pa_nil))
          (blkOk_by (own := [("at", 3), ("line", 4)]) (N := nRE) (sc := defScope sReadEds) (by decide +kernel)) (fun _ _ _ _ _ => pg_tup rfl (pgs_cons (pg_name (i := 3) scRE.nd rfl (.inl rfl)) (pgs_cons (pg_name (i := 4) scRE.nd rfl (.inl rfl)) pgs_nil))) (fun _ _ _ _ _ => pts_one (pt_cmpR op_eq (pv 4) pe_str (nomark _)))
          (fun _ _ _ _ _ => pv 3))
      (pss_cons (ps_set (i := 2) scRE.nd rfl (Or.inl rfl) (pe_lst (StX.pa_star (pe_slice sl_list (pv 1) (po_some pe_int) po_none) (pa_cons (pe_callB call_len_seq (by rfl) T.tLen PySem.boot_len (pa_cons (pv 0) pa_nil)) pa_nil))))
      (pss_one (ps_ret (pe_lc (own := [("head", 5), ("end", 6)]) (g := gTup K 2 (gCons (gName 5) (gCons (gName 6) gNil))) (tt := tYes) (te := tCall (spParts K a) [] E0 (tCons (tSl (rSlL K) (tVar 0) (tPart (tOp (rI0 fun i j => .int (i + j)) (tVar 5) (tC (.int 1)))) (tPart (tVar 6))) (tCons (tOp (rI0 fun i j => .int (i + j)) (tVar 5) (tC (.int 1))) tNil))) (by rfl) scRE.nd
          (pi_zip (by rfl) D.zip (pa_cons (pv 1) (pa_cons (pv 2) pa_nil)))
          (blkOk_by (own := [("head", 5), ("end", 6)]) (N := nRE) (sc := defScope sReadEds) (by decide +kernel)) (fun _ _ _ _ _ => pg_tup rfl (pgs_cons (pg_name (i := 5) scRE.nd rfl (.inl rfl)) (pgs_cons (pg_name (i := 6) scRE.nd rfl (.inl rfl)) pgs_nil))) (fun _ _ _ _ _ => pts_nil)
          (fun _ _ _ _ _ => pe_call OP hr9 rfl D.parts.g D.parts.F.kp D.parts.b .nil pass0 (pa_cons (pe_slice sl_list (pv 0) (po_some (pe_op op_add (pv 5) pe_int)) (po_some (pv 6))) (pa_cons (pe_op op_add (pv 5) pe_int) pa_nil)))))))), ?_⟩
    have fl := flat_few g
    obtain ⟨e0, es0, rfl⟩ : ∃ e0 es0, es = e0 :: es0 := by
      cases es with
      | nil => exact absurd rfl g.ne
      | cons e0 es0 => exact ⟨e0, es0, rfl⟩
    refine ⟨_, rfl, p, _, rfl, .inl hs, rfl, _, rfl, ?_⟩
    refine iteFb (decide_eq_false fun z => ?_) ?_
    · simp only [V.int.injEq, List.length_map, List.length_cons] at z
      have : (flatE (e0 :: es0)).length = 0 := by omega
      simp [flatE, blockE] at this
    refine ⟨_, rfl, p, _, 1, _, rfl, rfl, hs, atI_nat (j := 1) rfl, rfl, _, rfl, ?_⟩
    refine iteFb (by decide +kernel) ?_
    dsimp only [tNext]
    refine ⟨_, rfl, p, _, rfl, hs, fun D un => lc_enum (K := K) (a := p) (xs := (h0 :: flatE (e0 :: es0)).map V.str) (fun j H' => Same H H' ∧ H' D = some (.lst ((idxF 0 ((h0 :: flatE (e0 :: es0)).take j)).map fun n => V.int (n : Nat)))) ⟨same_new un, upd_same⟩ (fun j H' hv => hv.1.seq hs) ?_ ?_⟩
    · rintro j x t H3 hx ⟨s1, hD⟩ ut
      rw [List.getElem?_map] at hx
      obtain ⟨z, ez, rfl⟩ := Option.map_eq_some_iff.mp hx
      have lj : j < (h0 :: flatE (e0 :: es0)).length := (List.getElem?_eq_some_iff.mp ez).1
      have ltk : ((h0 :: flatE (e0 :: es0)).take j).length = j := by rw [List.length_take]; omega
      have tk : idxF 0 ((h0 :: flatE (e0 :: es0)).take (j + 1)) = idxF 0 ((h0 :: flatE (e0 :: es0)).take j) ++ (if z = "edition" then [j] else []) := by
        rw [List.take_add_one, ez, idxF_app, ltk, Nat.zero_add]
        show _ ++ ((if z = "edition" then [j] else []) ++ []) = _
        rw [List.append_nil]
      have s2 := same_new (o := .tup [.int (j : Nat), .str z]) ut
      have hD2 := s2 _ _ hD
      refine ⟨t, _, rfl, SqT.of upd_same, rfl, _, _, rfl, _, _, rfl, rfl, ?_⟩
      refine ⟨rfl, _, rfl, rfl, _, rfl, ?_⟩
      by_cases hz : z = "edition"
      · refine iteTb (decide_eq_true (by rw [hz])) ⟨_, rfl, _, hD2, ?_, fun b o eb => ?_, ?_⟩
        · rw [List.length_map]
          have := idxF_len 0 ((h0 :: flatE (e0 :: es0)).take j)
          rw [List.length_cons] at lj
          exact Nat.lt_of_le_of_lt (show _ ≤ 1000 by omega) (by decide)
        · rw [upd_ne (ne_of_none eb un)]
          exact s2 _ _ (s1 _ _ eb)
        · rw [upd_same, tk, if_pos hz, List.map_append]
          rfl
      · refine iteFb (decide_eq_false fun e => hz (by cases e; rfl)) ⟨s1.trans s2, ?_⟩
        rw [tk, if_neg hz, List.append_nil]
        exact hD2
    · rintro H3 ⟨s1, hD⟩
      rw [List.length_map, List.take_length] at hD
      have ei : idxF 0 (h0 :: flatE (e0 :: es0)) = headsF 1 (e0 :: es0) := by
        show (if h0 = "edition" then [0] else []) ++ idxF 1 (flatE (e0 :: es0)) = _
        rw [if_neg hh, idxF_flat]
        rfl
      rw [ei] at hD
      dsimp only [gName, tNext]
      have hs3 := s1.seq hs
      refine ⟨_, rfl, _, rfl, D, _, rfl, SqL.of hD, fun c uc => ⟨c, _, rfl, .inr (SqL.of upd_same), ?_⟩⟩
      have s2 := same_new (o := .lst (cutV ((headsF 1 (e0 :: es0)).map fun n => V.int (n : Nat)) (some 1) none)) uc
      have hs4 := s2.seq hs3
      have hD2 := s2 _ _ hD
      generalize (upd H3 c (.lst (cutV ((headsF 1 (e0 :: es0)).map fun n => V.int (n : Nat)) (some 1) none))) = H4 at s2 hs4 hD2 ⊢
      refine ⟨_, rfl, p, _, rfl, .inl hs4, ?_⟩
      dsimp only [tNil]
      have ee : cutV ((headsF 1 (e0 :: es0)).map fun n => V.int (n : Nat)) (some 1) none ++ [V.int (((h0 :: flatE (e0 :: es0)).map V.str).length : Nat)] = (endsL 1 (e0 :: es0)).map fun n => V.int (n : Nat) := by
        rw [cut_drop (by decide), ← flat_len es0 1 e0, List.map_append, List.length_map, List.length_cons, Nat.add_comm]
        rfl
      rw [ee]
      have le := ends_len 1 (e0 :: es0)
      have lh := heads_len 1 (e0 :: es0)
      have lf := g.few
      refine ⟨?_, fun q uq => ?_⟩
      · rw [List.length_map, le]
        exact Nat.le_trans lf (by decide)
      have s3 := same_new (o := .lst ((endsL 1 (e0 :: es0)).map fun n => V.int (n : Nat))) uq
      have hs5 := s3.seq hs4
      have hD3 := s3 _ _ hD2
      have hq : (upd H4 q (.lst ((endsL 1 (e0 :: es0)).map fun n => V.int (n : Nat)))) q = some (.lst ((endsL 1 (e0 :: es0)).map fun n => V.int (n : Nat))) := upd_same
      generalize (upd H4 q (.lst ((endsL 1 (e0 :: es0)).map fun n => V.int (n : Nat)))) = H5 at s3 hs5 hD3 hq ⊢
      have S5 := (s1.trans s2).trans s3
      dsimp only [gName, tNext]
      refine ⟨_, rfl, _, rfl, D, q, _, _, rfl, SqL.of hD3, SqL.of hq, fun DD uD => lc_it (walk_zip (n := (e0 :: es0).length) (by rw [List.length_map, List.length_map, le, lh, Nat.min_self])) (fun j H' => Grown (PartR K a) H5 DD ((e0 :: es0).take j) H') (Grown.zero uD) (fun j H' _ gr => ⟨gr.s.seq (SqL.of hD3), gr.s.seq (SqL.of hq)⟩) ?_ ?_⟩
      · rintro j x H6 H7 lj gr ⟨t, x1, x2, rfl, ut, rfl, e1, e2⟩
        obtain ⟨e, he⟩ : ∃ e, (e0 :: es0)[j]? = some e := ⟨_, List.getElem?_eq_getElem lj⟩
        have ge := g.each e (List.mem_of_getElem? he)
        obtain ⟨i, p1, p2, p3, p4⟩ := part_at (e0 :: es0) [h0] j e he
        have p3 : i + lenE e ≤ (h0 :: flatE (e0 :: es0)).length := p3
        have p4 : ((h0 :: flatE (e0 :: es0)).take (i + lenE e)).drop (i + 1) = linesE e := p4
        dsimp only at e1 e2
        rw [List.getElem?_map, show (headsF 1 (e0 :: es0))[j]? = some i from p1] at e1
        rw [List.getElem?_map, show (endsL 1 (e0 :: es0))[j]? = some (i + lenE e) from p2] at e2
        obtain rfl : V.int (i : Nat) = x1 := Option.some.inj e1
        obtain rfl : V.int ((i + lenE e : Nat) : Int) = x2 := Option.some.inj e2
        have s6 := same_new (o := .tup [.int (i : Nat), .int ((i + lenE e : Nat) : Int)]) ut
        have gr2 := gr.mono part_stays s6
        refine ⟨t, _, rfl, SqT.of upd_same, rfl, _, _, rfl, _, _, rfl, rfl, ?_⟩
        refine ⟨rfl, ?_⟩
        generalize (upd H6 t (.tup [.int (i : Nat), .int ((i + lenE e : Nat) : Int)])) = H7 at s6 gr2 ⊢
        dsimp only [tYes]
        refine iteT ⟨_, rfl, _, rfl, _, _, rfl, rfl, _, rfl, _, rfl, _, rfl, p, _, rfl, gr2.s.seq hs5, fun y uy => ?_⟩
        have ec : cutV ((h0 :: flatE (e0 :: es0)).map V.str) (some ((i : Int) + 1)) (some ((i + lenE e : Nat) : Int)) = (linesE e).map V.str := by
          rw [show ((i : Int) + 1) = ((i + 1 : Nat) : Int) from by omega, cut_mid (by unfold lenE; omega) (by rw [List.length_map]; exact p3), ← List.map_take, ← List.map_drop, p4]
        rw [ec]
        have s8 := same_new (o := .lst ((linesE e).map V.str)) uy
        have gr3 := gr2.mono part_stays s8
        have hy : (upd H7 y (.lst ((linesE e).map V.str))) y = some (.lst ((linesE e).map V.str)) := upd_same
        generalize (upd H7 y (.lst ((linesE e).map V.str))) = H8 at s8 gr3 hy ⊢
        refine ⟨_, rfl, _, _, rfl, rfl, y, e.2, e.1, _, rfl, SqL.of hy, by omega, ?_, ge.dzok, ge.fewz, ge.ne, ge.good, ge.few, fun H9 t2 l q2 xs s9 ut2 ul uq2 ht hl hq2 hR => ?_⟩
        · rw [List.length_cons] at p3
          have := p3
          have : lenE e = e.1.length + 2 := rfl
          omega
        · rw [show (e0 :: es0).take (j + 1) = (e0 :: es0).take j ++ [e] from by rw [List.take_add_one, he]; rfl]
          obtain ⟨acc, hDD, _⟩ := gr3.ex
          have hDD9 := s9 _ _ hDD
          have nD : ∀ {z : Addr}, H8 z = none → z ≠ DD := fun h e => by rw [e, hDD] at h; cases h
          refine gr3.add part_stays uD (by rw [List.length_take]; omega) s9 ⟨t2, l, q2, xs, rfl, by rw [hide_ne (nD ut2)]; exact ht, by rw [hide_ne (nD ul)]; exact hl, by rw [hide_ne (nD uq2)]; exact hq2, hR.hardC.same (hard_hide hDD9)⟩
      · intro H6 gr
        rw [List.take_length] at gr
        exact fin _ DD ⟨S5.trans gr.s, gr.ex⟩ (S5.free uD)
end
end K2

set_option Elab.async false
set_option linter.all false
set_option maxRecDepth 100000
set_option maxHeartbeats 1000000
namespace K2
open PySem L2 Lw TL SxT
/-- a row in the place of the one that stands there -/
def putF (rs : List Row0) (r : Row0) : List Row0 := rs.map fun o => if placeR o = placeR r then r else o
theorem drops_tup (dz : List Str) : dropsL (.tuple (dz.map PyData.str)) = dz := by
  show (dz.map PyData.str).map strD = dz
  rw [List.map_map]
  conv => rhs; rw [← List.map_id dz]
  rfl
theorem nodup_le {α : Type} [DecidableEq α] : ∀ {l m : List α}, l.Nodup → (∀ x ∈ l, x ∈ m) → l.length ≤ m.length
  | [], _, _, _ => Nat.zero_le _
  | x :: r, m, nd, h => by
    have hx := h x List.mem_cons_self
    obtain ⟨n1, n2⟩ := List.nodup_cons.mp nd
    have z := nodup_le (l := r) (m := m.erase x) n2 fun y hy => by
      have ne : y ≠ x := fun e => n1 (e ▸ hy)
      exact (List.mem_erase_of_ne ne).mpr (h y (List.mem_cons_of_mem _ hy))
    have e := List.length_erase_of_mem hx
    have pos : 0 < m.length := List.length_pos_iff.mpr fun e => by rw [e] at hx; cases hx
    rw [List.length_cons]
    omega
theorem rises_names {dz : List Str} {d : PyData} (u : unlikeD d = true) (h : Rises dz (dropsL d)) (few : (dropsL d).length < 64) : (∀ z ∈ dz, nameOk z = true) ∧ dz.length < 64 := by
  have hn : ∀ z ∈ dropsL d, nameOk z = true := by
    have go : ∀ ds : List PyData, unlikeL ds = true → ∀ z ∈ ds.map strD, nameOk z = true := fun ds e z hz => by
      rw [unlikeL, Bool.and_eq_true] at e
      have h1 := names_are e.1
      have h2 := e.1
      rw [h1, List.all_map, List.all_eq_true] at h2
      exact h2 z hz
    cases d with
    | list ds => exact go ds u
    | tuple ds => exact go ds u
    | _ => cases u
  refine ⟨fun z hz => hn z ((h.2.2 z).mp hz), ?_⟩
  have := nodup_le h.2.1 fun z hz => (h.2.2 z).mp hz
  omega
end K2

set_option Elab.async false
set_option linter.all false
set_option maxRecDepth 100000
set_option maxHeartbeats 1000000
/-! a chain read: the constructor's call -/
namespace K2
open PySem L2 Lw TL SxT
theorem EdAt.hardC {K : PySem.W.Frag} {H : Hp} {fs : List (Str × V)} {xs : List V} {rs : List Row0} {d : PyData} (h : EdAt K H fs xs rs d) : EdAt K (hard H) fs xs rs d := by
  obtain ⟨⟨t1, a1, b1⟩, ⟨t2, dz, a2, b2, c2, d2⟩, h3, ⟨t4, z4, a4, b4, c4⟩, ⟨t5, z5, a5, b5, c5⟩, ⟨t6, z6, a6, b6, c6⟩, ⟨t7, a7, b7⟩, h8⟩ := h
  exact ⟨⟨t1, a1, hard_tup b1⟩, ⟨t2, dz, a2, hard_tup b2, c2, d2⟩, h3, ⟨t4, z4, a4, hard_tup b4, c4⟩, ⟨t5, z5, a5, hard_tup b5, c5⟩, ⟨t6, z6, a6, hard_tup b6, c6⟩, ⟨t7, a7, hard_of b7 fun _ z => by cases z⟩, h8⟩
theorem EdAt.sameC {K : PySem.W.Frag} {H H' : Hp} {fs : List (Str × V)} {xs : List V} {rs : List Row0} {d : PyData} (h : EdAt K H fs xs rs d) (s : Same H H') : EdAt K H' fs xs rs d := by
  obtain ⟨⟨t1, a1, a2⟩, ⟨t2, dz, b1, b2, b3⟩, c, ⟨t3, z3, d1, d2, d3⟩, ⟨t4, z4, e1, e2, e3⟩, ⟨t5, z5, f1, f2, f3⟩, ⟨t6, g1, g2⟩, i⟩ := h
  exact ⟨⟨t1, a1, same_tup s a2⟩, ⟨t2, dz, b1, same_tup s b2, b3⟩, c, ⟨t3, z3, d1, same_tup s d2, d3⟩, ⟨t4, z4, e1, same_tup s e2, e3⟩, ⟨t5, z5, f1, same_tup s f2, f3⟩, ⟨t6, g1, s _ _ g2⟩, i⟩
/-- an edition made of what was told -/
def EdR (K : PySem.W.Frag) (a : Ad) (b : Ae) (H : Hp) (v : V) (e : Ed0) : Prop := ∃ (x dx : Addr) (fs : List (Str × V)) (xs : List V), v = .ref x ∧ H x = some (.ins b.cEd dx fs) ∧ EdAt K H fs xs e.1 (dropsD e.2) ∧ RowsAt K a H xs e.1
theorem edR_stays {K : PySem.W.Frag} {a : Ad} {b : Ae} : Stays (EdR K a b) := ⟨fun s h => let ⟨x, dx, fs, xs, e, h1, h2, h3⟩ := h; ⟨x, dx, fs, xs, e, s _ _ h1, h2.sameC s, h3.same s⟩⟩
theorem edR_hard {K : PySem.W.Frag} {a : Ad} {b : Ae} {H : Hp} {v : V} {e : Ed0} (h : EdR K a b H v e) : EdR K a b (hard H) v e := by
  obtain ⟨x, dx, fs, xs, rfl, h1, h2, h3⟩ := h
  exact ⟨x, dx, fs, xs, rfl, hard_of h1 (fun _ z => nomatch z), h2.hardC, h3.hardC⟩
/-- what a chain keeps of it -/
structure Of1 (e : Ed0) (e1 : Ed1) : Prop where
  dz : Rises e1.dz e.2
  mz : Rises e1.mz ((e.1.filter gateB).map markR)
  z : e1.z = textE e.1 e1.dz
theorem edR_one {K : PySem.W.Frag} {a : Ad} {b : Ae} {H : Hp} {v : V} {e : Ed0} (h : EdR K a b H v e) : ∃ e1, Of1 e e1 ∧ EdCh K b.cEd H v e1 := by
  obtain ⟨x, dx, fs, xs, rfl, h1, h2, h3⟩ := h
  obtain ⟨td, dz, q1, q2, q3, q4⟩ := h2.drops
  obtain ⟨tm, mz, m1, m2, m3⟩ := h2.marks
  rw [drops_of] at q3
  exact ⟨⟨textE e.1 dz, mz, dz⟩, ⟨q3, m3, rfl⟩, x, dx, tm, td, fs, rfl, h1, q4, m1, m2, q1, q2⟩
def Of1s (es : List Ed0) (es1 : List Ed1) : Prop := es1.length = es.length ∧ ∀ (j : Nat) (e : Ed0) (e1 : Ed1), es[j]? = some e → es1[j]? = some e1 → Of1 e e1
theorem edRs_one {K : PySem.W.Frag} {a : Ad} {b : Ae} {H : Hp} : ∀ {vs : List V} {es : List Ed0}, Els (EdR K a b) H vs es → ∃ es1, Of1s es es1 ∧ Els (EdCh K b.cEd) H vs es1
  | [], [], _ => ⟨[], ⟨rfl, fun j e e1 h => by simp at h⟩, ⟨rfl, fun j x h => by simp at h⟩⟩
  | [], _ :: _, h => by have := h.len; simp at this
  | _ :: _, [], h => by have := h.len; simp at this
  | v :: vs, e :: es, h => by
    obtain ⟨e', he, r⟩ := h.at_ 0 v rfl
    obtain rfl := Option.some.inj he
    obtain ⟨e1, o1, c1⟩ := edR_one r
    obtain ⟨es1, ⟨l1, o2⟩, c2⟩ := edRs_one (vs := vs) (es := es) ⟨by simpa using h.len, fun j x q => by
      obtain ⟨a, q1, q2⟩ := h.at_ (j + 1) x (by simpa using q)
      exact ⟨a, by simpa using q1, q2⟩⟩
    refine ⟨e1 :: es1, ⟨by simp [l1], fun j a a1 q1 q2 => ?_⟩, ⟨by simp [c2.len], fun j x q => ?_⟩⟩
    · cases j with
      | zero =>
        obtain rfl := Option.some.inj q1
        obtain rfl := Option.some.inj q2
        exact o1
      | succ j => exact o2 j a a1 (by simpa using q1) (by simpa using q2)
    · cases j with
      | zero =>
        obtain rfl := Option.some.inj q
        exact ⟨e1, rfl, c1⟩
      | succ j =>
        obtain ⟨a, q1, q2⟩ := c2.at_ j x (by simpa using q)
        exact ⟨a, by simpa using q1, q2⟩
def manyM (es : List Ed0) : Nat := (es.map fun e => (e.1.filter gateB).length + e.2.length).sum
theorem rises_le {zs l : List Str} (h : Rises zs l) : zs.length ≤ l.length := nodup_le h.2.1 fun z hz => (h.2.2 z).mp hz
theorem of1s_marks : ∀ {es : List Ed0} {es1 : List Ed1}, Of1s es es1 → ((es1.map fun e => e.mz ++ e.dz).flatten).length ≤ manyM es
  | [], [], _ => Nat.le_refl _
  | [], _ :: _, h => by have := h.1; simp at this
  | _ :: _, [], h => by have := h.1; simp at this
  | e :: es, e1 :: es1, h => by
    have h0 := h.2 0 e e1 rfl rfl
    have ih := of1s_marks (es := es) (es1 := es1) ⟨by simpa using h.1, fun j a b q1 q2 => h.2 (j + 1) a b (by simpa using q1) (by simpa using q2)⟩
    have q1 := rises_le h0.dz
    have q2 := rises_le h0.mz
    rw [List.length_map] at q2
    unfold manyM at ih ⊢
    rw [List.map_cons, List.flatten_cons, List.length_append, List.length_append, List.map_cons, List.sum_cons]
    omega
theorem of1s_few {es : List Ed0} {es1 : List Ed1} (h : Of1s es es1) (g : GoodK es) (m : manyM es ≤ 60) : EdFew es1 := by
  refine ⟨fun z => ?_, by rw [h.1]; exact g.few, Nat.le_trans (of1s_marks h) m, fun e1 he => ?_⟩
  · have := h.1
    rw [z] at this
    exact g.ne (List.length_eq_zero_iff.mp this.symm)
  · obtain ⟨j, hj⟩ := List.getElem?_of_mem he
    have lt := (List.getElem?_eq_some_iff.mp hj).1
    obtain ⟨e, hj2⟩ : ∃ e, es[j]? = some e := ⟨_, List.getElem?_eq_getElem (by rw [← h.1]; exact lt)⟩
    have o := h.2 j _ e1 hj2 hj
    have ge := g.each _ (List.mem_of_getElem? hj2)
    rw [o.z]
    have := ed_len (fun z hz => ge.dzok z ((o.dz.2.2 z).mp hz)) (Nat.le_trans (rises_le o.dz) ge.fewz) ge.good ge.few
    omega
theorem due_no {uz : List Str} (h : ∀ z ∈ uz, nameOk z = true) {c : Nat} (hc : c < 97) (h32 : c ≠ 32) : c ∉ tl (Txt.join " " ("due" :: uz : List Str)) := fun m => by
  rcases mem_join m with m | ⟨p, hp, m⟩
  · have e : tl (" " : Str) = [32] := by decide +kernel
    rw [e] at m
    exact h32 (List.mem_singleton.mp m)
  · rcases List.mem_cons.mp hp with rfl | hp
    · have e : tl ("due" : Str) = [100, 117, 101] := by decide +kernel
      rw [e] at m
      simp at m
      omega
    · exact name_no (h p hp) hc m
theorem due_split {dz : List Str} (h : ∀ z ∈ dz, nameOk z = true) : Txt.split (Txt.join " " ("due" :: dz)) " " = ("due" :: dz : List Str) := by
  refine split_join (s := 32) (S := []) (by decide +kernel) (by decide +kernel) (by simp) fun p hp => ?_
  rcases List.mem_cons.mp hp with rfl | hp
  · decide +kernel
  · exact name_no (h p hp) (by decide)
theorem due_len {dz : List Str} (h : ∀ z ∈ dz, nameOk z = true) (few : dz.length ≤ 60) : (Txt.join " " ("due" :: dz)).length ≤ 400 := by
  have h1 := join_len " " ("due" :: dz)
  have h2 := sum_le (n := 4) (ys := dz) fun z hz => ok4 (h z hz)
  have e : (" " : Str).length = 1 := by decide
  have e5 : ("due" : Str).length = 3 := by decide
  rw [e, List.map_cons, List.sum_cons, List.length_cons, e5] at h1
  omega
theorem flat_mem {es : List Ed0} {l : Str} (h : l ∈ flatE es) : l = "edition" ∨ ∃ e ∈ es, l = Txt.join " " ("drops" :: e.2) ∨ ∃ r ∈ e.1, l = textR r := by
  obtain ⟨bl, hb, hl⟩ := List.mem_flatten.mp h
  obtain ⟨e, he, rfl⟩ := List.mem_map.mp hb
  rcases List.mem_cons.mp hl with rfl | hl
  · exact .inl rfl
  rcases List.mem_cons.mp hl with rfl | hl
  · exact .inr ⟨e, he, .inl rfl⟩
  · obtain ⟨r, hr, rfl⟩ := List.mem_map.mp hl
    exact .inr ⟨e, he, .inr ⟨r, hr, rfl⟩⟩
theorem textK_split {uz : List Str} {es : List Ed0} (h : ∀ z ∈ uz, nameOk z = true) (g : GoodK es) : Txt.split (textK uz es) "\n" = Txt.join " " ("due" :: uz) :: flatE es := by
  refine split_join (s := 10) (S := []) (by decide +kernel) (by decide +kernel) (by simp) fun p hp => ?_
  rcases List.mem_cons.mp hp with rfl | hp
  · exact due_no h (by decide) (by decide)
  · rcases flat_mem hp with rfl | ⟨e, he, rfl | ⟨r, hr, rfl⟩⟩
    · decide +kernel
    · exact head_no (g.each e he).dzok (by decide) (by decide)
    · exact row_no ((g.each e he).good r hr) (by decide) (by decide)
theorem textK_len {uz : List Str} {es : List Ed0} (h : ∀ z ∈ uz, nameOk z = true) (few : uz.length ≤ 60) (g : GoodK es) : (textK uz es).length ≤ 300000 := by
  have h0 := due_len h few
  have h1 := join_len "\n" (Txt.join " " ("due" :: uz) :: flatE es)
  have h2 := sum_le (n := 400) (ys := flatE es) fun z hz => by
    rcases flat_mem hz with rfl | ⟨e, he, rfl | ⟨r, hr, rfl⟩⟩
    · decide
    · exact head_len (g.each e he).dzok (g.each e he).fewz
    · exact Nat.le_trans (textR_len ((g.each e he).good r hr)) (by decide)
  have h3 := flat_few g
  have e : ("\n" : Str).length = 1 := by decide
  rw [e, List.map_cons, List.sum_cons, List.length_cons] at h1
  unfold textK
  omega
/-- names that are due -/
structure DueOk (uz : List Str) : Prop where
  names : ∀ z ∈ uz, nameOk z = true
  few : uz.length ≤ 60
  nd : uz.Nodup
def spChRead (K : PySem.W.Frag) (a : Ad) (b : Ae) (c : Ac) : Sp := fun vs H Q _ => ∃ (uz : List Str) (es : List Ed0), vs = [.ref c.cCh, .str (textK uz es)] ∧ DueOk uz ∧ GoodK es ∧ manyM es ≤ 60 ∧
  ∀ (H' : Hp) (x dx : Addr) (fs : List (Str × V)) (xs : List V) (es1 : List Ed1), Same H H' → H x = none → H' x = some (.ins c.cCh dx fs) → ChAt K H' fs xs es1 (dropsD uz) → Els (EdR K a b) H' xs es → Of1s es es1 → Q (.ref x) H'
theorem due_unlike {uz : List Str} (h : DueOk uz) : unlikeD (dropsD uz) = true := by
  show unlikeL (uz.map PyData.str) = true
  rw [unlikeL, Bool.and_eq_true, decide_eq_true_iff]
  refine ⟨?_, ?_⟩
  · rw [List.all_map, List.all_eq_true]
    exact h.names
  · rw [show (uz.map PyData.str).map strD = uz from drops_of uz]
    exact h.nd
theorem due_fine {uz : List Str} (h : DueOk uz) : fine (dropsD uz) = true := by
  show fine (.list (uz.map PyData.str)) = true
  rw [fine, drops_fine h.names, Bool.and_true, List.length_map]
  exact decide_eq_true (by have := h.few; omega)
section
variable {P : Program} {w : World} {K : PySem.W.Frag} {mg : Str → Option Value} {base : Heap} {a : Ad} {b : Ae} {c : Ac} {fO fR fL fB fP fE : Addr} {dO dR dL dB dP dE : FuncData} {pR pE : Addr} {fEq fStr : Addr} {dEq dStr : FuncData} {lR lA lN lG : Addr} {eR eA eN eG : FuncData}
  {hRow hLen hEq hStr : Addr} {gRow gLen gEq gStr : FuncData}
abbrev nCR : List Str := ["cls", "text", "lines", "due", "parts", "drops", "rows"]
theorem scChRead : FnScope nCR ["cls", "text"] (defScope sChRead) := ⟨rfl, rfl, rfl, by decide +kernel, rfl, by decide +kernel, by decide +kernel⟩
theorem ChT.bindAll (E : ChT K mg b c hStr gStr) : Binds K c.dCh ["self", "editions", "due"] [] := by
  obtain ⟨ds, hv, hb⟩ := E.F.binds1 (ps := ["self", "editions", "due"]) 3 1 (by simp) rfl (fun T kV doc pm an cdv ct us its hl hi => match us, hl, its, hi with | [_, _, _], _, [_], _ => ⟨_, rfl, rfl⟩)
  cases hv
  exact hb
theorem okChRead (T : Txt K mg a) (R : RowF K a fEq fStr dEq dStr) (L : LeadsF K a lR lA lN lG eR eA eN eG) (E0d : EdT K mg a b) (M : EdM K mg b.cEd hRow hLen hEq hStr gRow gLen gEq gStr) (strI : PySem.W.isFn K (.ref fStr) = true) (strAt : ∀ C ∈ rowCs a, PySem.W.findIn K (.ref C) "__str__" = some (some (.ref fStr)))
    (D : RdF K mg a b fO fR fL fB fP fE dO dR dL dB dP dE pR pE) (C : ChT K mg b c hStr gStr) (chK : Mk K c.cCh c.fCh) {gRE : Addr} {eRE : FuncData} (re : Top K mg "_read_editions" sReadEds gRE eRE ["lines"]) {f : Addr} {fd : FuncData} (F : Fun K "read" "Chain.read" sChRead f fd) : FnOk P w K mg base CX0 11 f fd ["cls", "text"] (spChRead K a b c) := by
  refine F.ok scChRead (fun vs H Q E h => ?_) (fun cdv A outer s H vs Q E hr h => ?_)
  · obtain ⟨uz, es, rfl, _⟩ := h
    rfl
  · obtain ⟨uz, es, rfl, hu, g, mm, fin⟩ := h
    have OB : FnOk P w K mg base CX0 2 fB dB ["head", "line"] spBehind := okBehind T D.behind.F
    have ORE : FnOk P w K mg base CX0 10 gRE eRE ["lines"] (spReadEds K a) := okReadEds T D re.F
    have OE : FnOk P w K mg base (L2.CX P w) 5 b.fEd b.dEd ["self", "rows", "drops"] (spEd K a b) := E0d.okEd T R L strI strAt
    have OC : FnOk P w K mg base CX0 5 c.fCh c.dCh ["self", "editions", "due"] (spCh K b c) := C.okCh T E0d M
    have hr2 : Room 2 _ := hr.mono (by decide)
    have hr6 : Room 6 _ := hr.mono (by decide)
    have hr10 : Room 10 _ := hr.mono (by decide)
    refine ⟨_, pss_cons (ps_set (i := 2) scChRead.nd rfl (Or.inl rfl) (pe_split (pv 1) pe_str))
      (pss_cons (ps_set (i := 3) scChRead.nd rfl (Or.inl rfl) (pe_call OB hr2 rfl D.behind.g D.behind.F.kp D.behind.b .nil pass0 (pa_cons pe_str (pa_cons (pe_ix ix_list (pv 2) pe_int (fun _ _ => rfl)) pa_nil))))
      (pss_cons (ps_if (pt_cmpR op_isN (pv 3) pe_non rfl) (pss_one ps_dead) pss_nil)
      (pss_cons (ps_set (i := 4) scChRead.nd rfl (Or.inl rfl) (pe_call ORE hr10 rfl re.g re.F.kp re.b .nil pass0 (pa_cons (pv 2) pa_nil)))
      (pss_one (ps_ret (pe_makeL (i := 0) (E := E0) chK OC hr6 rfl (Or.inl rfl) C.bindAll .nil pass0 (pa_cons (pe_lc (own := [("drops", 5), ("rows", 6)]) (g := gTup K 2 (gCons (gName 5) (gCons (gName 6) gNil))) (tt := tYes) (te := tMake b.cEd (spEd K a b) [] E0 (tCons (tVar 6) (tCons (tVar 5) tNil))) (by rfl) scChRead.nd
          (pi_list (pv 4))
          (blkOk_by (own := [("drops", 5), ("rows", 6)]) (N := nCR) (sc := defScope sChRead) (by decide +kernel)) (fun _ _ _ _ _ => pg_tup rfl (pgs_cons (pg_name (i := 5) scChRead.nd rfl (.inl rfl)) (pgs_cons (pg_name (i := 6) scChRead.nd rfl (.inl rfl)) pgs_nil))) (fun _ _ _ _ _ => pts_nil)
          (fun _ _ _ _ _ => pe_make D.edK OE hr6 rfl M.g E0d.bindAll .nil passL (pa_cons (pv 6) (pa_cons (pv 5) pa_nil)))) (pa_cons (pv 3) pa_nil)))))))), ?_⟩
    have lt := textK_len hu.names hu.few g
    refine ⟨_, rfl, ⟨_, rfl⟩, _, _, rfl, rfl, by decide +kernel, Nat.le_trans (Nat.add_le_add_right lt 2) (by decide), fun p up => ?_⟩
    rw [textK_split hu.names g]
    have s1 := same_new (o := .lst ((Txt.join " " ("due" :: uz) :: flatE es).map V.str)) up
    have hp : (upd H p (.lst ((Txt.join " " ("due" :: uz) :: flatE es).map V.str))) p = some (.lst ((Txt.join " " ("due" :: uz) :: flatE es).map V.str)) := upd_same
    generalize (upd H p (.lst ((Txt.join " " ("due" :: uz) :: flatE es).map V.str))) = H1 at s1 hp ⊢
    dsimp only [gName, tNext]
    refine ⟨_, rfl, p, _, 0, _, rfl, rfl, SqL.of hp, atI_nat (j := 0) rfl, ?_⟩
    have hl := due_len hu.names hu.few
    have lf := hu.few
    refine ⟨_, _, "due", uz, rfl, by omega, due_split hu.names, by omega, fun y hy => name_fine (hu.names y hy), fun _ _ H2 l s2 ul hl1 => ?_, fun z => absurd ⟨rfl, List.all_eq_true.mpr hu.names⟩ z⟩
    dsimp only [gName, tNext]
    refine ⟨_, rfl, rfl, _, rfl, ?_⟩
    refine iteF ?_
    dsimp only [tNext]
    refine ⟨_, rfl, p, Txt.join " " ("due" :: uz), es, rfl, s2.seq (SqL.of hp), head_ne (by decide +kernel) _, g, fun H3 q gr uq => ?_⟩
    dsimp only [gName, tNext]
    obtain ⟨acc, hq, hP⟩ := gr.ex
    have hP := hP.same part_stays hide_sub
    refine ⟨rfl, _, rfl, q, rfl, ⟨_, SqL.of hq⟩, fun D2 un => lc_it walk_list (fun j H' => Grown (EdR K a b) H3 D2 (es.take j) H') (Grown.zero un) (fun j H' _ gr2 => gr2.s.seq (SqL.of hq)) ?_ ?_⟩
    · rintro j x H5 H4 lj gr2 ⟨rfl, hx⟩
      obtain ⟨e, he, t, l2, q2, xs, rfl, ht, hl2, hq2, hR⟩ := hP.at_ j x hx
      have ge := g.each e (List.mem_of_getElem? he)
      refine ⟨t, _, rfl, SqT.of (gr2.s _ _ ht), rfl, _, _, rfl, _, _, rfl, rfl, ?_⟩
      refine ⟨rfl, ?_⟩
      dsimp only [tYes]
      have few2 := ge.few
      refine iteT ⟨_, rfl, _, rfl, fun x dx nx nd nex => ?_⟩
      have s5 : Same H4 (upd H4 dx (.own x)) := same_new nd
      have nx' : (upd H4 dx (.own x)) x = none := by rw [upd_ne nex.symm]; exact nx
      have s6 : Same (upd H4 dx (.own x)) (upd (upd H4 dx (.own x)) x (.ins b.cEd dx [])) := same_new nx'
      have S := (gr2.s.trans s5).trans s6
      have hd : Dp K H3 (.ref l2) (dropsD e.2) := .lst (SqL.of hl2) (strs_dp e.2)
      refine ⟨x, dx, q2, .ref l2, xs, e.1, dropsD e.2, rfl, upd_same, .inl (S.seq (SqL.of hq2)), hR.same S, ge.good, few2, dp_same S _ _ hd, ?_, by rw [drops_of]; have := ge.fewz; omega, fun _ H' fs kp hi ea => ⟨rfl, ?_⟩, fun z ez => ?_⟩
      · show fine (.list (e.2.map PyData.str)) = true
        rw [fine, drops_fine ge.dzok, Bool.and_true, List.length_map]
        exact decide_eq_true (by have := ge.fewz; omega)
      · have sm : Same H4 H' := Same.made nx nd kp
        rw [show es.take (j + 1) = es.take j ++ [e] from by rw [List.take_add_one, he]; rfl]
        obtain ⟨acc2, hD2, _⟩ := gr2.ex
        have hD3 := sm _ _ hD2
        have lfe := g.few
        refine gr2.add edR_stays un (by rw [List.length_take]; omega) sm (edR_stays.on (hard_hide hD3) (edR_hard ⟨x, dx, fs, xs, rfl, hi, ea, hR.same (gr2.s.trans sm)⟩))
      · rw [ge.right] at ez
        cases ez
    · intro H4 gr2
      rw [hP.len, List.take_length] at gr2
      obtain ⟨acc2, hD2, hE⟩ := gr2.ex
      have hE := hE.same edR_stays hide_sub
      obtain ⟨es1, o1, c1⟩ := edRs_one hE
      refine ⟨_, rfl, fun x dx nx nd nex => ?_⟩
      have s5 : Same H4 (upd H4 dx (.own x)) := same_new nd
      have nx' : (upd H4 dx (.own x)) x = none := by rw [upd_ne nex.symm]; exact nx
      have s6 : Same (upd H4 dx (.own x)) (upd (upd H4 dx (.own x)) x (.ins c.cCh dx [])) := same_new nx'
      have S := s5.trans s6
      have S4 := ((s1.trans s2).trans gr.s).trans gr2.s
      have hd : Dp K H4 (.ref l) (dropsD uz) := .lst (SqL.of (gr2.s _ _ (gr.s _ _ hl1))) (strs_dp uz)
      refine ⟨x, dx, D2, .ref l, acc2, es1, dropsD uz, rfl, upd_same, .inl (S.seq (SqL.of hD2)), c1.same edCh_stays S, of1s_few o1 g mm, dp_same S _ _ hd, due_fine hu, due_unlike hu, by rw [drops_of]; omega, fun H' fs kp hi ea => ⟨rfl, ?_⟩⟩
      have sm : Same H4 H' := Same.made nx nd kp
      exact fin H' x dx fs acc2 es1 (S4.trans sm) (S4.free nx) hi ea (hE.same edR_stays sm) o1
end
end K2

set_option Elab.async false
set_option linter.all false
set_option maxRecDepth 100000
set_option maxHeartbeats 1000000
/-! a chain as an object; chains put together -/
namespace K2
open PySem L2 Lw TL SxT
theorem ChAt.hardC {K : PySem.W.Frag} {H : Hp} {fs : List (Str × V)} {xs : List V} {es : List Ed1} {d : PyData} (h : ChAt K H fs xs es d) : ChAt K (hard H) fs xs es d := by
  obtain ⟨⟨t1, a1, b1⟩, ⟨t2, dz, a2, b2, c2, d2⟩, ⟨t3, z3, a3, b3, c3⟩, e⟩ := h
  exact ⟨⟨t1, a1, hard_tup b1⟩, ⟨t2, dz, a2, hard_tup b2, c2, d2⟩, ⟨t3, z3, a3, hard_tup b3, c3⟩, e⟩
theorem ChAt.same {K : PySem.W.Frag} {H H' : Hp} {fs : List (Str × V)} {xs : List V} {es : List Ed1} {d : PyData} (h : ChAt K H fs xs es d) (s : Same H H') : ChAt K H' fs xs es d := by
  obtain ⟨⟨t1, a1, b1⟩, ⟨t2, dz, a2, b2, c2, d2⟩, ⟨t3, z3, a3, b3, c3⟩, e⟩ := h
  exact ⟨⟨t1, a1, same_tup s b1⟩, ⟨t2, dz, a2, same_tup s b2, c2, d2⟩, ⟨t3, z3, a3, same_tup s b3, c3⟩, e⟩
theorem ChAt.owe {K : PySem.W.Frag} {H : Hp} {fs : List (Str × V)} {xs : List V} {es : List Ed1} {d d' : PyData} (h : ChAt K H fs xs es d) (e : ∀ k, k ∈ dropsL d ↔ k ∈ dropsL d') : ChAt K H fs xs es d' := by
  obtain ⟨a1, ⟨t2, dz, a2, b2, c2, d2⟩, a3, a4⟩ := h
  exact ⟨a1, ⟨t2, dz, a2, b2, ⟨c2.1, c2.2.1, fun k => (c2.2.2 k).trans (e k)⟩, d2⟩, a3, a4⟩
theorem els_hard {K : PySem.W.Frag} {a : Ad} {b : Ae} {H : Hp} {xs : List V} {es : List Ed0} (h : Els (EdR K a b) H xs es) : Els (EdR K a b) (hard H) xs es := ⟨h.len, fun j x e => let ⟨y, e1, r⟩ := h.at_ j x e; ⟨y, e1, edR_hard r⟩⟩
/-- a chain -/
structure ChO (K : PySem.W.Frag) (a : Ad) (b : Ae) (c : Ac) (H : Hp) (v : V) (uz : List Str) (es : List Ed0) : Prop where
  ex : ∃ (x dx : Addr) (fs : List (Str × V)) (xs : List V) (es1 : List Ed1), v = .ref x ∧ H x = some (.ins c.cCh dx fs) ∧ ChAt K H fs xs es1 (dropsD uz) ∧ Els (EdR K a b) H xs es ∧ Of1s es es1
theorem ChO.same {K : PySem.W.Frag} {a : Ad} {b : Ae} {c : Ac} {H H' : Hp} {v : V} {uz : List Str} {es : List Ed0} (h : ChO K a b c H v uz es) (s : Same H H') : ChO K a b c H' v uz es := by
  obtain ⟨x, dx, fs, xs, es1, e, h1, h2, h3, h4⟩ := h.ex
  exact ⟨x, dx, fs, xs, es1, e, s _ _ h1, h2.same s, h3.same edR_stays s, h4⟩
theorem ChO.hardC {K : PySem.W.Frag} {a : Ad} {b : Ae} {c : Ac} {H : Hp} {v : V} {uz : List Str} {es : List Ed0} (h : ChO K a b c H v uz es) : ChO K a b c (hard H) v uz es := by
  obtain ⟨x, dx, fs, xs, es1, e, h1, h2, h3, h4⟩ := h.ex
  exact ⟨x, dx, fs, xs, es1, e, hard_of h1 (fun _ z => nomatch z), h2.hardC, els_hard h3, h4⟩
theorem rises_unique {a b l m : List Str} (h1 : Rises a l) (h2 : Rises b m) (e : ∀ k, k ∈ l ↔ k ∈ m) : a = b :=
  sorted_eq (sorted_pair h1.1) (sorted_pair h2.1) h1.2.1 h2.2.1 fun k => (h1.2.2 k).trans ((e k).trans (h2.2.2 k).symm)
theorem rises_self {a l : List Str} (s : PyProof.Rows.sortedS a = true) (nd : l.Nodup) (p : a.Perm l) : Rises a l := ⟨s, p.nodup_iff.mpr nd, fun _ => p.mem_iff⟩
theorem textC_z {dz : List Str} {a b : List Ed1} (len : a.length = b.length) (h : ∀ (j : Nat) (x y : Ed1), a[j]? = some x → b[j]? = some y → x.z = y.z) : textC dz a = textC dz b := by
  have e : (a.map fun e => (["edition", e.z] : List Str)) = b.map fun e => (["edition", e.z] : List Str) := by
    refine List.ext_getElem? fun j => ?_
    rw [List.getElem?_map, List.getElem?_map]
    cases ha : a[j]? with
    | none =>
      have : b[j]? = none := by
        rw [List.getElem?_eq_none_iff] at ha ⊢
        omega
      rw [this]
    | some x =>
      obtain ⟨y, hy⟩ : ∃ y, b[j]? = some y := ⟨_, List.getElem?_eq_getElem (by rw [← len]; exact (List.getElem?_eq_some_iff.mp ha).1)⟩
      rw [hy]
      show some (["edition", x.z] : List Str) = some (["edition", y.z] : List Str)
      rw [h j x y ha hy]
  unfold textC
  rw [e]
theorem at_some {α : Type} {l : List α} {j : Nat} (h : j < l.length) : ∃ x, l[j]? = some x := ⟨_, List.getElem?_eq_getElem h⟩
/-- the same editions, their marks that are let by in any order -/
def SameK (es ls : List Ed0) : Prop := es.length = ls.length ∧ ∀ (j : Nat) (e x : Ed0), es[j]? = some e → ls[j]? = some x → e.1 = x.1 ∧ ∀ k, k ∈ e.2 ↔ k ∈ x.2
theorem SameK.refl (es : List Ed0) : SameK es es := ⟨rfl, fun j e x h1 h2 => by
  obtain rfl := Option.some.inj (h1.symm.trans h2)
  exact ⟨rfl, fun _ => Iff.rfl⟩⟩
/-- a chain's text -/
def TxtOf (uz : List Str) (es : List Ed0) (z : Str) : Prop := ∃ us es1, Rises us uz ∧ Of1s es es1 ∧ z = textC us es1
theorem TxtOf.same {uz uz' : List Str} {es es' : List Ed0} {z z' : Str} (h : TxtOf uz es z) (h' : TxtOf uz' es' z') (hu : ∀ k, k ∈ uz ↔ k ∈ uz') (he : SameK es es') : z = z' := by
  obtain ⟨us, a, r, oa, rfl⟩ := h
  obtain ⟨us', b, r', ob, rfl⟩ := h'
  obtain rfl := rises_unique r r' hu
  refine textC_z (by rw [oa.1, ob.1, he.1]) fun j x y hx hy => ?_
  have lx := (List.getElem?_eq_some_iff.mp hx).1
  obtain ⟨e, he1⟩ := at_some (l := es) (j := j) (by rw [← oa.1]; exact lx)
  obtain ⟨f, hf⟩ := at_some (l := es') (j := j) (by rw [← he.1, ← oa.1]; exact lx)
  have o1 := oa.2 j e x he1 hx
  have o2 := ob.2 j f y hf hy
  obtain ⟨m1, m2⟩ := he.2 j e f he1 hf
  rw [o1.z, o2.z, m1, rises_unique o1.dz o2.dz m2]
theorem EdR.owe {K : PySem.W.Frag} {a : Ad} {b : Ae} {H : Hp} {v : V} {e x : Ed0} (h : EdR K a b H v x) (e1 : e.1 = x.1) (e2 : ∀ k, k ∈ e.2 ↔ k ∈ x.2) : EdR K a b H v e := by
  obtain ⟨y, dy, fs, xs, ev, h1, h2, h3⟩ := h
  obtain ⟨a1, ⟨t2, dz, b1, b2, b3, b4⟩, c, d1, d2, d3, d4, d5⟩ := h2
  rw [drops_of] at b3
  refine ⟨y, dy, fs, xs, ev, h1, ?_, by rw [e1]; exact h3⟩
  rw [e1]
  exact ⟨a1, ⟨t2, dz, b1, b2, by rw [drops_of]; exact ⟨b3.1, b3.2.1, fun k => (b3.2.2 k).trans (e2 k).symm⟩, b4⟩, c, d1, d2, d3, d4, d5⟩
theorem Of1.owe {e x : Ed0} {o : Ed1} (h : Of1 x o) (e1 : e.1 = x.1) (e2 : ∀ k, k ∈ e.2 ↔ k ∈ x.2) : Of1 e o := by
  obtain ⟨h1, h2, h3⟩ := h
  first
    | exact ⟨by rw [e1]; exact h1, by rw [e1]; exact h2, ⟨h3.1, h3.2.1, fun k => (h3.2.2 k).trans (e2 k).symm⟩⟩
    | exact ⟨by rw [e1]; exact h1, ⟨h2.1, h2.2.1, fun k => (h2.2.2 k).trans (e2 k).symm⟩, by rw [e1]; exact h3⟩
    | exact ⟨⟨h1.1, h1.2.1, fun k => (h1.2.2 k).trans (e2 k).symm⟩, by rw [e1]; exact h2, by rw [e1]; exact h3⟩
theorem ChO.as {K : PySem.W.Frag} {a : Ad} {b : Ae} {c : Ac} {H : Hp} {v : V} {uz : List Str} {es ls : List Ed0} (h : ChO K a b c H v uz ls) (m : SameK es ls) : ChO K a b c H v uz es := by
  obtain ⟨x, dx, fs, xs, es1, e, h1, h2, h3, h4⟩ := h.ex
  refine ⟨x, dx, fs, xs, es1, e, h1, h2, ⟨by rw [h3.len, m.1], fun j v hv => ?_⟩, by rw [h4.1, m.1], fun j p q hp hq => ?_⟩
  · obtain ⟨o, ho, r⟩ := h3.at_ j v hv
    obtain ⟨p, hp⟩ := at_some (l := es) (j := j) (by rw [m.1]; exact (List.getElem?_eq_some_iff.mp ho).1)
    obtain ⟨m1, m2⟩ := m.2 j p o hp ho
    exact ⟨p, hp, r.owe m1 m2⟩
  · obtain ⟨o, ho⟩ := at_some (l := ls) (j := j) (by rw [← m.1]; exact (List.getElem?_eq_some_iff.mp hp).1)
    obtain ⟨m1, m2⟩ := m.2 j p o hp ho
    exact (h4.2 j o q ho hq).owe m1 m2
/-- what a chain that is made may be asked -/
structure FineK (uz : List Str) (es : List Ed0) : Prop where
  due : DueOk uz
  good : GoodK es
  many : manyM es ≤ 60
section
variable {P : Program} {w : World} {K : PySem.W.Frag} {mg : Str → Option Value} {base : Heap} {a : Ad} {b : Ae} {c : Ac} {m : Am}
theorem els_app {α : Type} {Rl : Hp → V → α → Prop} {H : Hp} {xs ys : List V} {as bs : List α} (h1 : Els Rl H xs as) (h2 : Els Rl H ys bs) : Els Rl H (xs ++ ys) (as ++ bs) := by
  refine ⟨by rw [List.length_append, List.length_append, h1.len, h2.len], fun j x e => ?_⟩
  rw [List.getElem?_append] at e ⊢
  rw [h1.len] at e
  split at e
  · rename_i lt
    rw [if_pos lt]
    exact h1.at_ j x e
  · rename_i lt
    rw [if_neg lt]
    exact h2.at_ _ x e
theorem els_one {α : Type} {Rl : Hp → V → α → Prop} {H : Hp} {v : V} {o : α} (h : Rl H v o) : Els Rl H [v] [o] := ⟨rfl, fun j x e => by
  cases j with
  | zero =>
    obtain rfl : v = x := by simpa using e
    exact ⟨o, rfl, h⟩
  | succ j => simp at e⟩
theorem els_take {α : Type} {Rl : Hp → V → α → Prop} {H : Hp} {xs : List V} {as : List α} (n : Nat) (h : Els Rl H xs as) : Els Rl H (xs.take n) (as.take n) := by
  refine ⟨by rw [List.length_take, List.length_take, h.len], fun j x e => ?_⟩
  rw [List.getElem?_take] at e ⊢
  split at e
  · rename_i lt
    rw [if_pos lt]
    exact h.at_ j x e
  · cases e
theorem els_drop {α : Type} {Rl : Hp → V → α → Prop} {H : Hp} {xs : List V} {as : List α} (n : Nat) (h : Els Rl H xs as) : Els Rl H (xs.drop n) (as.drop n) := by
  refine ⟨by rw [List.length_drop, List.length_drop, h.len], fun j x e => ?_⟩
  rw [List.getElem?_drop] at e ⊢
  exact h.at_ _ x e
/-- Chain(.., self.due): the making itself, behind its arguments -/
theorem ch_make {H : Hp} {D tdue : Addr} {xs : List V} {es : List Ed0} {uz us : List Str} {Q : VK} (hD : SqA K H D xs) (hE : Els (EdR K a b) H xs es) (hd : SqT K H tdue (us.map V.str)) (ri : Rises us uz) (f : FineK uz es)
    (fin : ∀ (H' : Hp) (y : Addr), Same H H' → H y = none → ChO K a b c H' (.ref y) uz es → Q (.ref y) H') (x dx : Addr) (nx : H x = none) (nd : H dx = none) (nex : dx ≠ x) :
    spCh K b c [.ref x, .ref D, .ref tdue] (upd (upd H dx (.own x)) x (.ins c.cCh dx [])) (fun v H2 => v = .non ∧ Q (.ref x) H2) E0 := by
  obtain ⟨es1, o1, c1⟩ := edRs_one hE
  have s5 : Same H (upd H dx (.own x)) := same_new nd
  have nx' : (upd H dx (.own x)) x = none := by rw [upd_ne nex.symm]; exact nx
  have s6 : Same (upd H dx (.own x)) (upd (upd H dx (.own x)) x (.ins c.cCh dx [])) := same_new nx'
  have S := s5.trans s6
  have du : DueOk us := ⟨fun z hz => f.due.names z ((ri.2.2 z).mp hz), Nat.le_trans (rises_le ri) f.due.few, ri.2.1⟩
  have hdp : Dp K H (.ref tdue) (.tuple (us.map PyData.str)) := .tup hd (strs_dp us)
  have fi : fine (.tuple (us.map PyData.str)) = true := by
    have := due_fine du
    rw [show dropsD us = .list (us.map PyData.str) from rfl, fine] at this
    rw [fine]
    exact this
  have un : unlikeD (.tuple (us.map PyData.str)) = true := due_unlike du
  have dl : dropsL (.tuple (us.map PyData.str)) = us := drops_of us
  have lu := du.few
  refine ⟨x, dx, D, .ref tdue, xs, es1, .tuple (us.map PyData.str), rfl, upd_same, hD.same S, c1.same edCh_stays S, of1s_few o1 f.good f.many, dp_same S _ _ hdp, fi, un, by rw [dl]; omega, fun H' fs kp hi ea => ⟨rfl, ?_⟩⟩
  have sm : Same H H' := Same.made nx nd kp
  exact fin H' x sm nx ⟨x, dx, fs, xs, es1, rfl, hi, ea.owe fun k => by rw [dl, drops_of]; exact ri.2.2 k, hE.same edR_stays sm, o1⟩
end
end K2

set_option Elab.async false
set_option linter.all false
set_option maxRecDepth 100000
set_option maxHeartbeats 1000000
/-! chains put together -/
namespace K2
open PySem L2 Lw TL SxT
def spChNewest (K : PySem.W.Frag) (a : Ad) (b : Ae) (c : Ac) : Sp := fun vs H Q _ => ∃ (v ev : V) (uz : List Str) (es : List Ed0) (e : Ed0), vs = [v, ev] ∧ ChO K a b c H v uz es ∧ EdR K a b H ev e ∧ FineK uz (es.dropLast ++ [e]) ∧ es.length ≤ 10 ∧
  ∀ (H' : Hp) (y : Addr), Same H H' → H y = none → ChO K a b c H' (.ref y) uz (es.dropLast ++ [e]) → Q (.ref y) H'
def spChAdd (K : PySem.W.Frag) (a : Ad) (b : Ae) (c : Ac) : Sp := fun vs H Q _ => ∃ (v ev : V) (uz : List Str) (es : List Ed0) (e : Ed0), vs = [v, ev] ∧ ChO K a b c H v uz es ∧ EdR K a b H ev e ∧ FineK uz (es ++ [e]) ∧
  ∀ (H' : Hp) (y : Addr), Same H H' → H y = none → ChO K a b c H' (.ref y) uz (es ++ [e]) → Q (.ref y) H'
def spChWithout (K : PySem.W.Frag) (a : Ad) (b : Ae) (c : Ac) : Sp := fun vs H Q _ => ∃ (v : V) (i : Nat) (uz : List Str) (es : List Ed0), vs = [v, .int (i : Nat)] ∧ ChO K a b c H v uz es ∧ i < es.length ∧ es.length ≤ 10 ∧ FineK uz (es.eraseIdx i) ∧
  ∀ (H' : Hp) (y : Addr), Same H H' → H y = none → ChO K a b c H' (.ref y) uz (es.eraseIdx i) → Q (.ref y) H'
section
variable {P : Program} {w : World} {K : PySem.W.Frag} {mg : Str → Option Value} {base : Heap} {a : Ad} {b : Ae} {c : Ac} {m : Am} {fRow fLen fEq fStr : Addr} {dRow dLen dEq dStr : FuncData}
/-- a slice of a tuple, whole or not -/
theorem sl_any {H : Hp} {p : Addr} {xs : List V} {lo hi : Option Int} {Q : VK} (h : SqT K H p xs) (q : ∀ (H' : Hp) (r : Addr), Same H H' → SqT K H' r (cutV xs lo hi) → Q (.ref r) H') : rSlA K (.ref p) lo hi H Q := by
  refine ⟨p, xs, rfl, h, fun w => ?_, fun _ r un => q _ r (same_new un) (SqT.of upd_same)⟩
  have e : cutV xs lo hi = xs := by
    unfold cutV
    rw [w.1, w.2]
    simp
  exact q H p (Same.refl _) (by rw [e]; exact h)
theorem cut_last {xs : List V} : cutV xs none (some (-1)) = xs.dropLast := by
  unfold cutV
  have e : HT.sIx xs.length xs.length (some (-1)) = xs.length - 1 := by
    show (if (-1 : Int) < 0 then ((-1 : Int) + (xs.length : Int)).toNat else min (-1 : Int).toNat xs.length) = _
    rw [if_pos (by decide)]
    omega
  rw [e, HT.sIx_none, List.drop_zero, Nat.sub_zero, List.dropLast_eq_take]
theorem cut_to {xs : List V} {k : Nat} (h : k ≤ xs.length) : cutV xs none (some (k : Int)) = xs.take k := by
  unfold cutV
  rw [HT.sIx_nat, HT.sIx_none, List.drop_zero, Nat.sub_zero, Nat.min_eq_left h]
theorem cut_from {xs : List V} {k : Nat} : cutV xs (some ((k : Int) + 1)) none = xs.drop (k + 1) := by
  unfold cutV
  rw [HT.sIx_none, show ((k : Int) + 1) = ((k + 1 : Nat) : Int) from by omega, HT.sIx_nat]
  by_cases h : k + 1 ≤ xs.length
  · rw [Nat.min_eq_left h, List.take_of_length_le (by rw [List.length_drop]; omega)]
  · rw [Nat.min_eq_right (by omega), List.drop_length, List.drop_eq_nil_of_le (by omega)]
    simp
theorem erase_split {α : Type} {l : List α} {k : Nat} : l.take k ++ l.drop (k + 1) = l.eraseIdx k := (List.eraseIdx_eq_take_drop_succ l k).symm
theorem scChNewest : FnScope ["self", "edition"] ["self", "edition"] (defScope sChNewest) := ⟨rfl, rfl, rfl, by decide +kernel, rfl, by decide +kernel, by decide +kernel⟩
theorem scChAdd : FnScope ["self", "other"] ["self", "other"] (defScope sChAdd) := ⟨rfl, rfl, rfl, by decide +kernel, rfl, by decide +kernel, by decide +kernel⟩
theorem scChWithout : FnScope ["self", "at"] ["self", "at"] (defScope sChWithout) := ⟨rfl, rfl, rfl, by decide +kernel, rfl, by decide +kernel, by decide +kernel⟩
theorem okChNewest (M : ChM K mg c.cCh m) (OC : FnOk P w K mg base CX0 5 c.fCh c.dCh ["self", "editions", "due"] (spCh K b c)) (chK : Mk K c.cCh c.fCh) (bC : Binds K c.dCh ["self", "editions", "due"] []) {f : Addr} {fd : FuncData} (F : Fun K "newest" "Chain.newest" sChNewest f fd) :
    FnOk P w K mg base CX0 7 f fd ["self", "edition"] (spChNewest K a b c) := by
  refine F.ok scChNewest (fun vs H Q E h => ?_) (fun cdv A outer s H vs Q E hr h => ?_)
  · obtain ⟨v, ev, uz, es, e, rfl, _⟩ := h
    rfl
  · obtain ⟨v, ev, uz, es, e, rfl, hC, hv, fk, few, fin⟩ := h
    refine ⟨_, pss_one (ps_ret (pe_make (E := E0) chK OC hr rfl M.g bC .nil pass0 (pa_cons (pe_lst (StX.pa_star (pe_slice sl_tupA (pe_fld (pv 0) rfl) po_none (po_some (pe_un un_neg pe_int))) (pa_cons (pv 1) pa_nil))) (pa_cons (pe_fld (pv 0) rfl) pa_nil)))), ?_⟩
    obtain ⟨x, dx, fs, xs, es1, rfl, hx, hA, hE, o1⟩ := hC.ex
    obtain ⟨t, e1, h1⟩ := hA.eds
    obtain ⟨td, us, e2, h2, ri, _⟩ := hA.due
    rw [drops_of] at ri
    refine ⟨_, rfl, x, _, dx, fs, _, rfl, hx, M.cl, M.no "editions" (by simp), e1, ?_⟩
    refine ⟨1, rfl, -1, rfl, sl_any h1 fun H1 r s1 hr1 => ⟨r, _, rfl, .inl hr1, _, rfl, ?_⟩⟩
    rw [cut_last]
    have lx := hE.len
    refine ⟨Nat.le_trans (show _ ≤ 11 by rw [List.length_append, List.length_dropLast]; simp; omega) (by decide), fun D un => ?_⟩
    have s2 : Same H1 (upd H1 D (.lst (xs.dropLast ++ [ev]))) := same_new un
    have s12 := s1.trans s2
    refine ⟨_, rfl, x, _, dx, fs, _, rfl, s12 _ _ hx, M.cl, M.no "due" (by simp), e2, ?_⟩
    refine ch_make (a := a) (uz := uz) (es := es.dropLast ++ [e]) (.inl (SqL.of upd_same)) ?_ (same_tup s12 h2) ri fk fun H' y s3 uy hy => fin H' y (s12.trans s3) (s12.free uy) hy
    refine els_app ?_ (els_one (edR_stays.on s12 hv))
    have ht := els_take (es.length - 1) (hE.same edR_stays s12)
    rw [List.dropLast_eq_take, List.dropLast_eq_take, lx] at *
    exact ht
theorem okChAdd (M : ChM K mg c.cCh m) (T : Txt K mg a) (ME : EdM K mg b.cEd fRow fLen fEq fStr dRow dLen dEq dStr) (OC : FnOk P w K mg base CX0 5 c.fCh c.dCh ["self", "editions", "due"] (spCh K b c)) (chK : Mk K c.cCh c.fCh) (bC : Binds K c.dCh ["self", "editions", "due"] []) {f : Addr} {fd : FuncData} (F : Fun K "__add__" "Chain.__add__" sChAdd f fd) :
    FnOk P w K mg base CX0 7 f fd ["self", "other"] (spChAdd K a b c) := by
  refine F.ok scChAdd (fun vs H Q E h => ?_) (fun cdv A outer s H vs Q E hr h => ?_)
  · obtain ⟨v, ev, uz, es, e, rfl, _⟩ := h
    rfl
  · obtain ⟨v, ev, uz, es, e, rfl, hC, hv, fk, fin⟩ := h
    refine ⟨_, pss_cons (ps_if (pt_not (pt_val (pe_callB call_isi (by rfl) T.tIs PyProof.Rows.boot_isinstance (pa_cons (pv 1) (pa_cons (pe_glob (v := .ref b.cEd) (by rfl) ME.g rfl) pa_nil))))) (pss_one ps_dead) pss_nil)
      (pss_one (ps_ret (pe_make (E := E0) chK OC hr rfl M.g bC .nil pass0 (pa_cons (pe_lst (StX.pa_star (pe_fld (pv 0) rfl) (pa_cons (pv 1) pa_nil))) (pa_cons (pe_fld (pv 0) rfl) pa_nil))))), ?_⟩
    obtain ⟨x, dx, fs, xs, es1, rfl, hx, hA, hE, o1⟩ := hC.ex
    obtain ⟨t, e1, h1⟩ := hA.eds
    obtain ⟨td, us, e2, h2, ri, _⟩ := hA.due
    rw [drops_of] at ri
    have hv' := hv
    obtain ⟨q, dq, fq, ys, rfl, hq, _⟩ := hv'
    refine ⟨_, rfl, _, _, _, _, _, rfl, .own b.cEd, ME.ty hq, ME.own, _, rfl, iteF ?_⟩
    refine ⟨_, rfl, x, _, dx, fs, _, rfl, hx, M.cl, M.no "editions" (by simp), e1, t, xs, rfl, .inl h1, _, rfl, ?_⟩
    have lx := hE.len
    have fw := fk.good.few
    rw [List.length_append] at fw
    refine ⟨Nat.le_trans (show _ ≤ 11 by rw [List.length_append]; simp; omega) (by decide), fun D un => ?_⟩
    have s12 : Same H (upd H D (.lst (xs ++ [.ref q]))) := same_new un
    refine ⟨_, rfl, x, _, dx, fs, _, rfl, s12 _ _ hx, M.cl, M.no "due" (by simp), e2, ?_⟩
    refine ch_make (a := a) (uz := uz) (es := es ++ [e]) (.inl (SqL.of upd_same)) ?_ (same_tup s12 h2) ri fk fun H' y s3 uy hy => fin H' y (s12.trans s3) (s12.free uy) hy
    exact els_app (hE.same edR_stays s12) (els_one (edR_stays.on s12 hv))
theorem okChWithout (M : ChM K mg c.cCh m) (T : Txt K mg a) (OC : FnOk P w K mg base CX0 5 c.fCh c.dCh ["self", "editions", "due"] (spCh K b c)) (chK : Mk K c.cCh c.fCh) (bC : Binds K c.dCh ["self", "editions", "due"] []) {f : Addr} {fd : FuncData} (F : Fun K "without" "Chain.without" sChWithout f fd) :
    FnOk P w K mg base CX0 7 f fd ["self", "at"] (spChWithout K a b c) := by
  refine F.ok scChWithout (fun vs H Q E h => ?_) (fun cdv A outer s H vs Q E hr h => ?_)
  · obtain ⟨v, i, uz, es, rfl, _⟩ := h
    rfl
  · obtain ⟨v, i, uz, es, rfl, hC, hi, few, fk, fin⟩ := h
    have ON : FnOk P w K mg base CX0 1 m.fNum m.dNum ["self", "at"] (spChNum K c.cCh) := M.okNum T
    have hr1 : Room 1 _ := hr.mono (by decide)
    refine ⟨_, pss_cons (ps_expr (pe_meth (pv 0) M.cl M.numM ON hr1 M.numB .nil pass0 (pa_cons (pv 1) pa_nil)))
      (pss_one (ps_ret (pe_make (E := E0) chK OC hr rfl M.g bC .nil pass0 (pa_cons (pe_lst (StX.pa_star (pe_slice sl_tupA (pe_fld (pv 0) rfl) po_none (po_some (pv 1))) (StX.pa_star (pe_slice sl_tupA (pe_fld (pv 0) rfl) (po_some (pe_op op_add (pv 1) pe_int)) po_none) pa_nil))) (pa_cons (pe_fld (pv 0) rfl) pa_nil))))), ?_⟩
    obtain ⟨x, dx, fs, xs, es1, rfl, hx, hA, hE, o1⟩ := hC.ex
    obtain ⟨t, e1, h1⟩ := hA.eds
    obtain ⟨td, us, e2, h2, ri, _⟩ := hA.due
    rw [drops_of] at ri
    have lx := hE.len
    refine ⟨_, rfl, x, dx, fs, rfl, hx, hA.bare _ (by decide), _, rfl, x, dx, t, fs, xs, i, rfl, hx, e1, h1, by omega, ?_⟩
    dsimp only [tNext]
    refine ⟨_, rfl, x, _, dx, fs, _, rfl, hx, M.cl, M.no "editions" (by simp), e1, ?_⟩
    refine ⟨_, rfl, _, rfl, sl_any h1 fun H1 r s1 hr1 => ⟨r, _, rfl, .inl hr1, ?_⟩⟩
    refine ⟨_, rfl, x, _, dx, fs, _, rfl, s1 _ _ hx, M.cl, M.no "editions" (by simp), e1, ?_⟩
    refine ⟨_, rfl, _, _, rfl, rfl, _, rfl, ?_⟩
    dsimp only [tNoPart]
    refine sl_any (same_tup s1 h1) fun H2 r2 s2 hr2 => ⟨r2, _, rfl, .inl hr2, ?_⟩
    rw [cut_to (by omega), cut_from]
    refine ⟨Nat.le_trans (show _ ≤ 20 by simp; omega) (by decide), fun D un => ?_⟩
    rw [List.append_nil] at *
    have s3 : Same H2 (upd H2 D (.lst (xs.take i ++ xs.drop (i + 1)))) := same_new un
    have s13 := (s1.trans s2).trans s3
    refine ⟨_, rfl, x, _, dx, fs, _, rfl, s13 _ _ hx, M.cl, M.no "due" (by simp), e2, ?_⟩
    refine ch_make (a := a) (uz := uz) (es := es.eraseIdx i) (.inl (SqL.of upd_same)) ?_ (same_tup s13 h2) ri fk fun H' y s4 uy hy => fin H' y (s13.trans s4) (s13.free uy) hy
    rw [← erase_split]
    exact els_app (els_take _ (hE.same edR_stays s13)) (els_drop _ (hE.same edR_stays s13))
end
end K2

set_option Elab.async false
set_option linter.all false
set_option maxRecDepth 100000
set_option maxHeartbeats 4000000
namespace Lw
open PySem PySem.Spec PyProof.Rows L2
/-! ### x + y, x += y, x an instance of a class with an __add__ of its own, y of a class without one -/
theorem fills_not {M : Model} {h : Heap} {K : PySem.W.Frag} {D : Addr} {nm : String} (X : K.In h) (e : noNum K D nm = true) : PySem.W.Looks M h (fillsNumberSlot (.ref D) nm) false := by
  unfold noNum at e
  simp only [Bool.and_eq_true, beq_iff_eq] at e
  obtain ⟨e0, h1, h2, h3, h4⟩ := e
  cases hc : PySem.W.clsIn K D with
  | none => rw [hc] at e0; cases e0
  | some cd =>
    rw [hc] at e0
    have hm : cd.mro = [.ref D, .type "object"] := beq_iff_eq.mp e0
    intro A Q E s k q
    unfold fillsNumberSlot
    refine wpAny_bind ((PySem.W.looks_clsIn X hc).andThen (f := fun cd => pure cd.mro) .now A _ E s k ?_)
    rw [hm, List.anyM_cons]
    refine wpAny_bind ?_
    show wpAny M A (List.anyM _ [PySem.dunder nm, dunderR nm]) _ _ _
    rw [List.anyM_cons]
    refine wpAny_bind (wpAny_bind (PySem.W.looks_findIn X h1 A _ E s k ?_))
    dsimp only
    refine wpAny_pure ?_
    rw [if_neg (by decide)]
    rw [List.anyM_cons]
    refine wpAny_bind (wpAny_bind (PySem.W.looks_findIn X h2 A _ E s k ?_))
    dsimp only
    refine wpAny_pure ?_
    rw [if_neg (by decide)]
    rw [List.anyM_nil]
    refine wpAny_pure ?_
    rw [if_neg (by decide)]
    rw [List.anyM_cons]
    refine wpAny_bind ?_
    dsimp only
    refine wpAny_bind (PySem.W.looks_findIn X h3 A _ E s k ?_)
    refine wpAny_bind (PySem.W.looks_findIn X h4 A _ E s k ?_)
    refine wpAny_pure ?_
    simp only [Option.isSome_none, Bool.false_and, Bool.or_false, Bool.or_self]
    rw [if_neg (by decide)]
    rw [List.anyM_nil]
    exact wpAny_pure q
theorem inp_not {M : Model} {h : Heap} {K : PySem.W.Frag} {C : Addr} {nm : String} {b : Bool} (X : K.In h) (e : noInp K C nm = true) : PySem.W.Looks M h (fillsInplaceSlot (.ref C) nm b) false := by
  unfold noInp at e
  simp only [Bool.and_eq_true, beq_iff_eq] at e
  obtain ⟨e0, h1, h2⟩ := e
  cases hc : PySem.W.clsIn K C with
  | none => rw [hc] at e0; cases e0
  | some cd =>
    rw [hc] at e0
    have hm : cd.mro = [.ref C, .type "object"] := beq_iff_eq.mp e0
    intro A Q E s k q
    unfold fillsInplaceSlot
    refine wpAny_bind ((PySem.W.looks_clsIn X hc).andThen (f := fun cd => pure cd.mro) .now A _ E s k ?_)
    rw [hm, List.anyM_cons]
    refine wpAny_bind (wpAny_bind (PySem.W.looks_findIn X h1 A _ E s k ?_))
    dsimp only
    refine wpAny_pure ?_
    rw [if_neg (by decide)]
    rw [List.anyM_cons]
    refine wpAny_bind (wpAny_bind (PySem.W.looks_findIn X h2 A _ E s k ?_))
    dsimp only
    refine wpAny_pure ?_
    rw [if_neg (by decide)]
    rw [List.anyM_nil]
    exact wpAny_pure q
def rOwnAdd (K : PySem.W.Frag) (f : Addr) (sp : Sp) (E : XK) : R2 := fun x y H Q => ∃ (a C dx b D dy : Addr) (fs gs : List (PySem.Str × V)), x = .ref a ∧ H a = some (.ins C dx fs) ∧ y = .ref b ∧ H b = some (.ins D dy gs) ∧ (C == D) = false ∧ PySem.W.findIn K (.ref C) "__add__" = some (some (.ref f)) ∧ PySem.W.selfFirst K C = true ∧ noNum K D "add" = true ∧
  sp [x, y] H (fun v H' => ∃ r, v = .ref r ∧ Q (.ref r) H') E
section
variable {X : Cx}
theorem op1_ownAdd {CX : CXT} {f : Addr} {fd : FuncData} {ps : List PySem.Str} {sp : Sp} {E : XK} {n : Nat} (F : FnOk X.prog X.w X.K X.mg X.base CX n f fd ps sp) (hr : Room n X.A) (hf : PySem.W.isFn X.K (.ref f) = true) (hb : Binds X.K fd ps []) (hx : Passes CX X E)
    {pins : List (Addr × Obj)} {s : Shared} {σ : L2.St} {H : Hp} {x y : V} {v u : Value} {Q : VK} (I : Inv X pins σ H s) (rx : RelV x v) (ry : RelV y u) (hq : rOwnAdd X.K f sp E x y H Q) :
    wpAny (model X.prog X.w) X.A (binaryOp1 "add" v u) (fun r s' => ∃ w, r = some w ∧ EP X pins σ Q w s') X.xe s := by
  obtain ⟨a, C, dx, b, D, dy, fs, gs, rfl, ha, rfl, hb', ne, hs, sf, nd, hsp⟩ := hq
  obtain rfl : v = Value.ref a := rx
  obtain rfl : u = Value.ref b := ry
  obtain ⟨mA, J, _⟩ := ins_get I.hok ha
  obtain ⟨od, J, _⟩ := J.look
  obtain ⟨mB, JB, _⟩ := ins_get I.hok hb'
  obtain ⟨odb, JB, _⟩ := JB.look
  obtain ⟨cd, hcd, hm⟩ := PySem.W.any_some sf
  obtain ⟨rest, hm⟩ : ∃ rest, cd.mro = .ref C :: rest := by
    cases q : cd.mro with
    | nil => rw [q] at hm; cases hm
    | cons a r => rw [q] at hm; exact ⟨r, by rw [List.head?_cons] at hm; cases (beq_iff_eq.mp hm); rfl⟩
  have r2 : Vals [V.ref a, V.ref b] [Value.ref a, Value.ref b] := .cons rfl (.cons rfl .nil)
  have hl := F.len _ _ _ _ hsp
  have z := run_fn (us := [Value.ref a, Value.ref b]) F hr hb .nil hx I r2 (by rw [List.append_nil]; exact hsp)
  have ed : PySem.dunder "add" = ("__add__" : PySem.Str) := by decide +kernel
  have hs' : PySem.W.findIn X.K (.ref C) (PySem.dunder "add") = some (some (.ref f)) := by rw [ed]; exact hs
  unfold binaryOp1
  refine wpAny_bind (J.type.here (wpAny_bind (JB.type.here (wpAny_bind ((PySem.W.fills_K I.kIn hcd hm hs').here ?_)))))
  have e1 : ((Value.ref C) == (Value.ref D)) = false := by
    rw [beq_eq_false_iff_ne]
    intro e
    cases e
    simp at ne
  rw [e1]
  refine wpAny_bind ((fills_not I.kIn nd).here ?_)
  simp only [Bool.and_false, Bool.false_eq_true, if_false, Bool.false_and, if_true]
  refine wpAny_bind (wpAny_pure ?_)
  simp only [Bool.and_false, Bool.false_eq_true, if_false, Bool.false_and, if_true]
  refine wpAny_bind (m := tryMethod (.ref a) _ (.ref b)) ?_
  unfold tryMethod
  refine wpAny_bind (PySem.W.special_fn I.kIn J hs' (beq_iff_eq.mp hf) (wpAny_mono z (fun v s' hv => ?_) fun _ _ e => e))
  obtain ⟨v', H', I', r', q⟩ := hv
  obtain ⟨r, rfl, q2⟩ := q
  obtain rfl : v = Value.ref r := r'
  exact wpAny_pure (wpAny_pure ⟨_, rfl, .ref r, H', I', rfl, q2⟩)
theorem op_ownAdd {CX : CXT} {f : Addr} {fd : FuncData} {ps : List PySem.Str} {sp : Sp} {E : XK} {n : Nat} (F : FnOk X.prog X.w X.K X.mg X.base CX n f fd ps sp) (hr : Room n X.A) (hf : PySem.W.isFn X.K (.ref f) = true) (hb : Binds X.K fd ps []) (hx : Passes CX X E) :
    OpR X (binaryOp .Add) (rOwnAdd X.K f sp E) := by
  intro pins s σ H x y v u Q I rx ry hq
  unfold binaryOp
  refine wpAny_holding (wpAny_bind (wpAny_mono (op1_ownAdd F hr hf hb hx I rx ry hq) (fun r s' z => ?_) fun _ _ q => q))
  obtain ⟨w, rfl, q⟩ := z
  exact wpAny_pure q
theorem ip_ownAdd {CX : CXT} {f : Addr} {fd : FuncData} {ps : List PySem.Str} {sp : Sp} {E : XK} {n : Nat} (F : FnOk X.prog X.w X.K X.mg X.base CX n f fd ps sp) (hr : Room n X.A) (hf : PySem.W.isFn X.K (.ref f) = true) (hb : Binds X.K fd ps []) (hx : Passes CX X E) :
    PIp X .Add (fun x y H Q => (∃ (a C dx : Addr) (fs : List (PySem.Str × V)), x = .ref a ∧ H a = some (.ins C dx fs) ∧ noInp X.K C "add" = true) ∧ rOwnAdd X.K f sp E x y H Q) := by
  rintro pins s σ H x y v u Q I rx ry ⟨⟨a, C, dx, fs, rfl, ha, ni⟩, hq⟩
  obtain rfl : v = Value.ref a := rx
  obtain ⟨mA, J, _⟩ := ins_get I.hok ha
  obtain ⟨od, J, _⟩ := J.look
  unfold inplaceOp
  refine wpAny_holding (wpAny_bind (J.type.here ?_))
  refine wpAny_bind ((inp_not I.kIn ni).here ?_)
  rw [if_neg (by decide)]
  refine wpAny_bind (wpAny_mono (op1_ownAdd F hr hf hb hx I (x := .ref a) rfl ry hq) (fun r s' z => ?_) fun _ _ q => q)
  obtain ⟨w, rfl, q⟩ := z
  exact wpAny_pure q
end
end Lw

set_option Elab.async false
set_option linter.all false
set_option maxRecDepth 100000
set_option maxHeartbeats 4000000
/-! What the top leaves of the program, told by names. -/
namespace K2
open PySem PySem.Spec PyProof.Rows L2 Lw TL SxT Hd
section
variable {K : PySem.W.Frag} {h : Heap} {mg : Str → Option Value} {fas : List He.Fa} {fns : List He5.DefA}
theorem fa_mem (c : He5.SaysA fas fns K) {f : He.Fa} (m : f ∈ fas) : f.ok K = true := by
  obtain ⟨i, e⟩ := List.getElem?_of_mem m
  exact c.fact i e
theorem fun_mem (c : He5.SaysA fas fns K) {d : He5.DefA} {x qual : Str} {st : Stmt} {f : Addr} (m : d ∈ fns) (ha : d.at_ K = f) (e : d = ⟨d.at_, x, qual, defArgs st, defBody st, defScope st, [], []⟩) : Fun K x qual st f (fdOf K f) := by
  obtain ⟨i, ei⟩ := List.getElem?_of_mem m
  obtain ⟨fd, F⟩ := c.def_ i ei
  rw [ha] at F
  rw [e] at F
  have F1 : Fun K x qual st f fd := He5.fun_of (st := st) F
  have ed := fdOf_eq F1
  rw [← ed] at F1
  exact F1
theorem topA (X : K.In h) (G : h.Ns mainGlobals mg) (c : He5.SaysA fas fns K) {x : Str} {st : Stmt} {ps : List Str} (md : dTop x st ∈ fns) (mf : He.Fa.glo x ∈ fas)
    (hb : ∀ (kV doc pm : Value) (an : Option Addr) (cdv ct : Value) (us : List Value), us.length = ps.length → bindArgs (PySem.W.fnOf x x (defArgs st) (defBody st) (defScope st) .none kV doc pm an cdv ct) ⟨us, []⟩ = pure (ps.zip us)) : K2.Top K mg x st (He.ga K x) (fdOf K (He.ga K x)) ps := by
  have F := fun_mem c (st := st) md rfl rfl
  exact ⟨F, He.glo_ok X G (fa_mem c mf), F.binds hb⟩
theorem inA (c : He5.SaysA fas fns K) {C m qual : Str} {st : Stmt} (md : dIn C m qual st ∈ fns) : Fun K m qual st (He.ma K (He.ga K C) m) (fdOf K (He.ma K (He.ga K C) m)) := fun_mem c (st := st) md rfl rfl
theorem cmA (c : He5.SaysA fas fns K) {C m qual : Str} {st : Stmt} (md : dCm C m qual st ∈ fns) : Fun K m qual st (He5.wf K (He.ga K C) "classmethod" m) (fdOf K (He5.wf K (He.ga K C) "classmethod" m)) := fun_mem c (st := st) md rfl rfl
theorem cmB_ok {C m : Str} (q : cmB K C m = true) : ClX.CMet K (He.ga K C) (.type "type") m (He.ma K (He.ga K C) m) (He5.wf K (He.ga K C) "classmethod" m) := by
  unfold cmB at q
  simp only [Bool.and_eq_true] at q
  exact He5.cmet_of q.1 q.2
end
noncomputable def adK (K : PySem.W.Frag) : Ad :=
  let g := He.ga K
  let m := fun x => He.ma K (He.ga K x) "__init__"
  let d := fun x => fdOf K (He.ga K x)
  let e := fun x => fdOf K (He.ma K (He.ga K x) "__init__")
  { cLog := g "LogError", cIr := g "InvalidRow", cIe := g "InvalidEdition", cRow := g "Row", cAsk := g "Ask", cNote := g "Note", cGate := g "Gate", cEnd := g "End", fIr := m "InvalidRow", fRow := m "Row", fAsk := m "Ask", fNote := m "Note", fGate := m "Gate", fEnd := m "End", fN := g "is_name", fX := g "_expect_names", fWs := g "_are_ways", fW := g "_is_way", fDeal := g "law", fDraw := g "law", fPick := g "law", fThing := g "law", fTitle := g "law", fHeard := g "law", fPairs := g "law", fDue := g "law", fOdd := g "law", fLaw := g "law", dIr := e "InvalidRow", dRow := e "Row", dAsk := e "Ask", dNote := e "Note", dGate := e "Gate", dEnd := e "End", dN := d "is_name", dX := d "_expect_names", dWs := d "_are_ways", dW := d "_is_way", dDeal := d "law", dDraw := d "law", dPick := d "law", dThing := d "law", dTitle := d "law", dHeard := d "law", dPairs := d "law", dDue := d "law", dOdd := d "law", dLaw := d "law" }
noncomputable def aeK (K : PySem.W.Frag) : Ae :=
  let g := He.ga K
  let m := fun x => He.ma K (He.ga K x) "__init__"
  let d := fun x => fdOf K (He.ga K x)
  { cEd := g "Edition", fEd := m "Edition", dEd := fdOf K (m "Edition"), fIe := m "InvalidEdition", dIe := fdOf K (m "InvalidEdition"), gA := g "_are_rows", eA := d "_are_rows", gU := g "are_unlike_names", eU := d "are_unlike_names", gR := g "_has_ring", eR := d "_has_ring", gW := g "_wrong", eW := d "_wrong", tD := He.dflAt ("Edition", some "__init__") 0 K }
abbrev edA (K : PySem.W.Frag) (m : Str) : Addr := He.ma K (He.ga K "Edition") m
noncomputable abbrev edD (K : PySem.W.Frag) (m : Str) : FuncData := Hd.fdOf K (edA K m)
noncomputable abbrev gaD (K : PySem.W.Frag) (x : Str) : FuncData := Hd.fdOf K (He.ga K x)
abbrev rdA (K : PySem.W.Frag) (C : Str) : Addr := He5.wf K (He.ga K C) "classmethod" "read"
abbrev mA (K : PySem.W.Frag) (C m : Str) : Addr := He.ma K (He.ga K C) m
noncomputable abbrev mD (K : PySem.W.Frag) (C m : Str) : FuncData := Hd.fdOf K (mA K C m)
noncomputable def acK (K : PySem.W.Frag) : Ac := { cCh := He.ga K "Chain", fCh := mA K "Chain" "__init__", dCh := Hd.fdOf K (mA K "Chain" "__init__"), gAE := He.ga K "_are_editions", eAE := gaD K "_are_editions", tC := He.dflAt ("Chain", some "__init__") 0 K }
noncomputable def amK (K : PySem.W.Frag) : Am := { fNum := mA K "Chain" "_expect_number", fLen := mA K "Chain" "__len__", fGet := mA K "Chain" "__getitem__", fEq := mA K "Chain" "__eq__", fStr := mA K "Chain" "__str__", dNum := mD K "Chain" "_expect_number", dLen := mD K "Chain" "__len__", dGet := mD K "Chain" "__getitem__", dEq := mD K "Chain" "__eq__", dStr := mD K "Chain" "__str__" }
structure EF (K : PySem.W.Frag) (mg : Str → Option Value) : Prop where
  T : Txt K mg (adK K)
  R : RowF K (adK K) (mA K "Row" "__eq__") (mA K "Row" "__str__") (mD K "Row" "__eq__") (mD K "Row" "__str__")
  L : LeadsF K (adK K) (mA K "End" "leads") (mA K "Ask" "leads") (mA K "Note" "leads") (mA K "Gate" "leads") (mD K "End" "leads") (mD K "Ask" "leads") (mD K "Note" "leads") (mD K "Gate" "leads")
  E : EdT K mg (adK K) (aeK K)
  D : RdF K mg (adK K) (aeK K) (He.ga K "_row_of") (rdA K "Row") (He.ga K "_read_row") (He.ga K "names_behind") (He.ga K "read_parts") (rdA K "Edition") (gaD K "_row_of") (Hd.fdOf K (rdA K "Row")) (gaD K "_read_row") (gaD K "names_behind") (gaD K "read_parts") (Hd.fdOf K (rdA K "Edition")) (mA K "Row" "read") (mA K "Edition" "read")
  M : EdM K mg (aeK K).cEd (edA K "row") (edA K "__len__") (edA K "__eq__") (edA K "__str__") (edD K "row") (edD K "__len__") (edD K "__eq__") (edD K "__str__")
  strI : PySem.W.isFn K (.ref (mA K "Row" "__str__")) = true
  strAt : ∀ C ∈ rowCs (adK K), PySem.W.findIn K (.ref C) "__str__" = some (some (.ref (mA K "Row" "__str__")))
  mRow : Meth K (aeK K).cEd "row" (edA K "row")
  X : EdX K
  CT : ChT K mg (aeK K) (acK K) (edA K "__str__") (edD K "__str__")
  CM : ChM K mg (acK K).cCh (amK K)
  chK : Mk K (acK K).cCh (acK K).fCh
  re : K2.Top K mg "_read_editions" sReadEds (He.ga K "_read_editions") (gaD K "_read_editions") ["lines"]
  crF : Fun K "read" "Chain.read" sChRead (rdA K "Chain") (Hd.fdOf K (rdA K "Chain"))
  crB : Binds K (Hd.fdOf K (rdA K "Chain")) ["cls", "text"] []
  crM : ClX.CMet K (acK K).cCh (.type "type") "read" (mA K "Chain" "read") (rdA K "Chain")
  CX : ChX K
  woF : Fun K "without" "Chain.without" sChWithout (mA K "Chain" "without") (mD K "Chain" "without")
  woB : Binds K (mD K "Chain" "without") ["self", "at"] []
  woM : Meth K (acK K).cCh "without" (mA K "Chain" "without")
  neF : Fun K "newest" "Chain.newest" sChNewest (mA K "Chain" "newest") (mD K "Chain" "newest")
  neB : Binds K (mD K "Chain" "newest") ["self", "edition"] []
  neM : Meth K (acK K).cCh "newest" (mA K "Chain" "newest")
  adF : Fun K "__add__" "Chain.__add__" sChAdd (mA K "Chain" "__add__") (mD K "Chain" "__add__")
  adB : Binds K (mD K "Chain" "__add__") ["self", "other"] []
  AX : AddX K
theorem of_rows {K : PySem.W.Frag} {q : Addr → Prop} (f : ∀ x ∈ rowsN, q (He.ga K x)) : ∀ C ∈ rowCs (adK K), q C := by
  intro C hC
  have e : rowCs (adK K) = [He.ga K "Ask", He.ga K "Note", He.ga K "Gate", He.ga K "End"] := rfl
  rw [e] at hC
  simp only [List.mem_cons, List.not_mem_nil, or_false] at hC
  rcases hC with rfl | rfl | rfl | rfl
  · exact f "Ask" (by simp [rowsN])
  · exact f "Note" (by simp [rowsN])
  · exact f "Gate" (by simp [rowsN])
  · exact f "End" (by simp [rowsN])
section
variable {K : PySem.W.Frag} {h : Heap} {mg : Str → Option Value} {fas : List He.Fa} {fns : List He5.DefA}

theorem eF_of (hfa : ∀ f ∈ fasP, f ∈ fas) (hfn : ∀ d ∈ fnsP, d ∈ fns) (X : K.In h) (G : h.Ns mainGlobals mg) (c : He5.SaysA fas fns K) (ex : extraP K = true) : EF K mg := by
  unfold extraP at ex
  simp only [Bool.and_eq_true] at ex
  obtain ⟨x1, x2, x3, x4, x5, x6, x7, x8, x9, x10⟩ := ex
  have er := errB_ok x1
  have er2 := errB_ok x2
  have rw_ := rowsB_ok x3
  obtain ⟨ri1, ri2⟩ := rowI_ok x4
  have ed := edB_ok x5
  have m1 := cmB_ok x6
  have m2 := cmB_ok x7
  have m3 := cmB_ok x8
  have cx := chB_ok x9
  have T : Txt K mg (adK K) := {
    tStr := He.free_ok X G (fa_mem c (hfa _ (in_free (List.mem_of_getElem? (i := 0) rfl))))
    tLen := He.free_ok X G (fa_mem c (hfa _ (in_free (List.mem_of_getElem? (i := 1) rfl))))
    tAll := He.free_ok X G (fa_mem c (hfa _ (in_free (List.mem_of_getElem? (i := 2) rfl))))
    tIs := He.free_ok X G (fa_mem c (hfa _ (in_free (List.mem_of_getElem? (i := 3) rfl))))
    tTuple := He.free_ok X G (fa_mem c (hfa _ (in_free (List.mem_of_getElem? (i := 4) rfl))))
    tList := He.free_ok X G (fa_mem c (hfa _ (in_free (List.mem_of_getElem? (i := 5) rfl))))
    tSet := He.free_ok X G (fa_mem c (hfa _ (in_free (List.mem_of_getElem? (i := 6) rfl))))
    abc := He.str_ok X G (fa_mem c (hfa _ List.mem_cons_self))
    isName := topA X G c (hfn _ (List.mem_of_getElem? (i := 2) rfl)) (hfa _ (in_glo (List.mem_of_getElem? (i := 0) rfl))) (fun _ _ _ _ _ _ us hl => match us, hl with | [_], _ => rfl)
    expect := topA X G c (hfn _ (List.mem_of_getElem? (i := 3) rfl)) (hfa _ (in_glo (List.mem_of_getElem? (i := 1) rfl))) (fun _ _ _ _ _ _ us hl => match us, hl with | [_], _ => rfl)
    areWays := topA X G c (hfn _ (List.mem_of_getElem? (i := 4) rfl)) (hfa _ (in_glo (List.mem_of_getElem? (i := 2) rfl))) (fun _ _ _ _ _ _ us hl => match us, hl with | [_], _ => rfl)
    isWay := topA X G c (hfn _ (List.mem_of_getElem? (i := 5) rfl)) (hfa _ (in_glo (List.mem_of_getElem? (i := 3) rfl))) (fun _ _ _ _ _ _ us hl => match us, hl with | [_], _ => rfl)
    gLog := He.glo_ok X G (fa_mem c (hfa _ (in_glo (List.mem_of_getElem? (i := 14) rfl))))
    gIr := He.glo_ok X G (fa_mem c (hfa _ (in_glo (List.mem_of_getElem? (i := 15) rfl))))
    ir := er.ex
    irF := inA c (hfn _ (List.mem_of_getElem? (i := 16) rfl))
    irB := (inA c (hfn _ (List.mem_of_getElem? (i := 16) rfl))).binds (fun _ _ _ _ _ _ us hl => match us, hl with | [_, _], _ => rfl)
    irI := er.I
    irT := er.T
    irW := er.W
    irX := er.X
    row := ⟨inA c (hfn _ (List.mem_of_getElem? (i := 17) rfl)), (inA c (hfn _ (List.mem_of_getElem? (i := 17) rfl))).binds (fun _ _ _ _ _ _ us hl => match us, hl with | [_, _], _ => rfl), He.glo_ok X G (fa_mem c (hfa _ (in_glo (List.mem_of_getElem? (i := 17) rfl)))), He.cls_ok (fa_mem c (hfa _ (in_cls (List.mem_of_getElem? (i := 0) rfl)))), He.mkr_ok (fa_mem c (hfa _ (in_mkr (List.mem_of_getElem? (i := 0) rfl))))⟩
    ask := ⟨inA c (hfn _ (List.mem_of_getElem? (i := 18) rfl)), (inA c (hfn _ (List.mem_of_getElem? (i := 18) rfl))).binds (fun _ _ _ _ _ _ us hl => match us, hl with | [_, _, _, _], _ => rfl), He.glo_ok X G (fa_mem c (hfa _ (in_glo (List.mem_of_getElem? (i := 18) rfl)))), He.cls_ok (fa_mem c (hfa _ (in_cls (List.mem_of_getElem? (i := 1) rfl)))), He.mkr_ok (fa_mem c (hfa _ (in_mkr (List.mem_of_getElem? (i := 1) rfl))))⟩
    note := ⟨inA c (hfn _ (List.mem_of_getElem? (i := 19) rfl)), (inA c (hfn _ (List.mem_of_getElem? (i := 19) rfl))).binds (fun _ _ _ _ _ _ us hl => match us, hl with | [_, _, _, _], _ => rfl), He.glo_ok X G (fa_mem c (hfa _ (in_glo (List.mem_of_getElem? (i := 19) rfl)))), He.cls_ok (fa_mem c (hfa _ (in_cls (List.mem_of_getElem? (i := 2) rfl)))), He.mkr_ok (fa_mem c (hfa _ (in_mkr (List.mem_of_getElem? (i := 2) rfl))))⟩
    gate := ⟨inA c (hfn _ (List.mem_of_getElem? (i := 20) rfl)), (inA c (hfn _ (List.mem_of_getElem? (i := 20) rfl))).binds (fun _ _ _ _ _ _ us hl => match us, hl with | [_, _, _, _, _], _ => rfl), He.glo_ok X G (fa_mem c (hfa _ (in_glo (List.mem_of_getElem? (i := 20) rfl)))), He.cls_ok (fa_mem c (hfa _ (in_cls (List.mem_of_getElem? (i := 3) rfl)))), He.mkr_ok (fa_mem c (hfa _ (in_mkr (List.mem_of_getElem? (i := 3) rfl))))⟩
    end_ := ⟨inA c (hfn _ (List.mem_of_getElem? (i := 21) rfl)), (inA c (hfn _ (List.mem_of_getElem? (i := 21) rfl))).binds (fun _ _ _ _ _ _ us hl => match us, hl with | [_, _], _ => rfl), He.glo_ok X G (fa_mem c (hfa _ (in_glo (List.mem_of_getElem? (i := 21) rfl)))), He.cls_ok (fa_mem c (hfa _ (in_cls (List.mem_of_getElem? (i := 4) rfl)))), He.mkr_ok (fa_mem c (hfa _ (in_mkr (List.mem_of_getElem? (i := 4) rfl))))⟩
    rowR := ri1
    rowI := ri2
    no := of_rows (q := fun C => ∀ n ∈ Hd.attrsN, NoAttr K C n) fun x hx n hn => by
      simp only [rowsN, List.mem_cons, List.not_mem_nil, or_false] at hx
      rcases hx with rfl | rfl | rfl | rfl
      · exact (fun n hn => He.noat_ok (fa_mem c (hfa _ (in_noat (List.mem_of_getElem? (i := 0) rfl) hn)))) n hn
      · exact (fun n hn => He.noat_ok (fa_mem c (hfa _ (in_noat (List.mem_of_getElem? (i := 1) rfl) hn)))) n hn
      · exact (fun n hn => He.noat_ok (fa_mem c (hfa _ (in_noat (List.mem_of_getElem? (i := 2) rfl) hn)))) n hn
      · exact (fun n hn => He.noat_ok (fa_mem c (hfa _ (in_noat (List.mem_of_getElem? (i := 3) rfl) hn)))) n hn
  }
  have R : RowF K (adK K) (mA K "Row" "__eq__") (mA K "Row" "__str__") (mD K "Row" "__eq__") (mD K "Row" "__str__") := {
    eqF := inA c (hfn _ (List.mem_of_getElem? (i := 22) rfl))
    eqB := (inA c (hfn _ (List.mem_of_getElem? (i := 22) rfl))).binds (fun _ _ _ _ _ _ us hl => match us, hl with | [_, _], _ => rfl)
    eqI := rw_.eqI
    strF := inA c (hfn _ (List.mem_of_getElem? (i := 23) rfl))
    strB := (inA c (hfn _ (List.mem_of_getElem? (i := 23) rfl))).binds (fun _ _ _ _ _ _ us hl => match us, hl with | [_], _ => rfl)
    cls := of_rows (q := fun C => Cls K C) fun x hx => He.cls_ok (fa_mem c (hfa _ (in_cls (show x ∈ clssP from List.mem_cons_of_mem _ (List.mem_append_left (as := rowsN) (["Edition", "Chain"] : List Str) hx)))))
    isA := of_rows (q := fun C => PySem.W.findIn K (.ref C) "__class__" = _) rw_.isA
    get := rw_.get
    tak := rw_.tak
    obj := of_rows (q := fun C => PySem.W.mroIn K C (.type "object") = _) rw_.obj
    row := of_rows (q := fun C => PySem.W.kitOne K (.ref C) (.ref (He.ga K "Row")) = _) rw_.row
    noRow := rw_.noRow
    eqAt := of_rows (q := fun C => PySem.W.findIn K (.ref C) "__eq__" = _) rw_.eqAt
    neAt := of_rows (q := fun C => PySem.W.findIn K (.ref C) "__ne__" = _) rw_.neAt
    first := of_rows (q := fun C => ∀ D ∈ rowCs (adK K), PySem.W.notFirst K C (.ref D) = true) fun x hx => of_rows (q := fun D => PySem.W.notFirst K (He.ga K x) (.ref D) = true) fun y hy => rw_.first x hx y hy
    firstT := of_rows (q := fun C => ∀ t ∈ (["tuple", "str", "int"] : List String), PySem.W.notFirst K C (.type t) = true) fun x hx t ht => rw_.firstT x hx t ht }
  have Ld : LeadsF K (adK K) (mA K "End" "leads") (mA K "Ask" "leads") (mA K "Note" "leads") (mA K "Gate" "leads") (mD K "End" "leads") (mD K "Ask" "leads") (mD K "Note" "leads") (mD K "Gate" "leads") := {
    rF := inA c (hfn _ (List.mem_of_getElem? (i := 24) rfl))
    rB := (inA c (hfn _ (List.mem_of_getElem? (i := 24) rfl))).binds (fun _ _ _ _ _ _ us hl => match us, hl with | [_], _ => rfl)
    rM := He.meth_ok (fa_mem c (hfa _ (in_meth (List.mem_of_getElem? (i := 0) rfl))))
    aF := inA c (hfn _ (List.mem_of_getElem? (i := 25) rfl))
    aB := (inA c (hfn _ (List.mem_of_getElem? (i := 25) rfl))).binds (fun _ _ _ _ _ _ us hl => match us, hl with | [_], _ => rfl)
    aM := He.meth_ok (fa_mem c (hfa _ (in_meth (List.mem_of_getElem? (i := 1) rfl))))
    nF := inA c (hfn _ (List.mem_of_getElem? (i := 26) rfl))
    nB := (inA c (hfn _ (List.mem_of_getElem? (i := 26) rfl))).binds (fun _ _ _ _ _ _ us hl => match us, hl with | [_], _ => rfl)
    nM := He.meth_ok (fa_mem c (hfa _ (in_meth (List.mem_of_getElem? (i := 2) rfl))))
    gF := inA c (hfn _ (List.mem_of_getElem? (i := 27) rfl))
    gB := (inA c (hfn _ (List.mem_of_getElem? (i := 27) rfl))).binds (fun _ _ _ _ _ _ us hl => match us, hl with | [_], _ => rfl)
    gM := He.meth_ok (fa_mem c (hfa _ (in_meth (List.mem_of_getElem? (i := 3) rfl))))
  }
  have own : ∀ x ∈ rowsN, ∀ y ∈ rowsN, PySem.W.kitOne K (.ref (He.ga K x)) (.ref (He.ga K y)) = some (decide (x = y)) := rw_.own
  have i1 : ("Ask" : Str) ∈ rowsN := by simp [rowsN]
  have i2 : ("Note" : Str) ∈ rowsN := by simp [rowsN]
  have i3 : ("Gate" : Str) ∈ rowsN := by simp [rowsN]
  have i4 : ("End" : Str) ∈ rowsN := by simp [rowsN]
  have N : EdN K mg (adK K) := {
    any := He.free_ok X G (fa_mem c (hfa _ (in_free (List.mem_of_getElem? (i := 7) rfl))))
    sorted := He.free_ok X G (fa_mem c (hfa _ (in_free (List.mem_of_getElem? (i := 8) rfl))))
    note := fun r => by
      cases r with
      | ask _ _ _ => exact (own "Ask" i1 "Note" i2).trans (show some (decide (("Ask" : Str) = "Note")) = some false by decide +kernel)
      | note _ _ _ => exact (own "Note" i2 "Note" i2).trans (show some (decide (("Note" : Str) = "Note")) = some true by decide +kernel)
      | gate _ _ _ _ => exact (own "Gate" i3 "Note" i2).trans (show some (decide (("Gate" : Str) = "Note")) = some false by decide +kernel)
      | end_ _ => exact (own "End" i4 "Note" i2).trans (show some (decide (("End" : Str) = "Note")) = some false by decide +kernel)
    gate := fun r => by
      cases r with
      | ask _ _ _ => exact (own "Ask" i1 "Gate" i3).trans (show some (decide (("Ask" : Str) = "Gate")) = some false by decide +kernel)
      | note _ _ _ => exact (own "Note" i2 "Gate" i3).trans (show some (decide (("Note" : Str) = "Gate")) = some false by decide +kernel)
      | gate _ _ _ _ => exact (own "Gate" i3 "Gate" i3).trans (show some (decide (("Gate" : Str) = "Gate")) = some true by decide +kernel)
      | end_ _ => exact (own "End" i4 "Gate" i3).trans (show some (decide (("End" : Str) = "Gate")) = some false by decide +kernel)
    ask := fun r => by
      cases r with
      | ask _ _ _ => exact (own "Ask" i1 "Ask" i1).trans (show some (decide (("Ask" : Str) = "Ask")) = some true by decide +kernel)
      | note _ _ _ => exact (own "Note" i2 "Ask" i1).trans (show some (decide (("Note" : Str) = "Ask")) = some false by decide +kernel)
      | gate _ _ _ _ => exact (own "Gate" i3 "Ask" i1).trans (show some (decide (("Gate" : Str) = "Ask")) = some false by decide +kernel)
      | end_ _ => exact (own "End" i4 "Ask" i1).trans (show some (decide (("End" : Str) = "Ask")) = some false by decide +kernel)
  }
  have hI : ∃ fd, FunD K "__init__" "Edition.__init__" (defArgs sEd) (defBody sEd) (defScope sEd) [.ref (aeK K).tD] [] (aeK K).fEd fd := by
    obtain ⟨i, ei⟩ := List.getElem?_of_mem (hfn _ (List.mem_of_getElem? (i := 0) rfl))
    exact c.def_ i ei
  have hI2 : FunD K "__init__" "Edition.__init__" (defArgs sEd) (defBody sEd) (defScope sEd) [.ref (aeK K).tD] [] (aeK K).fEd (aeK K).dEd := by
    obtain ⟨fd, F⟩ := hI
    have e : fdOf K (aeK K).fEd = fd := by
      obtain ⟨oc, od, dV, kV, doc, pm, an, cdv, ct, osl, h1, h2, h3⟩ := F.ex
      unfold Hd.fdOf
      rw [h2]
    rw [← e] at F
    exact F
  have E : EdT K mg (adK K) (aeK K) := {
    N := N
    are := topA X G c (hfn _ (List.mem_of_getElem? (i := 6) rfl)) (hfa _ (in_glo (List.mem_of_getElem? (i := 4) rfl))) (fun _ _ _ _ _ _ us hl => match us, hl with | [_], _ => rfl)
    unl := topA X G c (hfn _ (List.mem_of_getElem? (i := 7) rfl)) (hfa _ (in_glo (List.mem_of_getElem? (i := 5) rfl))) (fun _ _ _ _ _ _ us hl => match us, hl with | [_], _ => rfl)
    ring := topA X G c (hfn _ (List.mem_of_getElem? (i := 8) rfl)) (hfa _ (in_glo (List.mem_of_getElem? (i := 6) rfl))) (fun _ _ _ _ _ _ us hl => match us, hl with | [_], _ => rfl)
    wrong := topA X G c (hfn _ (List.mem_of_getElem? (i := 9) rfl)) (hfa _ (in_glo (List.mem_of_getElem? (i := 7) rfl))) (fun _ _ _ _ _ _ us hl => match us, hl with | [_, _], _ => rfl)
    F := hI2
    dT := tupB_ok ed.tD
    cl := He.cls_ok (fa_mem c (hfa _ (in_cls (List.mem_of_getElem? (i := 5) rfl))))
    no := (fun n hn => He.noat_ok (fa_mem c (hfa _ (in_noat (List.mem_of_getElem? (i := 4) rfl) hn))))
    gIe := He.glo_ok X G (fa_mem c (hfa _ (in_glo (List.mem_of_getElem? (i := 16) rfl))))
    ie := er2.ex
    ieF := inA c (hfn _ (List.mem_of_getElem? (i := 28) rfl))
    ieB := (inA c (hfn _ (List.mem_of_getElem? (i := 28) rfl))).binds (fun _ _ _ _ _ _ us hl => match us, hl with | [_, _], _ => rfl)
    ieI := er2.I
    ieT := er2.T
    ieW := er2.W }
  have D : RdF K mg (adK K) (aeK K) (He.ga K "_row_of") (rdA K "Row") (He.ga K "_read_row") (He.ga K "names_behind") (He.ga K "read_parts") (rdA K "Edition") (gaD K "_row_of") (Hd.fdOf K (rdA K "Row")) (gaD K "_read_row") (gaD K "names_behind") (gaD K "read_parts") (Hd.fdOf K (rdA K "Edition")) (mA K "Row" "read") (mA K "Edition" "read") := {
    of := topA X G c (hfn _ (List.mem_of_getElem? (i := 10) rfl)) (hfa _ (in_glo (List.mem_of_getElem? (i := 8) rfl))) (fun _ _ _ _ _ _ us hl => match us, hl with | [_], _ => rfl)
    rdF := cmA c (hfn _ (List.mem_of_getElem? (i := 41) rfl))
    rdB := (cmA c (hfn _ (List.mem_of_getElem? (i := 41) rfl))).binds (fun _ _ _ _ _ _ us hl => match us, hl with | [_, _], _ => rfl)
    rdM := m1
    line := topA X G c (hfn _ (List.mem_of_getElem? (i := 11) rfl)) (hfa _ (in_glo (List.mem_of_getElem? (i := 9) rfl))) (fun _ _ _ _ _ _ us hl => match us, hl with | [_, _], _ => rfl)
    behind := topA X G c (hfn _ (List.mem_of_getElem? (i := 12) rfl)) (hfa _ (in_glo (List.mem_of_getElem? (i := 10) rfl))) (fun _ _ _ _ _ _ us hl => match us, hl with | [_, _], _ => rfl)
    parts := topA X G c (hfn _ (List.mem_of_getElem? (i := 13) rfl)) (hfa _ (in_glo (List.mem_of_getElem? (i := 11) rfl))) (fun _ _ _ _ _ _ us hl => match us, hl with | [_, _], _ => rfl)
    edF := cmA c (hfn _ (List.mem_of_getElem? (i := 42) rfl))
    edB := (cmA c (hfn _ (List.mem_of_getElem? (i := 42) rfl))).binds (fun _ _ _ _ _ _ us hl => match us, hl with | [_, _], _ => rfl)
    edR := ed.rd
    edM := m2
    edK := He.mkr_ok (fa_mem c (hfa _ (in_mkr (List.mem_of_getElem? (i := 5) rfl))))
    zip := He.free_ok X G (fa_mem c (hfa _ (in_free (List.mem_of_getElem? (i := 9) rfl))))
    enum := He.free_ok X G (fa_mem c (hfa _ (in_free (List.mem_of_getElem? (i := 10) rfl)))) }
  have M : EdM K mg (aeK K).cEd (edA K "row") (edA K "__len__") (edA K "__eq__") (edA K "__str__") (edD K "row") (edD K "__len__") (edD K "__eq__") (edD K "__str__") := {
    g := He.glo_ok X G (fa_mem c (hfa _ (in_glo (List.mem_of_getElem? (i := 22) rfl))))
    cl := He.cls_ok (fa_mem c (hfa _ (in_cls (List.mem_of_getElem? (i := 5) rfl))))
    no := (fun n hn => He.noat_ok (fa_mem c (hfa _ (in_noat (List.mem_of_getElem? (i := 4) rfl) hn))))
    rowF := inA c (hfn _ (List.mem_of_getElem? (i := 29) rfl))
    rowB := (inA c (hfn _ (List.mem_of_getElem? (i := 29) rfl))).binds (fun _ _ _ _ _ _ us hl => match us, hl with | [_, _], _ => rfl)
    lenF := inA c (hfn _ (List.mem_of_getElem? (i := 30) rfl))
    lenB := (inA c (hfn _ (List.mem_of_getElem? (i := 30) rfl))).binds (fun _ _ _ _ _ _ us hl => match us, hl with | [_], _ => rfl)
    eqF := inA c (hfn _ (List.mem_of_getElem? (i := 31) rfl))
    eqB := (inA c (hfn _ (List.mem_of_getElem? (i := 31) rfl))).binds (fun _ _ _ _ _ _ us hl => match us, hl with | [_, _], _ => rfl)
    strF := inA c (hfn _ (List.mem_of_getElem? (i := 32) rfl))
    strB := (inA c (hfn _ (List.mem_of_getElem? (i := 32) rfl))).binds (fun _ _ _ _ _ _ us hl => match us, hl with | [_], _ => rfl)
    isA := ed.isA
    get := rw_.get
    tak := rw_.tak
    obj := ed.obj
    own := ed.own
    noEd := ed.no }
  have hC : ∃ fd, FunD K "__init__" "Chain.__init__" (defArgs sCh) (defBody sCh) (defScope sCh) [.ref (acK K).tC] [] (acK K).fCh fd := by
    obtain ⟨i, ei⟩ := List.getElem?_of_mem (hfn _ (List.mem_of_getElem? (i := 1) rfl))
    exact c.def_ i ei
  have hC2 : FunD K "__init__" "Chain.__init__" (defArgs sCh) (defBody sCh) (defScope sCh) [.ref (acK K).tC] [] (acK K).fCh (acK K).dCh := by
    obtain ⟨fd, F⟩ := hC
    have e : fdOf K (acK K).fCh = fd := by
      obtain ⟨oc, od, dV, kV, doc, pm, an, cdv, ct, osl, h1, h2, h3⟩ := F.ex
      unfold Hd.fdOf
      rw [h2]
    rw [← e] at F
    exact F
  have CT : ChT K mg (aeK K) (acK K) (edA K "__str__") (edD K "__str__") := {
    are := topA X G c (hfn _ (List.mem_of_getElem? (i := 14) rfl)) (hfa _ (in_glo (List.mem_of_getElem? (i := 12) rfl))) (fun _ _ _ _ _ _ us hl => match us, hl with | [_], _ => rfl)
    F := hC2
    cl := He.cls_ok (fa_mem c (hfa _ (in_cls (List.mem_of_getElem? (i := 6) rfl))))
    no := (fun n hn => He.noat_ok (fa_mem c (hfa _ (in_noat (List.mem_of_getElem? (i := 5) rfl) hn))))
    strI := ed.X.strI
    strAt := ed.X.strAt }
  have CM : ChM K mg (acK K).cCh (amK K) := {
    g := He.glo_ok X G (fa_mem c (hfa _ (in_glo (List.mem_of_getElem? (i := 23) rfl))))
    cl := He.cls_ok (fa_mem c (hfa _ (in_cls (List.mem_of_getElem? (i := 6) rfl))))
    no := (fun n hn => He.noat_ok (fa_mem c (hfa _ (in_noat (List.mem_of_getElem? (i := 5) rfl) hn))))
    numM := He.meth_ok (fa_mem c (hfa _ (in_meth (List.mem_of_getElem? (i := 5) rfl))))
    numF := inA c (hfn _ (List.mem_of_getElem? (i := 33) rfl))
    numB := (inA c (hfn _ (List.mem_of_getElem? (i := 33) rfl))).binds (fun _ _ _ _ _ _ us hl => match us, hl with | [_, _], _ => rfl)
    lenF := inA c (hfn _ (List.mem_of_getElem? (i := 34) rfl))
    lenB := (inA c (hfn _ (List.mem_of_getElem? (i := 34) rfl))).binds (fun _ _ _ _ _ _ us hl => match us, hl with | [_], _ => rfl)
    getF := inA c (hfn _ (List.mem_of_getElem? (i := 35) rfl))
    getB := (inA c (hfn _ (List.mem_of_getElem? (i := 35) rfl))).binds (fun _ _ _ _ _ _ us hl => match us, hl with | [_, _], _ => rfl)
    eqF := inA c (hfn _ (List.mem_of_getElem? (i := 36) rfl))
    eqB := (inA c (hfn _ (List.mem_of_getElem? (i := 36) rfl))).binds (fun _ _ _ _ _ _ us hl => match us, hl with | [_, _], _ => rfl)
    strF := inA c (hfn _ (List.mem_of_getElem? (i := 37) rfl))
    strB := (inA c (hfn _ (List.mem_of_getElem? (i := 37) rfl))).binds (fun _ _ _ _ _ _ us hl => match us, hl with | [_], _ => rfl)
    isA := cx.isA
    get := rw_.get
    tak := rw_.tak
    obj := cx.obj
    own := cx.own
    noCh := cx.no }
  exact {
    T := T
    R := R
    L := Ld
    E := E
    D := D
    M := M
    strI := rw_.strI
    strAt := of_rows (q := fun C => PySem.W.findIn K (.ref C) "__str__" = _) rw_.strAt
    mRow := He.meth_ok (fa_mem c (hfa _ (in_meth (List.mem_of_getElem? (i := 4) rfl))))
    X := ed.X
    CT := CT
    CM := CM
    chK := He.mkr_ok (fa_mem c (hfa _ (in_mkr (List.mem_of_getElem? (i := 6) rfl))))
    re := topA X G c (hfn _ (List.mem_of_getElem? (i := 15) rfl)) (hfa _ (in_glo (List.mem_of_getElem? (i := 13) rfl))) (fun _ _ _ _ _ _ us hl => match us, hl with | [_], _ => rfl)
    crF := cmA c (hfn _ (List.mem_of_getElem? (i := 43) rfl))
    crB := (cmA c (hfn _ (List.mem_of_getElem? (i := 43) rfl))).binds (fun _ _ _ _ _ _ us hl => match us, hl with | [_, _], _ => rfl)
    crM := m3
    CX := cx
    woF := inA c (hfn _ (List.mem_of_getElem? (i := 38) rfl))
    woB := (inA c (hfn _ (List.mem_of_getElem? (i := 38) rfl))).binds (fun _ _ _ _ _ _ us hl => match us, hl with | [_, _], _ => rfl)
    woM := He.meth_ok (fa_mem c (hfa _ (in_meth (List.mem_of_getElem? (i := 6) rfl))))
    neF := inA c (hfn _ (List.mem_of_getElem? (i := 39) rfl))
    neB := (inA c (hfn _ (List.mem_of_getElem? (i := 39) rfl))).binds (fun _ _ _ _ _ _ us hl => match us, hl with | [_, _], _ => rfl)
    neM := He.meth_ok (fa_mem c (hfa _ (in_meth (List.mem_of_getElem? (i := 7) rfl))))
    adF := inA c (hfn _ (List.mem_of_getElem? (i := 40) rfl))
    adB := (inA c (hfn _ (List.mem_of_getElem? (i := 40) rfl))).binds (fun _ _ _ _ _ _ us hl => match us, hl with | [_, _], _ => rfl)
    AX := addB_ok x10 }
end
end K2

set_option Elab.async false
set_option linter.all false
set_option maxRecDepth 100000
set_option maxHeartbeats 4000000
namespace K2
open PySem L2 Lw
section
variable {P : Program} {w : World} {K : PySem.W.Frag} {mg : Str → Option Value} {base : Heap}
theorem scDraw : FnScope ["_law_deal_here", "_law_many", "_law_left"] ["_law_deal_here", "_law_many"] (defScope sDraw) := ⟨rfl, rfl, rfl, by decide +kernel, rfl, by decide +kernel, by decide +kernel⟩
theorem ok_draw {f : Addr} {fd : FuncData} (F : Fun K "_law_draw" "_law_draw" sDraw f fd) (tI : mg "int" = none) : FnOk P w K mg base CX0 1 f fd ["_law_deal_here", "_law_many"] spDraw := by
  refine F.ok scDraw (fun vs H Q E h => ?_) (fun cdv A outer s H vs Q E hr h => ?_)
  · obtain ⟨G, d, l, k, rfl, _⟩ := h
    rfl
  · obtain ⟨G, d, l, k, rfl, D, k0, k1, fin⟩ := h
    have hu : _ := hr.units
    refine ⟨_, pss_cons (ps_while PassesOwn.never (PW.pt (pw_and (pt_cmpR (op_neD hu) (pe_ix ix_list (pv 0) pe_int (fun _ _ => rfl)) (pe_lst pa_nil) (nomark _))
        (pw_and1 (pt_cmpR op_eq (pe_ix ix_list (pe_ix ix_list (pv 0) pe_int (fun _ _ => rfl)) (pe_un un_neg pe_int) (fun _ _ => rfl)) pe_int (nomark _)))))
        (pss_one (ps_expr (pe_bm0 PySem.F.plainAttrs_list PySem.F.slot_list_pop PySem.F.type_list_pop mt_pop (pe_ix ix_list (pv 0) pe_int (fun _ _ => rfl))))))
      (pss_cons (ps_if (pt_cmpR (op_neD hu) (pe_ix ix_list (pv 0) pe_int (fun _ _ => rfl)) (pe_lst pa_nil) (nomark _))
        (pss_cons (ps_set (i := 2) scDraw.nd rfl (Or.inl rfl) (pe_bm0 PySem.F.plainAttrs_list PySem.F.slot_list_pop PySem.F.type_list_pop mt_pop (pe_ix ix_list (pv 0) pe_int (fun _ _ => rfl))))
          (pss_cons (ps_expr (pe_bm PySem.F.plainAttrs_list PySem.F.slot_list_append PySem.F.type_list_append mt_append (pe_ix ix_list (pv 0) pe_int (fun _ _ => rfl)) (pa_cons (pe_op op_fdiv (pv 2) (pv 1)) pa_nil)))
            (pss_one (ps_ret (pe_op op_mod (pe_callTy call_int1 (by rfl) tI PyProof.Rows.boot_int (pa_cons (pv 2) pa_nil)) (pv 1))))))
        pss_nil)
      (pss_cons (ps_asg (pe_op op_mod (pe_callTy call_int1 (by rfl) tI PyProof.Rows.boot_int (pa_cons (pe_op op_add (pe_op op_mul (pe_ix ix_list (pv 0) pe_int (fun _ _ => rfl)) pe_int) pe_int) pa_nil)) pe_int) (pg_sub (pv 0) pe_int set_list))
        (pss_one (ps_ret (pe_op op_mod (pe_callTy call_int1 (by rfl) tI PyProof.Rows.boot_int (pa_cons (pe_op op_fdiv (pe_ix ix_list (pv 0) pe_int (fun _ _ => rfl)) pe_int) pa_nil)) (pv 1)))))), ?_⟩
    obtain ⟨ns0, m0, a0⟩ := D.it
    refine seq_cut (fun σ1 H1 => σ1 = [some (.ref d), some (.int k), none] ∧ Deal G H1 d l ∧ ∃ ns m, At H1 d l ns m) ?after fun after => ?loop
    case loop =>
      refine ⟨fun c σ H1 => ∃ ns m, c = ns.length ∧ σ = [some (.ref d), some (.int k), none] ∧ Deal G H1 d l ∧ At H1 d l ns m, ⟨_, ns0, m0, rfl, rfl, D, a0⟩, ?_⟩
      rintro _ _ H1 ⟨ns, m, rfl, rfl, D1, a1⟩
      refine ⟨_, rfl, d, _, 0, _, rfl, rfl, SqL.of a1.hd, at0, Nat.zero_le _, fun p hp => ?_⟩
      have D2 := D1.more (o := .lst []) hp
      have a2 := a1.put (o := .lst []) hp
      refine ⟨_, _, .lst (SqL.of a2.hl) (ints_data ns), .lst (SqL.of upd_same) .nil, ints_shaped ns, nil_shaped, _, rfl, ?_⟩
      rw [eqv_nil]
      by_cases e : ns = []
      · subst e
        exact iteF (iteF (after _ _ ⟨rfl, D2, _, _, a2⟩))
      · obtain ⟨r, n, rfl⟩ := split_end e
        have e1 : (!((r ++ [n]).map PyData.int).isEmpty) = true := by simp
        rw [e1]
        refine iteT ⟨_, rfl, d, _, 0, _, rfl, rfl, SqL.of a2.hd, at0, _, rfl, l, _, -1, _, rfl, rfl, SqL.of a2.hl, at_end r n, rfl, _, rfl, ?_⟩
        refine ite2 (fun z => ?_) (fun _ => after _ _ ⟨rfl, D2, _, _, a2⟩)
        obtain ⟨D3, a3⟩ := D2.list a2 (ns' := r) (by have := a2.len; simp at this; omega) (fun x hx => a2.nn x (by simp [hx]))
        refine ⟨fun σ1 H3 => σ1 = [some (.ref d), some (.int k), none] ∧ Deal G H3 d l ∧ At H3 d l r m, fun σ1 H3 ⟨q1, q2, q3⟩ => ⟨r.length, by simp, r, m, rfl, q1, q2, q3⟩, ?_⟩
        refine ⟨_, rfl, d, _, 0, _, rfl, rfl, SqL.of a2.hd, at0, .inl ⟨rfl, _, SqL.of a2.hl⟩, l, _, _, rfl, rfl, a2.hl, get_end r n, ?_⟩
        rw [drop_end]
        exact ⟨rfl, D3, a3⟩
    case after =>
      rintro _ H1 ⟨rfl, D1, ns, m, a1⟩
      refine ⟨_, rfl, d, _, 0, _, rfl, rfl, SqL.of a1.hd, at0, Nat.zero_le _, fun p hp => ?_⟩
      have D2 := D1.more (o := .lst []) hp
      have a2 := a1.put (o := .lst []) hp
      refine ⟨_, _, .lst (SqL.of a2.hl) (ints_data ns), .lst (SqL.of upd_same) .nil, ints_shaped ns, nil_shaped, _, rfl, ?_⟩
      rw [eqv_nil]
      by_cases e : ns = []
      · subst e
        refine iteF ?_
        -- deal[1] = ..
        refine ⟨_, rfl, d, _, 1, _, rfl, rfl, SqL.of a2.hd, at1, _, _, rfl, rfl, .inr ⟨by decide, by decide⟩, _, _, rfl, rfl, .inl ⟨_, rfl, _, _, rfl, rfl, (by show (0 : Int) < 2147483647; decide), ?_⟩⟩
        have b0 : 0 ≤ (m * 16807 + 29) % 2147483647 := Int.emod_nonneg _ (by decide)
        have b1 : (m * 16807 + 29) % 2147483647 < 2147483647 := Int.emod_lt_of_pos _ (by decide)
        obtain ⟨D3, a3⟩ := D2.mix a2 b0 b1
        refine ⟨_, rfl, d, _, 1, 1, rfl, rfl, a2.hd, set1, ?_⟩
        refine ⟨_, rfl, d, _, 1, _, rfl, rfl, SqL.of a3.hd, at1, _, _, rfl, rfl, ⟨by decide, by decide⟩, .inl ⟨_, rfl, _, rfl, _, _, rfl, rfl, k0, ?_⟩⟩
        exact fin _ _ D3 (Int.emod_nonneg _ (by omega)) (Int.emod_lt_of_pos _ k0)
      · obtain ⟨r, n, rfl⟩ := split_end e
        have e1 : (!((r ++ [n]).map PyData.int).isEmpty) = true := by simp
        rw [e1]
        have n0 : 0 ≤ n := a2.nn n (by simp)
        refine iteT ⟨_, rfl, d, _, 0, _, rfl, rfl, SqL.of a2.hd, at0, .inl ⟨rfl, _, SqL.of a2.hl⟩, l, _, _, rfl, rfl, a2.hl, get_end r n, ?_⟩
        rw [drop_end]
        obtain ⟨D3, a3⟩ := D2.list a2 (ns' := r) (by have := a2.len; simp at this; omega) (fun x hx => a2.nn x (by simp [hx]))
        refine ⟨_, rfl, d, _, 0, _, rfl, rfl, SqL.of a3.hd, at0, .inl ⟨rfl, _, SqL.of a3.hl⟩, _, rfl, _, rfl, _, _, rfl, rfl, ⟨k0, by omega⟩, l, _, _, rfl, rfl, a3.hl, (by rw [List.length_map]; have := a3.len; exact Nat.lt_of_le_of_lt this (by decide)), ?_⟩
        obtain ⟨D4, a4⟩ := D3.list a3 (ns' := r ++ [n / k]) (by have := a2.len; simp at this ⊢; omega) (fun x hx => by
          rcases List.mem_append.mp hx with q | q
          · exact a3.nn x q
          · rw [List.mem_singleton.mp q]
            exact Int.ediv_nonneg n0 (by omega))
        rw [upd_upd, List.map_append, List.map_cons, List.map_nil] at D4
        rw [upd_upd]
        refine ⟨_, rfl, .inl ⟨n, rfl, _, rfl, _, _, rfl, rfl, k0, ?_⟩⟩
        exact fin _ _ D4 (Int.emod_nonneg _ (by omega)) (Int.emod_lt_of_pos _ k0)

/-! ### a deal -/
abbrev nDeal : List Str := ["_law_script", "_law_base_here", "_law_cells", "_law_mixed_here", "_law_cell"]
theorem scDeal : FnScope nDeal ["_law_script", "_law_base_here"] (defScope sDeal) := ⟨rfl, rfl, rfl, by decide +kernel, rfl, by decide +kernel, by decide +kernel⟩
theorem ok_deal {f : Addr} {fd : FuncData} (F : Fun K "_law_deal" "_law_deal" sDeal f fd) (tI : mg "int" = none) (tA : mg "abs" = none) : FnOk P w K mg base CX0 1 f fd ["_law_script", "_law_base_here"] (spDeal K) := by
  refine F.ok scDeal (fun vs H Q E h => ?_) (fun cdv A outer s H vs Q E hr h => ?_)
  · obtain ⟨a, ns, b, rfl, _⟩ := h
    rfl
  · obtain ⟨a, ns, b, rfl, hS, len, b0, b1, fin⟩ := h
    refine ⟨_, pss_cons (ps_par (i := 2) (j := 3) (by rfl) scDeal.nd rfl rfl (by decide) rfl rfl (pa_cons (pe_lc (own := [("_law_cell", 4)]) (g := gName 4) (tt := tYes) (by rfl) scDeal.nd (pi_list (pe_slice sl_list (pv 0) (po_some (pv 1)) (po_some pe_int)))
          (blkOk_by (own := [("_law_cell", 4)]) (N := nDeal) (sc := defScope sDeal) (by decide +kernel)) (fun _ _ _ _ _ => pg_name (i := 4) scDeal.nd rfl (Or.inl rfl)) (fun _ _ _ _ _ => pts_nil)
          (fun _ _ _ _ _ => pe_callB call_abs (by rfl) tA PyProof.Rows.boot_abs (pa_cons (pe_callTy call_int1 (by rfl) tI PyProof.Rows.boot_int (pa_cons (pv 4) pa_nil)) pa_nil)))
        (pa_cons (pe_op op_add pe_int (pe_op op_mul pe_int (pv 1))) pa_nil)) (by rfl))
      (pss_cons (ps_for PassesOwn.never rfl (pi_list (pv 2)) (pg_name (i := 4) scDeal.nd rfl (Or.inl rfl))
        (pss_one (ps_set (i := 3) scDeal.nd rfl (Or.inl rfl) (pe_op op_mod (pe_callTy call_int1 (by rfl) tI PyProof.Rows.boot_int (pa_cons (pe_op op_add (pe_op op_add (pe_op op_mul (pv 3) pe_int) (pe_op op_mod (pe_callTy call_int1 (by rfl) tI PyProof.Rows.boot_int (pa_cons (pv 4) pa_nil)) pe_int)) pe_int) pa_nil)) pe_int))))
      (pss_one (ps_ret (pe_lst (pa_cons (pe_revL (pe_lc (own := [("_law_cell", 4)]) (g := gName 4) (tt := _) (by rfl) scDeal.nd (pi_list (pv 2))
          (blkOk_by (own := [("_law_cell", 4)]) (N := nDeal) (sc := defScope sDeal) (by decide +kernel)) (fun _ _ _ _ _ => pg_name (i := 4) scDeal.nd rfl (Or.inl rfl))
          (fun _ _ _ _ _ => pts_one (pt_cmpR op_ge (pv 4) (pe_op op_pow pe_int pe_int) (nomark _))) (fun _ _ _ _ _ => pv 4))) (pa_cons (pv 3) pa_nil)))))), ?_⟩
    -- cells
    refine ⟨_, rfl, _, rfl, _, rfl, _, rfl, a, _, rfl, hS, fun p1 u1 => ?_⟩
    obtain ⟨ms, ecut, lms⟩ := cut_ints ns (some b) (some 61)
    rw [ecut]
    have s1 : Same H (upd H p1 (.lst (ms.map V.int))) := same_new u1
    refine ⟨p1, rfl, ⟨_, SqL.of upd_same⟩, fun c u2 => ?_⟩
    have few : (ms.map V.int).length ≤ 100000 := by rw [List.length_map]; omega
    have u2' : H c = none := s1.free u2
    refine lc_of_list ((ms.map V.int).map fun x => some (magV x)) (SqL.of upd_same) u2 (turns_map magV few fun x H2 Q2 hx _ q => ?_) mono_yes fun H2 s2 h2 => ?_
    · obtain ⟨n, _, rfl⟩ := mem_ints hx
      exact ⟨_, rfl, .inl ⟨n, rfl, n, rfl, q _ (Same.refl _)⟩⟩
    rw [out_map, magV_map] at h2
    have s12 := s1.trans s2
    -- mixed
    refine ⟨_, rfl, _, _, rfl, rfl, .inl ⟨by decide, by decide⟩, _, _, rfl, rfl, ?_⟩
    refine ⟨_, _, rfl, ?_⟩
    dsimp only [gName, tNil]
    -- the loop
    refine seq_cut (fun σ1 H3 => ∃ m v, σ1 = [some (.ref a), some (.int b), some (.ref c), some (.int m), v] ∧ H3 = H2 ∧ 0 ≤ m ∧ m < 2147483647) ?after fun after => ?loop
    case loop =>
      refine ⟨_, rfl, c, rfl, ⟨_, SqL.of h2⟩, for_list (K := K) (a := c) (xs := (ms.map mag).map V.int) (fun i σ1 H3 => ∃ m v, σ1 = [some (.ref a), some (.int b), some (.ref c), some (.int m), v] ∧ H3 = H2 ∧ 0 ≤ m ∧ m < 2147483647)
        ⟨_, _, rfl, rfl, by omega, by omega⟩ (fun i σ1 H3 _ ⟨m, v, _, e3, _⟩ => by rw [e3]; exact SqL.of h2) ?_ (fun σ1 H3 q => after σ1 H3 q)⟩
      rintro i x σ1 H3 hx ⟨m, v, rfl, rfl, m0, _⟩
      obtain ⟨n, _, rfl⟩ := mem_ints (List.mem_of_getElem? hx)
      refine ⟨_, rfl, _, _, rfl, rfl, .inr ⟨by decide, by decide⟩, _, rfl, .inl ⟨n, rfl, _, _, rfl, rfl, (by show (0 : Int) < 2147483587; decide), _, _, rfl, rfl, _, _, rfl, rfl, .inl ⟨_, rfl, _, _, rfl, rfl, (by show (0 : Int) < 2147483647; decide), ?_⟩⟩⟩
      exact ⟨_, _, rfl, rfl, Int.emod_nonneg _ (by decide), Int.emod_lt_of_pos _ (by decide)⟩
    case after =>
      rintro _ _ ⟨m, v, rfl, rfl, m0, m1⟩
      -- the great ones
      refine ⟨_, rfl, c, rfl, ⟨_, SqL.of h2⟩, fun g u3 => ?_⟩
      have few2 : ((ms.map mag).map V.int).length ≤ 100000 := by rw [List.length_map, List.length_map]; omega
      refine lc_of_list (((ms.map mag).map V.int).map bigV) (SqL.of h2) u3 ⟨by simp, few2, fun j x y H3 Q3 hx hy _ q => ?_, fun j x H3 hx hy _ => ?_⟩ (mono_test (mono_op mono_rI0 mono_var (mono_op mono_rI mono_c mono_c))) fun H3 s3 h3 => ?_
      · obtain ⟨n, _, rfl⟩ := mem_ints (List.mem_of_getElem? hx)
        rw [List.getElem?_map, hx] at hy
        have hy : bigV (.int n) = some y := by simpa using hy
        refine ⟨_, rfl, _, _, rfl, rfl, ⟨by decide, by decide, by decide⟩, _, _, rfl, rfl, _, rfl, ?_⟩
        by_cases z : decide ((10 : Int) ^ (18 : Int).toNat ≤ n) = true
        · rw [show bigV (.int n) = some (.int n) from if_pos z] at hy
          cases hy
          exact ⟨z, Same.refl _, _, rfl, q _ (Same.refl _)⟩
        · rw [show bigV (.int n) = none from if_neg z] at hy
          cases hy
      · obtain ⟨n, _, rfl⟩ := mem_ints (List.mem_of_getElem? hx)
        rw [List.getElem?_map, hx] at hy
        have hy : bigV (.int n) = none := by simpa using hy
        refine ⟨_, rfl, _, _, rfl, rfl, ⟨by decide, by decide, by decide⟩, _, _, rfl, rfl, _, rfl, ?_⟩
        by_cases z : decide ((10 : Int) ^ (18 : Int).toNat ≤ n) = true
        · rw [show bigV (.int n) = some (.int n) from if_pos z] at hy
          cases hy
        · exact ⟨by simpa using z, Same.refl _⟩
      rw [big_out] at h3
      refine ⟨g, _, rfl, SqL.of h3, fun l u4 => ?_⟩
      refine ⟨_, rfl, (by show 2 ≤ sizeLine; decide), fun d u5 => ?_⟩
      have nl : l ≠ d := fun z => by rw [z, upd_same] at u5; cases u5
      have s4 := s12.trans s3
      have u4' : H l = none := s4.free u4
      have u5' : H d = none := by rw [upd_ne nl.symm] at u5; exact s4.free u5
      refine fin _ d l ⟨fun p o e => ?_, u5', u4', nl, ((ms.map mag).filter fun i => decide ((10 : Int) ^ (18 : Int).toNat ≤ i)).reverse, m, upd_same, ?_, ?_, fun n hn => ?_, m0, m1⟩
      · rw [upd_ne (ne_of_none e u5'), upd_ne (ne_of_none e u4')]
        exact s4 _ _ e
      · rw [upd_ne nl, upd_same, List.map_reverse]
      · rw [List.length_reverse]
        have := List.length_filter_le (fun i => decide ((10 : Int) ^ (18 : Int).toNat ≤ i)) (ms.map mag)
        rw [List.length_map] at this
        omega
      · obtain ⟨i, _, rfl⟩ := List.mem_map.mp (List.mem_filter.mp (List.mem_reverse.mp hn)).1
        exact mag_nn i

/-! ### a pick -/
theorem scPick : FnScope ["_law_deal_here", "_law_some"] ["_law_deal_here", "_law_some"] (defScope sPick) := ⟨rfl, rfl, rfl, by decide +kernel, rfl, by decide +kernel, by decide +kernel⟩
theorem ok_pick {f fD : Addr} {fd fdD : FuncData} (F : Fun K "_law_pick" "_law_pick" sPick f fd) (FD : Fun K "_law_draw" "_law_draw" sDraw fD fdD) (tD : mg "_law_draw" = some (.ref fD)) (bD : Binds K fdD ["_law_deal_here", "_law_many"] [])
    (tI : mg "int" = none) (tL : mg "len" = none) : FnOk P w K mg base CX0 2 f fd ["_law_deal_here", "_law_some"] (spPick K) := by
  have GD : FnOk P w K mg base CX0 1 fD fdD ["_law_deal_here", "_law_many"] spDraw := ok_draw FD tI
  refine F.ok scPick (fun vs H Q E h => ?_) (fun cdv A outer s H vs Q E hr h => ?_)
  · obtain ⟨G, d, l, a, xs, rfl, _⟩ := h
    rfl
  · obtain ⟨G, d, l, a, xs, rfl, D, hS, ne, few, fin⟩ := h
    refine ⟨_, pss_one (ps_ret (pe_ix ix_list (pv 1) (pe_call GD hr rfl tD FD.kp bD .nil pass0 (pa_cons (pv 0) (pa_cons (pe_callB call_len (by rfl) tL PySem.boot_len (pa_cons (pv 1) pa_nil)) pa_nil))) (fun _ _ => rfl))), ?_⟩
    have hS1 : SqL K H a xs := D.same.seq hS
    have pos : 0 < xs.length := List.length_pos_iff.mpr ne
    refine ⟨_, rfl, _, rfl, _, rfl, _, _, rfl, .inl ⟨_, hS1, rfl⟩, G, d, l, _, rfl, D, by omega, by omega, fun H' r D' r0 r1 => ?_⟩
    obtain ⟨x, hx, ex⟩ := at_int r0 r1
    exact ⟨a, _, r, x, rfl, rfl, D'.same.seq hS, ex, fin H' x D' hx⟩
end
end K2

set_option Elab.async false
set_option linter.all false
set_option maxRecDepth 100000
set_option maxHeartbeats 4000000
namespace Lw
open PySem PySem.Spec PyProof.Rows L2
theorem upd_swap {H : Hp} {p q : Addr} {o u : HO} (h : p ≠ q) : upd (upd H p o) q u = upd (upd H q u) p o := by
  funext b
  by_cases h1 : b = q
  · subst h1
    rw [upd_same, upd_ne h.symm, upd_same]
  · rw [upd_ne h1]
    by_cases h2 : b = p
    · subst h2
      rw [upd_same, upd_same]
    · rw [upd_ne h2, upd_ne h2, upd_ne h1]
/-- two lists that are being changed, beside the deal -/
structure Two (G H : Hp) (d l p q : Addr) (xs ys : List V) : Prop where
  dl : Deal (upd (upd G p (.lst xs)) q (.lst ys)) H d l
  ne : p ≠ q
  gp : G p = none
  gq : G q = none
theorem Two.at1 {G H : Hp} {d l p q : Addr} {xs ys : List V} (t : Two G H d l p q xs ys) : H p = some (.lst xs) := t.dl.same _ _ (by rw [upd_ne t.ne]; exact upd_same)
theorem Two.at2 {G H : Hp} {d l p q : Addr} {xs ys : List V} (t : Two G H d l p q xs ys) : H q = some (.lst ys) := t.dl.same _ _ upd_same
theorem Two.put1 {G H : Hp} {d l p q : Addr} {xs ys : List V} (t : Two G H d l p q xs ys) (zs : List V) : Two G (upd H p (.lst zs)) d l p q zs ys := by
  refine ⟨?_, t.ne, t.gp, t.gq⟩
  have z := t.dl
  rw [upd_swap t.ne] at z ⊢
  exact Deal.over z
theorem Two.put2 {G H : Hp} {d l p q : Addr} {xs ys : List V} (t : Two G H d l p q xs ys) (zs : List V) : Two G (upd H q (.lst zs)) d l p q xs zs := ⟨Deal.over t.dl, t.ne, t.gp, t.gq⟩
theorem Two.deal {G H H' : Hp} {d l p q : Addr} {xs ys : List V} (t : Two G H d l p q xs ys) (D : Deal (upd (upd G p (.lst xs)) q (.lst ys)) H' d l) : Two G H' d l p q xs ys := ⟨D, t.ne, t.gp, t.gq⟩
theorem Two.first {G H : Hp} {d l p q : Addr} {xs ys : List V} (D : Deal G H d l) (hp : H p = none) (hq : (upd H p (.lst xs)) q = none) : Two G (upd (upd H p (.lst xs)) q (.lst ys)) d l p q xs ys := by
  have ne : p ≠ q := fun z => by rw [← z, upd_same] at hq; cases hq
  have hq' : H q = none := by rwa [upd_ne ne.symm] at hq
  exact ⟨(D.put hp).put hq, ne, D.same.free hp, D.same.free hq'⟩
/-- only q is new -/
theorem Two.news {G H : Hp} {d l p q : Addr} {xs ys : List V} (t : Two G H d l p q xs ys) : News G H (upd (upd G p (.lst xs)) q (.lst ys)) (upd (fun _ => none) q (.lst ys)) d l := by
  refine ⟨t.dl, fun b o e => ?_, fun b o e => ?_, fun b o e => ?_⟩
  · rw [upd_ne (ne_of_none e t.gq), upd_ne (ne_of_none e t.gp)]
    exact e
  · by_cases h : b = q
    · subst h
      rw [upd_same] at e ⊢
      exact e
    · rw [upd_ne h] at e
      cases e
  · by_cases h : b = q
    · rw [h]
      exact t.gq
    · rw [upd_ne h] at e
      cases e
/-- the promise of a mixed list -/
def spMixed (K : PySem.W.Frag) : Sp := fun vs H Q _ => ∃ (G : Hp) (d l a : Addr) (xs : List V), vs = [.ref d, .ref a] ∧ Deal G H d l ∧ SqL K G a xs ∧ xs.length ≤ 1000 ∧
  ∀ (G' H' N : Hp) (p : Addr) (ys : List V), News G H' G' N d l → N p = some (.lst ys) → ys.Perm xs → Q (.ref p) H'
theorem perm_pop {xs : List V} {k : Nat} {y : V} (h : xs[k]? = some y) : (xs.eraseIdx k ++ [y]).Perm xs := by
  induction xs generalizing k with
  | nil => simp at h
  | cons x r ih =>
    cases k with
    | zero =>
      obtain rfl : x = y := by simpa using h
      rw [List.eraseIdx_cons_zero]
      exact List.perm_append_comm
    | succ k =>
      rw [List.eraseIdx_cons_succ, List.cons_append]
      exact (ih (by simpa using h)).cons x
end Lw
namespace K2
open PySem L2 Lw
section
variable {P : Program} {w : World} {K : PySem.W.Frag} {mg : Str → Option Value} {base : Heap}
abbrev nMixed : List Str := ["_law_deal_here", "_law_some", "_law_left", "_law_found", "_law_turn"]
theorem scMixed : FnScope nMixed ["_law_deal_here", "_law_some"] (defScope sMixed) := ⟨rfl, rfl, rfl, by decide +kernel, rfl, by decide +kernel, by decide +kernel⟩
theorem ok_mixed {f fD : Addr} {fd fdD : FuncData} (F : Fun K "_law_mixed" "_law_mixed" sMixed f fd) (FD : Fun K "_law_draw" "_law_draw" sDraw fD fdD) (tD : mg "_law_draw" = some (.ref fD)) (bD : Binds K fdD ["_law_deal_here", "_law_many"] [])
    (tI : mg "int" = none) (tL : mg "len" = none) (tLi : mg "list" = none) (tR : mg "range" = none) : FnOk P w K mg base CX0 2 f fd ["_law_deal_here", "_law_some"] (spMixed K) := by
  have GD : FnOk P w K mg base CX0 1 fD fdD ["_law_deal_here", "_law_many"] spDraw := ok_draw FD tI
  refine F.ok scMixed (fun vs H Q E h => ?_) (fun cdv A outer s H vs Q E hr h => ?_)
  · obtain ⟨G, d, l, a, xs, rfl, _⟩ := h
    rfl
  · obtain ⟨G, d, l, a, xs, rfl, D, hS, few, fin⟩ := h
    refine ⟨_, pss_cons (ps_par (i := 2) (j := 3) (by rfl) scMixed.nd rfl rfl (by decide) rfl rfl (pa_cons (pe_callTy call_list_of (by rfl) tLi PyProof.Rows.boot_list (pa_cons (pv 1) pa_nil)) (pa_cons (pe_lst pa_nil) pa_nil)) (by rfl))
      (pss_cons (ps_for PassesOwn.never rfl (pi_range1 rfl tR (pa_cons (pe_callB call_len_seq (by rfl) tL PySem.boot_len (pa_cons (pv 2) pa_nil)) pa_nil)) (pg_name (i := 4) scMixed.nd rfl (Or.inl rfl))
        (pss_one (ps_expr (pe_bm PySem.F.plainAttrs_list PySem.F.slot_list_append PySem.F.type_list_append mt_append (pv 3) (pa_cons (pe_bm PySem.F.plainAttrs_list PySem.F.slot_list_pop PySem.F.type_list_pop mt_popAt (pv 2)
          (pa_cons (pe_call GD hr rfl tD FD.kp bD .nil pass0 (pa_cons (pv 0) (pa_cons (pe_callB call_len_seq (by rfl) tL PySem.boot_len (pa_cons (pv 2) pa_nil)) pa_nil))) pa_nil)) pa_nil)))))
      (pss_one (ps_ret (pv 3)))), ?_⟩
    refine ⟨_, rfl, a, xs, rfl, .inl (D.same.seq hS), fun p up => ⟨(by show 0 ≤ sizeLine; decide), fun q uq => ⟨_, _, rfl, ?_⟩⟩⟩
    have T0 := Two.first (xs := xs) (ys := []) D up uq
    refine ⟨_, rfl, p, xs, rfl, .inl (SqL.of T0.at1), _, rfl, by omega, by omega, for_range (lo := 0) (fun i σ1 H1 => ∃ (ls fs : List V) (v : Option V), σ1 = [some (.ref d), some (.ref a), some (.ref p), some (.ref q), v] ∧ Two G H1 d l p q ls fs ∧ (fs ++ ls).Perm xs ∧ ls.length + i = xs.length)
      ⟨xs, [], _, rfl, T0, List.Perm.refl _, by simp⟩ ?_ ?_⟩
    · rintro i _ H1 hi ⟨ls, fs, v, rfl, T1, pm, len⟩
      refine ⟨_, rfl, .inl ⟨rfl, _, SqL.of T1.at2⟩, _, rfl, .inl ⟨rfl, _, SqL.of T1.at1⟩, _, rfl, _, rfl, p, ls, rfl, .inl (SqL.of T1.at1), _, d, l, _, rfl, T1.dl, by omega, by omega, fun H2 r D2 r0 r1 => ?_⟩
      have T2 := T1.deal D2
      have hix : ixN ls.length r = some r.toNat := by
        unfold ixN
        rw [if_pos r0, if_pos r1]
      obtain ⟨sx, lt, _, _⟩ := ixN_seq hix
      have hy : ls[r.toNat]? = some ls[r.toNat] := List.getElem?_eq_getElem lt
      have pl := pm.length_eq
      rw [List.length_append] at pl
      refine ⟨p, ls, r, r.toNat, _, rfl, rfl, T2.at1, by omega, by omega, sx, hy, ?_⟩
      have T3 := T2.put1 (ls.eraseIdx r.toNat)
      refine ⟨q, fs, _, rfl, rfl, T3.at2, Nat.lt_of_le_of_lt (show fs.length ≤ 1000 by omega) (by decide), ?_⟩
      have T4 := T3.put2 (fs ++ [ls[r.toNat]])
      refine ⟨ls.eraseIdx r.toNat, fs ++ [ls[r.toNat]], _, rfl, T4, ?_, ?_⟩
      · rw [List.append_assoc]
        exact ((List.perm_append_comm.trans (perm_pop hy)).append_left fs).trans pm
      · rw [List.length_eraseIdx, if_pos lt]
        omega
    · rintro _ H1 ⟨ls, fs, v, rfl, T1, pm, len⟩
      have e : ls = [] := by
        have : ls.length = 0 := by
          have := len
          omega
        exact List.length_eq_zero_iff.mp this
      subst e
      rw [List.append_nil] at pm
      exact ⟨_, rfl, fin _ H1 _ q fs T1.news upd_same pm⟩
end
end K2

set_option Elab.async false
set_option linter.all false
set_option maxRecDepth 100000
set_option maxHeartbeats 1000000
namespace Lw
open PySem PySem.Spec PyProof.Rows L2
/-! comprehensions over data -/
theorem hard_upd {H : Hp} {D : Addr} {xs : List V} {o : HO} (h : H D = some (.lst xs)) : Same (hard H) (upd H D o) := fun b u e => by
  have ne : b ≠ D := fun z => by rw [z, hard_lst h] at e; cases e
  rw [upd_ne ne]
  exact hard_sub b u e
theorem noLs_of {α : Type} {g : α → PyData} : ∀ {as : List α}, (∀ a ∈ as, noL (g a) = true) → noLs (as.map g) = true
  | [], _ => rfl
  | a :: as, h => by
    rw [List.map_cons, noLs, h a List.mem_cons_self, Bool.true_and]
    exact noLs_of fun x hx => h x (List.mem_cons_of_mem _ hx)
theorem dat_J {K : PySem.W.Frag} {α : Type} {H1 : Hp} {p D : Addr} {vs : List Nat} {gT : TG} {σ : L2.St} {xs : List V} {as : List α} {e : α → PyData} {J : L2.It} {Qd : Hp → Prop} {tt : TT} {te : TE} (c : α → Bool) (g : α → PyData)
    (hJ : JA K H1 p xs J) (hR : DpAll K H1 xs (as.map e)) (few : as.length ≤ 1000) (un : H1 D = none) (nl : ∀ a ∈ as, noL (g a) = true)
    (turn : ∀ (x : V) (a : α) (H : Hp) (Y : VK) (N : Hp → Prop), a ∈ as → Dp K H x (e a) → Same H1 H → (c a = true → ∀ H' v, Same H H' → Dp K H' v (g a) → Y v H') → (c a = false → ∀ H', Same H H' → N H') →
      gT x (wipe σ vs) H fun σ2 H2 => wipe σ2 vs = wipe σ vs ∧ tt σ2 H2 fun b H3 => if b = true then te σ2 H3 Y else N H3)
    (fin : ∀ H' acc, Same H1 H' → H' D = some (.lst acc) → DpAll K H' acc ((as.filter c).map g) → Qd H') :
    ∃ W : Nat → Nat → Hp → Prop, (∃ m, W 0 m (upd H1 D (.lst []))) ∧ ∀ i' m H, W i' m H →
      (J.stop i' H ∧ Qd H) ∨ (J.go i' H ∧ ∃ Nx : Hp → Prop, (∀ H', Nx H' → ∃ m', m' < m ∧ W (i' + 1) m' H') ∧ ∀ x H', J.yld i' H x H' → gT x (wipe σ vs) H' fun σ2 H2 => wipe σ2 vs = wipe σ vs ∧ tt σ2 H2 fun b H3 =>
        if b = true then te σ2 H3 fun y H4 => ∃ acc, H4 D = some (.lst acc) ∧ acc.length < sizeLine ∧ Nx (upd H4 D (.lst (acc ++ [y]))) else Nx H3) := by
  have len : xs.length = as.length := by rw [dpAll_len hR, List.length_map]
  have go : ∀ (j : Nat) (x : V) (H : Hp), xs[j]? = some x → (Same H1 H ∧ ∃ acc, H D = some (.lst acc) ∧ DpAll K H acc (((as.take j).filter c).map g)) →
      gT x (wipe σ vs) H fun σ2 H2 => wipe σ2 vs = wipe σ vs ∧ tt σ2 H2 fun b H3 =>
        if b = true then te σ2 H3 fun y H4 => ∃ acc, H4 D = some (.lst acc) ∧ acc.length < sizeLine ∧ (Same H1 (upd H4 D (.lst (acc ++ [y]))) ∧ ∃ ac2, (upd H4 D (.lst (acc ++ [y]))) D = some (.lst ac2) ∧ DpAll K (upd H4 D (.lst (acc ++ [y]))) ac2 (((as.take (j + 1)).filter c).map g))
        else (Same H1 H3 ∧ ∃ acc, H3 D = some (.lst acc) ∧ DpAll K H3 acc (((as.take (j + 1)).filter c).map g)) := by
    rintro j x H hx ⟨s1, acc, hD, hacc⟩
    obtain ⟨d, ed, hd⟩ := dpAll_at hR hx
    rw [List.getElem?_map] at ed
    obtain ⟨a, ea, rfl⟩ := Option.map_eq_some_iff.mp ed
    have hm := List.mem_of_getElem? ea
    have tk : as.take (j + 1) = as.take j ++ [a] := by rw [List.take_add_one, ea]; rfl
    refine turn x a H _ _ hm (dp_same s1 _ _ hd) s1 (fun ec H4 v s4 hv => ?_) fun ec H3 s3 => ?_
    · have h4 := s4 _ _ hD
      have acl : acc.length ≤ as.length := by
        rw [dpAll_len hacc, List.length_map]
        have a1 := List.length_filter_le c (as.take j)
        have a2 := List.length_take_le j as
        have a3 : (as.take j).length ≤ as.length := by rw [List.length_take]; omega
        omega
      have nl1 : noLs (((as.take j).filter c).map g) = true := noLs_of fun z hz => nl z (List.mem_of_mem_take (List.mem_filter.mp hz).1)
      have k1 := dpAll_same (hard_upd (o := .lst (acc ++ [v])) h4) _ _ (dpAll_hard _ _ nl1 (dpAll_same s4 _ _ hacc))
      have k2 := dp_same (hard_upd (o := .lst (acc ++ [v])) h4) _ _ (dp_hard _ _ (nl a hm) hv)
      refine ⟨acc, h4, Nat.lt_of_le_of_lt (show acc.length ≤ 1000 by omega) (by decide), fun b o eb => ?_, acc ++ [v], upd_same, ?_⟩
      · rw [upd_ne (ne_of_none eb un)]
        exact s4 _ _ (s1 _ _ eb)
      · rw [tk, List.filter_append, List.map_append]
        have e1 : [a].filter c = [a] := by simp [ec]
        rw [e1]
        exact dpAll_app k1 (.cons k2 .nil)
    · refine ⟨s1.trans s3, acc, s3 _ _ hD, ?_⟩
      rw [tk, List.filter_append]
      have e1 : [a].filter c = [] := by simp [ec]
      rw [e1, List.append_nil]
      exact dpAll_same s3 _ _ hacc
  have zero : Same H1 (upd H1 D (.lst [])) ∧ ∃ acc, (upd H1 D (.lst [])) D = some (.lst acc) ∧ DpAll K (upd H1 D (.lst [])) acc (((as.take 0).filter c).map g) := ⟨same_new un, [], upd_same, .nil⟩
  have last : ∀ H, (Same H1 H ∧ ∃ acc, H D = some (.lst acc) ∧ DpAll K H acc (((as.take xs.length).filter c).map g)) → Qd H := by
    rintro H ⟨s, acc, hD, ha⟩
    rw [len, List.take_length] at ha
    exact fin H acc s hD ha
  cases hJ with
  | l hl => exact lc_list (K := K) (a := p) (xs := xs) (fun j H => Same H1 H ∧ ∃ acc, H D = some (.lst acc) ∧ DpAll K H acc (((as.take j).filter c).map g)) zero (fun j H _ q => q.1.seq hl) (fun j x H hx q => go j x H hx q) last
  | t hl => exact lc_tup (K := K) (a := p) (xs := xs) (fun j H => Same H1 H ∧ ∃ acc, H D = some (.lst acc) ∧ DpAll K H acc (((as.take j).filter c).map g)) zero (fun j H _ q => same_tup q.1 hl) (fun j x H hx q => go j x H hx q) last
/-- texts among data -/
theorem dp_strs {K : PySem.W.Frag} {H : Hp} : ∀ {xs : List V} {zs : List Str}, DpAll K H xs (zs.map PyData.str) → xs = zs.map V.str
  | [], [], _ => rfl
  | [], _ :: _, h => by cases h
  | x :: xs, z :: zs, h => by
    cases h with
    | cons a r =>
      cases a
      rw [List.map_cons, dp_strs r]
  | x :: xs, [], h => by cases h
theorem line_noL (r : Row0) : noL (lineD r) = true := by
  cases r with
  | ask p n ws =>
    show noLs [.str "ask", .str p, .str n, .tuple (ws.map wayD)] = true
    simp only [noLs, noL, ways_noL, Bool.and_true]
  | note p w t => rfl
  | gate p m n e => rfl
  | end_ p => rfl
/-! ### what stands beside a deal -/
theorem Deal.apart {G H : Hp} {d l L : Addr} (D : Deal G H d l) (u : H L = none) : L ≠ d ∧ L ≠ l := by
  obtain ⟨ns, m, a⟩ := D.it
  exact ⟨fun e => (by rw [e, a.hd] at u; cases u), fun e => (by rw [e, a.hl] at u; cases u)⟩
theorem Deal.grab {G H : Hp} {d l L : Addr} {o : HO} (D : Deal G H d l) (h : H L = some o) (n : L ≠ d ∧ L ≠ l) : Deal (upd G L o) H d l ∧ Same G (upd G L o) := by
  obtain ⟨ns, m, a⟩ := D.it
  refine ⟨⟨fun b u e => ?_, by rw [upd_ne n.1.symm]; exact D.gd, by rw [upd_ne n.2.symm]; exact D.gl, D.ne, ns, m, a⟩, fun b u e => ?_⟩
  · by_cases q : b = L
    · subst q
      rw [upd_same] at e
      rw [h, ← e]
    · rw [upd_ne q] at e
      exact D.same b u e
  · by_cases q : b = L
    · subst q
      rw [upd_same, ← h, D.same b u e]
    · rw [upd_ne q]
      exact e
theorem str_mem {x : V} {zs : List PySem.Str} (h : x ∈ zs.map V.str) : ∃ z, z ∈ zs ∧ x = V.str z := by
  obtain ⟨z, hz, e⟩ := List.mem_map.mp h
  exact ⟨z, hz, e.symm⟩
theorem Deal.lay {G H : Hp} {d l L : Addr} (D : Deal G H d l) (u : H L = none) (o : HO) : ∃ G1 H1 : Hp, H1 = upd H L o ∧ Deal G1 H1 d l ∧ G1 L = some o ∧ Same G G1 ∧ Same H H1 := ⟨_, _, rfl, D.put u, upd_same, same_new (D.same.free u), same_new u⟩
theorem cut_strs (zs : List PySem.Str) (hi : Option Int) : ∃ k, cutV (zs.map V.str) none hi = (zs.take k).map V.str := by
  unfold cutV
  rw [HT.sIx_none, List.drop_zero]
  exact ⟨_, (List.map_take ..).symm⟩
/-- a list of the base written anew -/
theorem Deal.edit {G H : Hp} {d l F : Addr} {o u : HO} (D : Deal G H d l) (h : G F = some u) : Deal (upd G F o) (upd H F o) d l := by
  have nd : d ≠ F := fun e => by have := D.gd; rw [e, h] at this; cases this
  have nl : l ≠ F := fun e => by have := D.gl; rw [e, h] at this; cases this
  obtain ⟨ns, m, a⟩ := D.it
  refine ⟨fun b v e => ?_, by rw [upd_ne nd]; exact D.gd, by rw [upd_ne nl]; exact D.gl, D.ne, ns, m, ⟨by rw [upd_ne nd]; exact a.hd, by rw [upd_ne nl]; exact a.hl, a.len, a.nn, a.m0, a.m1⟩⟩
  by_cases q : b = F
  · subst q
    rw [upd_same] at e ⊢
    exact e
  · rw [upd_ne q] at e ⊢
    exact D.same b v e
theorem same_edit {G0 G : Hp} {F : Addr} {o : HO} (s : Same G0 G) (n : G0 F = none) : Same G0 (upd G F o) := fun b u e => by
  have q : b ≠ F := fun z => by rw [z, n] at e; cases e
  rw [upd_ne q]
  exact s b u e
theorem for_enumL {K : PySem.W.Frag} {a : Addr} {xs : List V} {σ : L2.St} {H : Hp} {g : TG} {t : TS} {D : Ends} (Pv : Nat → L2.St → Hp → Prop) (h0 : Pv 0 σ H) (keep : ∀ i σ' H', Pv i σ' H' → SqL K H' a xs)
    (turn : ∀ i x σ' H' T, xs[i]? = some x → Pv i σ' H' → H' T = none → g (.ref T) σ' (upd H' T (.tup [.int (i : Nat), x])) fun σ2 H2 => t { D with nx := Pv (i + 1), ct := Pv (i + 1), bk := D.nx } σ2 H2) (done : ∀ σ' H', Pv xs.length σ' H' → D.nx σ' H') :
    ∃ W : Nat → Nat → L2.St → Hp → Prop, (∃ m, W 0 m σ H) ∧ ∀ i m σ H, W i m σ H →
      ((Ite K a).stop i H ∧ D.nx σ H) ∨ ((Ite K a).go i H ∧ ∃ N : L2.St → Hp → Prop, (∀ σ' H', N σ' H' → ∃ m', m' < m ∧ W (i + 1) m' σ' H') ∧ ∀ x H', (Ite K a).yld i H x H' → g x σ H' fun σ2 H2 => t { D with nx := N, ct := N, bk := D.nx } σ2 H2) := by
  refine ⟨fun j m s' h' => m = xs.length - j ∧ j ≤ xs.length ∧ Pv j s' h', ⟨xs.length, (Nat.sub_zero _).symm, Nat.zero_le _, h0⟩, ?_⟩
  intro j m s' h' hw
  obtain ⟨em, jle, pj⟩ := hw
  have src : SqL K h' a xs := keep j s' h' pj
  rcases Nat.lt_or_ge j xs.length with jlt | jge
  · refine .inr ⟨⟨xs, xs[j], src, List.getElem?_eq_getElem jlt⟩, Pv (j + 1), fun s2 h2 p2 => ⟨xs.length - (j + 1), by omega, rfl, jlt, p2⟩, ?_⟩
    rintro x h2 ⟨T, y, rfl, hT, rfl, look⟩
    exact turn j y s' h' T (look xs src) pj hT
  · obtain rfl : j = xs.length := Nat.le_antisymm jle jge
    exact .inl ⟨⟨xs, src, Nat.le_refl _⟩, done s' h' pj⟩
theorem cut_upto (zs : List PySem.Str) (k : Nat) : cutV (zs.map V.str) none (some (k : Int)) = (zs.take k).map V.str := by
  unfold cutV
  rw [HT.sIx_none, List.drop_zero, HT.sIx_nat, Nat.sub_zero, List.length_map, List.map_take]
  rcases Nat.le_total k zs.length with h | h
  · rw [Nat.min_eq_left h]
  · rw [Nat.min_eq_right h, List.take_of_length_le (by rw [List.length_map]; exact Nat.le_refl _), List.take_of_length_le (by rw [List.length_map]; exact h)]
theorem cut_init (zs : List PySem.Str) : cutV (zs.map V.str) none (some (-1)) = (zs.take (zs.length - 1)).map V.str := by
  unfold cutV
  have e : HT.sIx (zs.map V.str).length (zs.map V.str).length (some (-1)) = zs.length - 1 := by
    show (if (-1 : Int) < 0 then ((-1 : Int) + ((zs.map V.str).length : Int)).toNat else min (-1 : Int).toNat (zs.map V.str).length) = _
    rw [if_pos (by decide), List.length_map]
    omega
  rw [HT.sIx_none, List.drop_zero, e, Nat.sub_zero, List.map_take]
end Lw

set_option Elab.async false
set_option linter.all false
set_option maxRecDepth 100000
set_option maxHeartbeats 4000000
/-! t != u, both tuples whose items are equal one by one -/
namespace Lw
open PySem PySem.Spec PyProof.Rows L2
section
variable {prog : Program} {w : World} {A : Around} {R : Result → Shared → Prop}
theorem ne_body (l b : Addr) (as bs : Array Value) (n1 n2 : Nat) (da db : Option Addr) (sa sb : Array (Option Value)) (same : as.size = bs.size) (Pv : Nat → Shared → Prop)
    (step : ∀ j (ja : j < as.size) (jb : j < bs.size) st, Pv j st → wpAny (model prog w) A.in1 (eqBool as[j] bs[j]) (fun r st' => r = true ∧ Pv (j + 1) st') (fun er st' => R (.error er) st') st)
    (last : ∀ st, Pv as.size st → R (.ok (.ret (.bool false))) st) {st : Shared} (ha : st.heap.get? l = some { cls := .type "tuple", dict := da, data := .seq as n1, slots := sa }) (hb : st.heap.get? b = some { cls := .type "tuple", dict := db, data := .seq bs n2, slots := sb }) (h0 : Pv 0 st) :
    wpAny (model prog w) A.in1 (Builtin.«tuple.__ne__» ⟨[.ref l, .ref b], []⟩) (GQ.FinOf prog w A R) (fun er st' => R (.error er) st') st := by
  have sub := AutoSeq1.sub_tuple_tuple
  have len : (as.toList.zip bs.toList).length = as.size := by simp [same]
  have start := h0
  obtain ⟨hp, gs, dr, tk, os⟩ := st
  wp_walk using wpAny_loadPart' ha, wpAny_loadPart' hb, wpAny_forIn_list _ (fun left acc st' => acc.1 = none ∧ ∃ j, left = (as.toList.zip bs.toList).drop j ∧ j ≤ as.size ∧ Pv j st') _
  case turn =>
    rintro ⟨u, v⟩ left acc st' ⟨no, j, ez, jle, pj⟩
    have jz : j < (as.toList.zip bs.toList).length := Nat.lt_of_not_le fun hh => by rw [List.drop_of_length_le hh] at ez; cases ez
    have ja : j < as.size := len ▸ jz
    have jb : j < bs.size := same ▸ ja
    rw [List.drop_eq_getElem_cons jz] at ez
    obtain ⟨euv, eleft⟩ := List.cons.inj ez
    have eu : u = as[j] := by simpa using congrArg Prod.fst euv
    have ev : v = bs[j] := by simpa using congrArg Prod.snd euv
    subst eu
    subst ev
    refine wpAny_bind (wpAny_mono (step j ja jb st' pj) (fun r st2 hr => ?_) fun _ _ z => z)
    obtain ⟨er, pj2⟩ := hr
    subst er
    wp_walk
    exact ⟨rfl, _, eleft, ja, pj2⟩
  case fin =>
    rintro ⟨r1, r2⟩ st' ⟨no, j, ez, jle, pj⟩
    have no : r1 = none := no
    subst no
    have all : as.size ≤ j := Nat.le_of_not_lt fun hh => by
      rw [List.drop_eq_getElem_cons (len ▸ hh : j < (as.toList.zip bs.toList).length)] at ez
      cases ez
    obtain rfl : j = as.size := Nat.le_antisymm jle all
    have done := last st' pj
    wp_walk
    simpa [Builtin.Tuple.tupleCompareSizes, same] using done
  case h => exact ⟨rfl, 0, rfl, Nat.zero_le _, start⟩
theorem ne_tuples {E : Value → Shared → Prop} {st : Shared} {l b : Addr} {as bs : Array Value} {Q : Value → Shared → Prop} (same : as.size = bs.size) (hu : A.units < cLine) (Pv : Nat → Shared → Prop) (ha : st.heap.IsTuple l as) (hb : st.heap.IsTuple b bs)
    (step : ∀ j (ja : j < as.size) (jb : j < bs.size) s2, Pv j s2 → wpAny (model prog w) A.in1 (eqBool as[j] bs[j]) (fun r s3 => r = true ∧ Pv (j + 1) s3) E s2) (last : ∀ s2, Pv as.size s2 → Q (.bool false) s2) (h0 : Pv 0 st) :
    wpAny (model prog w) A (richCompare .NotEq (.ref l) (.ref b)) Q E st := by
  obtain ⟨⟨c1, d1, data1, sl1⟩, ga, rfl, n1, rfl⟩ := id ha
  obtain ⟨⟨c2, d2, data2, sl2⟩, gb, rfl, n2, rfl⟩ := id hb
  refine wpAny_richCompare_same_room (op := .NotEq) ⟨_, ga, rfl⟩ ⟨_, gb, rfl⟩ F.slot_tuple_ne (GQ.call_here F.slot_tuple_ne ⟨_, ga, rfl⟩ F.entry_tuple_ne (F.args_tuple_ne_2 _ _) ?_) hu
  exact ne_body (R := wants (fun v s' => v ≠ .notImplemented ∧ Q v s') E) l b as bs n1 n2 d1 d2 sl1 sl2 same Pv step (fun s2 q => ⟨nofun, last s2 q⟩) ga gb h0
end
section
variable {X : Cx} {n : Nat} {D : Eqv}
def rNeG (D : Eqv) : R2 := fun x y H Q => D x y H ∧ ∀ H', Ext H H' → Q (.bl false) H'
theorem op_neTup (hD : Mon D) (h : EqG X n D) (hr : Room (n + 1) X.A) : OpR X (compareOp .NotEq) (rNeG (DTup X.K D)) := by
  intro pins s σ H x y v u Q I rx ry hq
  obtain ⟨⟨l, b, xs, ys, rfl, rfl, hx, hy, p⟩, q⟩ := hq
  cases rx
  cases ry
  obtain ⟨its, r, e, z⟩ := I.tuple hx
  obtain ⟨its2, r2, e2, z2⟩ := I.tuple hy
  have hsz : its.toArray.size = its2.toArray.size := by rw [List.size_toArray, List.size_toArray, ← r.length, ← r2.length]; exact p.1
  have sb : L2.Sub X (n + 1) X.A := ⟨hr, rfl⟩
  show wpAny (model X.prog X.w) X.A (richCompare .NotEq (.ref l) (.ref b)) (EP X pins σ Q) X.xe s
  refine ne_tuples hsz sb.room.units0 (fun _ s' => LoopI X pins σ H s') e e2 (fun i h1 h2 s' q => turnG hD h sb p r r2 i h1 h2 s' q) (fun s' lp => ?_) ⟨H, I, Ext.rfl'⟩
  obtain ⟨H', I', ex⟩ := lp
  exact ⟨.bl false, H', I', rfl, q H' ex⟩
end
end Lw

set_option Elab.async false
set_option linter.all false
set_option maxRecDepth 100000
set_option maxHeartbeats 1000000
/-! parts of drawn editions (the draws `_law_lots`): what they are, how many rows they come to -/
namespace K2
open PySem L2 Lw
inductive Pt where
  | ask (s : Str) (k : Nat)
  | note (w : Str)
  | gate (m : Str) (a b : Option Str)
def optD : Option Str → PyData
  | none => .none
  | some z => .str z
def optV : Option Str → V
  | none => .non
  | some z => .str z
def partL : Pt → List PyData
  | .ask s k => [.str "ask", .str s, .int (k : Nat)]
  | .note w => [.str "note", .str w]
  | .gate m a b => [.str "mark", .str m, optD a, optD b]
def partD (p : Pt) : PyData := .tuple (partL p)
abbrev partsD (ps : List Pt) : PyData := .list (ps.map partD)
abbrev sorts5 : List Str := ["a", "b", "c", "d", "e"]
def Pt.Ok : Pt → Prop
  | .ask s k => s ∈ sorts5 ∧ k ≤ 2
  | .note w => w ∈ (["x", "y"] : List Str)
  | .gate m a b => m ∈ (["m", "n"] : List Str) ∧ (∀ z, a = some z → z ∈ sorts5) ∧ (∀ z, b = some z → z ∈ sorts5)
def moreP : Pt → Nat
  | .gate _ a b => (if a.isSome then 1 else 0) + (if b.isSome then 1 else 0)
  | _ => 0
/-- how many rows parts come to -/
def sizeP (ps : List Pt) : Nat := 1 + ps.length + (ps.map moreP).sum
theorem part_noL (p : Pt) : noL (partD p) = true := by
  cases p with
  | ask s k => rfl
  | note w => rfl
  | gate m a b => cases a <;> cases b <;> rfl
theorem dp_opt {K : PySem.W.Frag} {H : Hp} {v : V} {a : Option Str} (h : Dp K H v (optD a)) : v = optV a := by
  cases a with
  | none => cases h; rfl
  | some z => cases h; rfl
theorem opt_dp {K : PySem.W.Frag} {H : Hp} (a : Option Str) : Dp K H (optV a) (optD a) := by
  cases a with
  | none => exact .non
  | some z => exact .str z
theorem dp_str1 {K : PySem.W.Frag} {H : Hp} {v : V} {z : Str} (h : Dp K H v (.str z)) : v = .str z := by cases h; rfl
theorem dp_int1 {K : PySem.W.Frag} {H : Hp} {v : V} {i : Int} (h : Dp K H v (.int i)) : v = .int i := by cases h; rfl
theorem all_one {K : PySem.W.Frag} {H : Hp} {ys : List V} {d : PyData} {ds : List PyData} (h : DpAll K H ys (d :: ds)) : ∃ y zs, ys = y :: zs ∧ Dp K H y d ∧ DpAll K H zs ds := by
  cases h with
  | cons a b => exact ⟨_, _, rfl, a, b⟩
theorem all_nil {K : PySem.W.Frag} {H : Hp} {ys : List V} (h : DpAll K H ys []) : ys = [] := by
  cases h
  rfl
/-- the cells of a part -/
def cellsP : Pt → List V
  | .ask s k => [.str "ask", .str s, .int (k : Nat)]
  | .note w => [.str "note", .str w]
  | .gate m a b => [.str "mark", .str m, optV a, optV b]
def kindP : Pt → Str
  | .ask _ _ => "ask"
  | .note _ => "note"
  | .gate _ _ _ => "mark"
theorem cells_kindP : ∀ p : Pt, (cellsP p)[0]? = some (.str (kindP p))
  | .ask _ _ => rfl
  | .note _ => rfl
  | .gate _ _ _ => rfl
theorem part_cells {K : PySem.W.Frag} {H : Hp} {v : V} {p : Pt} (h : Dp K H v (partD p)) : ∃ t, v = .ref t ∧ SqT K H t (cellsP p) := by
  unfold partD at h
  cases h with
  | @tup t ys _ ht hys =>
    refine ⟨t, rfl, ?_⟩
    have e : ys = cellsP p := by
      cases p with
      | ask s k =>
        obtain ⟨y0, z0, rfl, h0, r0⟩ := all_one hys
        obtain ⟨y1, z1, rfl, h1, r1⟩ := all_one r0
        obtain ⟨y2, z2, rfl, h2, r2⟩ := all_one r1
        rw [all_nil r2, dp_str1 h0, dp_str1 h1, dp_int1 h2]
        rfl
      | note w =>
        obtain ⟨y0, z0, rfl, h0, r0⟩ := all_one hys
        obtain ⟨y1, z1, rfl, h1, r1⟩ := all_one r0
        rw [all_nil r1, dp_str1 h0, dp_str1 h1]
        rfl
      | gate m a b =>
        obtain ⟨y0, z0, rfl, h0, r0⟩ := all_one hys
        obtain ⟨y1, z1, rfl, h1, r1⟩ := all_one r0
        obtain ⟨y2, z2, rfl, h2, r2⟩ := all_one r1
        obtain ⟨y3, z3, rfl, h3, r3⟩ := all_one r2
        rw [all_nil r3, dp_str1 h0, dp_str1 h1, dp_opt h2, dp_opt h3]
        rfl
    rw [← e]
    exact ht
theorem part_dp {K : PySem.W.Frag} {H : Hp} {t : Addr} {p : Pt} (ht : SqT K H t (cellsP p)) : Dp K H (.ref t) (partD p) := by
  refine .tup ht ?_
  cases p with
  | ask s k => exact .cons (.str _) (.cons (.str _) (.cons (.int _) .nil))
  | note w => exact .cons (.str _) (.cons (.str _) .nil)
  | gate m a b => exact .cons (.str _) (.cons (.str _) (.cons (opt_dp a) (.cons (opt_dp b) .nil)))
def spSize (K : PySem.W.Frag) : Sp := fun vs H Q _ => ∃ (v : V) (ps : List Pt), vs = [v] ∧ Dp K H v (partsD ps) ∧ ps.length ≤ 100 ∧ ∀ H', Same H H' → Q (.int (sizeP ps : Nat)) H'
section
variable {P : Program} {w : World} {K : PySem.W.Frag} {mg : Str → Option Value} {base : Heap}
abbrev nSize : List Str := ["_law_parts", "_law_many", "_law_part", "_law_one"]
theorem scSize : FnScope nSize ["_law_parts"] (defScope sSize) := ⟨rfl, rfl, rfl, by decide +kernel, rfl, by decide +kernel, by decide +kernel⟩
theorem okSize {f : Addr} {fd : FuncData} (F : Fun K "_law_size" "_law_size" sSize f fd) (tLen : mg "len" = none) : FnOk P w K mg base CX0 1 f fd ["_law_parts"] (spSize K) := by
  refine F.ok scSize (fun vs H Q E h => ?_) (fun cdv A outer s H vs Q E hr h => ?_)
  · obtain ⟨v, ps, rfl, _⟩ := h
    rfl
  · obtain ⟨v, ps, rfl, hD, few, fin⟩ := h
    refine ⟨_, pss_cons (ps_set (i := 1) scSize.nd rfl (Or.inl rfl) (pe_op op_add pe_int (pe_callB call_len_seq (by rfl) tLen PySem.boot_len (pa_cons (pv 0) pa_nil))))
      (pss_cons (ps_for PassesOwn.never rfl (pi_list (pv 0)) (pg_name (i := 2) scSize.nd rfl (Or.inl rfl))
        (pss_one (ps_if (pt_cmpR op_eq (pe_ix ix_tup (pv 2) pe_int (fun _ _ => rfl)) pe_str (nomark _))
          (pss_one (ps_set (i := 1) scSize.nd rfl (Or.inl rfl) (pe_op op_add (pv 1) (pe_callB call_len_seq (by rfl) tLen PySem.boot_len (pa_cons (pe_lc (own := [("_law_one", 3)]) (g := gName 3) (tt := _) (te := tVar 3) (by rfl) scSize.nd (pi_tup (pe_slice sl_tup (pv 2) (po_some pe_int) po_none))
            (blkOk_by (own := [("_law_one", 3)]) (N := nSize) (sc := defScope sSize) (by decide +kernel)) (fun _ _ _ _ _ => pg_name (i := 3) scSize.nd rfl (Or.inl rfl)) (fun _ _ _ _ _ => pts_one (pt_cmpR op_notN (pv 3) pe_non rfl)) (fun _ _ _ _ _ => pv 3)) pa_nil)))))
          pss_nil)))
      (pss_one (ps_ret (pv 1)))), ?_⟩
    cases hD with
    | @lst p xs _ hs hx0 =>
    have xl : xs.length = ps.length := by rw [dpAll_len hx0, List.length_map]
    refine ⟨_, rfl, p, xs, rfl, .inl hs, _, _, rfl, rfl, ?_⟩
    refine ⟨_, rfl, p, rfl, ⟨_, hs⟩, for_list (K := K) (a := p) (xs := xs) (fun i σ1 H1 => ∃ v, σ1 = [some (.ref p), some (.int (1 + xs.length + ((ps.take i).map moreP).sum : Nat)), v, none] ∧ Same H H1)
      ⟨none, rfl, Same.refl _⟩ (fun i σ1 H1 _ ⟨v, _, s1⟩ => s1.seq hs) ?_ ?_⟩
    · rintro i x _ H1 hx ⟨v, rfl, s1⟩
      obtain ⟨dd, ed, hd⟩ := dpAll_at hx0 hx
      rw [List.getElem?_map] at ed
      obtain ⟨pt, ep, rfl⟩ := Option.map_eq_some_iff.mp ed
      obtain ⟨t, rfl, ht⟩ := part_cells (dp_same s1 _ _ hd)
      have tk : ps.take (i + 1) = ps.take i ++ [pt] := by rw [List.take_add_one, ep]; rfl
      have sm : ((ps.take (i + 1)).map moreP).sum = ((ps.take i).map moreP).sum + moreP pt := by
        rw [tk, List.map_append, List.sum_append]
        simp
      refine ⟨_, rfl, t, _, 0, _, rfl, rfl, ht, atI_nat (j := 0) (cells_kindP pt), rfl, _, rfl, ?_⟩
      cases pt with
      | ask s k =>
        refine iteFb (show decide (V.str "ask" = V.str "mark") = false by decide +kernel) ⟨some (.ref t), ?_, s1⟩
        rw [sm]
        rfl
      | note w =>
        refine iteFb (show decide (V.str "note" = V.str "mark") = false by decide +kernel) ⟨some (.ref t), ?_, s1⟩
        rw [sm]
        rfl
      | gate m a b =>
        refine iteTb (show decide (V.str "mark" = V.str "mark") = true by decide +kernel) ?_
        refine ⟨_, rfl, _, rfl, _, rfl, t, _, rfl, ht, (fun e => absurd e.1 (show ¬ HT.sIx 4 0 (some 2) = 0 by decide)), fun q uq => ⟨q, rfl, ⟨_, SqT.of upd_same⟩, fun D un => ?_⟩⟩
        have ec : cutV (cellsP (.gate m a b)) (some 2) none = [optV a, optV b] := by
          rw [cut_drop (by decide)]
          rfl
        rw [ec] at un ⊢
        have s2 := same_new (o := .tup [optV a, optV b]) uq
        refine dat_J (as := [a, b]) (fun o => o.isSome) optD (.t (SqT.of (upd_same (H := H1)))) (.cons (opt_dp a) (.cons (opt_dp b) .nil)) (show 2 ≤ 1000 by decide) un (fun o _ => by cases o <;> rfl) (fun x o H3 Y N _ hx s3 y n => ?_) fun H3 acc s3 hD hacc => ?_
        · obtain rfl := dp_opt hx
          refine ⟨rfl, _, rfl, rfl, _, rfl, ?_⟩
          cases o with
          | none => exact iteFb (by decide) (n rfl _ (Same.refl _))
          | some z => exact iteTb (by rfl) ⟨_, rfl, y rfl _ _ (Same.refl _) (opt_dp (some z))⟩
        · refine ⟨D, acc, rfl, .inl (SqL.of hD), ?_⟩
          have la : acc.length = moreP (.gate m a b) := by
            rw [dpAll_len hacc, List.length_map]
            cases a <;> cases b <;> rfl
          refine ⟨_, _, rfl, rfl, ?_⟩
          refine ⟨some (.ref t), ?_, (s1.trans s2).trans s3⟩
          rw [sm, la]
          show [_, some (V.int (_ + _)), _, _] = _
          congr 3
          congr 1
          omega
    · rintro _ H1 ⟨v, rfl, s1⟩
      rw [xl, List.take_length]
      exact ⟨_, rfl, fin H1 s1⟩
end
end K2

set_option Elab.async false
set_option linter.all false
set_option maxRecDepth 100000
set_option maxHeartbeats 1000000
/-! the parts of a first edition -/
namespace K2
open PySem L2 Lw
theorem all_take {K : PySem.W.Frag} {H : Hp} : ∀ (n : Nat) {xs : List V} {ds : List PyData}, DpAll K H xs ds → DpAll K H (xs.take n) (ds.take n)
  | 0, _, _, _ => by simpa using DpAll.nil
  | _ + 1, _, _, .nil => .nil
  | n + 1, _, _, .cons a r => .cons a (all_take n r)
theorem all_drop {K : PySem.W.Frag} {H : Hp} : ∀ (n : Nat) {xs : List V} {ds : List PyData}, DpAll K H xs ds → DpAll K H (xs.drop n) (ds.drop n)
  | 0, _, _, h => h
  | _ + 1, _, _, .nil => .nil
  | n + 1, _, _, .cons _ r => all_drop n r
theorem keep_edit {G G1 : Hp} {L : Addr} {u o : HO} (k : Same G G1) (g : G L = none) : Same G (upd G1 L o) := fun b x e => by
  rw [upd_ne (ne_of_none e g)]
  exact k _ _ e
theorem parts_edit {K : PySem.W.Frag} {G G5 H : Hp} {d l L : Addr} {xs zs : List V} {qs : List Pt} (KK : Same G G5) (D : Deal G5 H d l) (GL : G L = none) (hL : G5 L = some (.lst xs)) (hz : DpAll K G5 zs (qs.map partD)) :
    ∃ G7, Same G G7 ∧ Deal G7 (upd H L (.lst zs)) d l ∧ G7 L = some (.lst zs) ∧ DpAll K G7 zs (qs.map partD) :=
  ⟨upd G5 L (.lst zs), keep_edit (u := .lst xs) KK GL, D.edit hL, upd_same, dpAll_same (hard_upd hL) _ _ (dpAll_hard _ _ (noLs_of fun r _ => part_noL r) hz)⟩
theorem parts_of {S : Pt → Prop} : ∀ {pds : List PyData}, (∀ (j : Nat) pd, pds[j]? = some pd → ∃ p, pd = partD p ∧ S p) → ∃ ps : List Pt, pds = ps.map partD ∧ ∀ p ∈ ps, S p
  | [], _ => ⟨[], rfl, fun _ h => by cases h⟩
  | pd :: pds, h => by
    obtain ⟨p, rfl, hp⟩ := h 0 pd rfl
    obtain ⟨ps, rfl, hps⟩ := parts_of (pds := pds) fun j q e => h (j + 1) q (by simpa using e)
    refine ⟨p :: ps, rfl, fun x hx => ?_⟩
    rcases List.mem_cons.mp hx with rfl | hx
    · exact hp
    · exact hps x hx
structure BaseOk (ps : List Pt) : Prop where
  ok : ∀ p ∈ ps, p.Ok
  lo : 2 ≤ ps.length
  hi : ps.length ≤ 4
  no : ∀ p ∈ ps, moreP p = 0
def spBase (K : PySem.W.Frag) : Sp := fun vs H Q _ => ∃ (G : Hp) (d l : Addr), vs = [.ref d] ∧ Deal G H d l ∧ ∀ (G' H' : Hp) (v : V) (ps : List Pt), Same G G' → Deal G' H' d l → Dp K G' v (partsD ps) → BaseOk ps → Q v H'
section
variable {P : Program} {w : World} {K : PySem.W.Frag} {mg : Str → Option Value} {base : Heap}
abbrev nBase : List Str := ["_law_deal_here", "_law_found", "_law_sort"]
theorem scBase : FnScope nBase ["_law_deal_here"] (defScope sBase) := ⟨rfl, rfl, rfl, by decide +kernel, rfl, by decide +kernel, by decide +kernel⟩
theorem okBase {f fM fP fD : Addr} {fd fdM fdP fdD : FuncData} (F : Fun K "_law_base" "_law_base" sBase f fd) (GM : FnOk P w K mg base CX0 2 fM fdM ["_law_deal_here", "_law_some"] (spMixed K)) (kM : PySem.W.keepIn K (.ref fM) = true) (tM : mg "_law_mixed" = some (.ref fM)) (bM : Binds K fdM ["_law_deal_here", "_law_some"] [])
    (GP : FnOk P w K mg base CX0 2 fP fdP ["_law_deal_here", "_law_some"] (spPick K)) (kP : PySem.W.keepIn K (.ref fP) = true) (tP : mg "_law_pick" = some (.ref fP)) (bP : Binds K fdP ["_law_deal_here", "_law_some"] [])
    (GD : FnOk P w K mg base CX0 1 fD fdD ["_law_deal_here", "_law_many"] spDraw) (kD : PySem.W.keepIn K (.ref fD) = true) (tD : mg "_law_draw" = some (.ref fD)) (bD : Binds K fdD ["_law_deal_here", "_law_many"] []) (tLen : mg "len" = none) :
    FnOk P w K mg base CX0 3 f fd ["_law_deal_here"] (spBase K) := by
  refine F.ok scBase (fun vs H Q E h => ?_) (fun cdv A outer s H vs Q E hr h => ?_)
  · obtain ⟨G, d, l, rfl, _⟩ := h
    rfl
  · obtain ⟨G, d, l, rfl, D, fin⟩ := h
    have hr1 : Room 1 _ := hr.mono (by decide)
    refine ⟨_, pss_cons (ps_setLc (i := 1) (own := [("_law_sort", 2)]) (g := gName 2) (tt := tYes) (te := tTup (tCons (tC (.str "ask")) (tCons (tVar 2) (tCons (tCall (spPick K) [] E0 (tCons (tVar 0) (tCons (tLst (tCons (tC (.int 0)) (tCons (tC (.int 0)) (tCons (tC (.int 1)) (tCons (tC (.int 2)) tNil))))) tNil))) tNil)))) (by rfl) scBase.nd rfl rfl (sw_true rfl rfl rfl (by decide +kernel))
          (pi_list (pe_slice sl_list (pe_call GM hr rfl tM kM bM .nil pass0 (pa_cons (pv 0) (pa_cons (pe_lst (pa_cons pe_str (pa_cons pe_str (pa_cons pe_str (pa_cons pe_str pa_nil))))) pa_nil))) po_none (po_some pe_int)))
          (blkOk_by (own := [("_law_sort", 2)]) (N := nBase) (sc := defScope sBase) (by decide +kernel)) (fun _ _ _ _ _ => pg_name (i := 2) scBase.nd rfl (Or.inl rfl)) (fun _ _ _ _ _ => pts_nil)
          (fun _ _ _ _ _ => pe_tup (pa_cons pe_str (pa_cons (pv 2) (pa_cons (pe_call GP hr rfl tP kP bP .nil pass0 (pa_cons (pv 0) (pa_cons (pe_lst (pa_cons pe_int (pa_cons pe_int (pa_cons pe_int (pa_cons pe_int pa_nil))))) pa_nil))) pa_nil)))))
      (pss_cons (ps_if (pt_cmpR op_eq (pe_call GD hr1 rfl tD kD bD .nil pass0 (pa_cons (pv 0) (pa_cons pe_int pa_nil))) pe_int (nomark _))
        (pss_one (ps_expr (pe_bm PySem.F.plainAttrs_list PySem.F.slot_list_append PySem.F.type_list_append mt_append (pv 1) (pa_cons (pe_tup (pa_cons pe_str (pa_cons (pe_call GP hr rfl tP kP bP .nil pass0 (pa_cons (pv 0) (pa_cons (pe_lst (pa_cons pe_str (pa_cons pe_str pa_nil))) pa_nil))) (pa_cons pe_int pa_nil)))) pa_nil)))) pss_nil)
      (pss_cons (ps_if (pt_cmpR op_eq (pe_call GD hr1 rfl tD kD bD .nil pass0 (pa_cons (pv 0) (pa_cons pe_int pa_nil))) pe_int (nomark _))
        (pss_one (ps_expr (pe_bm PySem.F.plainAttrs_list PySem.F.slot_list_insert PySem.F.type_list_insert mt_insert (pv 1) (pa_cons (pe_call GD hr1 rfl tD kD bD .nil pass0 (pa_cons (pv 0) (pa_cons (pe_op op_add (pe_callB call_len_seq (by rfl) tLen PySem.boot_len (pa_cons (pv 1) pa_nil)) pe_int) pa_nil))) (pa_cons (pe_tup (pa_cons pe_str (pa_cons (pe_call GP hr rfl tP kP bP .nil pass0 (pa_cons (pv 0) (pa_cons (pe_lst (pa_cons pe_str (pa_cons pe_str pa_nil))) pa_nil))) pa_nil))) pa_nil))))) pss_nil)
      (pss_one (ps_ret (pv 1))))), ?_⟩
    dsimp only [gName, tNext]
    refine seq_cut (fun σ1 H1 => ∃ (L : Addr) (G1 : Hp) (xs : List V) (ps : List Pt), σ1 = [some (.ref d), some (.ref L), none] ∧ Same G G1 ∧ Deal G1 H1 d l ∧ G L = none ∧ G1 L = some (.lst xs) ∧ DpAll K G1 xs (ps.map partD) ∧ (∀ p ∈ ps, p.Ok) ∧ ps.length = 2 ∧ ∀ p ∈ ps, moreP p = 0) ?after1 fun after => ?go1
    case go1 =>
      refine ⟨_, rfl, (by show 4 ≤ sizeLine; decide), fun a ua => ?_⟩
      obtain ⟨G0, H0, e0, D0, h0, k0, _⟩ := D.lay ua (.lst [.str "a", .str "b", .str "c", .str "d"])
      rw [← e0]
      refine ⟨G0, d, l, a, [.str "a", .str "b", .str "c", .str "d"], rfl, D0, SqL.of h0, (by show 4 ≤ 1000; decide), fun G2 H2 N2 p ys n2 hp pm => ?_⟩
      obtain ⟨us, rfl, pu⟩ := perm_str (zs := ["a", "b", "c", "d"]) pm
      have ul : us.length = 4 := pu.length_eq
      refine ⟨_, rfl, p, _, rfl, SqL.of (n2.inH _ _ hp), fun q uq => ?_⟩
      rw [show cutV (us.map V.str) none (some 2) = (us.take 2).map V.str from cut_upto us 2]
      obtain ⟨G3, H3, e3, D3, h3, k3, _⟩ := n2.dl.lay uq (.lst ((us.take 2).map V.str))
      rw [← e3]
      have lt2 : ((us.take 2).map V.str).length = 2 := by rw [List.length_map, List.length_take, ul]; rfl
      refine ⟨q, rfl, ⟨_, SqL.of (D3.same _ _ h3)⟩, fun L uL => lc_list (K := K) (a := q) (xs := (us.take 2).map V.str) (fun i H' => HP K G3 d l L (fun _ pd => ∃ pt, pd = partD pt ∧ (pt.Ok ∧ moreP pt = 0)) i H') (HP.zero D3 uL) (fun i H' _ hv => hv.same.seq (SqL.of h3)) ?_ ?_⟩
      · intro i x H4 hx hv
        rw [List.getElem?_map] at hx
        obtain ⟨z, hz, rfl⟩ := Option.map_eq_some_iff.mp hx
        have zin : z ∈ sorts5 := by
          have := pu.mem_iff.mp (List.mem_of_mem_take (List.mem_of_getElem? hz))
          revert this
          simp [sorts5]
          rintro (h | h | h | h) <;> simp [h]
        have il : i < 2 := by rw [← lt2, List.length_map]; exact (List.getElem?_eq_some_iff.mp hz).1
        refine ⟨rfl, ?_⟩
        dsimp only [tYes]
        refine iteT (hv.turn (by omega) fun Gx sx Dx Q2 fin2 => ?_)
        refine ⟨_, rfl, _, rfl, (by show 4 ≤ sizeLine; decide), fun b ub => ?_⟩
        have m1 := (News.zero Dx).put (o := .lst [.int 0, .int 0, .int 1, .int 2]) ub
        refine ⟨_, d, l, b, _, rfl, m1.dl, SqL.of upd_same, (by simp), (by show 4 < 1000; decide), fun H5 x D5 hx => ?_⟩
        obtain ⟨k, rfl, hk⟩ : ∃ k : Nat, x = .int (k : Nat) ∧ k ≤ 2 := by
          rcases List.mem_cons.mp hx with rfl | hx
          · exact ⟨0, rfl, by decide⟩
          rcases List.mem_cons.mp hx with rfl | hx
          · exact ⟨0, rfl, by decide⟩
          rcases List.mem_cons.mp hx with rfl | hx
          · exact ⟨1, rfl, by decide⟩
          · rw [List.mem_singleton.mp hx]
            exact ⟨2, rfl, by decide⟩
        refine ⟨(by show 3 ≤ sizeLine; decide), fun t ut => ?_⟩
        have m2 := (m1.redeal D5).put (o := .tup [.str "ask", .str z, .int (k : Nat)]) ut
        exact fin2 _ _ _ (.ref t) (partD (.ask z k)) m2 (part_dp (SqT.of upd_same)) ⟨.ask z k, rfl, ⟨zin, hk⟩, rfl⟩
      · intro H4 hv
        rw [lt2] at hv
        obtain ⟨G4, N4, xs, pds, n4, hL, ha, xlen, hR⟩ := hv.done
        obtain ⟨ps, rfl, hps⟩ := parts_of hR
        refine after _ _ ⟨L, G4, xs, ps, rfl, ((k0.trans n2.kp).trans k3).trans n4.kp, n4.dl, ((k0.trans n2.kp).trans k3).free (n4.dis _ _ hL), n4.sub _ _ hL, dpAll_same n4.sub _ _ ha, fun p hp => (hps p hp).1, ?_, fun p hp => (hps p hp).2⟩
        rw [← xlen, dpAll_len ha, List.length_map]
    case after1 =>
      rintro _ H1 ⟨L, G1, xs, ps, rfl, k1, D1, GL, hL, hx0, ok, len, no⟩
      refine seq_cut (fun σ1 H1 => ∃ (G1 : Hp) (xs : List V) (ps : List Pt), σ1 = [some (.ref d), some (.ref L), none] ∧ Same G G1 ∧ Deal G1 H1 d l ∧ G1 L = some (.lst xs) ∧ DpAll K G1 xs (ps.map partD) ∧ (∀ p ∈ ps, p.Ok) ∧ 2 ≤ ps.length ∧ ps.length ≤ 3 ∧ ∀ p ∈ ps, moreP p = 0) ?after2 fun after => ?go2
      case go2 =>
        refine ⟨_, rfl, G1, d, l, 2, rfl, D1, by decide, by decide, fun H2 r D2 r0 r1 => ⟨rfl, _, rfl, ?_⟩⟩
        by_cases hz : decide (V.int r = V.int 0) = true
        · refine iteTb hz ?_
          refine ⟨_, rfl, .inl ⟨rfl, _, SqL.of (D2.same _ _ hL)⟩, _, rfl, (by show 2 ≤ sizeLine; decide), fun b ub => ?_⟩
          obtain ⟨G3, H3, e3, D3, h3, k3, _⟩ := D2.lay ub (.lst [.str "a", .str "e"])
          rw [← e3]
          refine ⟨G3, d, l, b, _, rfl, D3, SqL.of h3, (by simp), (by show 2 < 1000; decide), fun H4 x D4 hx => ?_⟩
          obtain ⟨z, rfl, zin⟩ : ∃ z, x = .str z ∧ z ∈ sorts5 := by
            rcases List.mem_cons.mp hx with rfl | hx2
            · exact ⟨"a", rfl, by simp⟩
            · rw [List.mem_singleton.mp hx2]
              exact ⟨"e", rfl, by simp⟩
          refine ⟨(by show 3 ≤ sizeLine; decide), fun t ut => ?_⟩
          obtain ⟨G5, H5, e5, D5, h5, k5, _⟩ := D4.lay ut (.tup [.str "ask", .str z, .int 0])
          rw [← e5]
          have k15 := k3.trans k5
          have hpt : Dp K G5 (.ref t) (partD (.ask z 0)) := part_dp (SqT.of h5)
          have hxs := dpAll_app (dpAll_same k15 _ _ hx0) (.cons hpt .nil)
          have hL5 := k15 _ _ hL
          have lx : xs.length = ps.length := by rw [dpAll_len hx0, List.length_map]
          refine ⟨L, xs, _, rfl, rfl, D5.same _ _ hL5, Nat.lt_of_le_of_lt (show xs.length ≤ 1000 by omega) (by decide), ?_⟩
          obtain ⟨G7, k7, D7, h7, hx7⟩ := parts_edit (qs := ps ++ [.ask z 0]) (k1.trans k15) D5 GL hL5 (by rw [List.map_append]; exact hxs)
          refine after _ _ ⟨G7, _, ps ++ [.ask z 0], rfl, k7, D7, h7, hx7, fun p hp => ?_, by simp; omega, by simp; omega, fun p hp => ?_⟩
          · rcases List.mem_append.mp hp with hp | hp
            · exact ok p hp
            · rw [List.mem_singleton.mp hp]
              exact ⟨zin, by decide⟩
          · rcases List.mem_append.mp hp with hp | hp
            · exact no p hp
            · rw [List.mem_singleton.mp hp]
              rfl
        · refine iteFb (by simpa using hz) (after _ _ ⟨G1, xs, ps, rfl, k1, D2, hL, hx0, ok, by omega, by omega, no⟩)
      case after2 =>
        clear hx0 hL D1 k1 ok len no
        rintro _ H1 ⟨G1, xs, ps, rfl, k1, D1, hL, hx0, ok, len2, len3, no⟩
        have lx : xs.length = ps.length := by rw [dpAll_len hx0, List.length_map]
        have last : ∀ (G1 H1 : Hp) (xs : List V) (ps : List Pt), Same G G1 → Deal G1 H1 d l → G1 L = some (.lst xs) → DpAll K G1 xs (ps.map partD) → BaseOk ps → tRet (tVar 1) ({ nx := fun x H' => Q V.non H', rt := Q } : Ends) [some (.ref d), some (.ref L), none] H1 := fun G1 H1 xs ps k D hL hx b => ⟨_, rfl, fin G1 H1 _ ps k D (.lst (SqL.of hL) hx) b⟩
        refine ⟨_, rfl, G1, d, l, 2, rfl, D1, by decide, by decide, fun H2 r D2 r0 r1 => ⟨rfl, _, rfl, ?_⟩⟩
        by_cases hz : decide (V.int r = V.int 0) = true
        · refine iteTb hz ?_
          refine ⟨_, rfl, .inl ⟨rfl, _, SqL.of (D2.same _ _ hL)⟩, _, rfl, _, rfl, L, xs, rfl, .inl (SqL.of (D2.same _ _ hL)), _, _, rfl, rfl, G1, d, l, _, rfl, D2, by omega, by omega, fun H3 i D3 i0 i1 => ?_⟩
          refine ⟨_, rfl, (by show 2 ≤ sizeLine; decide), fun b ub => ?_⟩
          obtain ⟨G4, H4, e4, D4, h4, k4, _⟩ := D3.lay ub (.lst [.str "x", .str "y"])
          rw [← e4]
          refine ⟨G4, d, l, b, _, rfl, D4, SqL.of h4, (by simp), (by show 2 < 1000; decide), fun H5 x D5 hx => ?_⟩
          obtain ⟨z, rfl, zin⟩ : ∃ z, x = .str z ∧ z ∈ (["x", "y"] : List Str) := by
            rcases List.mem_cons.mp hx with rfl | hx2
            · exact ⟨"x", rfl, by simp⟩
            · rw [List.mem_singleton.mp hx2]
              exact ⟨"y", rfl, by simp⟩
          refine ⟨(by show 2 ≤ sizeLine; decide), fun t ut => ?_⟩
          obtain ⟨G6, H6, e6, D6, h6, k6, _⟩ := D5.lay ut (.tup [.str "note", .str z])
          rw [← e6]
          have k16 := k4.trans k6
          have hpt : Dp K G6 (.ref t) (partD (.note z)) := part_dp (SqT.of h6)
          have hL6 := k16 _ _ hL
          have hx6 := dpAll_same k16 _ _ hx0
          refine ⟨L, xs, i, _, rfl, rfl, D6.same _ _ hL6, Nat.lt_of_le_of_lt (show xs.length ≤ 1000 by omega) (by decide), i0, by omega, ?_⟩
          obtain ⟨G7, k7, D7, h7, hx7⟩ := parts_edit (zs := xs.take i.toNat ++ [.ref t] ++ xs.drop i.toNat) (qs := ps.take i.toNat ++ [.note z] ++ ps.drop i.toNat) (k1.trans k16) D6 GL hL6 (by
            rw [List.map_append, List.map_append, List.map_take, List.map_drop]
            exact dpAll_app (dpAll_app (all_take _ hx6) (.cons hpt .nil)) (all_drop _ hx6))
          refine last G7 _ _ _ k7 D7 h7 hx7 ⟨fun p hp => ?_, by simp; omega, by simp; omega, fun p hp => ?_⟩
          · rcases List.mem_append.mp hp with hp | hp
            · rcases List.mem_append.mp hp with hp | hp
              · exact ok p (List.mem_of_mem_take hp)
              · rw [List.mem_singleton.mp hp]
                exact zin
            · exact ok p (List.mem_of_mem_drop hp)
          · rcases List.mem_append.mp hp with hp | hp
            · rcases List.mem_append.mp hp with hp | hp
              · exact no p (List.mem_of_mem_take hp)
              · rw [List.mem_singleton.mp hp]
                rfl
            · exact no p (List.mem_of_mem_drop hp)
        · refine iteFb (by simpa using hz) (last G1 _ xs ps k1 D2 hL hx0 ⟨ok, len2, by omega, no⟩)
end
end K2

set_option Elab.async false
set_option linter.all false
set_option maxRecDepth 100000
set_option maxHeartbeats 1000000
/-! the parts of an edition near another one -/
namespace K2
open PySem L2 Lw
/-- what a near edition's parts are -/
structure NearOk (ps qs : List Pt) : Prop where
  ok : ∀ p ∈ qs, p.Ok
  few : qs.length ≤ ps.length + 1
def spNear1 (K : PySem.W.Frag) : Sp := fun vs H Q _ => ∃ (G : Hp) (d l : Addr) (v : V) (ps : List Pt), vs = [.ref d, v] ∧ Deal G H d l ∧ Dp K G v (partsD ps) ∧ (∀ p ∈ ps, p.Ok) ∧ ps.length ≤ 20 ∧
  ∀ (G' H' : Hp) (g : Addr) (qs : List Pt), Same G G' → Deal G' H' d l → G g = none → Dp K G' (.ref g) (partsD qs) → NearOk ps qs → Q (.ref g) H'
theorem cutT1 {ys : List V} (k : Nat) (h : k ≤ ys.length) : cutV ys none (some (k : Int)) = ys.take k := cut_take (m := (k : Int)) (by omega) (by omega)
theorem cutD1 {ys : List V} (k : Nat) : cutV ys (some (k : Int)) none = ys.drop k := cut_drop (m := (k : Int)) (by omega)
theorem cutD2 {ys : List V} (k : Nat) : cutV ys (some ((k : Int) + 1)) none = ys.drop (k + 1) := cut_drop (m := (k : Int) + 1) (by omega)
theorem cutD3 {ys : List V} (k : Nat) : cutV ys (some ((k : Int) + 2)) none = ys.drop (k + 2) := cut_drop (m := (k : Int) + 2) (by omega)
theorem cutR {ys : List V} (k : Nat) (h : k ≤ ys.length) : cutV ys (some (k : Int)) (some ((k : Int) + 2)) = (ys.drop k).take 2 := by
  unfold cutV
  rw [HT.sIx_nat, show ((k : Int) + 2) = ((k + 2 : Nat) : Int) from by omega, HT.sIx_nat, Nat.min_eq_left h]
  by_cases q : k + 2 ≤ ys.length
  · rw [Nat.min_eq_left q, show k + 2 - k = 2 from by omega]
  · rw [Nat.min_eq_right (by omega), List.take_of_length_le (by rw [List.length_drop]; exact Nat.le_refl _), List.take_of_length_le (by rw [List.length_drop]; omega)]
theorem all_rev {K : PySem.W.Frag} {H : Hp} : ∀ {xs : List V} {ds : List PyData}, DpAll K H xs ds → DpAll K H xs.reverse ds.reverse
  | _, _, .nil => .nil
  | _, _, .cons a r => by
    rw [List.reverse_cons, List.reverse_cons]
    exact dpAll_app (all_rev r) (.cons a .nil)
theorem mem3 {S : Pt → Prop} {a b c : List Pt} (ha : ∀ q ∈ a, S q) (hb : ∀ q ∈ b, S q) (hc : ∀ q ∈ c, S q) : ∀ q ∈ a ++ b ++ c, S q := fun q h => by
  rcases List.mem_append.mp h with h | h
  · rcases List.mem_append.mp h with h | h
    · exact ha q h
    · exact hb q h
  · exact hc q h
section
variable {P : Program} {w : World} {K : PySem.W.Frag} {mg : Str → Option Value} {base : Heap}
abbrev nNear1 : List Str := ["_law_deal_here", "_law_parts", "_law_spot", "_law_form", "_law_sign", "_law_sort", "_law_part"]
theorem scNear1 : FnScope nNear1 ["_law_deal_here", "_law_parts"] (defScope sNear1) := ⟨rfl, rfl, rfl, by decide +kernel, rfl, by decide +kernel, by decide +kernel⟩
theorem okNear1 {f fP fD : Addr} {fd fdP fdD : FuncData} (F : Fun K "_law_near" "_law_near" sNear1 f fd)
    (GP : FnOk P w K mg base CX0 2 fP fdP ["_law_deal_here", "_law_some"] (spPick K)) (kP : PySem.W.keepIn K (.ref fP) = true) (tP : mg "_law_pick" = some (.ref fP)) (bP : Binds K fdP ["_law_deal_here", "_law_some"] [])
    (GD : FnOk P w K mg base CX0 1 fD fdD ["_law_deal_here", "_law_many"] spDraw) (kD : PySem.W.keepIn K (.ref fD) = true) (tD : mg "_law_draw" = some (.ref fD)) (bD : Binds K fdD ["_law_deal_here", "_law_many"] []) (tLen : mg "len" = none) :
    FnOk P w K mg base CX0 3 f fd ["_law_deal_here", "_law_parts"] (spNear1 K) := by
  refine F.ok scNear1 (fun vs H Q E h => ?_) (fun cdv A outer s H vs Q E hr h => ?_)
  · obtain ⟨G, d, l, v, ps, rfl, _⟩ := h
    rfl
  · obtain ⟨G, d, l, v, ps, rfl, D, hD, ok, few, fin⟩ := h
    have hr1 : Room 1 _ := hr.mono (by decide)
    refine ⟨_, pss_cons (ps_par3 (i := 2) (j := 3) (l := 4) (by rfl) scNear1.nd rfl rfl rfl (by decide) (by decide) (by decide) rfl rfl rfl (pa_cons (pe_call GD hr1 rfl tD kD bD .nil pass0 (pa_cons (pv 0) (pa_cons (pe_op op_add (pe_callB call_len_seq (by rfl) tLen PySem.boot_len (pa_cons (pv 1) pa_nil)) pe_int) pa_nil))) (pa_cons (pe_call GD hr1 rfl tD kD bD .nil pass0 (pa_cons (pv 0) (pa_cons pe_int pa_nil))) (pa_cons (pe_call GP hr rfl tP kP bP .nil pass0 (pa_cons (pv 0) (pa_cons (pe_lst (pa_cons pe_str (pa_cons pe_str pa_nil))) pa_nil))) pa_nil))) (by rfl))
      (pss_cons (ps_par (i := 5) (j := 6) (by rfl) scNear1.nd rfl rfl (by decide) rfl rfl (pa_cons (pe_call GP hr rfl tP kP bP .nil pass0 (pa_cons (pv 0) (pa_cons (pe_lst (pa_cons pe_str (pa_cons pe_str (pa_cons pe_str (pa_cons pe_str pa_nil))))) pa_nil))) (pa_cons (pe_ifExp (pt_cmpR op_lt (pv 2) (pe_callB call_len_seq (by rfl) tLen PySem.boot_len (pa_cons (pv 1) pa_nil)) (nomark _)) (pe_ix ix_list (pv 1) (pv 2) (fun _ _ => rfl)) (pe_tup (pa_cons pe_str (pa_cons pe_str pa_nil)))) pa_nil)) (by rfl))
      (pss_cons (ps_if (pt_cmpR op_eq (pv 3) pe_int (nomark _))
        (pss_one (ps_ret (pe_op op_cat (pe_op op_cat (pe_slice sl_list (pv 1) po_none (po_some (pv 2))) (pe_lst (pa_cons (pe_tup (pa_cons pe_str (pa_cons (pv 5) (pa_cons pe_int pa_nil)))) pa_nil))) (pe_slice sl_list (pv 1) (po_some (pv 2)) po_none)))) pss_nil)
      (pss_cons (ps_if (pt_cmpR op_in_seq (pv 3) (pe_tup (pa_cons pe_int (pa_cons pe_int pa_nil))) rfl)
        (pss_one (ps_ret (pe_op op_cat (pe_op op_cat (pe_slice sl_list (pv 1) po_none (po_some (pv 2))) (pe_lst (pa_cons (pe_tup (pa_cons pe_str (pa_cons (pv 4) (pa_cons (pe_ifExp (pt_cmpR op_eq (pv 3) pe_int (nomark _)) (pv 5) pe_non) (pa_cons pe_non pa_nil))))) pa_nil))) (pe_slice sl_list (pv 1) (po_some (pv 2)) po_none)))) pss_nil)
      (pss_cons (ps_if (PW.pt (pw_and (pt_cmpR op_lt (pv 3) pe_int (nomark _)) (pw_and1 (pt_cmpR op_eq (pe_ix ix_tup (pv 6) pe_int (fun _ _ => rfl)) pe_str (nomark _)))))
        (pss_one (ps_ret (pe_op op_cat (pe_op op_cat (pe_slice sl_list (pv 1) po_none (po_some (pv 2))) (pe_lst (pa_cons (pe_tup (pa_cons pe_str (pa_cons (pv 4) (pa_cons (pv 5) (pa_cons (pe_ix ix_tup (pv 6) pe_int (fun _ _ => rfl)) pa_nil))))) pa_nil))) (pe_slice sl_list (pv 1) (po_some (pe_op op_add (pv 2) pe_int)) po_none)))) pss_nil)
      (pss_cons (ps_if (PW.pt (pw_and (pt_cmpR op_eq (pv 3) pe_int (nomark _)) (pw_and1 (pt_cmpR op_gt (pe_callB call_len_seq (by rfl) tLen PySem.boot_len (pa_cons (pv 1) pa_nil)) pe_int (nomark _)))))
        (pss_one (ps_ret (pe_op op_cat (pe_slice sl_list (pv 1) po_none (po_some (pv 2))) (pe_slice sl_list (pv 1) (po_some (pe_op op_add (pv 2) pe_int)) po_none)))) pss_nil)
      (pss_cons (ps_if (pt_cmpR op_eq (pv 3) pe_int (nomark _))
        (pss_one (ps_ret (pe_op op_cat (pe_op op_cat (pe_slice sl_list (pv 1) po_none (po_some (pv 2))) (pe_lst (pa_cons (pe_tup (pa_cons pe_str (pa_cons (pe_call GP hr rfl tP kP bP .nil pass0 (pa_cons (pv 0) (pa_cons (pe_lst (pa_cons pe_str (pa_cons pe_str pa_nil))) pa_nil))) pa_nil))) pa_nil))) (pe_slice sl_list (pv 1) (po_some (pv 2)) po_none)))) pss_nil)
      (pss_cons (ps_if (pt_cmpR op_eq (pe_ix ix_tup (pv 6) pe_int (fun _ _ => rfl)) pe_str (nomark _))
        (pss_one (ps_ret (pe_op op_cat (pe_op op_cat (pe_slice sl_list (pv 1) po_none (po_some (pv 2))) (pe_ifExp (pt_cmpR op_notN (pe_ix ix_tup (pv 6) pe_int (fun _ _ => rfl)) pe_non rfl) (pe_lst (pa_cons (pe_tup (pa_cons pe_str (pa_cons (pe_ix ix_tup (pv 6) pe_int (fun _ _ => rfl)) (pa_cons pe_int pa_nil)))) pa_nil)) (pe_lst pa_nil))) (pe_slice sl_list (pv 1) (po_some (pe_op op_add (pv 2) pe_int)) po_none)))) pss_nil)
      (pss_one (ps_ret (pe_op op_cat (pe_op op_cat (pe_slice sl_list (pv 1) po_none (po_some (pv 2))) (pe_revL (pe_slice sl_list (pv 1) (po_some (pv 2)) (po_some (pe_op op_add (pv 2) pe_int))))) (pe_slice sl_list (pv 1) (po_some (pe_op op_add (pv 2) pe_int)) po_none))))))))))), ?_⟩
    dsimp only [gName, tNext]
    cases hD with
    | @lst p xs _ hsG hx =>
    have xl : xs.length = ps.length := by rw [dpAll_len hx, List.length_map]
    refine seq_cut (fun σ1 H1 => ∃ (G1 : Hp) (j : Nat) (f : Int) (m : Str), σ1 = [some (.ref d), some (.ref p), some (.int (j : Nat)), some (.int f), some (.str m), none, none] ∧ Same G G1 ∧ Deal G1 H1 d l ∧ j ≤ ps.length ∧ m ∈ (["m", "n"] : List Str)) ?after1 fun after => ?go1
    case go1 =>
      refine ⟨_, rfl, _, rfl, p, xs, rfl, .inl (D.same.seq hsG), _, _, rfl, rfl, G, d, l, _, rfl, D, by omega, by omega, fun H1 j D1 j0 j1 => ?_⟩
      obtain ⟨j, rfl⟩ : ∃ n : Nat, j = (n : Nat) := ⟨j.toNat, by omega⟩
      refine ⟨_, rfl, G, d, l, 9, rfl, D1, by decide, by decide, fun H2 f D2 f0 f1 => ?_⟩
      refine ⟨_, rfl, (by show 2 ≤ sizeLine; decide), fun b ub => ?_⟩
      obtain ⟨G3, H3, e3, D3, h3, k3, _⟩ := D2.lay ub (.lst [.str "m", .str "n"])
      rw [← e3]
      refine ⟨G3, d, l, b, _, rfl, D3, SqL.of h3, (by simp), (by show 2 < 1000; decide), fun H4 x D4 hx4 => ?_⟩
      obtain ⟨m, rfl, zin⟩ : ∃ z, x = .str z ∧ z ∈ (["m", "n"] : List Str) := by
        rcases List.mem_cons.mp hx4 with rfl | hx2
        · exact ⟨"m", rfl, by simp⟩
        · rw [List.mem_singleton.mp hx2]
          exact ⟨"n", rfl, by simp⟩
      exact ⟨_, _, _, rfl, after _ _ ⟨G3, j, f, m, rfl, k3, D4, by omega, zin⟩⟩
    case after1 =>
      rintro _ H1 ⟨G1, j, f, m, rfl, k1, D1, jl, min⟩
      refine seq_cut (fun σ1 H1 => ∃ (G2 : Hp) (s : Str) (t : Addr) (ys : List V), σ1 = [some (.ref d), some (.ref p), some (.int (j : Nat)), some (.int f), some (.str m), some (.str s), some (.ref t)] ∧ Same G G2 ∧ Deal G2 H1 d l ∧ s ∈ sorts5 ∧ SqT K G2 t ys ∧ ((∃ pt, ps[j]? = some pt ∧ ys = cellsP pt) ∨ ys = [.str "", .str ""])) ?after2 fun after => ?go2
      case go2 =>
        refine ⟨_, rfl, (by show 4 ≤ sizeLine; decide), fun b ub => ?_⟩
        obtain ⟨G3, H3, e3, D3, h3, k3, _⟩ := D1.lay ub (.lst [.str "a", .str "b", .str "c", .str "e"])
        rw [← e3]
        refine ⟨G3, d, l, b, _, rfl, D3, SqL.of h3, (by simp), (by show 4 < 1000; decide), fun H4 x D4 hx4 => ?_⟩
        obtain ⟨s, rfl, zin⟩ : ∃ z, x = .str z ∧ z ∈ sorts5 := by
          rcases List.mem_cons.mp hx4 with rfl | hx2
          · exact ⟨"a", rfl, by simp⟩
          rcases List.mem_cons.mp hx2 with rfl | hx2
          · exact ⟨"b", rfl, by simp⟩
          rcases List.mem_cons.mp hx2 with rfl | hx2
          · exact ⟨"c", rfl, by simp⟩
          · rw [List.mem_singleton.mp hx2]
            exact ⟨"e", rfl, by simp⟩
        have hs4 := D4.same.seq ((k1.trans k3).seq hsG)
        refine ⟨_, rfl, _, rfl, p, xs, rfl, .inl hs4, _, _, rfl, rfl, _, rfl, ?_⟩
        by_cases lt : j < xs.length
        · refine iteTb (decide_eq_true (by omega)) ?_
          have hxj : xs[j]? = some (xs[j]'lt) := List.getElem?_eq_getElem lt
          generalize xs[j]'lt = x at hxj
          obtain ⟨dd, ed, hd⟩ := dpAll_at (dpAll_same (k1.trans k3) _ _ hx) hxj
          rw [List.getElem?_map] at ed
          obtain ⟨pt, ep, rfl⟩ := Option.map_eq_some_iff.mp ed
          obtain ⟨t, rfl, ht⟩ := part_cells hd
          refine ⟨_, rfl, _, rfl, p, xs, _, _, rfl, rfl, hs4, atI_nat hxj, ?_⟩
          exact ⟨_, _, rfl, after _ _ ⟨G3, s, t, cellsP pt, rfl, k1.trans k3, D4, zin, ht, .inl ⟨pt, ep, rfl⟩⟩⟩
        · refine iteFb (decide_eq_false (by omega)) ⟨(by show 2 ≤ sizeLine; decide), fun t ut => ?_⟩
          obtain ⟨G5, H5, e5, D5, h5, k5, _⟩ := D4.lay ut (.tup [.str "", .str ""])
          rw [← e5]
          exact ⟨_, _, rfl, after _ _ ⟨G5, s, t, [.str "", .str ""], rfl, (k1.trans k3).trans k5, D5, zin, SqT.of h5, .inr rfl⟩⟩
      case after2 =>
        clear D1 k1
        rintro _ H1 ⟨G2, s, t0, ys, rfl, k2, D2, sin, ht0, hys⟩
        obtain ⟨z0, hz0, hask, hmark⟩ : ∃ z : Str, ys[0]? = some (.str z) ∧ (z = ("ask" : Str) → ∃ s2 n2, s2 ∈ sorts5 ∧ ys = cellsP (.ask s2 n2)) ∧ (z = ("mark" : Str) → ∃ m2 a2 b2, (∀ z, a2 = some z → z ∈ sorts5) ∧ ys = cellsP (.gate m2 a2 b2)) := by
          rcases hys with ⟨pt, ep, rfl⟩ | rfl
          · have okp := ok pt (List.mem_of_getElem? ep)
            cases pt with
            | ask s2 n2 => exact ⟨_, rfl, fun _ => ⟨s2, n2, okp.1, rfl⟩, fun e => absurd e (by decide +kernel)⟩
            | note w2 => exact ⟨_, rfl, fun e => absurd e (by decide +kernel), fun e => absurd e (by decide +kernel)⟩
            | gate m2 a2 b2 => exact ⟨_, rfl, fun e => absurd e (by decide +kernel), fun _ => ⟨m2, a2, b2, okp.2.1, rfl⟩⟩
          · exact ⟨_, rfl, fun e => absurd e (by decide +kernel), fun e => absurd e (by decide +kernel)⟩
        refine seq_cut (fun σ1 H1 => ∃ G2 : Hp, σ1 = [some (.ref d), some (.ref p), some (.int (j : Nat)), some (.int f), some (.str m), some (.str s), some (.ref t0)] ∧ Same G G2 ∧ Deal G2 H1 d l ∧ SqT K G2 t0 ys) ?next1 fun after => ?this1
        case this1 =>
          have hs0 : SqL K G2 p xs := k2.seq hsG
          refine ⟨_, rfl, rfl, _, rfl, ?_⟩
          by_cases g0 : decide (V.int f = V.int 0) = true
          · refine iteTb g0 ?_
            refine ⟨_, rfl, _, rfl, _, rfl, p, xs, rfl, (D2.same).seq hs0, fun a ua => ?_⟩
            rw [cutT1 j (by omega)]
            obtain ⟨Ga, Ha, ea, Da, ha, ka, _⟩ := D2.lay ua (.lst (xs.take j))
            rw [← ea]
            refine ⟨_, rfl, (by show 3 ≤ sizeLine; decide), fun t ut => ?_⟩
            obtain ⟨Gt, Ht, et, Dt, ht, kt, _⟩ := Da.lay ut (.tup [.str "ask", .str s, .int 0])
            rw [← et]
            refine ⟨(by show 1 ≤ sizeLine; decide), fun b ub => ?_⟩
            obtain ⟨Gm, Hm, em, Dm, hb, kb, _⟩ := Dt.lay ub (.lst [.ref t])
            rw [← em]
            have km := (kt.trans kb)
            obtain ⟨ms, ems⟩ : ∃ ms, ms = [V.ref t] := ⟨_, rfl⟩
            rw [← ems] at hb
            obtain ⟨mid, emid⟩ : ∃ mid : List Pt, mid = [Pt.ask s 0] := ⟨_, rfl⟩
            have lms : ms.length = 1 := by rw [ems]; rfl
            have hms : DpAll K Gm ms (mid.map partD) := by
              rw [ems, emid]
              exact .cons (part_dp (p := Pt.ask s 0) (SqT.of (kb _ _ ht))) .nil
            refine ⟨a, b, xs.take j, ms, rfl, rfl, Dm.same _ _ (km _ _ ha), Dm.same _ _ hb, by rw [List.length_take]; exact Nat.le_trans (show _ ≤ 1000 by omega) (by decide), fun c uc => ?_⟩
            obtain ⟨Gc, Hc, ec, Dc, hc, kc, _⟩ := Dm.lay uc (.lst (xs.take j ++ ms))
            rw [← ec]
            refine ⟨_, rfl, _, rfl, _, rfl, p, xs, rfl, (Dc.same).seq ((((k2.trans ka).trans km).trans kc).seq hsG), fun e ue => ?_⟩
            rw [cutD1 j]
            obtain ⟨Ge, He, ee, De, he, ke, _⟩ := Dc.lay ue (.lst (xs.drop (j)))
            rw [← ee]
            refine ⟨c, e, _, _, rfl, rfl, De.same _ _ (ke _ _ hc), De.same _ _ he, by rw [List.length_append, List.length_take, List.length_drop]; exact Nat.le_trans (show _ ≤ 1000 by omega) (by decide), fun g ug => ?_⟩
            obtain ⟨Gg, Hg, eg, Dg, hg, kg, _⟩ := De.lay ug (.lst (xs.take j ++ ms ++ xs.drop (j)))
            rw [← eg]
            have KK := ((((k2.trans ka).trans km).trans kc).trans ke).trans kg
            have hxg := dpAll_same KK _ _ hx
            have hmg := dpAll_same ((kc.trans ke).trans kg) _ _ hms
            refine fin Gg _ g (ps.take j ++ mid ++ ps.drop (j)) KK Dg (Same.free ((((k2.trans ka).trans km).trans kc).trans ke) (De.same.free ug)) (.lst (SqL.of hg) ?_) ⟨mem3 (fun q h => ok q (List.mem_of_mem_take h)) ?_ (fun q h => ok q (List.mem_of_mem_drop h)), ?_⟩
            · rw [List.map_append, List.map_append, List.map_take, List.map_drop]
              exact dpAll_app (dpAll_app (all_take _ hxg) hmg) (all_drop _ hxg)
            · rw [emid]; intro q h; rw [List.mem_singleton.mp h]; exact ⟨sin, by decide⟩
            · rw [List.length_append, List.length_append, List.length_take, List.length_drop]
              have lm : mid.length ≤ 1 := by rw [emid]; exact Nat.le_refl _
              omega
          · exact iteFb (by simpa using g0) (after _ _ ⟨G2, rfl, k2, D2, ht0⟩)
        case next1 =>
          clear D2 k2 ht0
          rintro _ H1 ⟨G2, rfl, k2, D2, ht0⟩
          refine seq_cut (fun σ1 H1 => ∃ G2 : Hp, σ1 = [some (.ref d), some (.ref p), some (.int (j : Nat)), some (.int f), some (.str m), some (.str s), some (.ref t0)] ∧ Same G G2 ∧ Deal G2 H1 d l ∧ SqT K G2 t0 ys) ?next2 fun after => ?this2
          case this2 =>
            have hs0 : SqL K G2 p xs := k2.seq hsG
            refine ⟨_, rfl, (by show 2 ≤ sizeLine; decide), fun u uu => ?_⟩
            obtain ⟨Gu, Hu, eu, Du, hu, ku, _⟩ := D2.lay uu (.tup [.int 1, .int 2])
            rw [← eu]
            have hs0 : SqL K Gu p xs := (k2.trans ku).seq hsG
            refine ⟨u, _, rfl, .inr (SqT.of (Du.same _ _ hu)), rfl, rfl, _, rfl, ?_⟩
            by_cases g0 : inV (V.int f) [V.int 1, V.int 2] = true
            · refine iteTb g0 ?_
              by_cases g1 : decide (V.int f = V.int 1) = true
              · skip
                refine ⟨_, rfl, _, rfl, _, rfl, p, xs, rfl, (Du.same).seq hs0, fun a ua => ?_⟩
                rw [cutT1 j (by omega)]
                obtain ⟨Ga, Ha, ea, Da, ha, ka, _⟩ := Du.lay ua (.lst (xs.take j))
                rw [← ea]
                refine ⟨_, rfl, _, rfl, rfl, _, rfl, ?_⟩
                refine iteTb g1 ⟨_, rfl, (by show 4 ≤ sizeLine; decide), fun t ut => ?_⟩
                obtain ⟨Gt, Ht, et, Dt, ht, kt, _⟩ := Da.lay ut (.tup [.str "mark", .str m, .str s, .non])
                rw [← et]
                refine ⟨(by show 1 ≤ sizeLine; decide), fun b ub => ?_⟩
                obtain ⟨Gm, Hm, em, Dm, hb, kb, _⟩ := Dt.lay ub (.lst [.ref t])
                rw [← em]
                have km := (kt.trans kb)
                obtain ⟨ms, ems⟩ : ∃ ms, ms = [V.ref t] := ⟨_, rfl⟩
                rw [← ems] at hb
                obtain ⟨mid, emid⟩ : ∃ mid : List Pt, mid = [Pt.gate m (some s) none] := ⟨_, rfl⟩
                have lms : ms.length = 1 := by rw [ems]; rfl
                have hms : DpAll K Gm ms (mid.map partD) := by
                  rw [ems, emid]
                  exact .cons (part_dp (p := Pt.gate m (some s) none) (SqT.of (kb _ _ ht))) .nil
                refine ⟨a, b, xs.take j, ms, rfl, rfl, Dm.same _ _ (km _ _ ha), Dm.same _ _ hb, by rw [List.length_take]; exact Nat.le_trans (show _ ≤ 1000 by omega) (by decide), fun c uc => ?_⟩
                obtain ⟨Gc, Hc, ec, Dc, hc, kc, _⟩ := Dm.lay uc (.lst (xs.take j ++ ms))
                rw [← ec]
                refine ⟨_, rfl, _, rfl, _, rfl, p, xs, rfl, (Dc.same).seq (((((k2.trans ku).trans ka).trans km).trans kc).seq hsG), fun e ue => ?_⟩
                rw [cutD1 j]
                obtain ⟨Ge, He, ee, De, he, ke, _⟩ := Dc.lay ue (.lst (xs.drop (j)))
                rw [← ee]
                refine ⟨c, e, _, _, rfl, rfl, De.same _ _ (ke _ _ hc), De.same _ _ he, by rw [List.length_append, List.length_take, List.length_drop]; exact Nat.le_trans (show _ ≤ 1000 by omega) (by decide), fun g ug => ?_⟩
                obtain ⟨Gg, Hg, eg, Dg, hg, kg, _⟩ := De.lay ug (.lst (xs.take j ++ ms ++ xs.drop (j)))
                rw [← eg]
                have KK := (((((k2.trans ku).trans ka).trans km).trans kc).trans ke).trans kg
                have hxg := dpAll_same KK _ _ hx
                have hmg := dpAll_same ((kc.trans ke).trans kg) _ _ hms
                refine fin Gg _ g (ps.take j ++ mid ++ ps.drop (j)) KK Dg (Same.free (((((k2.trans ku).trans ka).trans km).trans kc).trans ke) (De.same.free ug)) (.lst (SqL.of hg) ?_) ⟨mem3 (fun q h => ok q (List.mem_of_mem_take h)) ?_ (fun q h => ok q (List.mem_of_mem_drop h)), ?_⟩
                · rw [List.map_append, List.map_append, List.map_take, List.map_drop]
                  exact dpAll_app (dpAll_app (all_take _ hxg) hmg) (all_drop _ hxg)
                · rw [emid]; intro q h; rw [List.mem_singleton.mp h]; exact ⟨min, (fun z e => by cases e; exact sin), fun z e => by cases e⟩
                · rw [List.length_append, List.length_append, List.length_take, List.length_drop]
                  have lm : mid.length ≤ 1 := by rw [emid]; exact Nat.le_refl _
                  omega
              · skip
                refine ⟨_, rfl, _, rfl, _, rfl, p, xs, rfl, (Du.same).seq hs0, fun a ua => ?_⟩
                rw [cutT1 j (by omega)]
                obtain ⟨Ga, Ha, ea, Da, ha, ka, _⟩ := Du.lay ua (.lst (xs.take j))
                rw [← ea]
                refine ⟨_, rfl, _, rfl, rfl, _, rfl, ?_⟩
                refine iteFb (by simpa using g1) ⟨(by show 4 ≤ sizeLine; decide), fun t ut => ?_⟩
                obtain ⟨Gt, Ht, et, Dt, ht, kt, _⟩ := Da.lay ut (.tup [.str "mark", .str m, .non, .non])
                rw [← et]
                refine ⟨(by show 1 ≤ sizeLine; decide), fun b ub => ?_⟩
                obtain ⟨Gm, Hm, em, Dm, hb, kb, _⟩ := Dt.lay ub (.lst [.ref t])
                rw [← em]
                have km := (kt.trans kb)
                obtain ⟨ms, ems⟩ : ∃ ms, ms = [V.ref t] := ⟨_, rfl⟩
                rw [← ems] at hb
                obtain ⟨mid, emid⟩ : ∃ mid : List Pt, mid = [Pt.gate m none none] := ⟨_, rfl⟩
                have lms : ms.length = 1 := by rw [ems]; rfl
                have hms : DpAll K Gm ms (mid.map partD) := by
                  rw [ems, emid]
                  exact .cons (part_dp (p := Pt.gate m none none) (SqT.of (kb _ _ ht))) .nil
                refine ⟨a, b, xs.take j, ms, rfl, rfl, Dm.same _ _ (km _ _ ha), Dm.same _ _ hb, by rw [List.length_take]; exact Nat.le_trans (show _ ≤ 1000 by omega) (by decide), fun c uc => ?_⟩
                obtain ⟨Gc, Hc, ec, Dc, hc, kc, _⟩ := Dm.lay uc (.lst (xs.take j ++ ms))
                rw [← ec]
                refine ⟨_, rfl, _, rfl, _, rfl, p, xs, rfl, (Dc.same).seq (((((k2.trans ku).trans ka).trans km).trans kc).seq hsG), fun e ue => ?_⟩
                rw [cutD1 j]
                obtain ⟨Ge, He, ee, De, he, ke, _⟩ := Dc.lay ue (.lst (xs.drop (j)))
                rw [← ee]
                refine ⟨c, e, _, _, rfl, rfl, De.same _ _ (ke _ _ hc), De.same _ _ he, by rw [List.length_append, List.length_take, List.length_drop]; exact Nat.le_trans (show _ ≤ 1000 by omega) (by decide), fun g ug => ?_⟩
                obtain ⟨Gg, Hg, eg, Dg, hg, kg, _⟩ := De.lay ug (.lst (xs.take j ++ ms ++ xs.drop (j)))
                rw [← eg]
                have KK := (((((k2.trans ku).trans ka).trans km).trans kc).trans ke).trans kg
                have hxg := dpAll_same KK _ _ hx
                have hmg := dpAll_same ((kc.trans ke).trans kg) _ _ hms
                refine fin Gg _ g (ps.take j ++ mid ++ ps.drop (j)) KK Dg (Same.free (((((k2.trans ku).trans ka).trans km).trans kc).trans ke) (De.same.free ug)) (.lst (SqL.of hg) ?_) ⟨mem3 (fun q h => ok q (List.mem_of_mem_take h)) ?_ (fun q h => ok q (List.mem_of_mem_drop h)), ?_⟩
                · rw [List.map_append, List.map_append, List.map_take, List.map_drop]
                  exact dpAll_app (dpAll_app (all_take _ hxg) hmg) (all_drop _ hxg)
                · rw [emid]; intro q h; rw [List.mem_singleton.mp h]; exact ⟨min, (fun z e => by cases e), fun z e => by cases e⟩
                · rw [List.length_append, List.length_append, List.length_take, List.length_drop]
                  have lm : mid.length ≤ 1 := by rw [emid]; exact Nat.le_refl _
                  omega
            · exact iteFb (by simpa using g0) (after _ _ ⟨Gu, rfl, k2.trans ku, Du, same_tup ku ht0⟩)
          case next2 =>
            clear D2 k2 ht0
            rintro _ H1 ⟨G2, rfl, k2, D2, ht0⟩
            refine seq_cut (fun σ1 H1 => ∃ G2 : Hp, σ1 = [some (.ref d), some (.ref p), some (.int (j : Nat)), some (.int f), some (.str m), some (.str s), some (.ref t0)] ∧ Same G G2 ∧ Deal G2 H1 d l ∧ SqT K G2 t0 ys) ?next3 fun after => ?this3
            case this3 =>
              have hs0 : SqL K G2 p xs := k2.seq hsG
              refine ⟨_, rfl, _, _, rfl, rfl, _, rfl, ?_⟩
              by_cases g0 : decide (f < 6) = true
              · refine iteTb g0 ⟨_, rfl, t0, ys, 0, _, rfl, rfl, same_tup D2.same ht0, atI_nat (j := 0) hz0, rfl, _, rfl, ?_⟩
                by_cases g1 : decide (V.str z0 = V.str "ask") = true
                · refine iteTb g1 ?_
                  obtain ⟨s2, n2, hs2, rfl⟩ := hask (V.str.inj (of_decide_eq_true g1))
                  refine ⟨_, rfl, _, rfl, _, rfl, p, xs, rfl, (D2.same).seq hs0, fun a ua => ?_⟩
                  rw [cutT1 j (by omega)]
                  obtain ⟨Ga, Ha, ea, Da, ha, ka, _⟩ := D2.lay ua (.lst (xs.take j))
                  rw [← ea]
                  refine ⟨_, rfl, _, rfl, _, rfl, t0, _, 1, _, rfl, rfl, same_tup (Da.same) (same_tup ka ht0), atI_nat (j := 1) rfl, (by show 4 ≤ sizeLine; decide), fun t ut => ?_⟩
                  obtain ⟨Gt, Ht, et, Dt, ht, kt, _⟩ := Da.lay ut (.tup [.str "mark", .str m, .str s, .str s2])
                  rw [← et]
                  refine ⟨(by show 1 ≤ sizeLine; decide), fun b ub => ?_⟩
                  obtain ⟨Gm, Hm, em, Dm, hb, kb, _⟩ := Dt.lay ub (.lst [.ref t])
                  rw [← em]
                  have km := (kt.trans kb)
                  obtain ⟨ms, ems⟩ : ∃ ms, ms = [V.ref t] := ⟨_, rfl⟩
                  rw [← ems] at hb
                  obtain ⟨mid, emid⟩ : ∃ mid : List Pt, mid = [Pt.gate m (some s) (some s2)] := ⟨_, rfl⟩
                  have lms : ms.length = 1 := by rw [ems]; rfl
                  have hms : DpAll K Gm ms (mid.map partD) := by
                    rw [ems, emid]
                    exact .cons (part_dp (p := Pt.gate m (some s) (some s2)) (SqT.of (kb _ _ ht))) .nil
                  refine ⟨a, b, xs.take j, ms, rfl, rfl, Dm.same _ _ (km _ _ ha), Dm.same _ _ hb, by rw [List.length_take]; exact Nat.le_trans (show _ ≤ 1000 by omega) (by decide), fun c uc => ?_⟩
                  obtain ⟨Gc, Hc, ec, Dc, hc, kc, _⟩ := Dm.lay uc (.lst (xs.take j ++ ms))
                  rw [← ec]
                  refine ⟨_, rfl, _, rfl, _, _, rfl, rfl, _, rfl, p, xs, rfl, (Dc.same).seq ((((k2.trans ka).trans km).trans kc).seq hsG), fun e ue => ?_⟩
                  rw [cutD2 j]
                  obtain ⟨Ge, He, ee, De, he, ke, _⟩ := Dc.lay ue (.lst (xs.drop (j + 1)))
                  rw [← ee]
                  refine ⟨c, e, _, _, rfl, rfl, De.same _ _ (ke _ _ hc), De.same _ _ he, by rw [List.length_append, List.length_take, List.length_drop]; exact Nat.le_trans (show _ ≤ 1000 by omega) (by decide), fun g ug => ?_⟩
                  obtain ⟨Gg, Hg, eg, Dg, hg, kg, _⟩ := De.lay ug (.lst (xs.take j ++ ms ++ xs.drop (j + 1)))
                  rw [← eg]
                  have KK := ((((k2.trans ka).trans km).trans kc).trans ke).trans kg
                  have hxg := dpAll_same KK _ _ hx
                  have hmg := dpAll_same ((kc.trans ke).trans kg) _ _ hms
                  refine fin Gg _ g (ps.take j ++ mid ++ ps.drop (j + 1)) KK Dg (Same.free ((((k2.trans ka).trans km).trans kc).trans ke) (De.same.free ug)) (.lst (SqL.of hg) ?_) ⟨mem3 (fun q h => ok q (List.mem_of_mem_take h)) ?_ (fun q h => ok q (List.mem_of_mem_drop h)), ?_⟩
                  · rw [List.map_append, List.map_append, List.map_take, List.map_drop]
                    exact dpAll_app (dpAll_app (all_take _ hxg) hmg) (all_drop _ hxg)
                  · rw [emid]; intro q h; rw [List.mem_singleton.mp h]; exact ⟨min, (fun z e => by cases e; exact sin), fun z e => by cases e; exact hs2⟩
                  · rw [List.length_append, List.length_append, List.length_take, List.length_drop]
                    have lm : mid.length ≤ 1 := by rw [emid]; exact Nat.le_refl _
                    omega
                · exact iteFb (by simpa using g1) (after _ _ ⟨G2, rfl, k2, D2, ht0⟩)
              · exact iteFb (by simpa using g0) (iteF (after _ _ ⟨G2, rfl, k2, D2, ht0⟩))
            case next3 =>
              clear D2 k2 ht0
              rintro _ H1 ⟨G2, rfl, k2, D2, ht0⟩
              refine seq_cut (fun σ1 H1 => ∃ G2 : Hp, σ1 = [some (.ref d), some (.ref p), some (.int (j : Nat)), some (.int f), some (.str m), some (.str s), some (.ref t0)] ∧ Same G G2 ∧ Deal G2 H1 d l ∧ SqT K G2 t0 ys) ?next4 fun after => ?this4
              case this4 =>
                have hs0 : SqL K G2 p xs := k2.seq hsG
                refine ⟨_, rfl, rfl, _, rfl, ?_⟩
                by_cases g0 : decide (V.int f = V.int 6) = true
                · refine iteTb g0 ⟨_, rfl, p, xs, rfl, .inl (D2.same.seq hs0), _, _, rfl, rfl, _, rfl, ?_⟩
                  by_cases g1 : decide ((1 : Int) < (xs.length : Int)) = true
                  · refine iteTb g1 ?_
                    refine ⟨_, rfl, _, rfl, _, rfl, p, xs, rfl, D2.same.seq hs0, fun a ua => ?_⟩
                    rw [cutT1 j (by omega)]
                    obtain ⟨Ga, Ha, ea, Da, ha, ka, _⟩ := D2.lay ua (.lst (xs.take j))
                    rw [← ea]
                    refine ⟨_, rfl, _, rfl, _, _, rfl, rfl, _, rfl, p, xs, rfl, Da.same.seq (ka.seq hs0), fun e ue => ?_⟩
                    rw [cutD2 j]
                    obtain ⟨Ge, He, ee, De, he, ke, _⟩ := Da.lay ue (.lst (xs.drop (j + 1)))
                    rw [← ee]
                    refine ⟨a, e, _, _, rfl, rfl, De.same _ _ (ke _ _ ha), De.same _ _ he, by rw [List.length_take, List.length_drop]; exact Nat.le_trans (show _ ≤ 1000 by omega) (by decide), fun g ug => ?_⟩
                    obtain ⟨Gg, Hg, eg, Dg, hg, kg, _⟩ := De.lay ug (.lst (xs.take j ++ xs.drop (j + 1)))
                    rw [← eg]
                    have KK := ((k2.trans ka).trans ke).trans kg
                    have hxg := dpAll_same KK _ _ hx
                    refine fin Gg _ g (ps.take j ++ ps.drop (j + 1)) KK Dg (Same.free ((k2.trans ka).trans ke) (De.same.free ug)) (.lst (SqL.of hg) ?_) ⟨fun q h => ?_, ?_⟩
                    · rw [List.map_append, List.map_take, List.map_drop]
                      exact dpAll_app (all_take _ hxg) (all_drop _ hxg)
                    · rcases List.mem_append.mp h with h | h
                      · exact ok q (List.mem_of_mem_take h)
                      · exact ok q (List.mem_of_mem_drop h)
                    · rw [List.length_append, List.length_take, List.length_drop]
                      omega
                  · exact iteFb (by simpa using g1) (after _ _ ⟨G2, rfl, k2, D2, ht0⟩)
                · exact iteFb (by simpa using g0) (iteF (after _ _ ⟨G2, rfl, k2, D2, ht0⟩))
              case next4 =>
                clear D2 k2 ht0
                rintro _ H1 ⟨G2, rfl, k2, D2, ht0⟩
                refine seq_cut (fun σ1 H1 => ∃ G2 : Hp, σ1 = [some (.ref d), some (.ref p), some (.int (j : Nat)), some (.int f), some (.str m), some (.str s), some (.ref t0)] ∧ Same G G2 ∧ Deal G2 H1 d l ∧ SqT K G2 t0 ys) ?next5 fun after => ?this5
                case this5 =>
                  have hs0 : SqL K G2 p xs := k2.seq hsG
                  refine ⟨_, rfl, rfl, _, rfl, ?_⟩
                  by_cases g0 : decide (V.int f = V.int 7) = true
                  · refine iteTb g0 ?_
                    refine ⟨_, rfl, _, rfl, _, rfl, p, xs, rfl, (D2.same).seq hs0, fun a ua => ?_⟩
                    rw [cutT1 j (by omega)]
                    obtain ⟨Ga, Ha, ea, Da, ha, ka, _⟩ := D2.lay ua (.lst (xs.take j))
                    rw [← ea]
                    refine ⟨_, rfl, (by show 2 ≤ sizeLine; decide), fun bb ub2 => ?_⟩
                    obtain ⟨Gb, Hb, eb, Db, hb2, kb2, _⟩ := Da.lay ub2 (.lst [.str "x", .str "y"])
                    rw [← eb]
                    refine ⟨Gb, d, l, bb, _, rfl, Db, SqL.of hb2, (by simp), (by show 2 < 1000; decide), fun H9 x9 D9 hx9 => ?_⟩
                    obtain ⟨z, rfl, zin⟩ : ∃ z, x9 = .str z ∧ z ∈ (["x", "y"] : List Str) := by
                      rcases List.mem_cons.mp hx9 with rfl | hx2
                      · exact ⟨"x", rfl, by simp⟩
                      · rw [List.mem_singleton.mp hx2]
                        exact ⟨"y", rfl, by simp⟩
                    refine ⟨(by show 2 ≤ sizeLine; decide), fun t ut => ?_⟩
                    obtain ⟨Gt, Ht, et, Dt, ht, kt, _⟩ := D9.lay ut (.tup [.str "note", .str z])
                    rw [← et]
                    refine ⟨(by show 1 ≤ sizeLine; decide), fun b ub => ?_⟩
                    obtain ⟨Gm, Hm, em, Dm, hb, kb, _⟩ := Dt.lay ub (.lst [.ref t])
                    rw [← em]
                    have km := kb2.trans (kt.trans kb)
                    obtain ⟨ms, ems⟩ : ∃ ms, ms = [V.ref t] := ⟨_, rfl⟩
                    rw [← ems] at hb
                    obtain ⟨mid, emid⟩ : ∃ mid : List Pt, mid = [Pt.note z] := ⟨_, rfl⟩
                    have lms : ms.length = 1 := by rw [ems]; rfl
                    have hms : DpAll K Gm ms (mid.map partD) := by
                      rw [ems, emid]
                      exact .cons (part_dp (p := Pt.note z) (SqT.of (kb _ _ ht))) .nil
                    refine ⟨a, b, xs.take j, ms, rfl, rfl, Dm.same _ _ (km _ _ ha), Dm.same _ _ hb, by rw [List.length_take]; exact Nat.le_trans (show _ ≤ 1000 by omega) (by decide), fun c uc => ?_⟩
                    obtain ⟨Gc, Hc, ec, Dc, hc, kc, _⟩ := Dm.lay uc (.lst (xs.take j ++ ms))
                    rw [← ec]
                    refine ⟨_, rfl, _, rfl, _, rfl, p, xs, rfl, (Dc.same).seq ((((k2.trans ka).trans km).trans kc).seq hsG), fun e ue => ?_⟩
                    rw [cutD1 j]
                    obtain ⟨Ge, He, ee, De, he, ke, _⟩ := Dc.lay ue (.lst (xs.drop (j)))
                    rw [← ee]
                    refine ⟨c, e, _, _, rfl, rfl, De.same _ _ (ke _ _ hc), De.same _ _ he, by rw [List.length_append, List.length_take, List.length_drop]; exact Nat.le_trans (show _ ≤ 1000 by omega) (by decide), fun g ug => ?_⟩
                    obtain ⟨Gg, Hg, eg, Dg, hg, kg, _⟩ := De.lay ug (.lst (xs.take j ++ ms ++ xs.drop (j)))
                    rw [← eg]
                    have KK := ((((k2.trans ka).trans km).trans kc).trans ke).trans kg
                    have hxg := dpAll_same KK _ _ hx
                    have hmg := dpAll_same ((kc.trans ke).trans kg) _ _ hms
                    refine fin Gg _ g (ps.take j ++ mid ++ ps.drop (j)) KK Dg (Same.free ((((k2.trans ka).trans km).trans kc).trans ke) (De.same.free ug)) (.lst (SqL.of hg) ?_) ⟨mem3 (fun q h => ok q (List.mem_of_mem_take h)) ?_ (fun q h => ok q (List.mem_of_mem_drop h)), ?_⟩
                    · rw [List.map_append, List.map_append, List.map_take, List.map_drop]
                      exact dpAll_app (dpAll_app (all_take _ hxg) hmg) (all_drop _ hxg)
                    · rw [emid]; intro q h; rw [List.mem_singleton.mp h]; exact zin
                    · rw [List.length_append, List.length_append, List.length_take, List.length_drop]
                      have lm : mid.length ≤ 1 := by rw [emid]; exact Nat.le_refl _
                      omega
                  · exact iteFb (by simpa using g0) (after _ _ ⟨G2, rfl, k2, D2, ht0⟩)
                case next5 =>
                  clear D2 k2 ht0
                  rintro _ H1 ⟨G2, rfl, k2, D2, ht0⟩
                  refine seq_cut (fun σ1 H1 => ∃ G2 : Hp, σ1 = [some (.ref d), some (.ref p), some (.int (j : Nat)), some (.int f), some (.str m), some (.str s), some (.ref t0)] ∧ Same G G2 ∧ Deal G2 H1 d l ∧ SqT K G2 t0 ys) ?next6 fun after => ?this6
                  case this6 =>
                    have hs0 : SqL K G2 p xs := k2.seq hsG
                    refine ⟨_, rfl, t0, ys, 0, _, rfl, rfl, same_tup D2.same ht0, atI_nat (j := 0) hz0, rfl, _, rfl, ?_⟩
                    by_cases g0 : decide (V.str z0 = V.str "mark") = true
                    · refine iteTb g0 ?_
                      obtain ⟨m2, a2, b2, ha2, rfl⟩ := hmark (V.str.inj (of_decide_eq_true g0))
                      cases a2 with
                      | some z =>
                        refine ⟨_, rfl, _, rfl, _, rfl, p, xs, rfl, (D2.same).seq hs0, fun a ua => ?_⟩
                        rw [cutT1 j (by omega)]
                        obtain ⟨Ga, Ha, ea, Da, ha, ka, _⟩ := D2.lay ua (.lst (xs.take j))
                        rw [← ea]
                        refine ⟨_, rfl, t0, _, 2, _, rfl, rfl, same_tup (Da.same) (same_tup ka ht0), atI_nat (j := 2) rfl, rfl, _, rfl, ?_⟩
                        refine iteTb (by rfl) ⟨_, rfl, t0, _, 2, _, rfl, rfl, same_tup (Da.same) (same_tup ka ht0), atI_nat (j := 2) rfl, (by show 3 ≤ sizeLine; decide), fun t ut => ?_⟩
                        obtain ⟨Gt, Ht, et, Dt, ht, kt, _⟩ := Da.lay ut (.tup [.str "ask", optV (some z), .int 0])
                        rw [← et]
                        refine ⟨(by show 1 ≤ sizeLine; decide), fun b ub => ?_⟩
                        obtain ⟨Gm, Hm, em, Dm, hb, kb, _⟩ := Dt.lay ub (.lst [.ref t])
                        rw [← em]
                        have km := (kt.trans kb)
                        obtain ⟨ms, ems⟩ : ∃ ms, ms = [V.ref t] := ⟨_, rfl⟩
                        rw [← ems] at hb
                        obtain ⟨mid, emid⟩ : ∃ mid : List Pt, mid = [Pt.ask z 0] := ⟨_, rfl⟩
                        have lms : ms.length = 1 := by rw [ems]; rfl
                        have hms : DpAll K Gm ms (mid.map partD) := by
                          rw [ems, emid]
                          exact .cons (part_dp (p := Pt.ask z 0) (SqT.of (kb _ _ ht))) .nil
                        refine ⟨a, b, xs.take j, ms, rfl, rfl, Dm.same _ _ (km _ _ ha), Dm.same _ _ hb, by rw [List.length_take]; exact Nat.le_trans (show _ ≤ 1000 by omega) (by decide), fun c uc => ?_⟩
                        obtain ⟨Gc, Hc, ec, Dc, hc, kc, _⟩ := Dm.lay uc (.lst (xs.take j ++ ms))
                        rw [← ec]
                        refine ⟨_, rfl, _, rfl, _, _, rfl, rfl, _, rfl, p, xs, rfl, (Dc.same).seq ((((k2.trans ka).trans km).trans kc).seq hsG), fun e ue => ?_⟩
                        rw [cutD2 j]
                        obtain ⟨Ge, He, ee, De, he, ke, _⟩ := Dc.lay ue (.lst (xs.drop (j + 1)))
                        rw [← ee]
                        refine ⟨c, e, _, _, rfl, rfl, De.same _ _ (ke _ _ hc), De.same _ _ he, by rw [List.length_append, List.length_take, List.length_drop]; exact Nat.le_trans (show _ ≤ 1000 by omega) (by decide), fun g ug => ?_⟩
                        obtain ⟨Gg, Hg, eg, Dg, hg, kg, _⟩ := De.lay ug (.lst (xs.take j ++ ms ++ xs.drop (j + 1)))
                        rw [← eg]
                        have KK := ((((k2.trans ka).trans km).trans kc).trans ke).trans kg
                        have hxg := dpAll_same KK _ _ hx
                        have hmg := dpAll_same ((kc.trans ke).trans kg) _ _ hms
                        refine fin Gg _ g (ps.take j ++ mid ++ ps.drop (j + 1)) KK Dg (Same.free ((((k2.trans ka).trans km).trans kc).trans ke) (De.same.free ug)) (.lst (SqL.of hg) ?_) ⟨mem3 (fun q h => ok q (List.mem_of_mem_take h)) ?_ (fun q h => ok q (List.mem_of_mem_drop h)), ?_⟩
                        · rw [List.map_append, List.map_append, List.map_take, List.map_drop]
                          exact dpAll_app (dpAll_app (all_take _ hxg) hmg) (all_drop _ hxg)
                        · rw [emid]; intro q h; rw [List.mem_singleton.mp h]; exact ⟨ha2 z rfl, by decide⟩
                        · rw [List.length_append, List.length_append, List.length_take, List.length_drop]
                          have lm : mid.length ≤ 1 := by rw [emid]; exact Nat.le_refl _
                          omega
                      | none =>
                        refine ⟨_, rfl, _, rfl, _, rfl, p, xs, rfl, (D2.same).seq hs0, fun a ua => ?_⟩
                        rw [cutT1 j (by omega)]
                        obtain ⟨Ga, Ha, ea, Da, ha, ka, _⟩ := D2.lay ua (.lst (xs.take j))
                        rw [← ea]
                        refine ⟨_, rfl, t0, _, 2, _, rfl, rfl, same_tup (Da.same) (same_tup ka ht0), atI_nat (j := 2) rfl, rfl, _, rfl, ?_⟩
                        refine iteFb (by rfl) ⟨(by show 0 ≤ sizeLine; decide), fun b ub => ?_⟩
                        obtain ⟨Gm, Hm, em, Dm, hb, kb, _⟩ := Da.lay ub (.lst [])
                        rw [← em]
                        have km := kb
                        obtain ⟨ms, ems⟩ : ∃ ms : List V, ms = [] := ⟨_, rfl⟩
                        rw [← ems] at hb
                        obtain ⟨mid, emid⟩ : ∃ mid : List Pt, mid = [] := ⟨_, rfl⟩
                        have lms : ms.length = 0 := by rw [ems]; rfl
                        have hms : DpAll K Gm ms (mid.map partD) := by rw [ems, emid]; exact .nil
                        refine ⟨a, b, xs.take j, ms, rfl, rfl, Dm.same _ _ (km _ _ ha), Dm.same _ _ hb, by rw [List.length_take]; exact Nat.le_trans (show _ ≤ 1000 by omega) (by decide), fun c uc => ?_⟩
                        obtain ⟨Gc, Hc, ec, Dc, hc, kc, _⟩ := Dm.lay uc (.lst (xs.take j ++ ms))
                        rw [← ec]
                        refine ⟨_, rfl, _, rfl, _, _, rfl, rfl, _, rfl, p, xs, rfl, (Dc.same).seq ((((k2.trans ka).trans km).trans kc).seq hsG), fun e ue => ?_⟩
                        rw [cutD2 j]
                        obtain ⟨Ge, He, ee, De, he, ke, _⟩ := Dc.lay ue (.lst (xs.drop (j + 1)))
                        rw [← ee]
                        refine ⟨c, e, _, _, rfl, rfl, De.same _ _ (ke _ _ hc), De.same _ _ he, by rw [List.length_append, List.length_take, List.length_drop]; exact Nat.le_trans (show _ ≤ 1000 by omega) (by decide), fun g ug => ?_⟩
                        obtain ⟨Gg, Hg, eg, Dg, hg, kg, _⟩ := De.lay ug (.lst (xs.take j ++ ms ++ xs.drop (j + 1)))
                        rw [← eg]
                        have KK := ((((k2.trans ka).trans km).trans kc).trans ke).trans kg
                        have hxg := dpAll_same KK _ _ hx
                        have hmg := dpAll_same ((kc.trans ke).trans kg) _ _ hms
                        refine fin Gg _ g (ps.take j ++ mid ++ ps.drop (j + 1)) KK Dg (Same.free ((((k2.trans ka).trans km).trans kc).trans ke) (De.same.free ug)) (.lst (SqL.of hg) ?_) ⟨mem3 (fun q h => ok q (List.mem_of_mem_take h)) ?_ (fun q h => ok q (List.mem_of_mem_drop h)), ?_⟩
                        · rw [List.map_append, List.map_append, List.map_take, List.map_drop]
                          exact dpAll_app (dpAll_app (all_take _ hxg) hmg) (all_drop _ hxg)
                        · rw [emid]; intro q h; cases h
                        · rw [List.length_append, List.length_append, List.length_take, List.length_drop]
                          have lm : mid.length ≤ 1 := by rw [emid]; exact Nat.zero_le _
                          omega
                    · exact iteFb (by simpa using g0) (after _ _ ⟨G2, rfl, k2, D2, ht0⟩)
                  case next6 =>
                    clear D2 k2 ht0
                    rintro _ H1 ⟨G2, rfl, k2, D2, ht0⟩
                    have hs0 : SqL K G2 p xs := k2.seq hsG
                    refine ⟨_, rfl, _, rfl, _, rfl, p, xs, rfl, (D2.same).seq hs0, fun a ua => ?_⟩
                    rw [cutT1 j (by omega)]
                    obtain ⟨Ga, Ha, ea, Da, ha, ka, _⟩ := D2.lay ua (.lst (xs.take j))
                    rw [← ea]
                    refine ⟨_, rfl, _, rfl, _, rfl, _, rfl, _, _, rfl, rfl, _, rfl, p, xs, rfl, Da.same.seq (ka.seq hs0), fun r ur => ?_⟩
                    rw [cutR j (by omega)]
                    obtain ⟨Gr, Hr, er, Dr, hrr, kr, _⟩ := Da.lay ur (.lst ((xs.drop j).take 2))
                    rw [← er]
                    refine ⟨r, _, rfl, SqL.of (Dr.same _ _ hrr), fun b ub => ?_⟩
                    obtain ⟨Gm, Hm, em, Dm, hb, kb, _⟩ := Dr.lay ub (.lst ((xs.drop j).take 2).reverse)
                    rw [← em]
                    have km := kr.trans kb
                    obtain ⟨ms, ems⟩ : ∃ ms : List V, ms = ((xs.drop j).take 2).reverse := ⟨_, rfl⟩
                    rw [← ems] at hb
                    obtain ⟨mid, emid⟩ : ∃ mid : List Pt, mid = ((ps.drop j).take 2).reverse := ⟨_, rfl⟩
                    have lms : ms.length ≤ 2 := by rw [ems, List.length_reverse, List.length_take]; omega
                    have hms : DpAll K Gm ms (mid.map partD) := by
                      rw [ems, emid, List.map_reverse, List.map_take, List.map_drop]
                      exact all_rev (all_take _ (all_drop _ (dpAll_same ((k2.trans ka).trans km) _ _ hx)))
                    refine ⟨a, b, xs.take j, ms, rfl, rfl, Dm.same _ _ (km _ _ ha), Dm.same _ _ hb, by rw [List.length_take]; exact Nat.le_trans (show _ ≤ 1000 by omega) (by decide), fun c uc => ?_⟩
                    obtain ⟨Gc, Hc, ec, Dc, hc, kc, _⟩ := Dm.lay uc (.lst (xs.take j ++ ms))
                    rw [← ec]
                    refine ⟨_, rfl, _, rfl, _, _, rfl, rfl, _, rfl, p, xs, rfl, (Dc.same).seq ((((k2.trans ka).trans km).trans kc).seq hsG), fun e ue => ?_⟩
                    rw [cutD3 j]
                    obtain ⟨Ge, He, ee, De, he, ke, _⟩ := Dc.lay ue (.lst (xs.drop (j + 2)))
                    rw [← ee]
                    refine ⟨c, e, _, _, rfl, rfl, De.same _ _ (ke _ _ hc), De.same _ _ he, by rw [List.length_append, List.length_take, List.length_drop]; exact Nat.le_trans (show _ ≤ 1000 by omega) (by decide), fun g ug => ?_⟩
                    obtain ⟨Gg, Hg, eg, Dg, hg, kg, _⟩ := De.lay ug (.lst (xs.take j ++ ms ++ xs.drop (j + 2)))
                    rw [← eg]
                    have KK := ((((k2.trans ka).trans km).trans kc).trans ke).trans kg
                    have hxg := dpAll_same KK _ _ hx
                    have hmg := dpAll_same ((kc.trans ke).trans kg) _ _ hms
                    refine fin Gg _ g (ps.take j ++ mid ++ ps.drop (j + 2)) KK Dg (Same.free ((((k2.trans ka).trans km).trans kc).trans ke) (De.same.free ug)) (.lst (SqL.of hg) ?_) ⟨mem3 (fun q h => ok q (List.mem_of_mem_take h)) ?_ (fun q h => ok q (List.mem_of_mem_drop h)), ?_⟩
                    · rw [List.map_append, List.map_append, List.map_take, List.map_drop]
                      exact dpAll_app (dpAll_app (all_take _ hxg) hmg) (all_drop _ hxg)
                    · rw [emid]; intro q h; exact ok q (List.mem_of_mem_drop (List.mem_of_mem_take (List.mem_reverse.mp h)))
                    · rw [List.length_append, List.length_append, List.length_take, List.length_drop]
                      have lm : mid.length ≤ 2 ∧ mid.length ≤ ps.length - j := by rw [emid, List.length_reverse, List.length_take, List.length_drop]; omega
                      omega
end
end K2

set_option Elab.async false
set_option linter.all false
set_option maxRecDepth 100000
set_option maxHeartbeats 4000000
/-! zip(t, z), t a tuple, z a text. -/
namespace Lw
open PySem PySem.Spec PyProof.Rows L2
/-- the tuple at a and the signs of z, two by two -/
def ItZs (K : PySem.W.Frag) (a : Addr) (z : PySem.Str) : It :=
  ⟨fun i H => ∃ (xs : List V) (x : V), SqT K H a xs ∧ xs[i]? = some x ∧ i < z.cps.size,
   fun i H v H' => ∃ T x c, v = .ref T ∧ H T = none ∧ H' = upd H T (.tup [x, .str ⟨#[c]⟩]) ∧ (∀ xs, SqT K H a xs → xs[i]? = some x) ∧ z.cps[i]? = some c,
   fun i H => ∃ xs : List V, SqT K H a xs ∧ xs.length = i ∧ i ≤ z.cps.size⟩
theorem turn_zipS {P : Program} {w : World} {K : PySem.W.Frag} {elts : List Expr} {kk : Nat} {tpos : Pos} (a z TI TO i1 i2 : Addr) (y : PySem.Str) (tk : Tok) (sep : ZipSep2 z TI TO i1 i2 [i1, a] [i2]) (ne : a ≠ i1) :
    Turn P w K (.Tuple elts kk tpos) (ItZs K a y) [z, TI, TO, i1, i2] z (fun i h => IsZip h z TI TO .none ∧ IsTupOf2 h TI (.ref i1) (.ref i2) ∧ (∃ a1 a2, IsTupOf2 h TO a1 a2) ∧ h.IsTupleIter i1 a i ∧ h.IsStrIter i2 (strIterType y) y tk i) where
  mem := by simp
  obj := fun i h st b hb => by
    obtain ⟨h1, h2, ⟨a1, a2, h3⟩, ⟨o4, q4, c4, d4⟩, ⟨o5, q5, c5, d5⟩⟩ := st
    rcases (show b = z ∨ b = TI ∨ b = TO ∨ b = i1 ∨ b = i2 by simpa using hb) with rfl | rfl | rfl | rfl | rfl
    · exact ⟨_, h1, fun v q => nomatch q⟩
    · exact ⟨_, h2, fun v q => nomatch q⟩
    · exact ⟨_, h3, fun v q => nomatch q⟩
    · exact ⟨o4, q4, fun v q => by rw [d4] at q; cases q⟩
    · exact ⟨o5, q5, fun v q => by rw [d5] at q; cases q⟩
  keep := fun i h h' st k => by
    obtain ⟨h1, h2, ⟨a1, a2, h3⟩, ⟨o4, q4, c4, d4⟩, ⟨o5, q5, c5, d5⟩⟩ := st
    exact ⟨k _ (by simp) _ h1, k _ (by simp) _ h2, ⟨a1, a2, k _ (by simp) _ h3⟩, ⟨o4, k _ (by simp) _ q4, c4, d4⟩, ⟨o5, k _ (by simp) _ q5, c5, d5⟩⟩
  item := by
    intro X hP hw hK hc i pins s σ H E I hf st hg
    subst hP hw hK
    obtain ⟨h1, h2, h3, h4, h5⟩ := st
    obtain ⟨xs, x, hq, hx, few2⟩ := hg
    obtain ⟨its, rv, p, hz⟩ := I.tuple hq
    have isT : s.heap.IsTuple a its.toArray := p
    obtain ⟨u, hu, ru⟩ := rv.get hx
    have few : i < its.toArray.size := by
      have := (List.getElem?_eq_some_iff.mp hu).1
      simpa using this
    refine (GoesN.zip2 (A := X.A) (elts := elts) (x1 := kk) (pos := tpos) sep (PySem.Draws.tuple (A := X.A.in1) (I.ok.hd hc) i1 a ne its.toArray) (PySem.Draws.text (A := X.A.in1) (I.ok.hd hc) i2 y tk)).goes i s _ E (by omega) ⟨h1, h2, h3, ⟨h4, isT⟩, h5⟩ fun v h' tk' hY st2 hk _ => ?_
    obtain ⟨T, x1, y1, rfl, hT, p1, ⟨c, t2, p2, rfl⟩, isP⟩ := hY
    have e1 : x1 = u := by
      have hu' : its.toArray[i]? = some u := by simpa using hu
      rw [hu'] at p1
      exact (Option.some.inj p1).symm
    subst e1
    obtain ⟨oT, gT, cT, nT, dT⟩ := isP
    have new : ObjOk X.prog X.w (upd H T (.tup [x, .str ⟨#[c]⟩])) h' T (.tup [x, .str ⟨#[c]⟩]) := ⟨by show 2 ≤ sizeLine; decide, [x1, .str ⟨#[c]⟩ t2], .cons ru (.cons ⟨_, rfl⟩ .nil), ⟨oT, gT, cT, nT, dT⟩⟩
    have I1 : Inv X pins σ (upd H T (.tup [x, .str ⟨#[c]⟩])) { s with heap := h', toks := tk' } :=
      I.turnedNew (ch := [z, TI, TO, i1, i2]) (fun b ob hb q => hk b ob (fun hw => hb (by revert hw; simp; rintro (h | h | h | h) <;> simp [h])) q) hf hT new
    refine ⟨.ref T, _, I1, rfl, ⟨T, x, c, rfl, I.hok.fresh hT, rfl, fun ys hy => by rw [I.tuple_inj hy hq]; exact hx, p2⟩, ⟨st2.1, st2.2.1, st2.2.2.1, st2.2.2.2.1.1, st2.2.2.2.2⟩, fun b hb => ?_⟩
    have hb' : b < s.heap.objs.size := by
      obtain ⟨a1, a2, h3⟩ := h3
      obtain ⟨o4, q4, _⟩ := h4
      obtain ⟨o5, q5, _⟩ := h5
      rcases (show b = z ∨ b = TI ∨ b = TO ∨ b = i1 ∨ b = i2 by simpa using hb) with rfl | rfl | rfl | rfl | rfl
      · exact Heap.lt_size h1
      · exact Heap.lt_size h2
      · exact Heap.lt_size h3
      · exact Heap.lt_size q4
      · exact Heap.lt_size q5
    rw [upd_ne (Nat.ne_of_lt (Nat.lt_of_lt_of_le hb' hT))]
    exact (hf b hb).1
  done := by
    intro X hP hw hK hc i pins s σ H E I hf st hg
    subst hP hw hK
    obtain ⟨h1, h2, h3, h4, h5⟩ := st
    obtain ⟨xs, hq, hx, few2⟩ := hg
    obtain ⟨its, rv, p, hz⟩ := I.tuple hq
    have isT : s.heap.IsTuple a its.toArray := p
    have size : its.toArray.size = i := by rw [List.size_toArray, ← rv.length]; exact hx
    have en : min its.toArray.size y.cps.size = i := by omega
    refine (GoesN.zip2 (A := X.A) (elts := elts) (x1 := kk) (pos := tpos) sep (PySem.Draws.tuple (A := X.A.in1) (I.ok.hd hc) i1 a ne its.toArray) (PySem.Draws.text (A := X.A.in1) (I.ok.hd hc) i2 y tk)).stops s _ E (by rw [en]; exact ⟨h1, h2, h3, ⟨h4, isT⟩, h5⟩) fun h' tk' hk _ => ?_
    exact I.turnedL (ch := [z, TI, TO, i1, i2]) (t' := tk') (fun b ob hb q => hk b ob (fun hw => hb (by revert hw; simp; rintro (h | h | h | h) <;> simp [h])) q) hf
  self := fun A i s Q E st h => wpAny_pyIter_zip st.1 h
def iZipS (K : PySem.W.Frag) (ta : TA) : TI := fun σ H R => ta σ H fun vs H1 => ∃ (a : Addr) (xs : List V) (z : PySem.Str), vs = [.ref a, .str z] ∧ SqT K H1 a xs ∧ R (ItZs K a z) H1
theorem pi_zipS {X : Cx} {e e2 : Expr} {ta : TA} {p pos tpos : Pos} {elts : List Expr} {kk : Nat} (glob : Gl X "zip") (free : X.mg "zip" = none) (arg : PA X [e, e2] ta) (hs : starEach [e, e2] X.env = (false, eval e X.env) :: starEach [e2] X.env := by rfl) (hpl : ((backTo pos (starEach [e2] X.env)).any fun x => x.1) = false := by rfl) :
    PI X (.Tuple elts kk tpos) (.Call (.Name "zip" p) [e, e2] [] pos) (iZipS X.K ta) := by
  constructor
  intro pins s σ H R I h
  refine Call_ (ld_blt I glob free PyProof.Rows.boot_zip (PyProof.Rows.callWith_type1 (thn (arg.run pos pins s σ H _ I h) fun us s1 ⟨vs, H1, I1, r1, q1⟩ => ?_) hs hpl))
  obtain ⟨a, xs, z, rfl, hq, q⟩ := q1
  cases r1 with
  | cons r rr =>
  cases rr with
  | cons r2 rr =>
  cases rr
  cases r
  obtain ⟨t, rfl⟩ := r2
  obtain ⟨its, rv, p', hz⟩ := I1.tuple hq
  have isT : s1.heap.IsTuple a its.toArray := p'
  have lt : a < s1.heap.objs.size := by
    obtain ⟨o, ho, _⟩ := isT
    exact Heap.lt_size ho
  refine zip_begins2 (begins_tuple a its.toArray) (begins_text z t) isT trivial fun h' h1 h2 h3 h4 h5 hsz hk => wpAny_pyIter_zip h1 ?_
  have I2 : Inv X pins σ H1 { s1 with heap := h' } := I1.kept (t' := s1.toks) hk
  refine ⟨s1.heap.objs.size + 4, [s1.heap.objs.size + 4, s1.heap.objs.size + 2, s1.heap.objs.size + 3, s1.heap.objs.size, s1.heap.objs.size + 1], _, _, H1, rfl, I2, turn_zipS a (s1.heap.objs.size + 4) (s1.heap.objs.size + 2) (s1.heap.objs.size + 3) s1.heap.objs.size (s1.heap.objs.size + 1) z t
    (zip_sep2 (fp1 := [a]) (fp2 := []) (fun b hb => by rw [List.mem_singleton.mp hb]; exact lt) (fun b hb => by cases hb)) (Nat.ne_of_lt lt), ⟨h1, h2, ⟨_, _, h3⟩, ⟨_, h4, rfl, rfl⟩, ⟨_, h5, rfl, rfl⟩⟩, fun b hb => ?_, q⟩
  have up : s1.heap.objs.size ≤ b := by
    rcases (show b = s1.heap.objs.size + 4 ∨ b = s1.heap.objs.size + 2 ∨ b = s1.heap.objs.size + 3 ∨ b = s1.heap.objs.size ∨ b = s1.heap.objs.size + 1 by simpa using hb) with rfl | rfl | rfl | rfl | rfl
    · exact Nat.le_add_right _ _
    · exact Nat.le_add_right _ _
    · exact Nat.le_add_right _ _
    · exact Nat.le_refl _
    · exact Nat.le_add_right _ _
  exact I1.fpOk up (I1.hok.fresh up)
/-- a walk over it -/
theorem walk_zipS {K : PySem.W.Frag} {a : Addr} {z : PySem.Str} {xs : List V} (len : xs.length ≤ z.cps.size) : Walk (ItZs K a z) xs.length (fun H => SqT K H a xs) (YPair (fun i => xs[i]?) (fun i => (z.cps[i]?).map fun c => V.str ⟨#[c]⟩)) :=
  ⟨fun i H lt h => ⟨xs, xs[i], h, List.getElem?_eq_getElem lt, by omega⟩, fun H h => ⟨xs, h, rfl, len⟩, fun i H x H' lt h y => by
    obtain ⟨T, x1, c, rfl, u, e, q1, q2⟩ := y
    exact ⟨T, x1, _, rfl, u, e, q1 xs h, by show (z.cps[i]?).map _ = _; rw [q2]; rfl⟩⟩
end Lw

set_option Elab.async false
set_option linter.all false
set_option maxRecDepth 100000
set_option maxHeartbeats 1000000
/-! the rows of parts, as tuples -/
namespace K2
open PySem L2 Lw
abbrev everyZ : Str := "abcdefghij"
def ltr (i : Nat) : Str := ⟨#[everyZ.cps.toList.getD i 0]⟩
def placeP (c : Str) (i : Nat) : Str := c ++ ltr i
/-- where the i-th part of n leads to -/
def laterP (n i : Nat) : Str := if i + 1 < n then placeP "p" (i + 1) else "z"
def sideP (n i : Nat) (c : Str) : Option Str → Str
  | none => laterP n i
  | some _ => placeP c i
def askP (n i : Nat) (c : Str) : Option Str → List Row0
  | none => []
  | some s => [.ask (placeP c i) s [("ok", laterP n i)]]
/-- the rows of the i-th part of n -/
def rowsP (n i : Nat) : Pt → List Row0
  | .ask s k => [.ask (placeP "p" i) s (("ok", laterP n i) :: (if 0 < k then [("no", if k = 1 then "z" else placeP "p" i)] else []))]
  | .note w => [.note (placeP "p" i) w (laterP n i)]
  | .gate m a b => .gate (placeP "p" i) m (sideP n i "n" a) (sideP n i "e" b) :: (askP n i "n" a ++ askP n i "e" b)
def rowsPs (n : Nat) : Nat → List Pt → List Row0
  | _, [] => []
  | i, p :: ps => rowsP n i p ++ rowsPs n (i + 1) ps
theorem rowsPs_app (n : Nat) : ∀ (i : Nat) (a b : List Pt), rowsPs n i (a ++ b) = rowsPs n i a ++ rowsPs n (i + a.length) b
  | i, [], b => by simp [rowsPs]
  | i, p :: a, b => by
    show rowsP n i p ++ rowsPs n (i + 1) (a ++ b) = (rowsP n i p ++ rowsPs n (i + 1) a) ++ _
    rw [rowsPs_app n (i + 1) a b, List.append_assoc, List.length_cons, show i + 1 + a.length = i + (a.length + 1) from by omega]
/-- all rows of parts -/
def linesP (ps : List Pt) : List Row0 := rowsPs ps.length 0 ps ++ [.end_ "z"]
theorem rowsP_few (n i : Nat) (p : Pt) : (rowsP n i p).length ≤ 3 := by
  cases p with
  | ask s k => show 1 ≤ 3; decide
  | note w => show 1 ≤ 3; decide
  | gate m a b =>
    show (askP n i "n" a ++ askP n i "e" b).length + 1 ≤ 3
    cases a <;> cases b <;> simp [askP]
theorem rowsPs_few (n : Nat) : ∀ (i : Nat) (ps : List Pt), (rowsPs n i ps).length ≤ 3 * ps.length
  | _, [] => Nat.zero_le _
  | i, p :: ps => by
    have h1 := rowsP_few n i p
    have h2 := rowsPs_few n (i + 1) ps
    show (rowsP n i p ++ rowsPs n (i + 1) ps).length ≤ 3 * (ps.length + 1)
    rw [List.length_append]
    omega
theorem every_at {K : PySem.W.Frag} {i : Nat} (h : i < 10) : ∃ c, atI everyZ.cps.toList (i : Int) = some c ∧ (⟨#[c]⟩ : Str) = ltr i := by
  have e : everyZ.cps.toList.length = 10 := by decide +kernel
  have lt : i < everyZ.cps.toList.length := by omega
  refine ⟨everyZ.cps.toList[i], atI_nat (List.getElem?_eq_getElem lt), ?_⟩
  unfold ltr
  rw [List.getD_eq_getElem?_getD, List.getElem?_eq_getElem lt]
  rfl
/-- a list of rows that grows -/
structure AccL (K : PySem.W.Frag) (H : Hp) (L : Addr) (rs : List Row0) (H1 : Hp) : Prop where
  s : Same H H1
  un : H L = none
  ex : ∃ acc, H1 L = some (.lst acc) ∧ DpAll K H1 acc (rs.map lineD)
theorem AccL.more {K : PySem.W.Frag} {H H1 H2 : Hp} {L : Addr} {rs : List Row0} (a : AccL K H L rs H1) (s : Same H1 H2) : AccL K H L rs H2 :=
  ⟨a.s.trans s, a.un, let ⟨acc, h1, h2⟩ := a.ex; ⟨acc, s _ _ h1, dpAll_same s _ _ h2⟩⟩
theorem AccL.put {K : PySem.W.Frag} {H H1 : Hp} {L : Addr} {rs : List Row0} {x : V} {r : Row0} (a : AccL K H L rs H1) (few : rs.length ≤ 100) (h : Dp K H1 x (lineD r)) :
    ∃ acc, H1 L = some (.lst acc) ∧ acc.length < sizeLine ∧ AccL K H L (rs ++ [r]) (upd H1 L (.lst (acc ++ [x]))) := by
  obtain ⟨acc, h1, h2⟩ := a.ex
  refine ⟨acc, h1, Nat.lt_of_le_of_lt (show acc.length ≤ 100 by rw [dpAll_len h2, List.length_map]; exact few) (by decide), keep_edit (u := .lst acc) a.s a.un, a.un, acc ++ [x], upd_same, ?_⟩
  rw [List.map_append]
  exact dpAll_app (dpAll_same (hard_upd h1) _ _ (dpAll_hard _ _ (noLs_of fun r _ => line_noL r) h2)) (.cons (dp_same (hard_upd h1) _ _ (dp_hard _ _ (line_noL r) h)) .nil)
theorem tup_put {K : PySem.W.Frag} {H : Hp} {L q : Addr} {acc zs ys : List V} (hL : H L = some (.lst acc)) (h : SqT K H q ys) : SqT K (upd H L (.lst zs)) q ys := by
  refine same_tup (H := hide L H) (fun b o eb => ?_) (tup_hide h hL (fun _ z => by cases z) (fun _ _ z => by cases z))
  have ne : b ≠ L := fun z => by rw [z, hide_same] at eb; cases eb
  rw [upd_ne ne]
  rw [hide_ne ne] at eb
  exact eb
def spLines (K : PySem.W.Frag) : Sp := fun vs H Q _ => ∃ (v : V) (ps : List Pt), vs = [v] ∧ Dp K H v (partsD ps) ∧ ps.length ≤ 9 ∧ ∀ (H' : Hp) (p : Addr) (xs : List V), Same H H' → H p = none → H' p = some (.lst xs) → DpAll K H' xs ((linesP ps).map lineD) → Q (.ref p) H'
section
variable {P : Program} {w : World} {K : PySem.W.Frag} {mg : Str → Option Value} {base : Heap}
abbrev nLines : List Str := ["_law_parts", "_law_found", "_law_every", "_law_number", "_law_part", "_law_here", "_law_later", "_law_more", "_law_sort", "_law_side", "_law_sides"]
theorem scLines : FnScope nLines ["_law_parts"] (defScope sLines) := ⟨rfl, rfl, rfl, by decide +kernel, rfl, by decide +kernel, by decide +kernel⟩
theorem okLines {f : Addr} {fd : FuncData} (F : Fun K "_law_lines" "_law_lines" sLines f fd) (tE : mg "enumerate" = none) (tLen : mg "len" = none) (tT : mg "tuple" = none) (tZ : mg "zip" = none) : FnOk P w K mg base CX0 1 f fd ["_law_parts"] (spLines K) := by
  refine F.ok scLines (fun vs H Q E h => ?_) (fun cdv A outer s H vs Q E hr h => ?_)
  · obtain ⟨v, ps, rfl, _⟩ := h
    rfl
  · obtain ⟨v, ps, rfl, hD, few, fin⟩ := h
    refine ⟨_, pss_cons (ps_asg (pe_tup (pa_cons (pe_lst pa_nil) (pa_cons pe_str pa_nil))) (pg_tup rfl (pgs_cons (pg_name (i := 1) scLines.nd rfl (.inl rfl)) (pgs_cons (pg_name (i := 2) scLines.nd rfl (.inr rfl)) pgs_nil))))
      (pss_cons (ps_for PassesOwn.never rfl (pi_enum (by rfl) tE (pa_cons (pv 0) pa_nil)) (pg_tup rfl (pgs_cons (pg_name (i := 3) scLines.nd rfl (.inr rfl)) (pgs_cons (pg_name (i := 4) scLines.nd rfl (.inl rfl)) pgs_nil)))
        (pss_cons (ps_asg (pe_tup (pa_cons (pe_op op_add_str pe_str (pe_ix ix_str (pv 2) (pv 3) (fun _ _ => rfl))) (pa_cons pe_str pa_nil))) (pg_tup rfl (pgs_cons (pg_name (i := 5) scLines.nd rfl (.inl rfl)) (pgs_cons (pg_name (i := 6) scLines.nd rfl (.inr rfl)) pgs_nil))))
        (pss_cons (ps_if (pt_cmpR op_lt (pe_op op_add (pv 3) pe_int) (pe_callB call_len_seq (by rfl) tLen PySem.boot_len (pa_cons (pv 0) pa_nil)) (nomark _))
          (pss_one (ps_set (i := 6) scLines.nd rfl (Or.inr rfl) (pe_op op_add_str pe_str (pe_ix ix_str (pv 2) (pe_op op_add (pv 3) pe_int) (fun _ _ => rfl))))) pss_nil)
        (pss_one (ps_if (pt_cmpR op_eq (pe_ix ix_tup (pv 4) pe_int (fun _ _ => rfl)) pe_str (nomark _))
          (pss_cons (ps_set (i := 7) scLines.nd rfl (Or.inl rfl) (pe_ifExp (pt_cmpR op_gt (pe_ix ix_tup (pv 4) pe_int (fun _ _ => rfl)) pe_int (nomark _)) (pe_lst (pa_cons (pe_tup (pa_cons pe_str (pa_cons (pe_ifExp (pt_cmpR op_eq (pe_ix ix_tup (pv 4) pe_int (fun _ _ => rfl)) pe_int (nomark _)) pe_str (pv 5)) pa_nil))) pa_nil)) (pe_lst pa_nil)))
          (pss_one (ps_expr (pe_bm PySem.F.plainAttrs_list PySem.F.slot_list_append PySem.F.type_list_append mt_append (pv 1) (pa_cons (pe_tup (pa_cons pe_str (pa_cons (pv 5) (pa_cons (pe_ix ix_tup (pv 4) pe_int (fun _ _ => rfl)) (pa_cons (pe_callTy call_tuple_of (by rfl) tT PyProof.Rows.boot_tuple (pa_cons (pe_op op_cat (pe_lst (pa_cons (pe_tup (pa_cons pe_str (pa_cons (pv 6) pa_nil))) pa_nil)) (pv 7)) pa_nil)) pa_nil))))) pa_nil)))))
          (pss_one (ps_if (pt_cmpR op_eq (pe_ix ix_tup (pv 4) pe_int (fun _ _ => rfl)) pe_str (nomark _))
            (pss_one (ps_expr (pe_bm PySem.F.plainAttrs_list PySem.F.slot_list_append PySem.F.type_list_append mt_append (pv 1) (pa_cons (pe_tup (pa_cons pe_str (pa_cons (pv 5) (pa_cons (pe_ix ix_tup (pv 4) pe_int (fun _ _ => rfl)) (pa_cons (pv 6) pa_nil))))) pa_nil))))
            (pss_cons (ps_setLc (i := 10) (own := [("_law_sort", 8), ("_law_side", 9)]) (g := gTup K 2 (gCons (gName 8) (gCons (gName 9) gNil))) (tt := tYes) (te := tIf (tTest (tOp (fun x y H Q => y = .non ∧ Q (.bl (decide (x = .non))) H) (tVar 8) (tC .non))) (tVar 6) (tOp (fun x y H Q => ∃ i j, x = .str i ∧ y = .str j ∧ i.length + j.length ≤ sizeLine ∧ Q (.str (i ++ j)) H) (tVar 9) (tOp rIxS (tVar 2) (tVar 3)))) (by rfl) scLines.nd rfl rfl (sw_true rfl rfl rfl (by decide +kernel))
                (pi_zipS (by rfl) tZ (pa_cons (pe_slice sl_tup (pv 4) (po_some pe_int) po_none) (pa_cons pe_str pa_nil)))
                (blkOk_by (own := [("_law_sort", 8), ("_law_side", 9)]) (N := nLines) (sc := defScope sLines) (by decide +kernel)) (fun _ _ _ _ _ => pg_tup rfl (pgs_cons (pg_name (i := 8) scLines.nd rfl (.inl rfl)) (pgs_cons (pg_name (i := 9) scLines.nd rfl (.inl rfl)) pgs_nil))) (fun _ _ _ _ _ => pts_nil)
                (fun _ _ _ _ _ => pe_ifExp (pt_cmpR op_isN (pv 8) pe_non rfl) (pv 6) (pe_op op_add_str (pv 9) (pe_ix ix_str (pv 2) (pv 3) (fun _ _ => rfl)))))
            (pss_cons (ps_expr (pe_bm PySem.F.plainAttrs_list PySem.F.slot_list_append PySem.F.type_list_append mt_append (pv 1) (pa_cons (pe_tup (pa_cons pe_str (pa_cons (pv 5) (pa_cons (pe_ix ix_tup (pv 4) pe_int (fun _ _ => rfl)) (pa_cons (pe_ix ix_list (pv 10) pe_int (fun _ _ => rfl)) (pa_cons (pe_ix ix_list (pv 10) pe_int (fun _ _ => rfl)) pa_nil)))))) pa_nil)))
            (pss_one (ps_for PassesOwn.never rfl (pi_zipS (by rfl) tZ (pa_cons (pe_slice sl_tup (pv 4) (po_some pe_int) po_none) (pa_cons pe_str pa_nil))) (pg_tup rfl (pgs_cons (pg_name (i := 8) scLines.nd rfl (.inl rfl)) (pgs_cons (pg_name (i := 9) scLines.nd rfl (.inl rfl)) pgs_nil)))
              (pss_one (ps_if (pt_cmpR op_notN (pv 8) pe_non rfl)
                (pss_one (ps_expr (pe_bm PySem.F.plainAttrs_list PySem.F.slot_list_append PySem.F.type_list_append mt_append (pv 1) (pa_cons (pe_tup (pa_cons pe_str (pa_cons (pe_op op_add_str (pv 9) (pe_ix ix_str (pv 2) (pv 3) (fun _ _ => rfl))) (pa_cons (pv 8) (pa_cons (pe_tup (pa_cons (pe_tup (pa_cons pe_str (pa_cons (pv 6) pa_nil))) pa_nil)) pa_nil))))) pa_nil)))) pss_nil)))))))))))))
      (pss_one (ps_ret (pe_op op_cat (pv 1) (pe_lst (pa_cons (pe_tup (pa_cons pe_str (pa_cons pe_str pa_nil))) pa_nil)))))), ?_⟩
    dsimp only [gName, tNext]
    cases hD with
    | @lst p xs _ hs hx =>
    have xl : xs.length = ps.length := by rw [dpAll_len hx, List.length_map]
    refine ⟨(by show 0 ≤ sizeLine; decide), fun L uL => ⟨(by show 2 ≤ sizeLine; decide), fun t0 ut0 => ⟨t0, _, rfl, SqT.of upd_same, rfl, _, _, rfl, _, _, rfl, rfl, ?_⟩⟩⟩
    have A0 : AccL K H L [] (upd (upd H L (.lst [])) t0 (.tup [.ref L, .str everyZ])) := (⟨same_new uL, uL, [], upd_same, .nil⟩ : AccL K H L [] (upd H L (.lst []))).more (same_new ut0)
    generalize (upd (upd H L (.lst [])) t0 (.tup [.ref L, .str everyZ])) = H0 at A0 ⊢
    refine ⟨_, rfl, p, xs, rfl, A0.s.seq hs, for_enumL (K := K) (a := p) (xs := xs) (fun i σ1 H1 => ∃ v3 v4 v5 v6 v7 v8 v9 v10, σ1 = [some (.ref p), some (.ref L), some (.str everyZ), v3, v4, v5, v6, v7, v8, v9, v10] ∧ AccL K H L (rowsPs ps.length 0 (ps.take i)) H1)
      ⟨_, _, _, _, _, _, _, _, rfl, A0⟩ (fun i σ1 H1 ⟨_, _, _, _, _, _, _, _, _, a⟩ => a.s.seq hs) ?_ ?_⟩
    · rintro i x _ H1 T hx1 ⟨v3, v4, v5, v6, v7, v8, v9, v10, rfl, A1⟩ uT
      have il : i < ps.length := by rw [← xl]; exact (List.getElem?_eq_some_iff.mp hx1).1
      obtain ⟨dd, ed, hd⟩ := dpAll_at (dpAll_same A1.s _ _ hx) hx1
      rw [List.getElem?_map] at ed
      obtain ⟨pt, ep, rfl⟩ := Option.map_eq_some_iff.mp ed
      obtain ⟨t, rfl, ht⟩ := part_cells hd
      have tk : rowsPs ps.length 0 (ps.take (i + 1)) = rowsPs ps.length 0 (ps.take i) ++ rowsP ps.length i pt := by
        rw [List.take_add_one, ep, rowsPs_app, List.length_take, Nat.min_eq_left (Nat.le_of_lt il), Nat.zero_add]
        show _ ++ (rowsP ps.length i pt ++ []) = _
        rw [List.append_nil]
      have fewA : (rowsPs ps.length 0 (ps.take i)).length ≤ 27 := by
        have h1 := rowsPs_few ps.length 0 (ps.take i)
        rw [List.length_take] at h1
        omega
      rw [tk]
      generalize eR : rowsPs ps.length 0 (ps.take i) = R at A1 fewA
      have sT := same_new (o := .tup [.int (i : Nat), .ref t]) uT
      have A2 := A1.more sT
      have ht2 := same_tup sT ht
      refine ⟨T, _, rfl, SqT.of upd_same, rfl, _, _, rfl, _, _, rfl, rfl, ?_⟩
      generalize (upd H1 T (.tup [.int (i : Nat), .ref t])) = H2 at A2 ht2 ⊢
      clear A1 ht hd sT uT hx1 ed
      dsimp only [gName, tNext]
      obtain ⟨c, hc, ec⟩ := every_at (K := K) (i := i) (by omega)
      refine ⟨_, rfl, _, rfl, everyZ, _, c, rfl, rfl, (by decide +kernel), hc, "p", ⟨#[c]⟩, rfl, rfl, (by show 1 + 1 ≤ sizeLine; decide), (by show 2 ≤ sizeLine; decide), fun u uu => ⟨u, _, rfl, SqT.of upd_same, rfl, _, _, rfl, _, _, rfl, rfl, ?_⟩⟩
      rw [show ("p" : Str) ++ (⟨#[c]⟩ : Str) = placeP "p" i from by rw [ec]; rfl]
      have sU := same_new (o := .tup [.str (placeP "p" i), .str "z"]) uu
      have A3 := A2.more sU
      have ht3 := same_tup sU ht2
      generalize (upd H2 u (.tup [.str (placeP "p" i), .str "z"])) = H3 at A3 ht3 ⊢
      clear A2 ht2 sU uu hc ec c
      dsimp only
      refine seq_cut (fun σ1 H4 => σ1 = [some (.ref p), some (.ref L), some (.str everyZ), some (.int (i : Nat)), some (.ref t), some (.str (placeP "p" i)), some (.str (laterP ps.length i)), v7, v8, v9, v10] ∧ H4 = H3) ?after1 fun after => ?go1
      case go1 =>
        have hs3 := A3.s.seq hs
        refine ⟨_, rfl, _, _, rfl, rfl, _, rfl, p, xs, rfl, .inl hs3, _, _, rfl, rfl, _, rfl, ?_⟩
        by_cases q : i + 1 < ps.length
        · refine iteTb (decide_eq_true (by omega)) ?_
          obtain ⟨c, hc, ec⟩ := every_at (K := K) (i := i + 1) (by omega)
          refine ⟨_, rfl, _, rfl, _, _, rfl, rfl, everyZ, _, c, rfl, rfl, (by decide +kernel), hc, "p", ⟨#[c]⟩, rfl, rfl, (by show 1 + 1 ≤ sizeLine; decide), ?_⟩
          rw [show ("p" : Str) ++ (⟨#[c]⟩ : Str) = laterP ps.length i from by rw [ec]; unfold laterP; rw [if_pos q]; rfl]
          exact after _ _ ⟨rfl, rfl⟩
        · refine iteFb (decide_eq_false (by omega)) (after _ _ ⟨?_, rfl⟩)
          rw [show laterP ps.length i = "z" from by unfold laterP; rw [if_neg q]]
          rfl
      case after1 =>
        rintro _ H4 ⟨rfl, e4⟩
        rw [e4]
        clear e4 H4
        refine ⟨_, rfl, t, _, 0, _, rfl, rfl, ht3, atI_nat (j := 0) (cells_kindP pt), rfl, _, rfl, ?_⟩
        cases pt with
        | ask s k =>
          refine iteTb (show decide (V.str "ask" = V.str "ask") = true by decide +kernel) ?_
          refine seq_cut (fun σ1 H4 => ∃ (M : Addr) (zs : List V) (mo : List (Str × Str)), σ1 = [some (.ref p), some (.ref L), some (.str everyZ), some (.int (i : Nat)), some (.ref t), some (.str (placeP "p" i)), some (.str (laterP ps.length i)), some (.ref M), v8, v9, v10] ∧ AccL K H L R H4 ∧ Same H3 H4 ∧ H4 M = some (.lst zs) ∧ DpAll K H4 zs (mo.map wayD) ∧ mo = (if 0 < k then [(("no" : Str), (if k = 1 then ("z" : Str) else placeP "p" i))] else []) ∧ mo.length ≤ 1) ?after2 fun after => ?go2
          case go2 =>
            refine ⟨_, rfl, t, _, 2, _, rfl, rfl, ht3, atI_nat (j := 2) rfl, _, _, rfl, rfl, _, rfl, ?_⟩
            by_cases q : 0 < k
            · refine iteTb (decide_eq_true (by omega)) ?_
              have goal : ∀ (z : Str), z = (if k = 1 then ("z" : Str) else placeP "p" i) → ∀ q2 M : Addr, H3 q2 = none → (upd H3 q2 (.tup [.str "no", .str z])) M = none → ∃ (zs : List V) (mo : List (Str × Str)), AccL K H L R (upd (upd H3 q2 (.tup [.str "no", .str z])) M (.lst [.ref q2])) ∧ Same H3 (upd (upd H3 q2 (.tup [.str "no", .str z])) M (.lst [.ref q2])) ∧ (upd (upd H3 q2 (.tup [.str "no", .str z])) M (.lst [.ref q2])) M = some (.lst zs) ∧ DpAll K (upd (upd H3 q2 (.tup [.str "no", .str z])) M (.lst [.ref q2])) zs (mo.map wayD) ∧ mo = (if 0 < k then [(("no" : Str), (if k = 1 then ("z" : Str) else placeP "p" i))] else []) ∧ mo.length ≤ 1 := fun z ez q2 M u1 u2 => by
                have s1 := (same_new (o := .tup [.str "no", .str z]) u1).trans (same_new (o := .lst [.ref q2]) u2)
                refine ⟨[.ref q2], [(("no" : Str), z)], A3.more s1, s1, upd_same, .cons (.tup (SqT.of ((same_new (o := .lst [.ref q2]) u2) _ _ upd_same)) (.cons (.str _) (.cons (.str _) .nil))) .nil, ?_, Nat.le_refl _⟩
                rw [if_pos q, ez]
              refine ⟨_, rfl, t, _, 2, _, rfl, rfl, ht3, atI_nat (j := 2) rfl, rfl, _, rfl, ?_⟩
              by_cases q1 : decide (V.int (k : Nat) = V.int 1) = true
              · have k1 : k = 1 := by have := V.int.inj (of_decide_eq_true q1); omega
                refine iteTb q1 ⟨(by show 2 ≤ sizeLine; decide), fun q2 uq2 => ⟨(by show 1 ≤ sizeLine; decide), fun M uM => ?_⟩⟩
                obtain ⟨zs, mo, h⟩ := goal "z" (by rw [if_pos k1]) q2 M uq2 uM
                exact after _ _ ⟨M, zs, mo, rfl, h⟩
              · have k1 : ¬ k = 1 := fun e => q1 (by rw [e]; rfl)
                refine iteFb (by simpa using q1) ⟨_, rfl, (by show 2 ≤ sizeLine; decide), fun q2 uq2 => ⟨(by show 1 ≤ sizeLine; decide), fun M uM => ?_⟩⟩
                obtain ⟨zs, mo, h⟩ := goal _ (by rw [if_neg k1]) q2 M uq2 uM
                exact after _ _ ⟨M, zs, mo, rfl, h⟩
            · refine iteFb (decide_eq_false (by omega)) ⟨(by show 0 ≤ sizeLine; decide), fun M uM => ?_⟩
              have s1 := same_new (o := .lst []) uM
              exact after _ _ ⟨M, [], [], rfl, A3.more s1, s1, upd_same, .nil, by rw [if_neg q], Nat.zero_le _⟩
          case after2 =>
            rintro _ H4 ⟨M, zs, mo, rfl, A4, s34, hM, hzs, emo, lmo⟩
            have ht4 := same_tup s34 ht3
            obtain ⟨acc0, hL0, _⟩ := A4.ex
            refine ⟨_, rfl, .inl ⟨rfl, _, SqL.of hL0⟩, _, rfl, _, rfl, t, _, 1, _, rfl, rfl, ht4, atI_nat (j := 1) rfl, ?_⟩
            refine ⟨_, rfl, (by show 2 ≤ sizeLine; decide), fun q uq => ⟨(by show 1 ≤ sizeLine; decide), fun N uN => ?_⟩⟩
            have s1 := same_new (o := .tup [.str "ok", .str (laterP ps.length i)]) uq
            have hq1 : (upd H4 q (.tup [.str "ok", .str (laterP ps.length i)])) q = some (.tup [.str "ok", .str (laterP ps.length i)]) := upd_same
            generalize (upd H4 q (.tup [.str "ok", .str (laterP ps.length i)])) = H5 at s1 hq1 uN ⊢
            have s2 := same_new (o := .lst [.ref q]) uN
            have hN : (upd H5 N (.lst [.ref q])) N = some (.lst [.ref q]) := upd_same
            generalize (upd H5 N (.lst [.ref q])) = H6 at s2 hN ⊢
            have zl : zs.length ≤ 1 := by rw [dpAll_len hzs, List.length_map]; exact lmo
            refine ⟨_, rfl, N, M, _, _, rfl, rfl, hN, s2 _ _ (s1 _ _ hM), Nat.le_trans (show 1 + zs.length ≤ 2 by omega) (by decide), fun C uC => ?_⟩
            have s3 := same_new (o := .lst ([.ref q] ++ zs)) uC
            have hC : (upd H6 C (.lst ([.ref q] ++ zs))) C = some (.lst ([.ref q] ++ zs)) := upd_same
            generalize (upd H6 C (.lst ([.ref q] ++ zs))) = H7 at s3 hC ⊢
            refine ⟨C, _, rfl, .inl ⟨SqL.of hC, fun l ul => ?_⟩⟩
            have s4 := same_new (o := .tup ([.ref q] ++ zs)) ul
            have hl : (upd H7 l (.tup ([.ref q] ++ zs))) l = some (.tup ([.ref q] ++ zs)) := upd_same
            generalize (upd H7 l (.tup ([.ref q] ++ zs))) = H8 at s4 hl ⊢
            refine ⟨(by show 4 ≤ sizeLine; decide), fun r ur => ?_⟩
            have s5 := same_new (o := .tup [.str "ask", .str (placeP "p" i), .str s, .ref l]) ur
            have S := (((s1.trans s2).trans s3).trans s4).trans s5
            have A6 := A4.more S
            have hways : DpAll K (upd H8 r (.tup [.str "ask", .str (placeP "p" i), .str s, .ref l])) ([.ref q] ++ zs) (((("ok" : Str), laterP ps.length i) :: mo).map wayD) :=
              .cons (.tup (SqT.of (s5 _ _ (s4 _ _ (s3 _ _ (s2 _ _ hq1))))) (.cons (.str _) (.cons (.str _) .nil))) (dpAll_same S _ _ hzs)
            have hd : Dp K (upd H8 r (.tup [.str "ask", .str (placeP "p" i), .str s, .ref l])) (.ref r) (lineD (.ask (placeP "p" i) s (("ok", laterP ps.length i) :: mo))) :=
              .tup (SqT.of upd_same) (.cons (.str _) (.cons (.str _) (.cons (.str _) (.cons (.tup (SqT.of (s5 _ _ hl)) hways) .nil))))
            rw [emo] at hd
            obtain ⟨acc, hL, lt, A7⟩ := A6.put (by omega) hd
            exact ⟨L, acc, _, rfl, rfl, hL, lt, _, _, _, _, _, _, _, _, rfl, A7⟩
        | note w =>
          refine iteFb (show decide (V.str "note" = V.str "ask") = false by decide +kernel) ?_
          refine ⟨_, rfl, t, _, 0, _, rfl, rfl, ht3, atI_nat (j := 0) (cells_kindP (.note w)), rfl, _, rfl, ?_⟩
          refine iteTb (show decide (V.str "note" = V.str "note") = true by decide +kernel) ?_
          obtain ⟨acc0, hL0, _⟩ := A3.ex
          refine ⟨_, rfl, .inl ⟨rfl, _, SqL.of hL0⟩, _, rfl, _, rfl, t, _, 1, _, rfl, rfl, ht3, atI_nat (j := 1) rfl, _, rfl, (by show 4 ≤ sizeLine; decide), fun q uq => ?_⟩
          have A4 := A3.more (same_new (o := .tup [.str "note", .str (placeP "p" i), .str w, .str (laterP ps.length i)]) uq)
          have hd : Dp K (upd H3 q (.tup [.str "note", .str (placeP "p" i), .str w, .str (laterP ps.length i)])) (.ref q) (lineD (.note (placeP "p" i) w (laterP ps.length i))) := .tup (SqT.of upd_same) (.cons (.str _) (.cons (.str _) (.cons (.str _) (.cons (.str _) .nil))))
          obtain ⟨acc, hL, lt, A5⟩ := A4.put (by omega) hd
          exact ⟨L, acc, _, rfl, rfl, hL, lt, _, _, _, _, _, _, _, _, rfl, A5⟩
        | gate m a b =>
          refine iteFb (show decide (V.str "mark" = V.str "ask") = false by decide +kernel) ?_
          refine ⟨_, rfl, t, _, 0, _, rfl, rfl, ht3, atI_nat (j := 0) (cells_kindP (.gate m a b)), rfl, _, rfl, ?_⟩
          refine iteFb (show decide (V.str "mark" = V.str "note") = false by decide +kernel) ?_
          obtain ⟨c, hc, ec⟩ := every_at (K := K) (i := i) (by omega)
          have ecut : cutV (cellsP (.gate m a b)) (some 2) none = [optV a, optV b] := by
            rw [cut_drop (by decide)]
            rfl
          have ne2 : (("ne" : Str).cps.size) = 2 := by decide +kernel
          have neAt : ∀ (j : Nat) (x y : V), j < 2 → [optV a, optV b][j]? = some x → ((("ne" : Str).cps[j]?).map fun c => V.str ⟨#[c]⟩) = some y → (j = 0 ∧ x = optV a ∧ y = .str "n") ∨ (j = 1 ∧ x = optV b ∧ y = .str "e") := fun j x y lj e1 e2 => by
            match j, lj with
            | 0, _ =>
              refine .inl ⟨rfl, (Option.some.inj e1).symm, ?_⟩
              exact (Option.some.inj e2).symm
            | 1, _ =>
              refine .inr ⟨rfl, (Option.some.inj e1).symm, ?_⟩
              exact (Option.some.inj e2).symm
          refine ⟨_, rfl, _, rfl, t, _, rfl, ht3, (fun e => absurd e.1 (show ¬ HT.sIx 4 0 (some 2) = 0 by decide)), fun q uq => ?_⟩
          rw [ecut]
          have s1 := same_new (o := .tup [optV a, optV b]) uq
          have hq : (upd H3 q (.tup [optV a, optV b])) q = some (.tup [optV a, optV b]) := upd_same
          generalize (upd H3 q (.tup [optV a, optV b])) = H4 at s1 hq ⊢
          refine ⟨q, _, "ne", rfl, SqT.of hq, fun D un => lc_it (walk_zipS (K := K) (a := q) (z := "ne") (xs := [optV a, optV b]) (by rw [ne2]; exact Nat.le_refl _)) (fun j H' => Same H4 H' ∧ H' D = some (.lst (([sideP ps.length i "n" a, sideP ps.length i "e" b].take j).map V.str))) ⟨same_new un, upd_same⟩ (fun j H' _ h => same_tup h.1 (SqT.of hq)) ?_ ?_⟩
          · rintro j x H5 H6 lj ⟨s5, hD⟩ ⟨T, x1, y1, rfl, uT, rfl, e1, e2⟩
            have s6 := same_new (o := .tup [x1, y1]) uT
            have hD6 := s6 _ _ hD
            obtain ⟨o, cc, rfl, rfl, lc, etk⟩ : ∃ (o : Option Str) (cc : Str), x1 = optV o ∧ y1 = .str cc ∧ cc.length ≤ 10 ∧ ([sideP ps.length i "n" a, sideP ps.length i "e" b].take (j + 1)) = ([sideP ps.length i "n" a, sideP ps.length i "e" b].take j) ++ [sideP ps.length i cc o] := by
              rcases neAt j x1 y1 lj e1 e2 with ⟨rfl, ex, ey⟩ | ⟨rfl, ex, ey⟩
              · exact ⟨a, "n", ex, ey, by decide, rfl⟩
              · exact ⟨b, "e", ex, ey, by decide, rfl⟩
            have put : ∀ z : Str, z = sideP ps.length i cc o → ∃ acc, (upd H5 T (.tup [optV o, .str cc])) D = some (.lst acc) ∧ acc.length < sizeLine ∧ (Same H4 (upd (upd H5 T (.tup [optV o, .str cc])) D (.lst (acc ++ [.str z]))) ∧ (upd (upd H5 T (.tup [optV o, .str cc])) D (.lst (acc ++ [.str z]))) D = some (.lst (([sideP ps.length i "n" a, sideP ps.length i "e" b].take (j + 1)).map V.str))) := fun z ez => by
              refine ⟨_, hD6, ?_, fun b o eb => ?_, ?_⟩
              · rw [List.length_map, List.length_take]
                exact Nat.lt_of_le_of_lt (Nat.min_le_right _ _) (by show 2 < sizeLine; decide)
              · rw [upd_ne (ne_of_none eb un)]
                exact s6 _ _ (s5 _ _ eb)
              · rw [upd_same, etk, List.map_append, ez]
                rfl
            refine ⟨T, _, rfl, SqT.of upd_same, rfl, _, _, rfl, _, _, rfl, rfl, ?_⟩
            refine ⟨rfl, ?_⟩
            dsimp only [tYes]
            refine iteT ⟨_, rfl, rfl, _, rfl, ?_⟩
            cases o with
            | none => exact iteTb (by rfl) ⟨_, rfl, put _ rfl⟩
            | some z =>
              refine iteFb (by rfl) ⟨_, rfl, _, rfl, _, rfl, everyZ, _, c, rfl, rfl, (by decide +kernel), hc, cc, ⟨#[c]⟩, rfl, rfl, Nat.le_trans (show cc.length + 1 ≤ 11 by omega) (by decide), ?_⟩
              rw [ec]
              exact put _ rfl
          · rintro H5 ⟨s5, hD⟩
            have hD : H5 D = some (.lst [.str (sideP ps.length i "n" a), .str (sideP ps.length i "e" b)]) := hD
            dsimp only [gName, tNext]
            have ht5 := same_tup (s1.trans s5) ht3
            have A5 := A3.more (s1.trans s5)
            obtain ⟨acc0, hL0, _⟩ := A5.ex
            refine seq_cut (fun σ1 H6 => ∃ w8 w9 w10, σ1 = [some (.ref p), some (.ref L), some (.str everyZ), some (.int (i : Nat)), some (.ref t), some (.str (placeP "p" i)), some (.str (laterP ps.length i)), v7, w8, w9, w10] ∧ AccL K H L (R ++ [.gate (placeP "p" i) m (sideP ps.length i "n" a) (sideP ps.length i "e" b)]) H6 ∧ SqT K H6 t (cellsP (.gate m a b))) ?after2 fun after => ?go2
            case go2 =>
              refine ⟨_, rfl, .inl ⟨rfl, _, SqL.of hL0⟩, _, rfl, _, rfl, t, _, 1, _, rfl, rfl, ht5, atI_nat (j := 1) rfl, _, rfl, D, _, 0, _, rfl, rfl, SqL.of hD, atI_nat (j := 0) rfl, _, rfl, D, _, 1, _, rfl, rfl, SqL.of hD, atI_nat (j := 1) rfl, (by show 5 ≤ sizeLine; decide), fun r ur => ?_⟩
              have s7 := same_new (o := .tup [.str "mark", .str (placeP "p" i), .str m, .str (sideP ps.length i "n" a), .str (sideP ps.length i "e" b)]) ur
              have A6 := A5.more s7
              have hd : Dp K (upd H5 r (.tup [.str "mark", .str (placeP "p" i), .str m, .str (sideP ps.length i "n" a), .str (sideP ps.length i "e" b)])) (.ref r) (lineD (.gate (placeP "p" i) m (sideP ps.length i "n" a) (sideP ps.length i "e" b))) := .tup (SqT.of upd_same) (.cons (.str _) (.cons (.str _) (.cons (.str _) (.cons (.str _) (.cons (.str _) .nil)))))
              obtain ⟨acc, hL, lt, A7⟩ := A6.put (by omega) hd
              refine ⟨L, acc, _, rfl, rfl, hL, lt, after _ _ ⟨_, _, _, rfl, A7, ?_⟩⟩
              refine same_tup (H := hide L H5) (fun b o eb => ?_) (tup_hide (same_tup (Same.refl _) ht5) hL0 (fun _ z => by cases z) (fun _ _ z => by cases z))
              have ne : b ≠ L := fun z => by rw [z, hide_same] at eb; cases eb
              rw [upd_ne ne]
              exact s7 _ _ (by rw [hide_ne ne] at eb; exact eb)
            case after2 =>
              rintro _ H6 ⟨w8, w9, w10, rfl, A6, ht6⟩
              clear uq
              refine ⟨_, rfl, _, rfl, t, _, rfl, ht6, (fun e => absurd e.1 (show ¬ HT.sIx 4 0 (some 2) = 0 by decide)), fun q2 uq2 => ?_⟩
              rw [ecut]
              have s8 := same_new (o := .tup [optV a, optV b]) uq2
              have hq2 : SqT K (upd H6 q2 (.tup [optV a, optV b])) q2 [optV a, optV b] := SqT.of upd_same
              have A8 := A6.more s8
              generalize (upd H6 q2 (.tup [optV a, optV b])) = H8 at s8 hq2 A8 ⊢
              obtain ⟨RJ, eRJ⟩ : ∃ RJ : Nat → List Row0, RJ = fun j => (if 0 < j then askP ps.length i "n" a else []) ++ (if 1 < j then askP ps.length i "e" b else []) := ⟨_, rfl⟩
              have fewJ : ∀ j, (RJ j).length ≤ 2 := fun j => by
                rw [eRJ]
                have h1 : ∀ c o, (askP ps.length i c o).length ≤ 1 := fun c o => by cases o <;> simp [askP]
                have h2 := h1 "n" a
                have h3 := h1 "e" b
                dsimp only
                rw [List.length_append]
                split <;> split <;> simp <;> omega
              refine ⟨q2, _, "ne", rfl, hq2, for_it (walk_zipS (K := K) (a := q2) (z := "ne") (xs := [optV a, optV b]) (by rw [ne2]; exact Nat.le_refl _)) (fun j σ1 H1 => ∃ u8 u9, σ1 = [some (.ref p), some (.ref L), some (.str everyZ), some (.int (i : Nat)), some (.ref t), some (.str (placeP "p" i)), some (.str (laterP ps.length i)), v7, u8, u9, w10] ∧ AccL K H L (R ++ [.gate (placeP "p" i) m (sideP ps.length i "n" a) (sideP ps.length i "e" b)] ++ RJ j) H1 ∧ SqT K H1 q2 [optV a, optV b])
                ⟨_, _, rfl, by rw [eRJ]; simpa using A8, hq2⟩ (fun j σ1 H1 _ ⟨_, _, _, _, h⟩ => h) ?_ ?_⟩
              · rintro j x _ H9 H10 lj ⟨u8, u9, rfl, A9, hq9⟩ ⟨T, x1, y1, rfl, uT, rfl, e1, e2⟩
                obtain ⟨o, cc, rfl, rfl, lc, etk⟩ : ∃ (o : Option Str) (cc : Str), x1 = optV o ∧ y1 = .str cc ∧ cc.length ≤ 10 ∧ RJ (j + 1) = RJ j ++ askP ps.length i cc o := by
                  rcases neAt j x1 y1 lj e1 e2 with ⟨rfl, ex, ey⟩ | ⟨rfl, ex, ey⟩
                  · exact ⟨a, "n", ex, ey, by decide, by rw [eRJ]; simp⟩
                  · exact ⟨b, "e", ex, ey, by decide, by rw [eRJ]; simp⟩
                have sT2 := same_new (o := .tup [optV o, .str cc]) uT
                have A10 := A9.more sT2
                have hq10 := same_tup sT2 hq9
                refine ⟨T, _, rfl, SqT.of upd_same, rfl, _, _, rfl, _, _, rfl, rfl, ?_⟩
                generalize (upd H9 T (.tup [optV o, .str cc])) = H11 at A10 hq10 ⊢
                refine ⟨_, rfl, rfl, _, rfl, ?_⟩
                rw [etk]
                cases o with
                | none =>
                  refine iteFb (by rfl) ⟨_, _, rfl, ?_, hq10⟩
                  show AccL K H L (_ ++ (RJ j ++ [])) _
                  rw [List.append_nil]
                  exact A10
                | some z =>
                  obtain ⟨acc1, hL1, _⟩ := A10.ex
                  refine iteTb (by rfl) ⟨_, rfl, .inl ⟨rfl, _, SqL.of hL1⟩, _, rfl, _, rfl, _, rfl, everyZ, _, c, rfl, rfl, (by decide +kernel), hc, cc, ⟨#[c]⟩, rfl, rfl, Nat.le_trans (show cc.length + 1 ≤ 11 by omega) (by decide), _, rfl, _, rfl, (by show 2 ≤ sizeLine; decide), fun q3 u3 => ⟨(by show 1 ≤ sizeLine; decide), fun q4 u4 => ⟨(by show 4 ≤ sizeLine; decide), fun r ur => ?_⟩⟩⟩
                  have t1 := same_new (o := .tup [.str "ok", .str (laterP ps.length i)]) u3
                  have t2 := same_new (o := .tup [.ref q3]) u4
                  have hq3 : (upd (upd H11 q3 (.tup [.str "ok", .str (laterP ps.length i)])) q4 (.tup [.ref q3])) q3 = some (.tup [.str "ok", .str (laterP ps.length i)]) := t2 _ _ upd_same
                  have hq4 : (upd (upd H11 q3 (.tup [.str "ok", .str (laterP ps.length i)])) q4 (.tup [.ref q3])) q4 = some (.tup [.ref q3]) := upd_same
                  have t12 := t1.trans t2
                  generalize (upd (upd H11 q3 (.tup [.str "ok", .str (laterP ps.length i)])) q4 (.tup [.ref q3])) = H12 at t12 hq3 hq4 ur ⊢
                  have t3 := same_new (o := .tup [.str "ask", .str (cc ++ (⟨#[c]⟩ : Str)), optV (some z), .ref q4]) ur
                  have A13 := A10.more (t12.trans t3)
                  have hd : Dp K (upd H12 r (.tup [.str "ask", .str (cc ++ (⟨#[c]⟩ : Str)), optV (some z), .ref q4])) (.ref r) (lineD (.ask (placeP cc i) z [("ok", laterP ps.length i)])) := by
                    rw [show placeP cc i = cc ++ (⟨#[c]⟩ : Str) from by rw [ec]; rfl]
                    exact .tup (SqT.of upd_same) (.cons (.str _) (.cons (.str _) (.cons (.str _) (.cons (.tup (SqT.of (t3 _ _ hq4)) (.cons (.tup (SqT.of (t3 _ _ hq3)) (.cons (.str _) (.cons (.str _) .nil))) .nil)) .nil))))
                  have hq13 := same_tup (t12.trans t3) hq10
                  obtain ⟨acc, hL, lt, A14⟩ := A13.put (by have := fewJ j; simp; omega) hd
                  refine ⟨L, acc, _, rfl, rfl, hL, lt, _, _, rfl, ?_, tup_put hL hq13⟩
                  rw [← List.append_assoc]
                  exact A14
              · rintro _ H9 ⟨u8, u9, rfl, A9, _⟩
                refine ⟨_, _, _, _, _, _, _, _, rfl, ?_⟩
                have e : R ++ rowsP ps.length i (.gate m a b) = R ++ [.gate (placeP "p" i) m (sideP ps.length i "n" a) (sideP ps.length i "e" b)] ++ RJ 2 := by
                  rw [eRJ, List.append_assoc]
                  rfl
                rw [e]
                exact A9
    · rintro _ H1 ⟨v3, v4, v5, v6, v7, v8, v9, v10, rfl, A1⟩
      rw [xl, List.take_length] at A1
      have few1 := rowsPs_few ps.length 0 ps
      obtain ⟨acc, hL, hacc⟩ := A1.ex
      refine ⟨_, rfl, (by show 2 ≤ sizeLine; decide), fun t1 u1 => ⟨(by show 1 ≤ sizeLine; decide), fun M uM => ?_⟩⟩
      have s1 := same_new (o := .tup [.str "end", .str "z"]) u1
      have ht1 : (upd H1 t1 (.tup [.str "end", .str "z"])) t1 = some (.tup [.str "end", .str "z"]) := upd_same
      generalize (upd H1 t1 (.tup [.str "end", .str "z"])) = H2 at s1 ht1 uM ⊢
      have s2 := same_new (o := .lst [.ref t1]) uM
      have la : acc.length ≤ 27 := by rw [dpAll_len hacc, List.length_map]; omega
      refine ⟨L, M, acc, [.ref t1], rfl, rfl, s2 _ _ (s1 _ _ hL), upd_same, Nat.le_trans (show acc.length + 1 ≤ 28 by omega) (by decide), fun N uN => ?_⟩
      have s3 := same_new (o := .lst (acc ++ [.ref t1])) uN
      have S := (s1.trans s2).trans s3
      refine fin _ N _ (A1.s.trans S) ((A1.s.trans (s1.trans s2)).free uN) upd_same ?_
      unfold linesP
      rw [List.map_append]
      exact dpAll_app (dpAll_same S _ _ hacc) (.cons (.tup (SqT.of ((s2.trans s3) _ _ ht1)) (.cons (.str _) (.cons (.str _) .nil))) .nil)
end
end K2

set_option Elab.async false
set_option linter.all false
set_option maxRecDepth 100000
set_option maxHeartbeats 1000000
/-! a drawn edition: its rows and the marks that it lets by -/
namespace K2
open PySem L2 Lw
def gateP : Pt → Bool
  | .gate _ _ _ => true
  | _ => false
def signP : Pt → Str
  | .gate m _ _ => m
  | _ => Str.empty
def signsP (ps : List Pt) : List Str := (ps.filter gateP).map signP
theorem cells_sign {p : Pt} (h : gateP p = true) : (cellsP p)[1]? = some (.str (signP p)) := by
  cases p with
  | gate m a b => rfl
  | _ => cases h
theorem kind_gate (p : Pt) : decide (V.str (kindP p) = V.str "mark") = gateP p := by
  cases p with
  | ask s k => exact (show decide (V.str "ask" = V.str "mark") = false by decide +kernel)
  | note w => exact (show decide (V.str "note" = V.str "mark") = false by decide +kernel)
  | gate m a b => exact (show decide (V.str "mark" = V.str "mark") = true by decide +kernel)
/-- a drawn edition, as data -/
def lotD (e : List Row0 × List Str) : PyData := .tuple [.list (e.1.map lineD), .list (e.2.map PyData.str)]
structure LotOk (ps : List Pt) (dz : List Str) : Prop where
  sub : dz.Sublist ["m", "n"]
  no : ∀ z ∈ dz, z ∉ signsP ps
def spLot (K : PySem.W.Frag) : Sp := fun vs H Q _ => ∃ (G : Hp) (d l : Addr) (v : V) (ps : List Pt), vs = [.ref d, v] ∧ Deal G H d l ∧ Dp K G v (partsD ps) ∧ ps.length ≤ 9 ∧
  ∀ (G' H' : Hp) (r lp tp : Addr) (ys : List V) (dz : List Str), Same G G' → Deal G' H' d l → G' r = some (.tup [.ref lp, .ref tp]) → G lp = none → G tp = none → G' lp = some (.lst ys) → DpAll K G' ys ((linesP ps).map lineD) → G' tp = some (.lst (dz.map V.str)) → LotOk ps dz → Q (.ref r) H'
theorem strs_dpF {K : PySem.W.Frag} {H : Hp} : ∀ zs : List Str, DpAll K H (zs.map V.str) (zs.map PyData.str)
  | [] => .nil
  | z :: zs => .cons (.str z) (strs_dpF zs)
section
variable {P : Program} {w : World} {K : PySem.W.Frag} {mg : Str → Option Value} {base : Heap}
abbrev nLot : List Str := ["_law_deal_here", "_law_parts", "_law_signs", "_law_part", "_law_sign"]
theorem scLot : FnScope nLot ["_law_deal_here", "_law_parts"] (defScope sLot) := ⟨rfl, rfl, rfl, by decide +kernel, rfl, by decide +kernel, by decide +kernel⟩
theorem okLot {f fL fD : Addr} {fd fdL fdD : FuncData} (F : Fun K "_law_lot" "_law_lot" sLot f fd)
    (GL : FnOk P w K mg base CX0 1 fL fdL ["_law_parts"] (spLines K)) (kL : PySem.W.keepIn K (.ref fL) = true) (tL : mg "_law_lines" = some (.ref fL)) (bL : Binds K fdL ["_law_parts"] [])
    (GD : FnOk P w K mg base CX0 1 fD fdD ["_law_deal_here", "_law_many"] spDraw) (kD : PySem.W.keepIn K (.ref fD) = true) (tD : mg "_law_draw" = some (.ref fD)) (bD : Binds K fdD ["_law_deal_here", "_law_many"] []) :
    FnOk P w K mg base CX0 2 f fd ["_law_deal_here", "_law_parts"] (spLot K) := by
  refine F.ok scLot (fun vs H Q E h => ?_) (fun cdv A outer s H vs Q E hr h => ?_)
  · obtain ⟨G, d, l, v, ps, rfl, _⟩ := h
    rfl
  · obtain ⟨G, d, l, v, ps, rfl, D, hD, few, fin⟩ := h
    have hr1 : Room 1 _ := hr.mono (by decide)
    refine ⟨_, pss_cons (ps_set (i := 2) scLot.nd rfl (Or.inr rfl) (pe_lc (own := [("_law_part", 3)]) (g := gName 3) (tt := tTest (tOp rEq (tOp (rIxT K) (tVar 3) (tC (.int 0))) (tC (.str "mark")))) (te := tOp (rIxT K) (tVar 3) (tC (.int 1))) (by rfl) scLot.nd (pi_list (pv 1))
          (blkOk_by (own := [("_law_part", 3)]) (N := nLot) (sc := defScope sLot) (by decide +kernel)) (fun _ _ _ _ _ => pg_name (i := 3) scLot.nd rfl (Or.inl rfl)) (fun _ _ _ _ _ => pts_one (pt_cmpR op_eq (pe_ix ix_tup (pv 3) pe_int (fun _ _ => rfl)) pe_str (nomark _)))
          (fun _ _ _ _ _ => pe_ix ix_tup (pv 3) pe_int (fun _ _ => rfl))))
      (pss_one (ps_ret (pe_tup (pa_cons (pe_call GL hr1 rfl tL kL bL .nil pass0 (pa_cons (pv 1) pa_nil)) (pa_cons (pe_lc (own := [("_law_sign", 4)]) (g := gName 4) (tt := tAnd (tTest (tOp (rIn K true) (tVar 4) (tVar 2))) (tTest (tOp rEq (tCall spDraw [] E0 (tCons (tVar 0) (tCons (tC (.int 3)) tNil))) (tC (.int 0))))) (te := tVar 4) (by rfl) scLot.nd (pi_tup (pe_tup (pa_cons pe_str (pa_cons pe_str pa_nil))))
          (blkOk_by (own := [("_law_sign", 4)]) (N := nLot) (sc := defScope sLot) (by decide +kernel)) (fun _ _ _ _ _ => pg_name (i := 4) scLot.nd rfl (Or.inl rfl))
          (fun _ _ _ _ _ => pts_one (PW.pt (pw_and (pt_cmpR op_notIn_seq (pv 4) (pv 2) rfl) (pw_and1 (pt_cmpR op_eq (pe_call GD hr1 rfl tD kD bD .nil pass0 (pa_cons (pv 0) (pa_cons pe_int pa_nil))) pe_int (nomark _)))))) (fun _ _ _ _ _ => pv 4)) pa_nil))))), ?_⟩
    cases hD with
    | @lst p xs _ hs hx =>
    refine ⟨_, rfl, p, rfl, ⟨_, D.same.seq hs⟩, fun M uM => dat_J gateP (fun p => .str (signP p)) (.l (D.same.seq hs)) (dpAll_same D.same _ _ hx) (by omega) uM (fun _ _ => rfl) (fun x pt H3 Y N hm hdx s3 y n => ?_) fun H3 acc s3 hM hacc => ?_⟩
    · obtain ⟨t, rfl, ht⟩ := part_cells hdx
      refine ⟨rfl, _, rfl, t, _, 0, _, rfl, rfl, ht, atI_nat (j := 0) (cells_kindP pt), rfl, _, rfl, ?_⟩
      rw [kind_gate]
      cases hg : gateP pt with
      | true => exact iteT ⟨_, rfl, t, _, 1, _, rfl, rfl, ht, atI_nat (j := 1) (cells_sign hg), y hg _ _ (Same.refl _) (.str _)⟩
      | false => exact iteF (n hg _ (Same.refl _))
    · have ea := Lw.dp_strs (zs := signsP ps) (by unfold signsP; rw [List.map_map]; exact hacc)
      subst ea
      obtain ⟨D3, k3⟩ := (D.on s3).grab hM (D.apart uM)
      have hM3 : (upd G M (.lst ((signsP ps).map V.str))) M = some (.lst ((signsP ps).map V.str)) := upd_same
      generalize (upd G M (.lst ((signsP ps).map V.str))) = G3 at D3 k3 hM3
      dsimp only [gName, tNext]
      refine ⟨_, rfl, .ref p, ps, rfl, dp_same (k3.trans D3.same) _ _ (.lst hs hx), few, fun H4 q ys s4 uq hq hys => ?_⟩
      obtain ⟨G5, D5, h5, k5, hy5⟩ : ∃ G', Deal G' H4 d l ∧ G' q = some (.lst ys) ∧ Same G3 G' ∧ DpAll K G' ys ((linesP ps).map lineD) := by
        have D4 := (D3.on s4).wide
        obtain ⟨a, b⟩ := D4.grab hq (D3.apart uq)
        exact ⟨_, a, upd_same, plus_left.trans b, dpAll_same ((plus_right (D3.on s4).same).trans b) _ _ (dpAll_hard _ _ (noLs_of fun r _ => line_noL r) hys)⟩
      refine ⟨(by show 2 ≤ sizeLine; decide), fun t ut => ?_⟩
      obtain ⟨G6, H6, e6, D6, h6, k6, _⟩ := D5.lay ut (.tup [.str "m", .str "n"])
      rw [← e6]
      refine ⟨t, rfl, ⟨_, SqT.of (D6.same _ _ h6)⟩, fun L uL => ?_⟩
      have gL : G6 L = none := D6.same.free uL
      have toG : ∀ {b : Addr} {o v : HO}, G6 b = some o → upd G6 L v b = some o := fun {b o v} e => by
        rw [upd_ne (ne_of_none e gL)]
        exact e
      refine lc_tup (K := K) (a := t) (xs := [.str "m", .str "n"]) (fun i H' => ∃ qs : List Str, Deal (upd G6 L (.lst (qs.map V.str))) H' d l ∧ qs.Sublist ((["m", "n"] : List Str).take i) ∧ ∀ z ∈ qs, z ∉ signsP ps)
        ⟨[], D6.put uL, List.nil_sublist _, by simp⟩ (fun i H' _ ⟨qs, DQ, _⟩ => SqT.of (DQ.same _ _ (toG h6))) ?_ ?_
      · rintro i x H' hx2 ⟨qs, DQ, sub, nm⟩
        obtain ⟨o, ho, rfl⟩ : ∃ o, (["m", "n"] : List Str)[i]? = some o ∧ V.str o = x := by
          have hx3 : ((["m", "n"] : List Str).map V.str)[i]? = some x := hx2
          rw [List.getElem?_map] at hx3
          exact Option.map_eq_some_iff.mp hx3
        have tk : (["m", "n"] : List Str).take (i + 1) = (["m", "n"] : List Str).take i ++ [o] := by rw [List.take_add_one, ho]; rfl
        have ql : qs.length ≤ 2 := by
          have := sub.length_le
          rw [List.length_take] at this
          exact Nat.le_trans this (Nat.min_le_right _ _)
        have sub1 : qs.Sublist ((["m", "n"] : List Str).take (i + 1)) := by rw [tk]; exact sub.trans (List.sublist_append_left _ _)
        have hMM : G6 M = some (.lst ((signsP ps).map V.str)) := k6 _ _ (k5 _ _ hM3)
        refine ⟨rfl, ?_⟩
        refine ⟨_, rfl, _, rfl, M, (signsP ps).map V.str, rfl, .inl (SqL.of (DQ.same _ _ (toG hMM))), rfl, List.all_eq_true.mpr (fun v hv => by obtain ⟨z, _, rfl⟩ := List.mem_map.mp hv; rfl), _, rfl, ?_⟩
        cases hin : inV (V.str o) ((signsP ps).map V.str) with
        | true => exact iteF (iteF ⟨qs, DQ, sub1, nm⟩)
        | false =>
          have no : o ∉ signsP ps := fun z => by
            have : inV (V.str o) ((signsP ps).map V.str) = true := List.any_eq_true.mpr ⟨V.str o, List.mem_map_of_mem z, by simp [eqV]⟩
            rw [hin] at this
            cases this
          refine iteT ⟨_, rfl, _, d, l, 3, rfl, DQ, by decide, by decide, fun H8 r2 D8 _ _ => ⟨rfl, _, rfl, ?_⟩⟩
          by_cases hz : decide (V.int r2 = V.int 0) = true
          · refine iteTb hz ⟨_, rfl, _, D8.same _ _ upd_same, Nat.lt_of_le_of_lt (show _ ≤ 2 by rw [List.length_map]; exact ql) (by show 2 < sizeLine; decide), qs ++ [o], ?_, by rw [tk]; exact sub.append (List.Sublist.refl _), fun z hq => ?_⟩
            · rw [List.map_append]
              exact Deal.over D8
            · rcases List.mem_append.mp hq with h | h
              · exact nm z h
              · rw [List.mem_singleton.mp h]
                exact no
          · exact iteFb (by simpa using hz) ⟨qs, D8, sub1, nm⟩
      · rintro H9 ⟨qs, DQ, sub, nm⟩
        have sub2 : qs.Sublist ["m", "n"] := sub
        refine ⟨(by show 2 ≤ sizeLine; decide), fun r ur => ?_⟩
        obtain ⟨Gz, Hz, ez, Dz, hz, kz, _⟩ := DQ.lay ur (.tup [.ref q, .ref L])
        rw [← ez]
        have k6L : Same G6 (upd G6 L (.lst (qs.map V.str))) := same_new gL
        have KK := ((k6.trans k6L).trans kz)
        exact fin Gz _ r q L ys qs ((k3.trans k5).trans KK) Dz hz ((D.same.trans s3).free uq) (((k3.trans k5).trans k6).free gL) (KK _ _ h5) (dpAll_same KK _ _ hy5) (kz _ _ upd_same) ⟨sub2, nm⟩
end
end K2

set_option Elab.async false
set_option linter.all false
set_option maxRecDepth 100000
set_option maxHeartbeats 1000000
/-! drawn editions, each near the one ahead of it or the first one -/
namespace K2
open PySem L2 Lw
/-- parts of at most eight rows -/
structure PsOk (ps : List Pt) : Prop where
  ok : ∀ p ∈ ps, p.Ok
  lo : 1 ≤ ps.length
  hi : sizeP ps ≤ 8
theorem PsOk.few {ps : List Pt} (h : PsOk ps) : ps.length ≤ 7 := by
  have := h.hi
  unfold sizeP at this
  omega
def LotOf (e : List Row0 × List Str) : Prop := ∃ ps, PsOk ps ∧ e.1 = linesP ps ∧ LotOk ps e.2
/-- a drawn edition as a value -/
def LotV (K : PySem.W.Frag) (H : Hp) (v : V) (e : List Row0 × List Str) : Prop := ∃ (r lp tp : Addr) (ys : List V), v = .ref r ∧ SqT K H r [.ref lp, .ref tp] ∧ H lp = some (.lst ys) ∧ DpAll K H ys (e.1.map lineD) ∧ H tp = some (.lst (e.2.map V.str))
theorem lotV_stays {K : PySem.W.Frag} : Stays (LotV K) := ⟨fun s h => let ⟨r, lp, tp, ys, e, h1, h2, h3, h4⟩ := h; ⟨r, lp, tp, ys, e, same_tup s h1, s _ _ h2, dpAll_same s _ _ h3, s _ _ h4⟩⟩
theorem els_nil {α : Type} {Rl : Hp → V → α → Prop} {H : Hp} : Els Rl H [] ([] : List α) := ⟨rfl, fun j x e => by simp at e⟩
theorem els_add {α : Type} {Rl : Hp → V → α → Prop} {H : Hp} {xs : List V} {as : List α} {v : V} {a : α} (h : Els Rl H xs as) (hv : Rl H v a) : Els Rl H (xs ++ [v]) (as ++ [a]) := by
  refine ⟨by simp [h.len], fun j x e => ?_⟩
  by_cases lt : j < xs.length
  · rw [List.getElem?_append_left lt] at e
    obtain ⟨b, e1, r⟩ := h.at_ j x e
    exact ⟨b, by rw [List.getElem?_append_left (by rw [← h.len]; exact lt)]; exact e1, r⟩
  · rw [List.getElem?_append_right (by omega)] at e
    have ej : j - xs.length = 0 := by
      have := (List.getElem?_eq_some_iff.mp e).1
      simp at this
      omega
    rw [ej] at e
    obtain rfl : v = x := by simpa using e
    refine ⟨a, ?_, hv⟩
    rw [List.getElem?_append_right (by rw [← h.len]; omega), ← h.len, ej]
    rfl
def spLots (K : PySem.W.Frag) : Sp := fun vs H Q _ => ∃ (G : Hp) (d l : Addr) (m : Nat), vs = [.ref d, .int (m : Nat)] ∧ Deal G H d l ∧ 1 ≤ m ∧ m ≤ 4 ∧
  ∀ (G' H' : Hp) (L : Addr) (ls : List (List Row0 × List Str)), Same G G' → Deal G' H' d l → G L = none → (∃ acc, G' L = some (.lst acc) ∧ Els (LotV K) G' acc ls) → ls.length = m → (∀ e ∈ ls, LotOf e) → Q (.ref L) H'
/-! ### what stands though the list of editions grows -/
section
variable {K : PySem.W.Frag} {G : Hp} {L : Addr} {acc : List V}
theorem hide_hard (h : G L = some (.lst acc)) : Same (hard G) (hide L G) := fun b o e => by
  have ne : b ≠ L := fun z => by rw [z, hard_lst h] at e; cases e
  rw [hide_ne ne]
  exact hard_sub b o e
theorem parts_hide {q : Addr} {ps : List Pt} (h : G L = some (.lst acc)) (ne : q ≠ L) (d : Dp K G (.ref q) (partsD ps)) : Dp K (hide L G) (.ref q) (partsD ps) := by
  cases d with
  | @lst _ xs _ hs hx =>
    refine .lst ?_ (dpAll_same (hide_hard h) _ _ (dpAll_hard _ _ (noLs_of fun p _ => part_noL p) hx))
    rcases hs with (hs | ⟨o, hs⟩) | hs
    · exact .inl (.inl (by rw [hide_ne ne]; exact hs))
    · exact .inl (.inr ⟨o, by rw [hide_ne ne]; exact hs⟩)
    · exact .inr hs
theorem lot_hide {r lp tp : Addr} {ys : List V} {rs : List Row0} {dz : List Str} (h : G L = some (.lst acc)) (hr : G r = some (.tup [.ref lp, .ref tp])) (n1 : lp ≠ L) (n2 : tp ≠ L) (h1 : G lp = some (.lst ys)) (h2 : DpAll K G ys (rs.map lineD)) (h3 : G tp = some (.lst (dz.map V.str))) : LotV K (hide L G) (.ref r) (rs, dz) := by
  have nr : r ≠ L := fun z => by rw [z, h] at hr; cases hr
  exact ⟨r, lp, tp, ys, rfl, SqT.of (by rw [hide_ne nr]; exact hr), by rw [hide_ne n1]; exact h1, dpAll_same (hide_hard h) _ _ (dpAll_hard _ _ (noLs_of fun p _ => line_noL p) h2), by rw [hide_ne n2]; exact h3⟩
end
theorem upd_id {G : Hp} {L : Addr} {o : HO} (h : G L = some o) : upd G L o = G := by
  funext b
  by_cases q : b = L
  · rw [q, upd_same, h]
  · rw [upd_ne q]
theorem Deal.less {G G' H : Hp} {d l : Addr} (D : Deal G' H d l) (k : Same G G') : Deal G H d l := ⟨k.trans D.same, k.free D.gd, k.free D.gl, D.ne, D.it⟩
/-- where things stand behind some turns -/
structure LotsAt (K : PySem.W.Frag) (G : Hp) (d l L vp vf : Addr) (ls : List (List Row0 × List Str)) (ps pf : List Pt) (H : Hp) : Prop where
  ex : ∃ (B : Hp) (acc : List V), Same G B ∧ B L = none ∧ Deal (upd B L (.lst acc)) H d l ∧ Els (LotV K) B acc ls ∧ Dp K B (.ref vp) (partsD ps) ∧ Dp K B (.ref vf) (partsD pf)
  ps : PsOk ps
  pf : PsOk pf
  ls : ∀ e ∈ ls, LotOf e
section
variable {P : Program} {w : World} {K : PySem.W.Frag} {mg : Str → Option Value} {base : Heap}
abbrev nLots : List Str := ["_law_deal_here", "_law_many", "_law_parts", "_law_found", "_law_first", "_law_turn", "_law_more", "_law_near_here"]
theorem scLots : FnScope nLots ["_law_deal_here", "_law_many"] (defScope sLots) := ⟨rfl, rfl, rfl, by decide +kernel, rfl, by decide +kernel, by decide +kernel⟩
theorem base_ok {ps : List Pt} (h : BaseOk ps) : PsOk ps := by
  have e : (ps.map moreP).sum = 0 := by
    have : ∀ l : List Pt, (∀ p ∈ l, moreP p = 0) → (l.map moreP).sum = 0 := fun l => by
      induction l with
      | nil => intro _; rfl
      | cons a l ih => intro hl; rw [List.map_cons, List.sum_cons, hl a List.mem_cons_self, ih fun x hx => hl x (List.mem_cons_of_mem _ hx)]
    exact this ps h.no
  have h1 := h.lo
  have h2 := h.hi
  exact ⟨h.ok, by omega, by unfold sizeP; omega⟩
theorem okLots {f fB fL fP fD fN fS : Addr} {fd fdB fdL fdP fdD fdN fdS : FuncData} (F : Fun K "_law_lots" "_law_lots" sLots f fd)
    (GB : FnOk P w K mg base CX0 3 fB fdB ["_law_deal_here"] (spBase K)) (kB : PySem.W.keepIn K (.ref fB) = true) (tB : mg "_law_base" = some (.ref fB)) (bB : Binds K fdB ["_law_deal_here"] [])
    (GL : FnOk P w K mg base CX0 2 fL fdL ["_law_deal_here", "_law_parts"] (spLot K)) (kL : PySem.W.keepIn K (.ref fL) = true) (tL : mg "_law_lot" = some (.ref fL)) (bL : Binds K fdL ["_law_deal_here", "_law_parts"] [])
    (GN : FnOk P w K mg base CX0 3 fN fdN ["_law_deal_here", "_law_parts"] (spNear1 K)) (kN : PySem.W.keepIn K (.ref fN) = true) (tN : mg "_law_near" = some (.ref fN)) (bN : Binds K fdN ["_law_deal_here", "_law_parts"] [])
    (GS : FnOk P w K mg base CX0 1 fS fdS ["_law_parts"] (spSize K)) (kS : PySem.W.keepIn K (.ref fS) = true) (tS : mg "_law_size" = some (.ref fS)) (bS : Binds K fdS ["_law_parts"] [])
    (GP : FnOk P w K mg base CX0 2 fP fdP ["_law_deal_here", "_law_some"] (spPick K)) (kP : PySem.W.keepIn K (.ref fP) = true) (tP : mg "_law_pick" = some (.ref fP)) (bP : Binds K fdP ["_law_deal_here", "_law_some"] [])
    (GD : FnOk P w K mg base CX0 1 fD fdD ["_law_deal_here", "_law_many"] spDraw) (kD : PySem.W.keepIn K (.ref fD) = true) (tD : mg "_law_draw" = some (.ref fD)) (bD : Binds K fdD ["_law_deal_here", "_law_many"] []) (tR : mg "range" = none) :
    FnOk P w K mg base CX0 4 f fd ["_law_deal_here", "_law_many"] (spLots K) := by
  refine F.ok scLots (fun vs H Q E h => ?_) (fun cdv A outer s H vs Q E hr h => ?_)
  · obtain ⟨G, d, l, m, rfl, _⟩ := h
    rfl
  · obtain ⟨G, d, l, m, rfl, D, m1, m4, fin⟩ := h
    have hr1 : Room 1 _ := hr.mono (by decide)
    have hr2 : Room 2 _ := hr.mono (by decide)
    have hr3 : Room 3 _ := hr.mono (by decide)
    refine ⟨_, pss_cons (ps_set (i := 2) scLots.nd rfl (Or.inl rfl) (pe_call GB hr3 rfl tB kB bB .nil pass0 (pa_cons (pv 0) pa_nil)))
      (pss_cons (ps_par (i := 3) (j := 4) (by rfl) scLots.nd rfl rfl (by decide) rfl rfl (pa_cons (pe_lst (pa_cons (pe_call GL hr2 rfl tL kL bL .nil pass0 (pa_cons (pv 0) (pa_cons (pv 2) pa_nil))) pa_nil)) (pa_cons (pv 2) pa_nil)) (by rfl))
      (pss_cons (ps_for PassesOwn.never rfl (pi_range1 rfl tR (pa_cons (pe_op op_sub (pv 1) pe_int) pa_nil)) (pg_name (i := 5) scLots.nd rfl (Or.inl rfl))
        (pss_cons (ps_set (i := 2) scLots.nd rfl (Or.inl rfl) (pe_call GP hr2 rfl tP kP bP .nil pass0 (pa_cons (pv 0) (pa_cons (pe_lst (pa_cons (pv 2) (pa_cons (pv 2) (pa_cons (pv 4) pa_nil)))) pa_nil))))
        (pss_cons (ps_for PassesOwn.never rfl (pi_range1 rfl tR (pa_cons (pe_op op_add pe_int (pe_call GD hr1 rfl tD kD bD .nil pass0 (pa_cons (pv 0) (pa_cons pe_int pa_nil)))) pa_nil)) (pg_name (i := 6) scLots.nd rfl (Or.inl rfl))
          (pss_cons (ps_set (i := 7) scLots.nd rfl (Or.inl rfl) (pe_call GN hr3 rfl tN kN bN .nil pass0 (pa_cons (pv 0) (pa_cons (pv 2) pa_nil))))
          (pss_one (ps_set (i := 2) scLots.nd rfl (Or.inl rfl) (pe_ifExp (pt_chain op_lt op_lt pe_int (pe_call GS hr1 rfl tS kS bS .nil pass0 (pa_cons (pv 7) pa_nil)) pe_int) (pv 7) (pv 2))))))
        (pss_one (ps_expr (pe_bm PySem.F.plainAttrs_list PySem.F.slot_list_append PySem.F.type_list_append mt_append (pv 3) (pa_cons (pe_call GL hr2 rfl tL kL bL .nil pass0 (pa_cons (pv 0) (pa_cons (pv 2) pa_nil))) pa_nil)))))))
      (pss_one (ps_ret (pv 3))))), ?_⟩
    dsimp only [gName, tNext]
    refine ⟨_, rfl, G, d, l, rfl, D, fun G1 H1 v ps k1 D1 hp bok => ?_⟩
    have pok := base_ok bok
    obtain ⟨vp, rfl⟩ : ∃ vp : Addr, v = .ref vp := by
      cases hp with
      | @lst p xs _ _ _ => exact ⟨p, rfl⟩
    dsimp only [gName, tNext]
    refine ⟨_, rfl, _, rfl, G1, d, l, .ref vp, ps, rfl, D1, hp, by have := pok.few; omega, fun G2 H2 r lp tp ys dz k2 D2 hr2' u1 u2 h1 h2 h3 lok => ?_⟩
    refine ⟨(by show 1 ≤ sizeLine; decide), fun L uL => ⟨_, rfl, _, _, rfl, ?_⟩⟩
    have gL2 : G2 L = none := D2.same.free uL
    have gL : G L = none := (k1.trans k2).free gL2
    have A0 : LotsAt K G d l L vp vp [(linesP ps, dz)] ps ps (upd H2 L (.lst [.ref r])) := by
      refine ⟨⟨G2, [.ref r], k1.trans k2, gL2, D2.put uL, els_add els_nil ?_, dp_same k2 _ _ hp, dp_same k2 _ _ hp⟩, pok, pok, fun e he => ?_⟩
      · exact ⟨r, lp, tp, ys, rfl, SqT.of hr2', h1, h2, h3⟩
      · rw [List.mem_singleton.mp he]
        exact ⟨ps, pok, rfl, lok⟩
    generalize (upd H2 L (.lst [.ref r])) = H3 at A0 ⊢
    clear h1 h2 h3 hr2' D2 D1 hp
    refine ⟨_, rfl, _, _, rfl, rfl, _, rfl, by omega, by omega, for_range (lo := 0) (fun i σ1 H4 => ∃ (vp2 : Addr) (ls : List (List Row0 × List Str)) (ps2 : List Pt) (v5 v6 v7 : Option V), σ1 = [some (.ref d), some (.int (m : Nat)), some (.ref vp2), some (.ref L), some (.ref vp), v5, v6, v7] ∧ LotsAt K G d l L vp2 vp ls ps2 ps H4 ∧ ls.length = 1 + i)
      ⟨vp, _, ps, _, _, _, rfl, A0, rfl⟩ ?_ ?_⟩
    · rintro i _ H4 hi ⟨vp2, ls, ps2, v5, v6, v7, rfl, A1, ll⟩
      -- which parts
      refine seq_cut (fun σ1 H5 => ∃ (vp3 : Addr) (ps3 : List Pt) (w5 : Option V), σ1 = [some (.ref d), some (.int (m : Nat)), some (.ref vp3), some (.ref L), some (.ref vp), w5, v6, v7] ∧ LotsAt K G d l L vp3 vp ls ps3 ps H5) ?after1 fun after => ?go1
      case go1 =>
        obtain ⟨B, acc, kB1, nB, DB, hacc, hp2, hpf⟩ := A1.ex
        refine ⟨_, rfl, _, rfl, _, rfl, _, rfl, (by show 3 ≤ sizeLine; decide), fun b ub => ?_⟩
        have DB2 := DB.put (o := .lst [.ref vp2, .ref vp2, .ref vp]) ub
        refine ⟨_, d, l, b, _, rfl, DB2, SqL.of upd_same, (by simp), (by show 3 < 1000; decide), fun H5 x D5 hx => ?_⟩
        have D6 : Deal (upd B L (.lst acc)) H5 d l := Deal.less D5 (same_new (DB.same.free ub))
        have go : ∀ (vp3 : Addr) (ps3 : List Pt), PsOk ps3 → Dp K B (.ref vp3) (partsD ps3) → LotsAt K G d l L vp3 vp ls ps3 ps H5 := fun vp3 ps3 h1 h2 => ⟨⟨B, acc, kB1, nB, D6, hacc, h2, hpf⟩, h1, A1.pf, A1.ls⟩
        rcases List.mem_cons.mp hx with rfl | hx
        · exact after _ _ ⟨vp2, ps2, _, rfl, go vp2 ps2 A1.ps hp2⟩
        rcases List.mem_cons.mp hx with rfl | hx
        · exact after _ _ ⟨vp2, ps2, _, rfl, go vp2 ps2 A1.ps hp2⟩
        · rw [List.mem_singleton.mp hx]
          exact after _ _ ⟨vp, ps, _, rfl, go vp ps A1.pf hpf⟩
      case after1 =>
        rintro _ H5 ⟨vp3, ps3, w5, rfl, A2⟩
        refine seq_cut (fun σ1 H6 => ∃ (vp4 : Addr) (ps4 : List Pt) (w6 w7 : Option V), σ1 = [some (.ref d), some (.int (m : Nat)), some (.ref vp4), some (.ref L), some (.ref vp), w5, w6, w7] ∧ LotsAt K G d l L vp4 vp ls ps4 ps H6) ?after2 fun after => ?go2
        case go2 =>
          obtain ⟨B, acc, kB1, nB, DB, hacc, hp2, hpf⟩ := A2.ex
          refine ⟨_, rfl, _, d, l, 2, rfl, DB, by decide, by decide, fun H6 r6 D6 r60 r61 => ?_⟩
          refine ⟨_, _, rfl, rfl, _, rfl, by omega, by omega, for_range (lo := 0) (fun j σ1 H7 => ∃ (vp4 : Addr) (ps4 : List Pt) (w6 w7 : Option V), σ1 = [some (.ref d), some (.int (m : Nat)), some (.ref vp4), some (.ref L), some (.ref vp), w5, w6, w7] ∧ LotsAt K G d l L vp4 vp ls ps4 ps H7)
            ⟨vp3, ps3, _, _, rfl, ⟨⟨B, acc, kB1, nB, D6, hacc, hp2, hpf⟩, A2.ps, A2.pf, A2.ls⟩⟩ ?_ (fun σ1 H7 h => after σ1 H7 h)⟩
          clear D6 kB1 nB DB hacc hp2 hpf A2
          rintro j _ H7 hj ⟨vp4, ps4, w6, w7, rfl, A3⟩
          obtain ⟨B, acc, kB1, nB, DB, hacc, hp2, hpf⟩ := A3.ex
          have kL : Same B (upd B L (.lst acc)) := same_new nB
          refine ⟨_, rfl, _, rfl, upd B L (.lst acc), d, l, .ref vp4, ps4, rfl, DB, dp_same kL _ _ hp2, A3.ps.ok, by have := A3.ps.few; omega, fun G8 H8 g qs k8 D8 gg hq nok => ?_⟩
          have hL8 : G8 L = some (.lst acc) := k8 _ _ upd_same
          have ng : g ≠ L := fun z => by rw [z, upd_same] at gg; cases gg
          have kH : Same B (hide L G8) := fun b o e => by
            rw [hide_ne (ne_of_none e nB)]
            exact k8 _ _ (kL _ _ e)
          have ql : qs.length ≤ 8 := by have := nok.few; have := A3.ps.few; omega
          have next : ∀ (H9 : Hp), Same H8 H9 → ∀ (vp5 : Addr) (ps5 : List Pt), PsOk ps5 → Dp K (hide L G8) (.ref vp5) (partsD ps5) → LotsAt K G d l L vp5 vp ls ps5 ps H9 := fun H9 s9 vp5 ps5 h1 h2 =>
            ⟨⟨hide L G8, acc, kB1.trans kH, hide_same, by rw [hide_upd, upd_id hL8]; exact D8.on s9, hacc.same lotV_stays kH, h2, dp_same kH _ _ hpf⟩, h1, A3.pf, A3.ls⟩
          refine ⟨_, rfl, .ref g, qs, rfl, dp_same D8.same _ _ hq, by omega, fun H9 s9 => ⟨_, _, rfl, rfl, _, rfl, ?_⟩⟩
          have old := next H9 s9 vp4 ps4 A3.ps (dp_same kH _ _ hp2)
          by_cases q1 : decide ((1 : Int) < ((sizeP qs : Nat) : Int)) = true
          · refine iteTb q1 ⟨_, _, rfl, rfl, _, rfl, ?_⟩
            by_cases q2 : decide (((sizeP qs : Nat) : Int) < 9) = true
            · refine iteTb q2 ⟨_, rfl, g, qs, _, _, rfl, next H9 s9 g qs ⟨nok.ok, ?_, ?_⟩ (parts_hide hL8 ng hq)⟩
              · have z := of_decide_eq_true q1
                cases qs with
                | nil => exact absurd z (by decide)
                | cons a b => simp
              · have z := of_decide_eq_true q2
                omega
            · exact iteFb (by simpa using q2) ⟨_, rfl, vp4, ps4, _, _, rfl, old⟩
          · exact iteFb (by simpa using q1) ⟨_, rfl, iteF ⟨_, rfl, vp4, ps4, _, _, rfl, old⟩⟩
        case after2 =>
          rintro _ H6 ⟨vp4, ps4, w6, w7, rfl, A3⟩
          obtain ⟨B, acc, kB1, nB, DB, hacc, hp2, hpf⟩ := A3.ex
          have kL : Same B (upd B L (.lst acc)) := same_new nB
          refine ⟨_, rfl, .inl ⟨rfl, _, SqL.of (DB.same _ _ upd_same)⟩, _, rfl, _, rfl, upd B L (.lst acc), d, l, .ref vp4, ps4, rfl, DB, dp_same kL _ _ hp2, by have := A3.ps.few; omega, fun G7 H7 r lp tp ys dz k7 D7 hr7 u1 u2 h1 h2 h3 lok => ?_⟩
          have hL7 : G7 L = some (.lst acc) := k7 _ _ upd_same
          have n1 : lp ≠ L := fun z => by rw [z, upd_same] at u1; cases u1
          have n2 : tp ≠ L := fun z => by rw [z, upd_same] at u2; cases u2
          have kH : Same B (hide L G7) := fun b o e => by
            rw [hide_ne (ne_of_none e nB)]
            exact k7 _ _ (kL _ _ e)
          have la : acc.length = ls.length := hacc.len
          refine ⟨L, acc, _, rfl, rfl, D7.same _ _ hL7, Nat.lt_of_le_of_lt (show acc.length ≤ 10 by omega) (by decide), vp4, ls ++ [(linesP ps4, dz)], ps4, _, _, _, rfl, ⟨⟨hide L G7, acc ++ [.ref r], kB1.trans kH, hide_same, ?_, ?_, dp_same kH _ _ hp2, dp_same kH _ _ hpf⟩, A3.ps, A3.pf, fun e he => ?_⟩, by simp; omega⟩
          · rw [hide_upd]
            exact D7.edit hL7
          · exact els_add (hacc.same lotV_stays kH) (lot_hide hL7 hr7 n1 n2 h1 h2 h3)
          · rcases List.mem_append.mp he with he | he
            · exact A3.ls e he
            · rw [List.mem_singleton.mp he]
              exact ⟨ps4, A3.ps, rfl, lok⟩
    · rintro _ H4 ⟨vp2, ls, ps2, v5, v6, v7, rfl, A1, ll⟩
      obtain ⟨B, acc, kB1, nB, DB, hacc, hp2, hpf⟩ := A1.ex
      have kL : Same B (upd B L (.lst acc)) := same_new nB
      refine ⟨_, rfl, fin _ _ L ls (kB1.trans kL) DB gL ⟨acc, upd_same, hacc.same lotV_stays kL⟩ (by omega) A1.ls⟩
end
end K2

set_option Elab.async false
set_option linter.all false
set_option maxRecDepth 100000
set_option maxHeartbeats 1000000
namespace SxT
open PySem PySem.Spec PyProof.Rows L2 Lw
/-! sorted(texts, key=str) -/
def rSortedKS (K : PySem.W.Frag) : List V → List V → Hp → VK → Prop := fun vs zs H Q => ∃ (a : Addr) (xs : List PySem.Str), vs = [V.ref a] ∧ zs = [.ty "str"] ∧ SqL K H a (xs.map V.str) ∧ xs.length < 64 ∧
  ∀ (ys : List PySem.Str) (p : Addr), ys.Perm xs → sortedS ys = true → H p = none → Q (.ref p) (upd H p (.lst (ys.map V.str)))
theorem pair_rising : ∀ {l : List PySem.Str} {p : PySem.Str}, (p :: l).Pairwise Lw.leS → risingS p l = true
  | [], _, _ => rfl
  | x :: r, p, h => by
    obtain ⟨h1, h2⟩ := List.pairwise_cons.mp h
    have e : (!ltCps x.cps.toList p.cps.toList) = true := by
      rw [show ltCps x.cps.toList p.cps.toList = false from h1 x List.mem_cons_self]
      rfl
    show (!ltCps x.cps.toList p.cps.toList && risingS x r) = true
    rw [e, pair_rising h2]
    rfl
theorem pair_sorted : ∀ {l : List PySem.Str}, l.Pairwise Lw.leS → sortedS l = true
  | [], _ => rfl
  | _ :: _, h => pair_rising h
theorem each_strs : ∀ {its : List Value} {xs : List PySem.Str}, Vals (xs.map V.str) its → PySem.W.EachIs (fun v (b : PySem.Str) => ∃ t, v = .str b t) its xs
  | [], [], _ => .nil
  | [], _ :: _, h => by cases h
  | _ :: _, [], h => by cases h
  | _ :: _, _ :: _, h => by
    cases h with
    | cons h1 h2 =>
      obtain ⟨t, rfl⟩ := h1
      exact .cons ⟨t, rfl⟩ (each_strs h2)
theorem strs_each : ∀ {out : List Value} {ys : List PySem.Str}, PySem.W.EachIs (fun v (b : PySem.Str) => ∃ t, v = .str b t) out ys → Vals (ys.map V.str) out
  | _, _, .nil => .nil
  | _, _, .cons ⟨t, e⟩ r => .cons ⟨t, e⟩ (strs_each r)
theorem cr_sortedKS {X : Cx} (hu : X.A.units + 8 < cLine) : CallRK X (.builtin "sorted") ["key"] (rSortedKS X.K) := by
  intro pins s σ H vs zs us ws Q I r rz h
  obtain ⟨a, xs, rfl, rfl, hs, few, q⟩ := h
  obtain ⟨its, rv, hl, hsz⟩ := I.list hs
  rw [Vals.ref1 r]
  obtain ⟨u, rfl, ru⟩ := vals1 rz
  obtain rfl : u = Value.type "str" := ru
  refine PySem.W.sorted_key_data (R := fun v (b : PySem.Str) => ∃ t, v = .str b t) (b := false) (f := Value.type "str") (kw := [("key", Value.type "str")]) (fun b : PySem.Str => PyData.str b) hl.isList (each_strs rv) (PySem.W.AllAlike.of fun b b' => rfl) (Or.inr fun d hd => ?_) (by rw [sizeLine_eq]; omega) (fun b _ => ?_) (ksk_s1 _ _) (fun x => ksk_l1 _ _) (fun x => rfl) (fun v b ⟨t, e⟩ _ h tk old => ?_) fun out c h' tk old fr at_ ln eo => ?_
  · obtain ⟨b, _, rfl⟩ := List.mem_map.mp hd
    exact ⟨(fun z => by cases z), fun _ z => by cases z⟩
  · show X.A.units + 2 + 0 < cLine
    omega
  · subst e
    exact PySem.P.str_of_str ⟨h, tk, rfl, fun _ _ z => z, .str b t⟩
  · have k1 := strs_each eo
    have srt : sortedS (xs.mergeSort (PySem.W.dataLe false fun b : PySem.Str => PyData.str b)) = true := by
      rw [show (PySem.W.dataLe false fun b : PySem.Str => PyData.str b) = fun a b => decide (a.cps.toList ≤ b.cps.toList) from PySem.W.dataLe_str fun b => b]
      refine pair_sorted ?_
      have p := List.pairwise_mergeSort (le := fun a b : PySem.Str => decide (a.cps.toList ≤ b.cps.toList)) (fun a b c h1 h2 => decide_eq_true (List.le_trans (of_decide_eq_true h1) (of_decide_eq_true h2))) (fun a b => by
        rcases List.le_total a.cps.toList b.cps.toList with h | h
        · simp [h]
        · simp [h]) xs
      exact p.imp fun h => Lw.leS_iff.mpr (of_decide_eq_true h)
    have hlen : ((xs.mergeSort (PySem.W.dataLe false fun b : PySem.Str => PyData.str b)).map V.str).length ≤ sizeLine := by
      rw [List.length_map, List.length_mergeSort, sizeLine_eq]; omega
    exact ⟨.ref (s.heap.objs.size + 1), upd H (s.heap.objs.size + 1) (.lst _), I.laid old (Nat.le_succ _) ⟨hlen, out, c, k1, at_⟩, rfl, q _ _ (List.mergeSort_perm _ _) srt (I.hok.fresh (Nat.le_succ _))⟩
end SxT

set_option Elab.async false
set_option linter.all false
set_option maxRecDepth 100000
set_option maxHeartbeats 1000000
/-! names that are due; the texts of rows and editions -/
namespace K2
open PySem L2 Lw TL SxT
abbrev four4 : List Str := ["a", "b", "c", "e"]
/-- names that are due, as the law draws them -/
structure OwedOk (zs : List Str) : Prop where
  sub : ∀ z ∈ zs, z ∈ four4
  nd : zs.Nodup
  so : PyProof.Rows.sortedS zs = true
  few : zs.length ≤ 2
def spOwed (K : PySem.W.Frag) : Sp := fun vs H Q _ => ∃ (G : Hp) (d l : Addr), vs = [.ref d] ∧ Deal G H d l ∧ ∀ (G' H' : Hp) (p : Addr) (zs : List Str), Same G G' → Deal G' H' d l → G p = none → G' p = some (.lst (zs.map V.str)) → OwedOk zs → Q (.ref p) H'
section
variable {P : Program} {w : World} {K : PySem.W.Frag} {mg : Str → Option Value} {base : Heap}
theorem scOwed : FnScope ["_law_deal_here"] ["_law_deal_here"] (defScope sOwed) := ⟨rfl, rfl, rfl, by decide +kernel, rfl, by decide +kernel, by decide +kernel⟩
theorem okOwed {f fM fP : Addr} {fd fdM fdP : FuncData} (F : Fun K "_law_owed" "_law_owed" sOwed f fd) (GM : FnOk P w K mg base CX0 2 fM fdM ["_law_deal_here", "_law_some"] (spMixed K)) (kM : PySem.W.keepIn K (.ref fM) = true) (tM : mg "_law_mixed" = some (.ref fM)) (bM : Binds K fdM ["_law_deal_here", "_law_some"] [])
    (GP : FnOk P w K mg base CX0 2 fP fdP ["_law_deal_here", "_law_some"] (spPick K)) (kP : PySem.W.keepIn K (.ref fP) = true) (tP : mg "_law_pick" = some (.ref fP)) (bP : Binds K fdP ["_law_deal_here", "_law_some"] []) (tSo : mg "sorted" = none) (tS : mg "str" = none) :
    FnOk P w K mg base CX0 3 f fd ["_law_deal_here"] (spOwed K) := by
  refine F.ok scOwed (fun vs H Q E h => ?_) (fun cdv A outer s H vs Q E hr h => ?_)
  · obtain ⟨G, d, l, rfl, _⟩ := h
    rfl
  · obtain ⟨G, d, l, rfl, D, fin⟩ := h
    have hu : (A.deeper (PyProof.Rows.envOfC (Str.ofString "_law_owed") (defScope sOwed) s.heap.objs.size f cdv)).units + 8 < cLine := by
      have := hr.units
      omega
    refine ⟨_, pss_one (ps_ret (pe_callBK (cr_sortedKS hu) (by rfl) tSo PyProof.Rows.boot_sorted (pa_cons (pe_slice sl_list (pe_call GM hr rfl tM kM bM .nil pass0 (pa_cons (pv 0) (pa_cons (pe_lst (pa_cons pe_str (pa_cons pe_str (pa_cons pe_str (pa_cons pe_str pa_nil))))) pa_nil))) po_none (po_some (pe_call GP hr rfl tP kP bP .nil pass0 (pa_cons (pv 0) (pa_cons (pe_lst (pa_cons pe_int (pa_cons pe_int (pa_cons pe_int (pa_cons pe_int pa_nil))))) pa_nil))))) pa_nil) (pk_cons (pe_bltn (v := .ty "str") (by rfl) tS PyProof.Rows.boot_str rfl) pk_nil))), ?_⟩
    refine ⟨_, rfl, (by show 4 ≤ sizeLine; decide), fun a ua => ?_⟩
    obtain ⟨G0, H0, e0, D0, h0, k0, _⟩ := D.lay ua (.lst [.str "a", .str "b", .str "c", .str "e"])
    rw [← e0]
    refine ⟨G0, d, l, a, [.str "a", .str "b", .str "c", .str "e"], rfl, D0, SqL.of h0, (by show 4 ≤ 1000; decide), fun G2 H2 N2 p ys n2 hp pm => ?_⟩
    obtain ⟨us, rfl, pu⟩ := perm_str (zs := four4) pm
    have ul : us.length = 4 := pu.length_eq
    refine ⟨_, rfl, (by show 4 ≤ sizeLine; decide), fun b ub => ?_⟩
    obtain ⟨G3, H3, e3, D3, h3, k3, _⟩ := n2.dl.lay ub (.lst [.int 0, .int 1, .int 1, .int 2])
    rw [← e3]
    refine ⟨G3, d, l, b, _, rfl, D3, SqL.of h3, (by simp), (by show 4 < 1000; decide), fun H4 x D4 hx => ?_⟩
    obtain ⟨k, rfl, hk⟩ : ∃ k : Nat, x = .int (k : Nat) ∧ k ≤ 2 := by
      rcases List.mem_cons.mp hx with rfl | hx
      · exact ⟨0, rfl, by decide⟩
      rcases List.mem_cons.mp hx with rfl | hx
      · exact ⟨1, rfl, by decide⟩
      rcases List.mem_cons.mp hx with rfl | hx
      · exact ⟨1, rfl, by decide⟩
      · rw [List.mem_singleton.mp hx]
        exact ⟨2, rfl, by decide⟩
    refine ⟨_, rfl, p, _, rfl, D4.same.seq (k3.seq (SqL.of (n2.sub _ _ hp))), fun q uq => ?_⟩
    rw [cut_upto us k]
    obtain ⟨G5, H5, e5, D5, h5, k5, _⟩ := D4.lay uq (.lst ((us.take k).map V.str))
    rw [← e5]
    have ltk : (us.take k).length ≤ 2 := by rw [List.length_take]; omega
    refine ⟨q, us.take k, rfl, rfl, SqL.of (D5.same _ _ h5), by omega, fun zs r pz sz ur => ?_⟩
    obtain ⟨G6, H6, e6, D6, h6, k6, _⟩ := D5.lay ur (.lst (zs.map V.str))
    rw [← e6]
    have KK := ((k0.trans n2.kp).trans k3).trans k5
    refine fin G6 _ r zs (KK.trans k6) D6 (KK.free (D5.same.free ur)) h6 ⟨fun z hz => pu.mem_iff.mp (List.mem_of_mem_take (pz.mem_iff.mp hz)), pz.nodup_iff.mpr ((pu.nodup_iff.mpr (by decide +kernel)).sublist (List.take_sublist _ _)), sz, by rw [pz.length_eq]; exact ltk⟩
end
end K2

set_option Elab.async false
set_option linter.all false
set_option maxRecDepth 100000
set_option maxHeartbeats 1000000
namespace K2
open PySem L2 Lw TL SxT
/-! ### where an edition goes -/
abbrev Wy := List (Str × Bool)
def firstP : List Row0 → Str
  | r :: _ => placeR r
  | [] => Str.empty
def rowF (rs : List Row0) (p : Str) : Option Row0 := rs.find? fun r => decide (placeR r = p)
def wayOf (ws : Wy) (m : Str) : Option Bool := (ws.find? fun w => decide (w.1 = m)).map (·.2)
def ledF (r : Row0) (ws : Wy) : Option Str :=
  match r with
  | .note _ _ t => some t
  | .gate _ m n e => (wayOf ws m).map fun b => if b = true then n else e
  | _ => none
def passF (rs : List Row0) (ws : Wy) : Nat → Str → List Str
  | 0, p => [p]
  | k + 1, p => p :: match (rowF rs p).bind fun r => ledF r ws with
    | some q => passF rs ws k q
    | none => []
def goF (rs : List Row0) (ws : Wy) (p : Str) : List Str := passF rs ws (rs.length + 1) p
theorem row_mem {rs : List Row0} {p : Str} {r : Row0} (h : rowF rs p = some r) : r ∈ rs ∧ placeR r = p := by
  have := List.find?_some h
  exact ⟨List.mem_of_find?_eq_some h, of_decide_eq_true this⟩
theorem row_of_place {rs : List Row0} {p : Str} (h : p ∈ rs.map placeR) : ∃ r, rowF rs p = some r := by
  obtain ⟨r, hr, e⟩ := List.mem_map.mp h
  cases z : rowF rs p with
  | some r => exact ⟨r, rfl⟩
  | none =>
    have := List.find?_eq_none.mp z r hr
    simp [e] at this
theorem led_on {r : Row0} {ws : Wy} {q : Str} (h : ledF r ws = some q) : onB r = true ∧ q ∈ leadsR r := by
  cases r with
  | ask p n w => cases h
  | note p w t =>
    have : t = q := by simpa [ledF] using h
    subst this
    exact ⟨rfl, by simp [leadsR]⟩
  | gate p m n e =>
    refine ⟨rfl, ?_⟩
    simp only [ledF, Option.map_eq_some_iff] at h
    obtain ⟨b, _, e2⟩ := h
    cases b with
    | true => simp at e2; simp [leadsR, e2]
    | false => simp at e2; simp [leadsR, e2]
  | end_ p => cases h
/-! ### rows without rings are ranked -/
theorem ranked : ∀ (n : Nat) (left : List Row0), ringN n left = false → ∃ rank : Str → Nat, (∀ p, rank p ≤ left.length) ∧ ∀ r ∈ left, ∀ z ∈ leadsR r, z ∈ left.map placeR → rank z < rank (placeR r)
  | 0, left, h => by
    have : left = [] := by
      have h' : (!left.isEmpty) = false := h
      cases left with
      | nil => rfl
      | cons _ _ => cases h'
    subst this
    exact ⟨fun _ => 0, fun _ => Nat.le_refl _, fun r hr => by cases hr⟩
  | n + 1, left, h => by
    rw [ringN] at h
    by_cases e : (keptF left).length = left.length
    · rw [if_pos e] at h
      have : left = [] := by
        cases left with
        | nil => rfl
        | cons _ _ => cases h
      subst this
      exact ⟨fun _ => 0, fun _ => Nat.le_refl _, fun r hr => by cases hr⟩
    · rw [if_neg e] at h
      obtain ⟨rank, h1, h2⟩ := ranked n (keptF left) h
      have hl := kept_le left
      refine ⟨fun p => if p ∈ (keptF left).map placeR then rank p + 1 else 0, fun p => ?_, fun r hr z hz hp => ?_⟩
      · show (if p ∈ (keptF left).map placeR then rank p + 1 else 0) ≤ _
        split
        · have := h1 p
          omega
        · omega
      · have hk : r ∈ keptF left := List.mem_filter.mpr ⟨hr, List.any_eq_true.mpr ⟨z, hz, decide_eq_true hp⟩⟩
        have hk2 : placeR r ∈ (keptF left).map placeR := List.mem_map_of_mem hk
        show (if z ∈ (keptF left).map placeR then rank z + 1 else 0) < (if placeR r ∈ (keptF left).map placeR then rank (placeR r) + 1 else 0)
        rw [if_pos hk2]
        split
        · have := h2 r hk z hz (by assumption)
          omega
        · omega
/-- how far it is from each place, and what is known of rows that are right -/
structure Right (rs : List Row0) : Prop where
  good : ∀ r ∈ rs, RowGood r
  few : rs.length ≤ 60
  ne : rs ≠ []
  nd : (rs.map placeR).Nodup
  to : ∀ r ∈ rs, ∀ z ∈ leadsR r, z ∈ rs.map placeR
  far : ∃ μ : Str → Nat, (∀ p, μ p ≤ rs.length + 1) ∧ ∀ p r ws q, rowF rs p = some r → ledF r ws = some q → μ q < μ p
theorem right_of {rs : List Row0} {d : PyData} (g : ∀ r ∈ rs, RowGood r) (few : rs.length ≤ 60) (h : wrongF rs d = none) : Right rs ∧ markB rs (dropsL d) = false := by
  obtain ⟨ne, _, nd⟩ := wrong_none h
  unfold wrongF at h
  rw [if_neg (by simpa using ne)] at h
  split at h
  · cases h
  split at h
  · cases h
  rename_i ht
  split at h
  · cases h
  rename_i hm
  split at h
  · cases h
  rename_i hr
  have ht' : thenB rs = true := by simpa using ht
  have hm' : markB rs (dropsL d) = false := by simpa using hm
  have hr' : ringF rs = false := by simpa using hr
  have to : ∀ r ∈ rs, ∀ z ∈ leadsR r, z ∈ rs.map placeR := fun r hr z hz => of_decide_eq_true (List.all_eq_true.mp ht' z (List.mem_flatten.mpr ⟨_, List.mem_map_of_mem hr, hz⟩))
  refine ⟨⟨g, few, ne, nd, to, ?_⟩, hm'⟩
  obtain ⟨rank, h1, h2⟩ := ranked _ _ hr'
  have lf : (rs.filter onB).length ≤ rs.length := List.length_filter_le _ _
  refine ⟨fun p => if p ∈ (rs.filter onB).map placeR then rank p + 1 else 0, fun p => ?_, fun p r ws q e1 e2 => ?_⟩
  · show (if p ∈ (rs.filter onB).map placeR then rank p + 1 else 0) ≤ _
    split
    · have := h1 p
      omega
    · omega
  · obtain ⟨hr, ep⟩ := row_mem e1
    obtain ⟨on, hq⟩ := led_on e2
    have hf : r ∈ rs.filter onB := List.mem_filter.mpr ⟨hr, on⟩
    have hp : p ∈ (rs.filter onB).map placeR := by rw [← ep]; exact List.mem_map_of_mem hf
    show (if q ∈ (rs.filter onB).map placeR then rank q + 1 else 0) < (if p ∈ (rs.filter onB).map placeR then rank p + 1 else 0)
    rw [if_pos hp]
    split
    · have := h2 r hf q hq (by assumption)
      rw [ep] at this
      omega
    · omega
theorem Right.led {rs : List Row0} (R : Right rs) {p q : Str} {r : Row0} {ws : Wy} (e : rowF rs p = some r) (h : ledF r ws = some q) : q ∈ rs.map placeR := R.to r (row_mem e).1 q (led_on h).2
/-- what it passes are places -/
theorem pass_places {rs : List Row0} (R : Right rs) {ws : Wy} : ∀ (k : Nat) {p : Str}, p ∈ rs.map placeR → ∀ q ∈ passF rs ws k p, q ∈ rs.map placeR
  | 0, p, hp, q, hq => by
    rw [passF, List.mem_singleton] at hq
    rw [hq]; exact hp
  | k + 1, p, hp, q, hq => by
    rw [passF] at hq
    rcases List.mem_cons.mp hq with rfl | hq
    · exact hp
    · obtain ⟨r, er⟩ := row_of_place hp
      rw [er, Option.bind_some] at hq
      cases e : ledF r ws with
      | none => rw [e] at hq; cases hq
      | some z =>
        rw [e] at hq
        exact pass_places R k (R.led er e) q hq
theorem pass_len {rs : List Row0} {ws : Wy} : ∀ (k : Nat) (p : Str), (passF rs ws k p).length ≤ k + 1
  | 0, p => by simp [passF]
  | k + 1, p => by
    rw [passF, List.length_cons]
    split
    · have := pass_len (rs := rs) (ws := ws) k (by assumption)
      omega
    · simp
theorem pass_ne {rs : List Row0} {ws : Wy} (k : Nat) (p : Str) : passF rs ws k p ≠ [] := by
  cases k <;> simp [passF]
/-- where it ends it stays -/
theorem pass_last {rs : List Row0} (R : Right rs) {ws : Wy} {μ : Str → Nat} (hμ : ∀ p r ws q, rowF rs p = some r → ledF r ws = some q → μ q < μ p) : ∀ (k : Nat) {p : Str}, μ p ≤ k → p ∈ rs.map placeR → ∃ q r, (passF rs ws k p).getLast? = some q ∧ rowF rs q = some r ∧ ledF r ws = none
  | 0, p, h, hp => by
    obtain ⟨r, er⟩ := row_of_place hp
    refine ⟨p, r, by simp [passF], er, ?_⟩
    cases e : ledF r ws with
    | none => rfl
    | some q => have := hμ p r ws q er e; omega
  | k + 1, p, h, hp => by
    obtain ⟨r, er⟩ := row_of_place hp
    cases e : ledF r ws with
    | none =>
      refine ⟨p, r, ?_, er, e⟩
      rw [passF, er, Option.bind_some, e]
      rfl
    | some q =>
      have := hμ p r ws q er e
      obtain ⟨z, r2, h1, h2, h3⟩ := pass_last R hμ k (p := q) (by omega) (R.led er e)
      refine ⟨z, r2, ?_, h2, h3⟩
      rw [passF, er, Option.bind_some, e]
      show (p :: passF rs ws k q).getLast? = some z
      rw [List.getLast?_cons, h1]
      rfl
theorem go_last {rs : List Row0} (R : Right rs) {ws : Wy} {p : Str} (hp : p ∈ rs.map placeR) : ∃ q r, (goF rs ws p).getLast? = some q ∧ rowF rs q = some r ∧ ledF r ws = none := by
  obtain ⟨μ, h1, h2⟩ := R.far
  exact pass_last R h2 _ (h1 p) hp
/-! ### stands -/
structure Stn where
  place : Str
  ways : Wy
  word : Option Str
def noteW (rs : List Row0) (p : Str) : Option Str := (rowF rs p).bind fun | .note _ w _ => some w | _ => none
def settleF (rs : List Row0) (p : Str) (ws : Wy) (w : Option Str) : Stn := ⟨(goF rs ws p).getLastD p, ws, (((goF rs ws p).filterMap (noteW rs)).getLast?).or w⟩
end K2

set_option Elab.async false
set_option linter.all false
set_option maxRecDepth 100000
set_option maxHeartbeats 1000000
/-! rows that lead on in some order -/
namespace K2
open PySem L2 Lw TL SxT
/-- rows in an order in which notes and gates lead on -/
structure Onward (rs : List Row0) (spots : List Str) : Prop where
  nd : spots.Nodup
  at_ : ∀ (j : Nat) (r : Row0), rs[j]? = some r → spots[j]? = some (placeR r) ∧ (∀ z ∈ leadsR r, z ∈ spots) ∧ (onB r = true → ∀ z ∈ leadsR r, z ∈ spots.drop (j + 1))
theorem climb {rs : List Row0} {spots : List Str} (O : Onward rs spots) {left : List Row0} (ne : left ≠ []) (sub : ∀ r ∈ left, r ∈ rs ∧ onB r = true) (all : ∀ r ∈ left, ((leadsR r).any fun z => decide (z ∈ left.map placeR)) = true) : ∀ k : Nat, ∃ r ∈ left, ∃ j, k ≤ j ∧ rs[j]? = some r
  | 0 => by
    cases left with
    | nil => exact absurd rfl ne
    | cons r l =>
      obtain ⟨j, hj⟩ := List.getElem?_of_mem (sub r (by simp)).1
      exact ⟨r, by simp, j, Nat.zero_le _, hj⟩
  | k + 1 => by
    obtain ⟨r, hr, j, hk, hj⟩ := climb O ne sub all k
    obtain ⟨z, hz, e⟩ := List.any_eq_true.mp (all r hr)
    have e := of_decide_eq_true e
    obtain ⟨r2, hr2, rfl⟩ := List.mem_map.mp e
    obtain ⟨j2, hj2⟩ := List.getElem?_of_mem (sub r2 hr2).1
    refine ⟨r2, hr2, j2, ?_, hj2⟩
    have h1 := (O.at_ j r hj).2.2 (sub r hr).2 _ hz
    obtain ⟨i, hi⟩ := List.getElem?_of_mem h1
    rw [List.getElem?_drop] at hi
    have h2 := (O.at_ j2 r2 hj2).1
    have lt : j2 < spots.length := (List.getElem?_eq_some_iff.mp h2).1
    have := (List.getElem?_inj lt O.nd).mp (h2.trans hi.symm)
    omega
theorem ring_none {rs : List Row0} {spots : List Str} (O : Onward rs spots) : ∀ (n : Nat) (left : List Row0), left.length ≤ n → (∀ r ∈ left, r ∈ rs ∧ onB r = true) → ringN n left = false
  | 0, left, h, _ => by
    obtain rfl : left = [] := List.eq_nil_of_length_eq_zero (by omega)
    rfl
  | n + 1, left, h, sub => by
    rw [ringN]
    by_cases e : (keptF left).length = left.length
    · rw [if_pos e]
      cases left with
      | nil => rfl
      | cons r l =>
        exfalso
        have all := List.length_filter_eq_length_iff.mp e
        obtain ⟨r2, _, j, hk, hj⟩ := climb O (by simp) sub all rs.length
        have := (List.getElem?_eq_some_iff.mp hj).1
        omega
    · rw [if_neg e]
      have := kept_le left
      exact ring_none O n (keptF left) (by omega) fun r hr => sub r (List.mem_filter.mp hr).1
theorem marks_names : ∀ z ∈ (["m", "n", "mark", "k"] : List Str), nameOk z = true := by decide +kernel
def posL : List Str → Str → Nat
  | [], _ => 0
  | x :: l, p => if x = p then 0 else posL l p + 1
theorem posL_at : ∀ {l : List Str} {j : Nat} {p : Str}, l.Nodup → l[j]? = some p → posL l p = j
  | [], j, p, _, h => by simp at h
  | x :: l, 0, p, _, h => by
    have e : x = p := by simpa using h
    unfold posL
    rw [if_pos e]
  | x :: l, j + 1, p, nd, h => by
    have h : l[j]? = some p := by simpa using h
    obtain ⟨n1, n2⟩ := List.nodup_cons.mp nd
    have ne : x ≠ p := fun e => n1 (e ▸ List.mem_of_getElem? h)
    unfold posL
    rw [if_neg ne, posL_at n2 h]
/-- rows that lead on in some order, marks that are let by -/
structure Gd (rs : List Row0) (ps : List Str) : Prop where
  on : ∃ rs0 : List Row0, Onward rs0 (rs0.map placeR) ∧ rs.Perm rs0
  ne : rs ≠ []
  good : ∀ r ∈ rs, RowGood r
  few : rs.length ≤ 60
  ndp : ps.Nodup
  four : ∀ p ∈ ps, p ∈ (["m", "n", "mark", "k"] : List Str)
  not : ∀ p n e m, Row0.gate p m n e ∈ rs → m ∉ ps
theorem Gd.ok {rs : List Row0} {ps : List Str} (G : Gd rs ps) : wrongF rs (.tuple (ps.map PyData.str)) = none := by
  obtain ⟨rs0, O, pm⟩ := G.on
  have pp : (rs.map placeR).Perm (rs0.map placeR) := pm.map placeR
  have e1 : ¬ (rs.isEmpty = true) := fun z => G.ne (List.isEmpty_iff.mp z)
  have e2 : unlikeD (.tuple (ps.map PyData.str)) = true := by
    show unlikeL (ps.map PyData.str) = true
    rw [unlikeL, Bool.and_eq_true, decide_eq_true_iff]
    constructor
    · rw [List.all_eq_true]
      intro x hx
      obtain ⟨z, hz, rfl⟩ := List.mem_map.mp hx
      exact marks_names z (G.four z hz)
    · have e : (ps.map PyData.str).map strD = ps := by
        rw [List.map_map]
        exact List.map_id _
      rw [e]
      exact G.ndp
  have e3 : (rs.map placeR).Nodup := pp.nodup_iff.mpr O.nd
  have e4 : thenB rs = true := by
    rw [thenB, List.all_eq_true]
    intro z hz
    obtain ⟨l, hl2, hz⟩ := List.mem_flatten.mp hz
    obtain ⟨r, hr, rfl⟩ := List.mem_map.mp hl2
    obtain ⟨j, hj⟩ := List.getElem?_of_mem (pm.mem_iff.mp hr)
    exact decide_eq_true (pp.mem_iff.mpr ((O.at_ j r hj).2.1 z hz))
  have e5 : markB rs (dropsL (.tuple (ps.map PyData.str))) = false := by
    rw [Bool.eq_false_iff, drops_tup]
    intro h
    obtain ⟨r, hr, e⟩ := List.any_eq_true.mp h
    obtain ⟨hr, g⟩ := List.mem_filter.mp hr
    have e := of_decide_eq_true e
    cases r with
    | gate p m n o => exact G.not p n o m hr e
    | ask p n ws => cases g
    | note p w t => cases g
    | end_ p => cases g
  have e6 : ringF rs = false := ring_none O _ _ (Nat.le_refl _) fun r hr => ⟨pm.mem_iff.mp (List.mem_filter.mp hr).1, (List.mem_filter.mp hr).2⟩
  rw [wrongF, if_neg e1, if_neg (by rw [e2]; decide), if_pos e3, if_neg (by rw [e4]; decide), if_neg (by rw [e5]; decide), if_neg (by rw [e6]; decide)]
theorem Gd.right {rs : List Row0} {ps : List Str} (G : Gd rs ps) : Right rs := (right_of G.good G.few G.ok).1
/-- how far a place is from the last one -/
theorem Gd.rank {rs : List Row0} {ps : List Str} (G : Gd rs ps) : ∃ ν : Str → Nat, (∀ p, ν p < rs.length) ∧ ∀ r ∈ rs, onB r = true → ∀ z ∈ leadsR r, ν z < ν (placeR r) := by
  obtain ⟨rs0, O, pm⟩ := G.on
  have len := pm.length_eq
  have pos : 0 < rs.length := List.length_pos_iff.mpr G.ne
  refine ⟨fun p => rs.length - 1 - posL (rs0.map placeR) p, fun p => by show rs.length - 1 - _ < rs.length; omega, fun r hr on z hz => ?_⟩
  obtain ⟨j, hj⟩ := List.getElem?_of_mem (pm.mem_iff.mp hr)
  obtain ⟨a1, _, a3⟩ := O.at_ j r hj
  have h := a3 on z hz
  obtain ⟨i, hi⟩ := List.getElem?_of_mem h
  rw [List.getElem?_drop] at hi
  have lt : j + 1 + i < (rs0.map placeR).length := (List.getElem?_eq_some_iff.mp hi).1
  rw [List.length_map] at lt
  show rs.length - 1 - posL (rs0.map placeR) z < rs.length - 1 - posL (rs0.map placeR) (placeR r)
  rw [posL_at O.nd hi, posL_at O.nd a1]
  omega
/-- rows that lead on in some order -/
structure Gs (rs : List Row0) : Prop where
  on : ∃ rs0 : List Row0, Onward rs0 (rs0.map placeR) ∧ rs.Perm rs0
  ne : rs ≠ []
  good : ∀ r ∈ rs, RowGood r
theorem Gs.perm {rs rs' : List Row0} (h : Gs rs) (p : rs'.Perm rs) : Gs rs' := by
  obtain ⟨rs0, O, pm⟩ := h.on
  exact ⟨⟨rs0, O, p.trans pm⟩, fun e => h.ne (by rw [e] at p; exact (List.nil_perm.mp p)), fun r hr => h.good r (p.mem_iff.mp hr)⟩
theorem Gs.gate {rs : List Row0} (h : Gs rs) {s m n e : Str} (new : s ∉ rs.map placeR) (ns : nameOk s = true) (nm : nameOk m = true) (hn : n ∈ rs.map placeR) (he : e ∈ rs.map placeR) : Gs (.gate s m n e :: rs) := by
  obtain ⟨rs0, O, pm⟩ := h.on
  have pp := pm.map placeR
  have hn0 := pp.mem_iff.mp hn
  have he0 := pp.mem_iff.mp he
  have names : ∀ z ∈ rs.map placeR, nameOk z = true := fun z hz => by
    obtain ⟨r, hr, rfl⟩ := List.mem_map.mp hz
    have g := h.good r hr
    cases r with
    | ask _ _ _ => exact g.1
    | note _ _ _ => exact g.1
    | gate _ _ _ _ => exact g.1
    | end_ _ => exact g
  refine ⟨⟨.gate s m n e :: rs0, ⟨?_, fun j r hj => ?_⟩, pm.cons _⟩, by simp, fun r hr => ?_⟩
  · rw [List.map_cons, List.nodup_cons]
    exact ⟨fun z => new (pp.mem_iff.mpr z), O.nd⟩
  · cases j with
    | zero =>
      obtain rfl : Row0.gate s m n e = r := by simpa using hj
      refine ⟨rfl, fun z hz => ?_, fun _ z hz => ?_⟩
      · have hz : z = n ∨ z = e := by simpa [leadsR] using hz
        rcases hz with rfl | rfl
        · exact List.mem_cons_of_mem _ hn0
        · exact List.mem_cons_of_mem _ he0
      · have hz : z = n ∨ z = e := by simpa [leadsR] using hz
        rcases hz with rfl | rfl
        · exact hn0
        · exact he0
    | succ j =>
      have hj : rs0[j]? = some r := by simpa using hj
      obtain ⟨a, b, c⟩ := O.at_ j r hj
      exact ⟨a, fun z hz => List.mem_cons_of_mem _ (b z hz), c⟩
  · rcases List.mem_cons.mp hr with rfl | hr
    · exact ⟨ns, nm, names n hn, names e he⟩
    · exact h.good r hr
end K2

set_option Elab.async false
set_option linter.all false
set_option maxRecDepth 100000
set_option maxHeartbeats 1000000
/-! the rows of parts are good editions (nothing of the program) -/
namespace K2
open PySem L2 Lw TL SxT
theorem gd_ofF {rs : List Row0} {ps : List Str} (ν : Str → Nat) (down : ∀ r ∈ rs, onB r = true → ∀ z ∈ leadsR r, ν z < ν (placeR r)) (nd : (rs.map placeR).Nodup) (to : ∀ r ∈ rs, ∀ z ∈ leadsR r, z ∈ rs.map placeR) (ne : rs ≠ []) (good : ∀ r ∈ rs, RowGood r) (few : rs.length ≤ 60) (ndp : ps.Nodup) (four : ∀ p ∈ ps, p ∈ (["m", "n", "mark", "k"] : List Str)) (not : ∀ p n e m, Row0.gate p m n e ∈ rs → m ∉ ps) : Gd rs ps := by
  refine ⟨⟨rs.mergeSort (fun a b => decide (ν (placeR b) ≤ ν (placeR a))), ⟨?_, fun j r hj => ?_⟩, (List.mergeSort_perm _ _).symm⟩, ne, good, few, ndp, four, not⟩
  · exact ((List.mergeSort_perm _ _).map placeR).nodup_iff.mpr nd
  · have pm := List.mergeSort_perm rs (fun a b => decide (ν (placeR b) ≤ ν (placeR a)))
    have st := List.pairwise_mergeSort (le := fun a b => decide (ν (placeR b) ≤ ν (placeR a))) (by
      intro a b c h1 h2
      rw [decide_eq_true_iff] at h1 h2 ⊢
      omega) (by
      intro a b
      rw [Bool.or_eq_true, decide_eq_true_iff, decide_eq_true_iff]
      omega) rs
    generalize rs.mergeSort (fun a b => decide (ν (placeR b) ≤ ν (placeR a))) = rs0 at hj pm st
    have hr : r ∈ rs := pm.mem_iff.mp (List.mem_of_getElem? hj)
    have pp := pm.map placeR
    refine ⟨by rw [List.getElem?_map, hj]; rfl, fun z hz => pp.mem_iff.mpr (to r hr z hz), fun on z hz => ?_⟩
    have h1 := pp.mem_iff.mpr (to r hr z hz)
    obtain ⟨i, hi⟩ := List.getElem?_of_mem h1
    have lt : j < i := by
      rw [List.getElem?_map] at hi
      obtain ⟨q, hq, eq⟩ := Option.map_eq_some_iff.mp hi
      have d := down r hr on z hz
      rw [← eq] at d
      rcases Nat.lt_trichotomy j i with h | h | h
      · exact h
      · subst h
        rw [hj] at hq
        cases hq
        omega
      · exfalso
        have hw := List.pairwise_iff_getElem.mp st i j (List.getElem?_eq_some_iff.mp hq).1 (List.getElem?_eq_some_iff.mp hj).1 h
        rw [(List.getElem?_eq_some_iff.mp hq).2, (List.getElem?_eq_some_iff.mp hj).2, decide_eq_true_iff] at hw
        omega
    refine List.mem_of_getElem? (i := i - (j + 1)) ?_
    rw [List.getElem?_drop, show j + 1 + (i - (j + 1)) = i by omega]
    exact hi

/-- the first sign and the number of a place -/
def numP (z : Str) : Nat × Nat := match z.cps.toList with
  | [a, b] => (a, b - 97)
  | _ => (0, 0)
abbrev threeC : List Str := ["p", "n", "e"]
theorem place_num : ∀ i, i < 10 → ∀ c ∈ threeC, numP (placeP c i) = ((tl c).getD 0 0, i) := by decide +kernel
theorem place_name : ∀ i, i < 10 → ∀ c ∈ threeC, nameOk (placeP c i) = true := by decide +kernel
theorem place_z : ∀ i, i < 10 → ∀ c ∈ threeC, placeP c i ≠ "z" := by decide +kernel
theorem num_z : numP "z" = (0, 0) := by decide +kernel
/-- how far a place is from the end -/
def rankP (n : Nat) (z : Str) : Nat := if z = "z" then 0 else 2 * (n - (numP z).2) + (if (numP z).1 = 112 then 1 else 0)
theorem rank_p {n i : Nat} (h : i < 10) : rankP n (placeP "p" i) = 2 * (n - i) + 1 := by
  unfold rankP
  rw [if_neg (place_z i h "p" (by simp)), place_num i h "p" (by simp)]
  rfl
theorem rank_s {n i : Nat} {c : Str} (h : i < 10) (hc : c = "n" ∨ c = "e") : rankP n (placeP c i) = 2 * (n - i) := by
  unfold rankP
  rcases hc with rfl | rfl
  · rw [if_neg (place_z i h "n" (by simp)), place_num i h "n" (by simp)]
    rfl
  · rw [if_neg (place_z i h "e" (by simp)), place_num i h "e" (by simp)]
    rfl
theorem rank_later {n i : Nat} (h : i < n) (h9 : n ≤ 9) : rankP n (laterP n i) < 2 * (n - i) := by
  unfold laterP
  split
  · rw [rank_p (by omega)]
    omega
  · show (if ("z" : Str) = "z" then 0 else _) < _
    rw [if_pos rfl]
    omega
theorem rank_side {n i : Nat} {c : Str} (h : i < n) (h9 : n ≤ 9) (hc : c = "n" ∨ c = "e") (o : Option Str) : rankP n (sideP n i c o) < 2 * (n - i) + 1 := by
  cases o with
  | none => exact Nat.lt_succ_of_lt (rank_later h h9)
  | some s =>
    show rankP n (placeP c i) < _
    rw [rank_s (by omega) hc]
    omega
theorem later_name {n i : Nat} (h9 : n ≤ 9) : nameOk (laterP n i) = true := by
  unfold laterP
  split
  · exact place_name _ (by omega) "p" (by simp)
  · decide +kernel
theorem side_name {n i : Nat} {c : Str} (h : i < n) (h9 : n ≤ 9) (hc : c = "n" ∨ c = "e") (o : Option Str) : nameOk (sideP n i c o) = true := by
  cases o with
  | none => exact later_name h9
  | some s => exact place_name i (by omega) c (by rcases hc with rfl | rfl <;> simp)
theorem sorts_names : ∀ z ∈ sorts5, nameOk z = true := by decide +kernel
theorem xy_names : ∀ z ∈ (["x", "y"] : List Str), nameOk z = true := by decide +kernel
theorem mn_names : ∀ z ∈ (["m", "n"] : List Str), nameOk z = true := by decide +kernel
theorem ask_good {n i : Nat} {c : Str} (h : i < n) (h9 : n ≤ 9) (hc : c = "n" ∨ c = "e") {o : Option Str} (ho : ∀ z, o = some z → z ∈ sorts5) : ∀ r ∈ askP n i c o, RowGood r := fun r hr => by
  cases o with
  | none => cases hr
  | some s =>
    rw [List.mem_singleton.mp hr]
    refine ⟨place_name i (by omega) c (by rcases hc with rfl | rfl <;> simp), sorts_names s (ho s rfl), by simp, by simp, by simp, fun w hw => ?_⟩
    rw [List.mem_singleton.mp hw]
    exact ⟨(show nameOk ("ok" : Str) = true by decide +kernel), later_name h9⟩
theorem rowsP_good {n i : Nat} {p : Pt} (h : i < n) (h9 : n ≤ 9) (ok : p.Ok) : ∀ r ∈ rowsP n i p, RowGood r := fun r hr => by
  have pn : nameOk (placeP "p" i) = true := place_name i (by omega) "p" (by simp)
  cases p with
  | ask s k =>
    rw [List.mem_singleton.mp hr]
    refine ⟨pn, sorts_names s ok.1, by simp, ?_, ?_, fun w hw => ?_⟩
    · split <;> simp
    · split
      · simp only [List.map_cons, List.map_nil]
        decide +kernel
      · simp
    · rcases List.mem_cons.mp hw with rfl | hw
      · exact ⟨(show nameOk ("ok" : Str) = true by decide +kernel), later_name h9⟩
      · split at hw
        · rw [List.mem_singleton.mp hw]
          refine ⟨(show nameOk ("no" : Str) = true by decide +kernel), ?_⟩
          dsimp only
          split
          · decide +kernel
          · exact pn
        · cases hw
  | note w =>
    rw [List.mem_singleton.mp hr]
    exact ⟨pn, xy_names w ok, later_name h9⟩
  | gate m a b =>
    rcases List.mem_cons.mp hr with rfl | hr
    · exact ⟨pn, mn_names m ok.1, side_name h h9 (.inl rfl) a, side_name h h9 (.inr rfl) b⟩
    · rcases List.mem_append.mp hr with hr | hr
      · exact ask_good h h9 (.inl rfl) ok.2.1 r hr
      · exact ask_good h h9 (.inr rfl) ok.2.2 r hr
theorem rowsP_down {n i : Nat} {p : Pt} (h : i < n) (h9 : n ≤ 9) : ∀ r ∈ rowsP n i p, onB r = true → ∀ z ∈ leadsR r, rankP n z < rankP n (placeR r) := fun r hr on z hz => by
  have askNo : ∀ {c o}, r ∈ askP n i c o → False := fun {c o} q => by
    cases o with
    | none => cases q
    | some s =>
      rw [List.mem_singleton.mp q] at on
      cases on
  cases p with
  | ask s k =>
    rw [List.mem_singleton.mp hr] at on
    cases on
  | note w =>
    rw [List.mem_singleton.mp hr] at hz ⊢
    rw [show z = laterP n i from List.mem_singleton.mp hz]
    show _ < rankP n (placeP "p" i)
    rw [rank_p (by omega)]
    exact Nat.lt_succ_of_lt (rank_later h h9)
  | gate m a b =>
    rcases List.mem_cons.mp hr with rfl | hr
    · show _ < rankP n (placeP "p" i)
      rw [rank_p (by omega)]
      rcases List.mem_cons.mp (show z ∈ [sideP n i "n" a, sideP n i "e" b] from hz) with rfl | hz
      · exact rank_side h h9 (.inl rfl) a
      · rw [List.mem_singleton.mp hz]
        exact rank_side h h9 (.inr rfl) b
    · rcases List.mem_append.mp hr with hr | hr
      · exact (askNo hr).elim
      · exact (askNo hr).elim
theorem place_ne : ∀ i, i < 10 → placeP "p" i ≠ placeP "n" i ∧ placeP "p" i ≠ placeP "e" i ∧ placeP "n" i ≠ placeP "e" i := by decide +kernel
theorem ask_places (n i : Nat) (c : Str) (o : Option Str) : (askP n i c o).map placeR = if o.isSome then [placeP c i] else [] := by
  cases o <;> rfl
theorem block_num {n i : Nat} {p : Pt} (h : i < 10) : ∀ x ∈ (rowsP n i p).map placeR, (numP x).2 = i ∧ x ≠ "z" := fun x hx => by
  have each : ∀ c ∈ threeC, (numP (placeP c i)).2 = i ∧ placeP c i ≠ "z" := fun c hc => ⟨by rw [place_num i h c hc], place_z i h c hc⟩
  cases p with
  | ask s k => rw [List.mem_singleton.mp hx]; exact each "p" (by simp)
  | note w => rw [List.mem_singleton.mp hx]; exact each "p" (by simp)
  | gate m a b =>
    rcases List.mem_cons.mp hx with rfl | hx
    · exact each "p" (by simp)
    · have hx : x ∈ (askP n i "n" a ++ askP n i "e" b).map placeR := hx
      rw [List.map_append, ask_places, ask_places] at hx
      rcases List.mem_append.mp hx with hx | hx
      · split at hx
        · rw [List.mem_singleton.mp hx]; exact each "n" (by simp)
        · cases hx
      · split at hx
        · rw [List.mem_singleton.mp hx]; exact each "e" (by simp)
        · cases hx
theorem block_nd {n i : Nat} {p : Pt} (h : i < 10) : ((rowsP n i p).map placeR).Nodup := by
  obtain ⟨n1, n2, n3⟩ := place_ne i h
  cases p with
  | ask s k => show [placeP "p" i].Nodup; simp
  | note w => show [placeP "p" i].Nodup; simp
  | gate m a b =>
    show (placeP "p" i :: (askP n i "n" a ++ askP n i "e" b).map placeR).Nodup
    rw [List.map_append, ask_places, ask_places]
    cases a <;> cases b <;> simp [n1, n2, n3]
theorem rowsPs_num (n : Nat) : ∀ (i : Nat) (ps : List Pt), i + ps.length ≤ 10 → ∀ x ∈ (rowsPs n i ps).map placeR, i ≤ (numP x).2 ∧ x ≠ "z"
  | _, [], _ => fun x hx => by cases hx
  | i, p :: ps, h => fun x hx => by
    rw [List.length_cons] at h
    have hx : x ∈ (rowsP n i p ++ rowsPs n (i + 1) ps).map placeR := hx
    rw [List.map_append] at hx
    rcases List.mem_append.mp hx with hx | hx
    · have := block_num (n := n) (p := p) (by omega) x hx
      exact ⟨by omega, this.2⟩
    · have := rowsPs_num n (i + 1) ps (by omega) x hx
      exact ⟨by omega, this.2⟩
theorem rowsPs_nd (n : Nat) : ∀ (i : Nat) (ps : List Pt), i + ps.length ≤ 10 → ((rowsPs n i ps).map placeR).Nodup
  | _, [], _ => List.nodup_nil
  | i, p :: ps, h => by
    rw [List.length_cons] at h
    show ((rowsP n i p ++ rowsPs n (i + 1) ps).map placeR).Nodup
    rw [List.map_append, List.nodup_append]
    refine ⟨block_nd (by omega), rowsPs_nd n (i + 1) ps (by omega), fun x hx y hy e => ?_⟩
    have h1 := block_num (n := n) (p := p) (by omega) x hx
    have h2 := rowsPs_num n (i + 1) ps (by omega) y hy
    rw [← e] at h2
    omega
theorem p_in (n : Nat) : ∀ (i : Nat) (ps : List Pt) (k : Nat), i ≤ k → k < i + ps.length → placeP "p" k ∈ (rowsPs n i ps).map placeR
  | i, [], k, h1, h2 => by simp at h2; omega
  | i, p :: ps, k, h1, h2 => by
    rw [List.length_cons] at h2
    show _ ∈ (rowsP n i p ++ rowsPs n (i + 1) ps).map placeR
    rw [List.map_append, List.mem_append]
    by_cases e : k = i
    · subst e
      refine .inl ?_
      cases p with
      | ask s q => exact List.mem_cons_self
      | note w => exact List.mem_cons_self
      | gate m a b => exact List.mem_cons_self
    · exact .inr (p_in n (i + 1) ps k (by omega) (by omega))
/-- where rows lead to -/
theorem rowsP_to {n i : Nat} {p : Pt} : ∀ r ∈ rowsP n i p, ∀ z ∈ leadsR r, z = "z" ∨ z = placeP "p" i ∨ (i + 1 < n ∧ z = placeP "p" (i + 1)) ∨ z ∈ (rowsP n i p).map placeR := fun r hr z hz => by
  have later : ∀ x, x = laterP n i → x = "z" ∨ x = placeP "p" i ∨ (i + 1 < n ∧ x = placeP "p" (i + 1)) ∨ x ∈ (rowsP n i p).map placeR := fun x e => by
    subst e
    unfold laterP
    split
    · exact .inr (.inr (.inl ⟨‹_›, rfl⟩))
    · exact .inl rfl
  have askTo : ∀ c o, r ∈ askP n i c o → z = laterP n i := fun c o q => by
    cases o with
    | none => cases q
    | some s =>
      rw [List.mem_singleton.mp q] at hz
      exact List.mem_singleton.mp hz
  cases p with
  | ask s k =>
    rw [List.mem_singleton.mp hr] at hz
    rcases List.mem_cons.mp (show z ∈ laterP n i :: ((if 0 < k then [(("no" : Str), if k = 1 then ("z" : Str) else placeP "p" i)] else []).map (·.2)) from hz) with e | hz
    · exact later z e
    · split at hz
      · have hz : z = if k = 1 then ("z" : Str) else placeP "p" i := by simpa using hz
        rw [hz]
        split
        · exact .inl rfl
        · exact .inr (.inl rfl)
      · cases hz
  | note w =>
    rw [List.mem_singleton.mp hr] at hz
    exact later z (List.mem_singleton.mp hz)
  | gate m a b =>
    rcases List.mem_cons.mp hr with rfl | hr
    · have side : ∀ c o, (o.isSome = true → placeP c i ∈ (rowsP n i (.gate m a b)).map placeR) → z = sideP n i c o → z = "z" ∨ z = placeP "p" i ∨ (i + 1 < n ∧ z = placeP "p" (i + 1)) ∨ z ∈ (rowsP n i (.gate m a b)).map placeR := fun c o mem e => by
        cases o with
        | none => exact later z e
        | some s => rw [e]; exact .inr (.inr (.inr (mem rfl)))
      have inAll : ∀ x, x ∈ (askP n i "n" a).map placeR ++ (askP n i "e" b).map placeR → x ∈ (rowsP n i (.gate m a b)).map placeR := fun x hx => by
        show x ∈ placeP "p" i :: (askP n i "n" a ++ askP n i "e" b).map placeR
        rw [List.map_append]
        exact List.mem_cons_of_mem _ hx
      rcases List.mem_cons.mp (show z ∈ [sideP n i "n" a, sideP n i "e" b] from hz) with e | hz
      · exact side "n" a (fun h => inAll _ (by rw [ask_places, if_pos h]; simp)) e
      · exact side "e" b (fun h => inAll _ (by rw [ask_places, ask_places, if_pos h]; simp)) (List.mem_singleton.mp hz)
    · rcases List.mem_append.mp hr with hr | hr
      · exact later z (askTo _ _ hr)
      · exact later z (askTo _ _ hr)
/-- in which part a row stands -/
theorem rowsPs_mem (n : Nat) : ∀ (i : Nat) (ps : List Pt) (r : Row0), r ∈ rowsPs n i ps → ∃ (j : Nat) (p : Pt), ps[j]? = some p ∧ r ∈ rowsP n (i + j) p ∧ ∀ x ∈ (rowsP n (i + j) p).map placeR, x ∈ (rowsPs n i ps).map placeR
  | _, [], _, h => by cases h
  | i, p :: ps, r, h => by
    rcases List.mem_append.mp (show r ∈ rowsP n i p ++ rowsPs n (i + 1) ps from h) with h | h
    · refine ⟨0, p, rfl, h, fun x hx => ?_⟩
      show x ∈ (rowsP n i p ++ rowsPs n (i + 1) ps).map placeR
      rw [List.map_append]
      exact List.mem_append_left _ hx
    · obtain ⟨j, q, e, h2, h3⟩ := rowsPs_mem n (i + 1) ps r h
      rw [show i + 1 + j = i + (j + 1) from by omega] at h2 h3
      refine ⟨j + 1, q, by simpa using e, h2, fun x hx => ?_⟩
      show x ∈ (rowsP n i p ++ rowsPs n (i + 1) ps).map placeR
      rw [List.map_append]
      exact List.mem_append_right _ (h3 x hx)
theorem lines_gd {ps : List Pt} {dz : List Str} (h : PsOk ps) (lo : LotOk ps dz) : Gd (linesP ps) dz := by
  have few := h.few
  have mn : ∀ z ∈ dz, z ∈ (["m", "n"] : List Str) := fun z hz => lo.sub.subset hz
  have inP : ∀ x, x ∈ (rowsPs ps.length 0 ps).map placeR → x ∈ (linesP ps).map placeR := fun x hx => by
    unfold linesP
    rw [List.map_append]
    exact List.mem_append_left _ hx
  have zIn : ("z" : Str) ∈ (linesP ps).map placeR := by
    unfold linesP
    rw [List.map_append]
    exact List.mem_append_right _ List.mem_cons_self
  have at_ : ∀ r ∈ linesP ps, r = .end_ "z" ∨ ∃ (j : Nat) (p : Pt), ps[j]? = some p ∧ j < ps.length ∧ r ∈ rowsP ps.length j p ∧ ∀ x ∈ (rowsP ps.length j p).map placeR, x ∈ (linesP ps).map placeR := fun r hr => by
    rcases List.mem_append.mp hr with hr | hr
    · obtain ⟨j, p, e, h1, h2⟩ := rowsPs_mem ps.length 0 ps r hr
      rw [Nat.zero_add] at h1 h2
      exact .inr ⟨j, p, e, (List.getElem?_eq_some_iff.mp e).1, h1, fun x hx => inP x (h2 x hx)⟩
    · exact .inl (List.mem_singleton.mp hr)
  refine gd_ofF (rankP ps.length) (fun r hr on z hz => ?_) ?_ (fun r hr z hz => ?_) (fun e => by rw [e] at zIn; cases zIn) (fun r hr => ?_) ?_ (lo.sub.nodup (by decide +kernel)) (fun p hp => ?_) (fun p n e m hg hm => ?_)
  · rcases at_ r hr with rfl | ⟨j, p, _, lt, h1, _⟩
    · cases on
    · exact rowsP_down lt (by omega) r h1 on z hz
  · unfold linesP
    rw [List.map_append, List.nodup_append]
    refine ⟨rowsPs_nd _ 0 ps (by omega), by simp, fun x hx y hy e => ?_⟩
    have h1 := rowsPs_num ps.length 0 ps (by omega) x hx
    exact h1.2 (e.trans (List.mem_singleton.mp hy))
  · rcases at_ r hr with rfl | ⟨j, p, _, lt, h1, h2⟩
    · cases hz
    · rcases rowsP_to r h1 z hz with rfl | rfl | ⟨lt2, rfl⟩ | h3
      · exact zIn
      · exact inP _ (p_in _ 0 ps j (Nat.zero_le _) (by omega))
      · exact inP _ (p_in _ 0 ps (j + 1) (Nat.zero_le _) (by omega))
      · exact h2 z h3
  · rcases at_ r hr with rfl | ⟨j, p, e, lt, h1, _⟩
    · exact (show nameOk ("z" : Str) = true by decide +kernel)
    · exact rowsP_good lt (by omega) (h.ok p (List.mem_of_getElem? e)) r h1
  · unfold linesP
    rw [List.length_append]
    have := rowsPs_few ps.length 0 ps
    simp
    omega
  · have := mn p hp
    revert this
    simp
    rintro (h | h) <;> simp [h]
  · rcases at_ _ hg with e2 | ⟨j, q, e2, lt, h1, _⟩
    · cases e2
    · refine lo.no m hm ?_
      have hq := List.mem_of_getElem? e2
      cases q with
      | ask s k => cases List.mem_singleton.mp h1
      | note w => cases List.mem_singleton.mp h1
      | gate m2 a b =>
        rcases List.mem_cons.mp h1 with e3 | h1
        · cases e3
          exact List.mem_map.mpr ⟨_, List.mem_filter.mpr ⟨hq, rfl⟩, rfl⟩
        · exfalso
          have noG : ∀ c o, Row0.gate p m n e ∈ askP ps.length j c o → False := fun c o q => by
            cases o with
            | none => cases q
            | some s => cases List.mem_singleton.mp q
          rcases List.mem_append.mp h1 with h1 | h1
          · exact noG _ _ h1
          · exact noG _ _ h1
end K2

set_option Elab.async false
set_option linter.all false
set_option maxRecDepth 100000
set_option maxHeartbeats 1000000
/-! the texts of drawn rows -/
namespace K2
open PySem L2 Lw TL SxT
section
variable {K : PySem.W.Frag} {H : Hp} {x : V}
theorem line_askF {p n : Str} {ws : List (Str × Str)} (h : Dp K H x (lineD (.ask p n ws))) : ∃ t y, x = .ref t ∧ SqT K H t [.str "ask", .str p, .str n, y] ∧ Dp K H y (.tuple (ws.map wayD)) := by
  cases h with
  | @tup t xs _ h1 h2 =>
    cases h2 with
    | cons a0 h2 => cases h2 with
      | cons a1 h2 => cases h2 with
        | cons a2 h2 => cases h2 with
          | cons a3 h2 =>
            cases h2
            cases a0; cases a1; cases a2
            exact ⟨t, _, rfl, h1, a3⟩
end
abbrev rAddF : R2 := fun x y H Q => ∃ i j, x = .str i ∧ y = .str j ∧ i.length + j.length ≤ sizeLine ∧ Q (.str (i ++ j)) H
theorem app_lenF (x y : Str) : (x ++ y).length = x.length + y.length := by
  have e : ∀ z : Str, z.length = (tl z).length := fun z => by
    unfold tl
    rw [Array.length_toList]
    rfl
  rw [e, e, e, tl_append, List.length_append]
def spLT (K : PySem.W.Frag) : Sp := fun vs H Q _ => ∃ (x : V) (r : Row0), vs = [x] ∧ Dp K H x (lineD r) ∧ RowGood r ∧ ∀ H', Same H H' → Q (.str (textR r)) H'
section
variable {P : Program} {w : World} {K : PySem.W.Frag} {mg : Str → Option Value} {base : Heap}
abbrev nLT : List Str := ["_law_line", "_law_told", "_law_onward"]
theorem scLT : FnScope nLT ["_law_line"] (defScope sLT) := ⟨rfl, rfl, rfl, by decide +kernel, rfl, by decide +kernel, by decide +kernel⟩
theorem okLT {f : Addr} {fd : FuncData} (F : Fun K "_law_line_text" "_law_line_text" sLT f fd) (tL : mg "list" = none) : FnOk P w K mg base CX0 1 f fd ["_law_line"] (spLT K) := by
  refine F.ok scLT (fun vs H Q E h => ?_) (fun cdv A outer s H vs Q E hr h => ?_)
  · obtain ⟨x, r, rfl, _⟩ := h
    rfl
  · obtain ⟨x, r, rfl, hx, g, fin⟩ := h
    refine ⟨_, pss_cons (ps_if (pt_cmpR op_eq (pe_ix ix_tup (pv 0) pe_int (fun _ _ => rfl)) pe_str (nomark _))
        (pss_one (ps_ret (pe_join pe_str (pe_op op_cat (pe_lst (pa_cons (pe_ix ix_tup (pv 0) pe_int (fun _ _ => rfl)) (pa_cons pe_str (pa_cons (pe_ix ix_tup (pv 0) pe_int (fun _ _ => rfl)) pa_nil)))) (pe_lc (own := [("_law_told", 1), ("_law_onward", 2)]) (g := gTup K 2 (gCons (gName 1) (gCons (gName 2) gNil))) (tt := tYes) (te := tOp rAddF (tOp rAddF (tVar 1) (tC (.str " "))) (tVar 2)) (by rfl) scLT.nd (pi_tup (pe_ix ix_tup (pv 0) pe_int (fun _ _ => rfl)))
          (blkOk_by (own := [("_law_told", 1), ("_law_onward", 2)]) (N := nLT) (sc := defScope sLT) (by decide +kernel)) (fun _ _ _ _ _ => pg_tup rfl (pgs_cons (pg_name (i := 1) scLT.nd rfl (Or.inl rfl)) (pgs_cons (pg_name (i := 2) scLT.nd rfl (Or.inl rfl)) pgs_nil))) (fun _ _ _ _ _ => pts_nil)
          (fun _ _ _ _ _ => pe_op op_add_str (pe_op op_add_str (pv 1) pe_str) (pv 2))))))) pss_nil)
      (pss_one (ps_ret (pe_join pe_str (pe_op op_cat (pe_lst (pa_cons (pe_ix ix_tup (pv 0) pe_int (fun _ _ => rfl)) (pa_cons (pe_ix ix_tup (pv 0) pe_int (fun _ _ => rfl)) pa_nil))) (pe_callTy call_list_of (by rfl) tL PyProof.Rows.boot_list (pa_cons (pe_slice sl_tup (pv 0) (po_some pe_int) po_none) pa_nil)))))), ?_⟩
    have hd := hx
    rcases plain_or r with ⟨k, p, rest, nk, el, ew, few⟩ | ⟨p, n, ws, rfl⟩
    · rw [el] at hd
      cases hd with
      | @tup t xs _ hs ha =>
        have ex := strs_of ha
        subst ex
        refine ⟨_, rfl, t, _, 0, _, rfl, rfl, hs, atI_nat (j := 0) rfl, rfl, _, rfl, ?_⟩
        rw [show decide (V.str k = V.str "ask") = false from by simpa using nk]
        refine iteF ⟨⟨_, rfl⟩, _, rfl, t, _, 1, _, rfl, rfl, hs, atI_nat (j := 1) rfl, _, rfl, t, _, 0, _, rfl, rfl, hs, atI_nat (j := 0) rfl, (by show 2 ≤ sizeLine; decide), fun l1 u1 => ?_⟩
        have s1 : Same H (upd H l1 (.lst [.str p, .str k])) := same_new u1
        refine ⟨_, rfl, 2, rfl, t, _, rfl, same_tup s1 hs, fun z => ?_, fun s2 us => ?_⟩
        · have e : HT.sIx ((k :: p :: rest).map V.str).length 0 (some 2) = 0 := z.1
          have e2 : HT.sIx ((k :: p :: rest).map V.str).length 0 (some 2) = min 2 ((k :: p :: rest).map V.str).length := rfl
          rw [e2] at e
          simp at e
        rw [cut_drop (by decide)]
        refine ⟨s2, _, rfl, .inr (SqT.of upd_same), fun l2 u2 => ?_⟩
        have s3 : Same (upd H l1 (.lst [.str p, .str k])) (upd (upd H l1 (.lst [.str p, .str k])) s2 (.tup (((k :: p :: rest).map V.str).drop (2 : Int).toNat))) := same_new us
        have s4 := same_new (o := .lst (((k :: p :: rest).map V.str).drop (2 : Int).toNat)) u2
        refine ⟨l1, l2, _, _, rfl, rfl, s4 _ _ (s3 _ _ upd_same), upd_same, Nat.le_trans (show _ ≤ 100 by simp; omega) (by decide), fun l3 u3 => ?_⟩
        have s5 := same_new (o := .lst ([V.str p, .str k] ++ ((k :: p :: rest).map V.str).drop (2 : Int).toNat)) u3
        refine ⟨_, l3, p :: k :: rest, rfl, rfl, .inl (SqL.of upd_same), ?_, ?_⟩
        · have z := sum_le (n := 4) (ys := p :: k :: rest) (fun y hy => ok4 (good_words g y (by rw [ew]; exact hy)))
          have e1 : (p :: k :: rest).length ≤ 5 := by simp; omega
          have e2 : (" " : Str).length = 1 := by decide
          rw [e2]
          omega
        · have z := fin _ (s1.trans (s3.trans (s4.trans s5)))
          rw [textR, ew] at z
          exact z
    · obtain ⟨t, y, rfl, h1, hy⟩ := line_askF hx
      cases hy with
      | @tup wa zs _ hw ha =>
        refine ⟨_, rfl, t, _, 0, _, rfl, rfl, h1, atI_nat (j := 0) rfl, rfl, _, rfl, ?_⟩
        refine iteTb (show decide (V.str "ask" = V.str "ask") = true by decide +kernel) ?_
        have few : ws.length ≤ 3 := g.2.2.2.1
        have wok := g.2.2.2.2.2
        refine ⟨⟨_, rfl⟩, _, rfl, t, _, 1, _, rfl, rfl, h1, atI_nat (j := 1) rfl, _, rfl, t, _, 2, _, rfl, rfl, h1, atI_nat (j := 2) rfl, (by show 3 ≤ sizeLine; decide), fun l1 u1 => ?_⟩
        have s4 := same_new (o := .lst [.str p, .str "ask", .str n]) u1
        have h4 : (upd H l1 (.lst [.str p, .str "ask", .str n])) l1 = some (.lst [.str p, .str "ask", .str n]) := upd_same
        generalize (upd H l1 (.lst [.str p, .str "ask", .str n])) = H4 at s4 h4 ⊢
        refine ⟨_, rfl, t, _, 3, _, rfl, rfl, same_tup s4 h1, atI_nat (j := 3) rfl, wa, rfl, ⟨_, same_tup s4 hw⟩, fun D uD => dat_J (fun _ => true) (fun w => .str (w.1 ++ (" " : Str) ++ w.2)) (.t (same_tup s4 hw)) (dpAll_same s4 _ _ ha) (by omega) uD (fun _ _ => rfl) (fun x w H3 Y N hm hdx s3 y n => ?_) fun H3 acc s3 hD3 hacc => ?_⟩
        · obtain ⟨n1, n2⟩ := wok w hm
          cases hdx with
          | tup ht2 hy =>
            cases hy with
            | cons k1 hy =>
              cases k1
              cases hy with
              | cons k2 hy =>
                cases k2
                cases hy
                refine ⟨_, _, rfl, ht2, rfl, _, _, rfl, _, _, rfl, rfl, ?_⟩
                refine ⟨rfl, ?_⟩
                dsimp only [tYes]
                have l1 := ok4 n1
                have l2 := ok4 n2
                have l0 : (" " : Str).length = 1 := by decide
                refine iteT ⟨_, rfl, _, _, rfl, rfl, Nat.le_trans (show _ ≤ 5 by omega) (by decide), _, rfl, _, _, rfl, rfl, Nat.le_trans (show _ ≤ 9 by rw [app_lenF]; omega) (by decide), ?_⟩
                exact y rfl _ _ (Same.refl _) (.str _)
        · rw [List.filter_eq_self.mpr (fun _ _ => rfl)] at hacc
          have ea := Lw.dp_strs (zs := ws.map fun w => w.1 ++ (" " : Str) ++ w.2) (by rw [List.map_map]; exact hacc)
          subst ea
          refine ⟨l1, D, _, _, rfl, rfl, s3 _ _ h4, hD3, ?_, fun p3 u3 => ?_⟩
          · exact Nat.le_trans (show _ ≤ 6 by rw [List.length_map, List.length_map]; simp only [List.length_cons, List.length_nil]; omega) (by decide)
          · have s5 := same_new (o := .lst ([.str p, .str "ask", .str n] ++ (ws.map fun w => w.1 ++ (" " : Str) ++ w.2).map V.str)) u3
            refine ⟨_, p3, p :: "ask" :: n :: ws.map fun w => w.1 ++ (" " : Str) ++ w.2, rfl, rfl, .inl (SqL.of upd_same), ?_, ?_⟩
            · have l9 : ∀ z ∈ (p :: "ask" :: n :: ws.map fun w => w.1 ++ (" " : Str) ++ w.2), z.length ≤ 9 := fun z hz => by
                simp only [List.mem_cons] at hz
                rcases hz with rfl | rfl | rfl | hz
                · have := ok4 g.1
                  omega
                · decide
                · have := ok4 g.2.1
                  omega
                · obtain ⟨w, hm, rfl⟩ := List.mem_map.mp hz
                  obtain ⟨n1, n2⟩ := wok w hm
                  have := ok4 n1
                  have := ok4 n2
                  have l0 : (" " : Str).length = 1 := by decide
                  rw [app_lenF, app_lenF]
                  omega
              have h2 := sum_le (n := 9) l9
              have e : (" " : Str).length = 1 := by decide
              have len : (p :: "ask" :: n :: ws.map fun w => w.1 ++ (" " : Str) ++ w.2).length ≤ 6 := by
                simp only [List.length_cons, List.length_map]
                omega
              rw [e]
              omega
            · rw [join_ways]
              exact fin _ (s4.trans (s3.trans s5))
end
end K2

set_option Elab.async false
set_option linter.all false
set_option maxRecDepth 100000
set_option maxHeartbeats 1000000
/-! the text of a drawn edition -/
namespace K2
open PySem L2 Lw TL SxT
def spLotT (K : PySem.W.Frag) : Sp := fun vs H Q _ => ∃ (v : V) (e : Ed0), vs = [v] ∧ LotV K H v e ∧ (∀ r ∈ e.1, RowGood r) ∧ e.1.length ≤ 60 ∧ (∀ z ∈ e.2, nameOk z = true) ∧ e.2.length ≤ 60 ∧ ∀ H', Same H H' → Q (.str (textE e.1 e.2)) H'
section
variable {P : Program} {w : World} {K : PySem.W.Frag} {mg : Str → Option Value} {base : Heap}
abbrev nLotT : List Str := ["_law_lot_here", "_law_line"]
theorem scLotT : FnScope nLotT ["_law_lot_here"] (defScope sLotT) := ⟨rfl, rfl, rfl, by decide +kernel, rfl, by decide +kernel, by decide +kernel⟩
theorem okLotT {f fT : Addr} {fd fdT : FuncData} (F : Fun K "_law_lot_text" "_law_lot_text" sLotT f fd) (GT : FnOk P w K mg base CX0 1 fT fdT ["_law_line"] (spLT K)) (kT : PySem.W.keepIn K (.ref fT) = true) (tT : mg "_law_line_text" = some (.ref fT)) (bT : Binds K fdT ["_law_line"] []) :
    FnOk P w K mg base CX0 2 f fd ["_law_lot_here"] (spLotT K) := by
  refine F.ok scLotT (fun vs H Q E h => ?_) (fun cdv A outer s H vs Q E hr h => ?_)
  · obtain ⟨v, e, rfl, _⟩ := h
    rfl
  · obtain ⟨v, ⟨rs, dz⟩, rfl, ⟨r, lp, tp, ys, rfl, hr', hl, hy, ht⟩, gr, few, nz, fewz, fin⟩ := h
    have hr1 : Room 1 _ := hr.mono (by decide)
    refine ⟨_, pss_one (ps_ret (pe_join pe_str (pe_op op_cat (pe_lst (pa_cons (pe_join pe_str (pe_op op_cat (pe_lst (pa_cons pe_str pa_nil)) (pe_ix ix_tup (pv 0) pe_int (fun _ _ => rfl)))) pa_nil)) (pe_lc (own := [("_law_line", 1)]) (g := gName 1) (tt := tYes) (te := tCall (spLT K) [] E0 (tCons (tVar 1) tNil)) (by rfl) scLotT.nd (pi_list (pe_ix ix_tup (pv 0) pe_int (fun _ _ => rfl)))
        (blkOk_by (own := [("_law_line", 1)]) (N := nLotT) (sc := defScope sLotT) (by decide +kernel)) (fun _ _ _ _ _ => pg_name (i := 1) scLotT.nd rfl (Or.inl rfl)) (fun _ _ _ _ _ => pts_nil)
        (fun _ _ _ _ _ => pe_call GT hr1 rfl tT kT bT .nil pass0 (pa_cons (pv 1) pa_nil)))))), ?_⟩
    have few : rs.length ≤ 60 := few
    have fewz : dz.length ≤ 60 := fewz
    have nz : ∀ z ∈ dz, nameOk z = true := nz
    have hh := head_len nz fewz
    have sdz := sum_le (n := 4) (ys := dz) fun z hz => ok4 (nz z hz)
    have e1 : (" " : Str).length = 1 := by decide
    have e5 : ("drops" : Str).length = 5 := by decide
    refine ⟨⟨_, rfl⟩, ⟨_, rfl⟩, (by show 1 ≤ sizeLine; decide), fun l1 u1 => ?_⟩
    have s1 := same_new (o := .lst [.str "drops"]) u1
    refine ⟨_, rfl, r, _, 1, _, rfl, rfl, same_tup s1 hr', atI_nat (j := 1) rfl, l1, tp, [.str "drops"], dz.map V.str, rfl, rfl, upd_same, s1 _ _ ht, Nat.le_trans (show 1 + (dz.map V.str).length ≤ 61 by rw [List.length_map]; omega) (by decide), fun l2 u2 => ?_⟩
    have s2 := same_new (o := .lst ([.str "drops"] ++ dz.map V.str)) u2
    refine ⟨_, l2, "drops" :: dz, rfl, rfl, .inl (SqL.of upd_same), ?_, ?_⟩
    · rw [e1, List.map_cons, List.sum_cons, List.length_cons, e5]
      omega
    generalize (upd H l1 (.lst [.str "drops"])) = H1 at s1 s2 u2 ⊢
    generalize (upd H1 l2 (.lst ([.str "drops"] ++ dz.map V.str))) = H2 at s2 ⊢
    have s12 := s1.trans s2
    refine ⟨(by show 1 ≤ sizeLine; decide), fun l3 u3 => ?_⟩
    have s3 := same_new (o := .lst [.str (Txt.join " " ("drops" :: dz))]) u3
    have h3 : (upd H2 l3 (.lst [.str (Txt.join " " ("drops" :: dz))])) l3 = some (.lst [.str (Txt.join " " ("drops" :: dz))]) := upd_same
    generalize (upd H2 l3 (.lst [.str (Txt.join " " ("drops" :: dz))])) = H3 at s3 h3 ⊢
    have S := s12.trans s3
    refine ⟨_, rfl, r, _, 0, _, rfl, rfl, same_tup S hr', atI_nat (j := 0) rfl, lp, rfl, ⟨_, SqL.of (S _ _ hl)⟩, fun D uD => dat_J (fun _ => true) (fun r => .str (textR r)) (.l (SqL.of (S _ _ hl))) (dpAll_same S _ _ hy) (by show rs.length ≤ 1000; omega) uD (fun _ _ => rfl) (fun x o H4 Y N hm hdx s4 y n => ?_) fun H4 acc s4 hD hacc => ?_⟩
    · refine ⟨rfl, ?_⟩
      dsimp only [tYes]
      exact iteT ⟨_, rfl, x, o, rfl, hdx, gr o hm, fun H5 s5 => y rfl _ _ s5 (.str _)⟩
    · have hacc : DpAll K H4 acc ((rs.filter fun _ => true).map fun r => PyData.str (textR r)) := hacc
      rw [List.filter_eq_self.mpr (fun _ _ => rfl)] at hacc
      have ea := Lw.dp_strs (zs := rs.map textR) (by rw [List.map_map]; exact hacc)
      subst ea
      refine ⟨l3, D, _, _, rfl, rfl, s4 _ _ h3, hD, Nat.le_trans (show 1 + ((rs.map textR).map V.str).length ≤ 61 by rw [List.length_map, List.length_map]; omega) (by decide), fun l5 u5 => ?_⟩
      have s5 := same_new (o := .lst ([.str (Txt.join " " ("drops" :: dz))] ++ (rs.map textR).map V.str)) u5
      refine ⟨_, l5, Txt.join " " ("drops" :: dz) :: rs.map textR, rfl, rfl, .inl (SqL.of upd_same), ?_, ?_⟩
      · have h1 := sum_le (n := 100) (ys := rs.map textR) fun z hz => by
          obtain ⟨o, ho, rfl⟩ := List.mem_map.mp hz
          exact textR_len (gr o ho)
        rw [List.length_map] at h1
        have e : ("\n" : Str).length = 1 := by decide
        rw [e, List.map_cons, List.sum_cons, List.length_cons, List.length_map]
        omega
      · exact fin _ ((S.trans s4).trans s5)
end
end K2

set_option Elab.async false
set_option linter.all false
set_option maxRecDepth 100000
set_option maxHeartbeats 1000000
/-! the package's chain of drawn editions -/
namespace K2
open PySem L2 Lw TL SxT
theorem good_of {e : Ed0} (g : Gd e.1 e.2) : GoodE e := by
  refine ⟨fun z hz => ?_, ?_, g.ne, g.good, g.few, g.ok⟩
  · have := g.four z hz
    revert this
    exact (show ∀ z ∈ (["m", "n", "mark", "k"] : List Str), nameOk z = true by decide +kernel) z
  · have := nodup_le g.ndp g.four
    exact Nat.le_trans this (by show 4 ≤ 60; decide)
/-- drawn editions that make a chain -/
structure LotsOk (ls : List Ed0) : Prop where
  ne : ls ≠ []
  few : ls.length ≤ 4
  of : ∀ e ∈ ls, LotOf e
theorem LotsOk.good {ls : List Ed0} (h : LotsOk ls) : GoodK ls := by
  refine ⟨h.ne, by have := h.few; omega, fun e he => ?_⟩
  obtain ⟨ps, h1, h2, h3⟩ := h.of e he
  have g := lines_gd h1 h3
  rw [← h2] at g
  exact good_of g
theorem gates_few (n : Nat) : ∀ (i : Nat) (ps : List Pt), ((rowsPs n i ps).filter gateB).length ≤ ps.length
  | _, [] => Nat.zero_le _
  | i, p :: ps => by
    have h2 := gates_few n (i + 1) ps
    have h1 : ((rowsP n i p).filter gateB).length ≤ 1 := by
      cases p with
      | ask s k => exact Nat.zero_le _
      | note w => exact Nat.zero_le _
      | gate m a b => cases a <;> cases b <;> exact Nat.le_refl _
    show ((rowsP n i p ++ rowsPs n (i + 1) ps).filter gateB).length ≤ ps.length + 1
    rw [List.filter_append, List.length_append]
    omega
theorem LotsOk.many {ls : List Ed0} (h : LotsOk ls) : manyM ls ≤ 60 := by
  have each : ∀ e ∈ ls, (e.1.filter gateB).length + e.2.length ≤ 9 := fun e he => by
    obtain ⟨ps, h1, h2, h3⟩ := h.of e he
    have f := h1.few
    have g := gates_few ps.length 0 ps
    have d := h3.sub.length_le
    have e1 : (e.1.filter gateB).length ≤ ps.length := by
      rw [h2]
      unfold linesP
      rw [List.filter_append, List.length_append]
      exact g
    have e2 : e.2.length ≤ 2 := d
    omega
  have sum : ∀ l : List Ed0, (∀ e ∈ l, (e.1.filter gateB).length + e.2.length ≤ 9) → manyM l ≤ 9 * l.length := fun l => by
    induction l with
    | nil => intro _; exact Nat.le_refl _
    | cons a l ih =>
      intro hl
      have h1 := hl a List.mem_cons_self
      have h2 := ih fun x hx => hl x (List.mem_cons_of_mem _ hx)
      unfold manyM at h2 ⊢
      rw [List.map_cons, List.sum_cons, List.length_cons]
      omega
  have := sum ls each
  have := h.few
  omega
def spMadeK (K : PySem.W.Frag) (a : Ad) (b : Ae) (c : Ac) : Sp := fun vs H Q _ => ∃ (L p : Addr) (acc : List V) (ls : List Ed0) (zs : List Str), vs = [.ref L, .ref p] ∧ SqL K H L acc ∧ Els (LotV K) H acc ls ∧ GoodK ls ∧ manyM ls ≤ 60 ∧ SqL K H p (zs.map V.str) ∧ DueOk zs ∧
  ∀ (H' : Hp) (x dx : Addr) (fs : List (Str × V)) (xs : List V) (es1 : List Ed1), Same H H' → H x = none → H' x = some (.ins c.cCh dx fs) → ChAt K H' fs xs es1 (dropsD zs) → Els (EdR K a b) H' xs ls → Of1s ls es1 → Q (.ref x) H'
section
variable {P : Program} {w : World} {K : PySem.W.Frag} {mg : Str → Option Value} {base : Heap}
abbrev nMadeK : List Str := ["_law_lots_here", "_law_owed_here", "_law_lot_here"]
theorem scMadeK : FnScope nMadeK ["_law_lots_here", "_law_owed_here"] (defScope sMadeK) := ⟨rfl, rfl, rfl, by decide +kernel, rfl, by decide +kernel, by decide +kernel⟩
theorem okMadeK {a : Ad} {b : Ae} {c : Ac} {f fT fE : Addr} {fd fdT dE : FuncData} {pE : Addr} (F : Fun K "_law_made" "_law_made" sMadeK f fd) (OT : FnOk P w K mg base CX0 2 fT fdT ["_law_lot_here"] (spLotT K)) (kT : PySem.W.keepIn K (.ref fT) = true) (gT : mg "_law_lot_text" = some (.ref fT)) (bT : Binds K fdT ["_law_lot_here"] [])
    (gE : mg "Edition" = some (.ref b.cEd)) (rE : ClX.CRead K b.cEd (.type "type")) (mE : ClX.CMet K b.cEd (.type "type") "read" pE fE) (OE : FnOk P w K mg base (L2.CX P w) 10 fE dE ["cls", "text"] (spEdRead K a b)) (bE : Binds K dE ["cls", "text"] [])
    (gC : mg "Chain" = some (.ref c.cCh)) (chK : Mk K c.cCh c.fCh) (OC : FnOk P w K mg base CX0 5 c.fCh c.dCh ["self", "editions", "due"] (spCh K b c)) (bC : Binds K c.dCh ["self", "editions", "due"] []) :
    FnOk P w K mg base CX0 11 f fd ["_law_lots_here", "_law_owed_here"] (spMadeK K a b c) := by
  refine F.ok scMadeK (fun vs H Q E h => ?_) (fun cdv A outer s H vs Q E' hr h => ?_)
  · obtain ⟨L, p, acc, ls, zs, rfl, _⟩ := h
    rfl
  · obtain ⟨L, p, acc, ls, zs, rfl, hL, hls, g, mm, hp, hz, fin⟩ := h
    have hr6 : Room 6 _ := hr.mono (by decide)
    have hr2 : Room 2 _ := hr.mono (by decide)
    refine ⟨_, pss_one (ps_ret (pe_make chK OC hr6 rfl gC bC .nil pass0 (pa_cons (pe_lc (own := [("_law_lot_here", 2)]) (g := gName 2) (tt := tYes) (te := _) (by rfl) scMadeK.nd (pi_list (pv 0))
        (blkOk_by (own := [("_law_lot_here", 2)]) (N := nMadeK) (sc := defScope sMadeK) (by decide +kernel)) (fun _ _ _ _ _ => pg_name (i := 2) scMadeK.nd rfl (Or.inl rfl)) (fun _ _ _ _ _ => pts_nil)
        (fun _ _ _ _ _ => ClX.pe_cmeth (E := E0) (pe_glob (v := .ref b.cEd) (by rfl) gE rfl) rE mE (OE.raw bE .nil) hr passL (pa_cons (pe_call OT hr2 rfl gT kT bT .nil pass0 (pa_cons (pv 2) pa_nil)) pa_nil))) (pa_cons (pv 1) pa_nil)))), ?_⟩
    have lf := g.few
    refine ⟨_, rfl, L, rfl, ⟨_, hL⟩, fun D2 un => lc_it walk_list (fun j H' => Grown (EdR K a b) H D2 (ls.take j) H') (Grown.zero un) (fun j H' _ gr => gr.s.seq hL) ?_ ?_⟩
    · rintro j x H3 H4 lj gr ⟨rfl, hx⟩
      obtain ⟨e, he, hv⟩ := hls.at_ j x hx
      have hv4 := lotV_stays.on gr.s hv
      have ge := g.each e (List.mem_of_getElem? he)
      refine ⟨rfl, ?_⟩
      dsimp only [tYes]
      refine iteT ⟨rfl, _, rfl, x, e, rfl, hv4, ge.good, ge.few, ge.dzok, ge.fewz, fun H5 s5 => ?_⟩
      refine ⟨e.2, e.1, rfl, ge.dzok, ge.fewz, ge.ne, ge.good, ge.few, fun _ H6 y dy fs xs s6 uy hy hE hR => ?_, fun z ez => ?_⟩
      · obtain ⟨acc2, hD2, _⟩ := gr.ex
        have s56 := s5.trans s6
        rw [show ls.take (j + 1) = ls.take j ++ [e] from by rw [List.take_add_one, he]; rfl]
        exact gr.add edR_stays un (by rw [List.length_take]; omega) s56 (edR_stays.on (hard_hide (s56 _ _ hD2)) (edR_hard ⟨y, dy, fs, xs, rfl, hy, hE, hR⟩))
      · rw [ge.right] at ez
        cases ez
    · intro H4 gr
      rw [hls.len, List.take_length] at gr
      obtain ⟨acc2, hD2, hE⟩ := gr.ex
      have hE := hE.same edR_stays hide_sub
      obtain ⟨es1, o1, c1⟩ := edRs_one hE
      refine ⟨_, rfl, fun x dx nx nd nex => ?_⟩
      have s5 : Same H4 (upd H4 dx (.own x)) := same_new nd
      have nx' : (upd H4 dx (.own x)) x = none := by rw [upd_ne nex.symm]; exact nx
      have s6 : Same (upd H4 dx (.own x)) (upd (upd H4 dx (.own x)) x (.ins c.cCh dx [])) := same_new nx'
      have S := s5.trans s6
      have hd : Dp K H4 (.ref p) (dropsD zs) := .lst (gr.s.seq hp) (strs_dp zs)
      have lz := hz.few
      refine ⟨x, dx, D2, .ref p, acc2, es1, dropsD zs, rfl, upd_same, .inl (S.seq (SqL.of hD2)), c1.same edCh_stays S, of1s_few o1 g mm, dp_same S _ _ hd, due_fine hz, due_unlike hz, by rw [drops_of]; omega, fun H' fs kp hi ea => ⟨rfl, ?_⟩⟩
      have sm : Same H4 H' := Same.made nx nd kp
      exact fin H' x dx fs acc2 es1 (gr.s.trans sm) (gr.s.free nx) hi ea (hE.same edR_stays sm) o1
end
end K2

set_option Elab.async false
set_option linter.all false
set_option maxRecDepth 100000
set_option maxHeartbeats 1000000
namespace Lw
open PySem PySem.Spec PyProof.Rows L2
/-! ### len(x), x an instance of a class with a __len__ of its own -/
def rLenOwn (K : PySem.W.Frag) (f : Addr) (sp : Sp) (E : XK) : List V → Hp → VK → Prop := fun xs H Q => ∃ (a C dx : Addr) (fs : List (PySem.Str × V)), xs = [.ref a] ∧ H a = some (.ins C dx fs) ∧ PySem.W.findIn K (.ref C) "__len__" = some (some (.ref f)) ∧
  sp [.ref a] H (fun v H' => ∃ n : Int, v = .int n ∧ 0 ≤ n ∧ n < 2 ^ 63 ∧ Q (.int n) H') E
theorem call_lenOwn {X : Cx} {CX : CXT} {f : Addr} {fd : FuncData} {ps : List PySem.Str} {sp : Sp} {E : XK} {n : Nat} (F : FnOk X.prog X.w X.K X.mg X.base CX n f fd ps sp) (hr : Room (n + 1) X.A) (hf : PySem.W.isFn X.K (.ref f) = true) (hb : Binds X.K fd ps []) (hx : Passes CX X E) :
    CallR X (.builtin "len") (rLenOwn X.K f sp E) := by
  intro pins s σ H xs us Q I r h
  obtain ⟨a, C, dx, fs, rfl, ha, hs, hsp⟩ := h
  obtain ⟨u, rfl, rx⟩ := vals1 r
  obtain rfl : u = Value.ref a := rx
  obtain ⟨mA, J, _⟩ := ins_get I.hok ha
  obtain ⟨od, J, _⟩ := J.look
  obtain ⟨m, hF⟩ := I.fr
  have hr2 : Room n X.A.in1 := hr.in1
  have hl := F.len _ _ _ _ hsp
  have e0 : Env0 X.prog X.w X.K X.mg X.base X.A.in1 X.stack s H := by
    have e := I.env0
    exact ⟨e.frames, e.mod, e.bs, e.bsz, e.funs, e.frf, e.hok, e.bare⟩
  refine PySem.W.len_K hF I.ok.mod.kin J hs hf (wpAny_call (codeAny_mono (F.run X.A.in1 X.stack s H ⟨[.ref a], []⟩ [.ref a] [.ref a] _ E hr2 e0 (by
      have := hb s [.ref a] I.kIn (by simpa using hl)
      simpa using this) (.cons rfl .nil) hsp) fun r s' hq => ?_))
  cases r with
  | error e => exact hx pins σ H s e s' I hq
  | ok fl =>
    cases fl with
    | ret u =>
      obtain ⟨v, H', I', r', z, ez, z0, z1, q2⟩ := I.after hq
      subst ez
      obtain ⟨t, rfl⟩ := r'
      exact ⟨⟨z0, z1⟩, .int z, H', I'.tok _, ⟨_, rfl⟩, q2⟩
    | next => exact hq.elim
    | brk => exact hq.elim
    | cont => exact hq.elim
end Lw

set_option Elab.async false
set_option linter.all false
set_option maxRecDepth 100000
set_option maxHeartbeats 1000000
/-! readings of a chain -/
namespace K2
open PySem L2 Lw TL SxT
section
variable {K : PySem.W.Frag} {mg : Str → Option Value} {H : Hp} {Q : VK}
abbrev ChK (K : PySem.W.Frag) := ChO K (adK K) (aeK K) (acK K)
theorem chTx {v : V} {uz : List Str} {es : List Ed0} (h : ChK K H v uz es) : ∃ (x dx : Addr) (fs : List (Str × V)) (z : Str), v = .ref x ∧ H x = some (.ins (acK K).cCh dx fs) ∧ fs.lookup ("_text" : Str) = some (.str z) ∧ TxtOf uz es z := by
  obtain ⟨x, dx, fs, xs, es1, rfl, h1, h2, h3, h4⟩ := h.ex
  obtain ⟨td, us, e1, e2, e3, e4⟩ := h2.due
  rw [drops_of] at e3
  exact ⟨x, dx, fs, _, rfl, h1, e4, us, es1, e3, h4, rfl⟩
theorem chStr (F : EF K mg) {v : V} {uz : List Str} {es : List Ed0} (h : ChK K H v uz es) (q : ∀ z, TxtOf uz es z → Q (.str z) H) : rStrOwn K (mA K "Chain" "__str__") (spChStr (acK K).cCh) E0 [v] H Q := by
  obtain ⟨x, dx, fs, z, rfl, h1, h2, h3⟩ := chTx h
  exact ⟨x, _, dx, fs, rfl, h1, F.CX.strAt, x, dx, fs, z, rfl, h1, h2, z, rfl, q z h3⟩
theorem chLen (F : EF K mg) {v : V} {uz : List Str} {es : List Ed0} (h : ChK K H v uz es) (few : es.length ≤ 100) (q : Q (.int es.length) H) : rLenOwn K (mA K "Chain" "__len__") (spChLen K (acK K).cCh) E0 [v] H Q := by
  obtain ⟨x, dx, fs, xs, es1, rfl, h1, h2, h3, h4⟩ := h.ex
  obtain ⟨t, e1, e2⟩ := h2.eds
  refine ⟨x, _, dx, fs, rfl, h1, F.CX.lenAt, x, dx, t, fs, xs, rfl, h1, e1, e2, _, rfl, by omega, ?_, ?_⟩
  · rw [h3.len]
    exact Int.lt_of_le_of_lt (show (es.length : Int) ≤ 100 by omega) (by decide)
  · rw [h3.len]
    exact q
theorem chNe (F : EF K mg) {v v' : V} {uz uz' : List Str} {es es' : List Ed0} (h : ChK K H v uz es) (h' : ChK K H v' uz' es') (hu : ∀ k, k ∈ uz ↔ k ∈ uz') (he : SameK es es') (q : Q (.bl false) H) : rOwnNe K (mA K "Chain" "__eq__") (spChEq K (acK K).cCh) E0 v v' H Q := by
  obtain ⟨x, dx, fs, z, rfl, h1, h2, h3⟩ := chTx h
  obtain ⟨x', dx', fs', z', rfl, h1', h2', h3'⟩ := chTx h'
  refine ⟨x, _, dx, fs, _, rfl, h1, F.CM.ty h1', F.CX.first, F.CX.eqAt, F.CX.neAt, F.CM.obj, ?_⟩
  refine ⟨x, dx, fs, z, .ref x', rfl, h1, h2, .inl ⟨x', dx', fs', z', rfl, h1', h2', ?_⟩⟩
  rw [decide_eq_true (h3.same h3' hu he)]
  exact ⟨true, rfl, q⟩
theorem chDue (F : EF K mg) {σ : L2.St} {te : TE} {v : V} {uz : List Str} {es : List Ed0} (h : ChK K H v uz es) (ht : ∀ Q : VK, Q v H → te σ H Q) (q : ∀ (t : Addr) (us : List Str), SqT K H t (us.map V.str) → Rises us uz → Q (.ref t) H) : tFld K te "due" σ H Q := by
  obtain ⟨x, dx, fs, xs, es1, rfl, h1, h2, h3, h4⟩ := h.ex
  obtain ⟨td, us, e1, e2, e3, e4⟩ := h2.due
  rw [drops_of] at e3
  exact ht _ ⟨x, _, dx, fs, _, rfl, h1, F.CM.cl, F.CM.no "due" (by simp), e1, q td us e2 e3⟩
theorem chEds (F : EF K mg) {σ : L2.St} {te : TE} {v : V} {uz : List Str} {es : List Ed0} (h : ChK K H v uz es) (ht : ∀ Q : VK, Q v H → te σ H Q) (q : ∀ (t : Addr) (xs : List V), SqT K H t xs → Els (EdR K (adK K) (aeK K)) H xs es → Q (.ref t) H) : tFld K te "editions" σ H Q := by
  obtain ⟨x, dx, fs, xs, es1, rfl, h1, h2, h3, h4⟩ := h.ex
  obtain ⟨t, e1, e2⟩ := h2.eds
  exact ht _ ⟨x, _, dx, fs, _, rfl, h1, F.CM.cl, F.CM.no "editions" (by simp), e1, q t xs e2 h3⟩
theorem chStrT (F : EF K mg) {σ : L2.St} {te : TE} {v : V} {uz : List Str} {es : List Ed0} (h : ChK K H v uz es) (ht : ∀ Q : VK, Q v H → te σ H Q) (q : ∀ z, TxtOf uz es z → Q (.str z) H) : tCB (rStrOwn K (mA K "Chain" "__str__") (spChStr (acK K).cCh) E0) (tCons te tNil) σ H Q :=
  ht _ (by
    dsimp only [tNil]
    exact chStr F h q)
theorem chLenT (F : EF K mg) {σ : L2.St} {te : TE} {v : V} {uz : List Str} {es : List Ed0} (h : ChK K H v uz es) (few : es.length ≤ 100) (ht : ∀ Q : VK, Q v H → te σ H Q) (q : Q (.int es.length) H) : tCB (rLenOwn K (mA K "Chain" "__len__") (spChLen K (acK K).cCh) E0) (tCons te tNil) σ H Q :=
  ht _ (by
    dsimp only [tNil]
    exact chLen F h few q)
theorem tv {i : Nat} {σ : L2.St} {v : V} (e : σ[i]? = some (some v)) {H : Hp} : ∀ Q : VK, Q v H → tVar i σ H Q := fun Q q => ⟨v, e, q⟩
theorem eqv_strs : ∀ zs : List Str, PyData.eqvAll (zs.map PyData.str) (zs.map PyData.str) = true
  | [] => by simp [PyData.eqvAll]
  | z :: zs => by
    rw [List.map_cons, PyData.eqvAll, eqv_strs zs, Bool.and_true]
    simp [PyData.eqv]
theorem tup_ok {zs : List Str} (h : ∀ z ∈ zs, PyData.strOk z = true) : SeqAt.shaped (.tuple (zs.map PyData.str)) = true := by
  simp [SeqAt.shaped, PyData.canLay0, PyData.depth, strs_lay zs h, strs_depth]
theorem edNe_ (F : EF K mg) {v v' : V} {e e' : Ed0} (h : EdR K (adK K) (aeK K) H v e) (h' : EdR K (adK K) (aeK K) H v' e') (e1 : e.1 = e'.1) (e2 : ∀ k, k ∈ e.2 ↔ k ∈ e'.2) (q : Q (.bl false) H) : rOwnNe K (edA K "__eq__") (spEdEq K (aeK K).cEd) E0 v v' H Q := by
  obtain ⟨x, dx, fs, xs, rfl, h1, h2, h3⟩ := h
  obtain ⟨td, dz, a1, a2, a3, a4⟩ := h2.drops
  obtain ⟨x', dx', fs', xs', rfl, h1', h2', h3'⟩ := h'
  obtain ⟨td', dz', b1, b2, b3, b4⟩ := h2'.drops
  rw [drops_of] at a3 b3
  obtain rfl := rises_unique a3 b3 e2
  refine ⟨x, _, dx, fs, .ref (aeK K).cEd, rfl, h1, F.M.ty h1', F.X.first, F.X.eqAt, F.X.neAt, F.M.obj, x, dx, fs, _, .ref x', rfl, h1, a4, .inl ⟨x', dx', fs', _, rfl, h1', b4, true, ?_, q⟩⟩
  rw [e1, decide_eq_true rfl]
/-- two tuples or lists of the same names -/
theorem strs_ne {H : Hp} {a b : List Str} {va vb : V} (ha : Dp K H va (.tuple (a.map PyData.str))) (hb : Dp K H vb (.tuple (b.map PyData.str))) (e : a = b) (n : ∀ z ∈ a, PyData.strOk z = true) (q : Q (.bl false) H) : rNeD K va vb H Q := by
  subst e
  refine ⟨_, _, ha, hb, tup_ok n, tup_ok n, ?_⟩
  rw [PyData.eqv, eqv_strs]
  exact q
theorem lists_ne {H : Hp} {a b : List Str} {p q' : Addr} (ha : H p = some (.lst (a.map V.str))) (hb : H q' = some (.lst (b.map V.str))) (e : a = b) (n : ∀ z ∈ a, PyData.strOk z = true) (q : Q (.bl false) H) : rNeD K (.ref p) (.ref q') H Q := by
  subst e
  refine ⟨_, _, .lst (SqL.of ha) (strs_dp _), .lst (SqL.of hb) (strs_dp _), strs_shaped n, strs_shaped n, ?_⟩
  rw [PyData.eqv, eqv_strs]
  exact q
theorem adopt {G H H' : Hp} {d l : Addr} (D : Deal G H d l) (s : Same H H') : ∃ G', Same G G' ∧ Deal G' H' d l ∧ Same (hard H') G' := ⟨_, plus_left, (D.on s).wide, plus_right (D.on s).same⟩
theorem join_ok {y : Str} {ws : List Str} (hy : PyData.strOk y = true) (h : ∀ z ∈ ws, PyData.strOk z = true) : PyData.strOk (Txt.join y ws) = true := by
  unfold PyData.strOk at hy
  rw [← Array.all_toList, List.all_eq_true] at hy
  unfold PyData.strOk
  rw [← Array.all_toList, List.all_eq_true]
  intro c hc
  rcases mem_join (show c ∈ tl (Txt.join y ws) from hc) with m | ⟨p, hp, m⟩
  · exact hy c m
  · have z := h p hp
    unfold PyData.strOk at z
    rw [← Array.all_toList, List.all_eq_true] at z
    exact z c m
theorem line_ok {es : List Ed0} (g : GoodK es) {z : Str} (h : z ∈ flatE es) : z.length ≤ 1000 ∧ PyData.strOk z = true := by
  rcases flat_mem h with rfl | ⟨e, he, rfl | ⟨r, hr, rfl⟩⟩
  · decide +kernel
  · refine ⟨Nat.le_trans (head_len (g.each e he).dzok (g.each e he).fewz) (by decide), join_ok (by decide +kernel) fun z hz => ?_⟩
    rcases List.mem_cons.mp hz with rfl | hz
    · decide +kernel
    · exact name_strOk ((g.each e he).dzok z hz)
  · refine ⟨Nat.le_trans (textR_len ((g.each e he).good r hr)) (by decide), join_ok (by decide +kernel) fun z hz => ?_⟩
    exact name_strOk (good_words ((g.each e he).good r hr) z hz)
theorem ed_ok {e : Ed0} (g : GoodE e) : PyData.strOk (textE e.1 e.2) = true := by
  rw [textE_lines]
  refine join_ok (by decide +kernel) fun z hz => ?_
  rcases List.mem_cons.mp hz with rfl | hz
  · refine join_ok (by decide +kernel) fun z hz => ?_
    rcases List.mem_cons.mp hz with rfl | hz
    · decide +kernel
    · exact name_strOk (g.dzok z hz)
  · obtain ⟨r, hr, rfl⟩ := List.mem_map.mp hz
    refine join_ok (by decide +kernel) fun z hz => ?_
    exact name_strOk (good_words (g.good r hr) z hz)
theorem due_ok {zs : List Str} (h : DueOk zs) : (Txt.join " " ("due" :: zs)).length ≤ 1000 ∧ PyData.strOk (Txt.join " " ("due" :: zs)) = true := by
  refine ⟨Nat.le_trans (due_len h.names h.few) (by decide), join_ok (by decide +kernel) fun z hz => ?_⟩
  rcases List.mem_cons.mp hz with rfl | hz
  · decide +kernel
  · exact name_strOk (h.names z hz)
theorem edR_str (F : EF K mg) {v : V} {e : Ed0} (h : EdR K (adK K) (aeK K) H v e) (q : ∀ dz, Rises dz e.2 → Q (.str (textE e.1 dz)) H) : rStrOwn K (edA K "__str__") (spEdStr (aeK K).cEd) E0 [v] H Q := by
  obtain ⟨x, dx, fs, xs, rfl, h1, h2, h3⟩ := h
  obtain ⟨td, dz, e1, e2, e3, e4⟩ := h2.drops
  rw [drops_of] at e3
  exact ⟨x, _, dx, fs, rfl, h1, F.X.strAt, x, dx, fs, _, rfl, h1, e4, _, rfl, q dz e3⟩
end
end K2

set_option Elab.async false
set_option linter.all false
set_option maxRecDepth 100000
set_option maxHeartbeats 2000000
/-! k25's law: its def, the readings -/
namespace K2
open PySem L2 Lw TL SxT
def spLaw (K : PySem.W.Frag) : Sp := fun vs H Q _ => ∃ (sa : Addr) (ns : List Int), vs = [.ref sa] ∧ SqL K H sa (ns.map V.int) ∧ ns.length ≤ 63 ∧ ∀ H', Q (.bl true) H'
structure LawF (K : PySem.W.Frag) (mg : Str → Option Value) : Prop where
  F : EF K mg
  tInt : mg "int" = none
  tAbs : mg "abs" = none
  tRange : mg "range" = none
  deal : Top K mg "_law_deal" sDeal (He.ga K "_law_deal") (gaD K "_law_deal") ["_law_script", "_law_base_here"]
  draw : Top K mg "_law_draw" sDraw (He.ga K "_law_draw") (gaD K "_law_draw") ["_law_deal_here", "_law_many"]
  pick : Top K mg "_law_pick" sPick (He.ga K "_law_pick") (gaD K "_law_pick") ["_law_deal_here", "_law_some"]
  mixed : Top K mg "_law_mixed" sMixed (He.ga K "_law_mixed") (gaD K "_law_mixed") ["_law_deal_here", "_law_some"]
  size : Top K mg "_law_size" sSize (He.ga K "_law_size") (gaD K "_law_size") ["_law_parts"]
  base : Top K mg "_law_base" sBase (He.ga K "_law_base") (gaD K "_law_base") ["_law_deal_here"]
  near : Top K mg "_law_near" sNear1 (He.ga K "_law_near") (gaD K "_law_near") ["_law_deal_here", "_law_parts"]
  lines : Top K mg "_law_lines" sLines (He.ga K "_law_lines") (gaD K "_law_lines") ["_law_parts"]
  lot : Top K mg "_law_lot" sLot (He.ga K "_law_lot") (gaD K "_law_lot") ["_law_deal_here", "_law_parts"]
  lots : Top K mg "_law_lots" sLots (He.ga K "_law_lots") (gaD K "_law_lots") ["_law_deal_here", "_law_many"]
  owed : Top K mg "_law_owed" sOwed (He.ga K "_law_owed") (gaD K "_law_owed") ["_law_deal_here"]
  lineT : Top K mg "_law_line_text" sLT (He.ga K "_law_line_text") (gaD K "_law_line_text") ["_law_line"]
  lotT : Top K mg "_law_lot_text" sLotT (He.ga K "_law_lot_text") (gaD K "_law_lot_text") ["_law_lot_here"]
  made : Top K mg "_law_made" sMadeK (He.ga K "_law_made") (gaD K "_law_made") ["_law_lots_here", "_law_owed_here"]
  law : Top K mg "law" sLaw (He.ga K "law") (gaD K "law") ["_law_script"]
section
variable {P : Program} {w : World} {K : PySem.W.Frag} {mg : Str → Option Value} {base : Heap}
abbrev nLaw : List Str := ["_law_script","_law_deal_here","_law_turn","_law_lots_here","_law_owed_here","_law_many","_law_made_here","_law_kept","_law_lot_here","_law_fresh","_law_longer","_law_held","_law_number","_law_few"]
theorem scLaw : FnScope nLaw ["_law_script"] (defScope sLaw) := ⟨rfl, rfl, rfl, by decide +kernel, rfl, by decide +kernel, by decide +kernel⟩
theorem LawF.okLots (L : LawF K mg) : FnOk P w K mg base CX0 4 (He.ga K "_law_lots") (gaD K "_law_lots") ["_law_deal_here", "_law_many"] (spLots K) := by
  have T := L.F.T
  have GD : FnOk P w K mg base CX0 1 (He.ga K "_law_draw") (gaD K "_law_draw") ["_law_deal_here", "_law_many"] spDraw := ok_draw L.draw.F L.tInt
  have GP : FnOk P w K mg base CX0 2 (He.ga K "_law_pick") (gaD K "_law_pick") ["_law_deal_here", "_law_some"] (spPick K) := ok_pick L.pick.F L.draw.F L.draw.g L.draw.b L.tInt T.tLen
  have GM : FnOk P w K mg base CX0 2 (He.ga K "_law_mixed") (gaD K "_law_mixed") ["_law_deal_here", "_law_some"] (spMixed K) := ok_mixed L.mixed.F L.draw.F L.draw.g L.draw.b L.tInt T.tLen T.tList L.tRange
  have GS : FnOk P w K mg base CX0 1 (He.ga K "_law_size") (gaD K "_law_size") ["_law_parts"] (spSize K) := okSize L.size.F T.tLen
  have GB : FnOk P w K mg base CX0 3 (He.ga K "_law_base") (gaD K "_law_base") ["_law_deal_here"] (spBase K) := okBase L.base.F GM L.mixed.F.kp L.mixed.g L.mixed.b GP L.pick.F.kp L.pick.g L.pick.b GD L.draw.F.kp L.draw.g L.draw.b T.tLen
  have GN : FnOk P w K mg base CX0 3 (He.ga K "_law_near") (gaD K "_law_near") ["_law_deal_here", "_law_parts"] (spNear1 K) := okNear1 L.near.F GP L.pick.F.kp L.pick.g L.pick.b GD L.draw.F.kp L.draw.g L.draw.b T.tLen
  have GL : FnOk P w K mg base CX0 1 (He.ga K "_law_lines") (gaD K "_law_lines") ["_law_parts"] (spLines K) := okLines L.lines.F L.F.D.enum T.tLen T.tTuple L.F.D.zip
  have GO : FnOk P w K mg base CX0 2 (He.ga K "_law_lot") (gaD K "_law_lot") ["_law_deal_here", "_law_parts"] (spLot K) := okLot L.lot.F GL L.lines.F.kp L.lines.g L.lines.b GD L.draw.F.kp L.draw.g L.draw.b
  exact K2.okLots L.lots.F GB L.base.F.kp L.base.g L.base.b GO L.lot.F.kp L.lot.g L.lot.b GN L.near.F.kp L.near.g L.near.b GS L.size.F.kp L.size.g L.size.b GP L.pick.F.kp L.pick.g L.pick.b GD L.draw.F.kp L.draw.g L.draw.b L.tRange
theorem EF.okEdRead (F : EF K mg) : FnOk P w K mg base (L2.CX P w) 10 (rdA K "Edition") (Hd.fdOf K (rdA K "Edition")) ["cls", "text"] (spEdRead K (adK K) (aeK K)) := K2.okEdRead F.T F.R F.L F.E F.strI F.strAt F.D
theorem EF.okCh (F : EF K mg) : FnOk P w K mg base CX0 5 (acK K).fCh (acK K).dCh ["self", "editions", "due"] (spCh K (aeK K) (acK K)) := F.CT.okCh F.T F.E F.M
theorem EF.okChRead (F : EF K mg) : FnOk P w K mg base CX0 11 (rdA K "Chain") (Hd.fdOf K (rdA K "Chain")) ["cls", "text"] (spChRead K (adK K) (aeK K) (acK K)) := K2.okChRead F.T F.R F.L F.E F.M F.strI F.strAt F.D F.CT F.chK F.re F.crF
theorem flatE_le : ∀ l : List Ed0, (∀ e ∈ l, e.1.length ≤ 60) → (flatE l).length ≤ 62 * l.length
  | [], _ => Nat.le_refl _
  | e :: l, h => by
    have h1 := flatE_le l fun x hx => h x (List.mem_cons_of_mem _ hx)
    have h2 := h e List.mem_cons_self
    show (blockE e ++ flatE l).length ≤ _
    rw [List.length_append, blockE_len, List.length_cons]
    unfold lenE
    omega
theorem owed_due {zs : List Str} (h : OwedOk zs) : DueOk zs := ⟨fun z hz => (show ∀ z ∈ four4, nameOk z = true by decide +kernel) z (h.sub z hz), by have := h.few; omega, h.nd⟩
structure KL (K : PySem.W.Frag) (G : Hp) (L p : Addr) (ls : List Ed0) (zs : List Str) : Prop where
  l : ∃ acc, G L = some (.lst acc) ∧ Els (LotV K) G acc ls
  p : G p = some (.lst (zs.map V.str))
theorem KL.same {K : PySem.W.Frag} {G G' : Hp} {L p : Addr} {ls : List Ed0} {zs : List Str} (h : KL K G L p ls zs) (s : Same G G') : KL K G' L p ls zs := by
  obtain ⟨acc, h1, h2⟩ := h.l
  exact ⟨⟨acc, s _ _ h1, h2.same lotV_stays s⟩, s _ _ h.p⟩
theorem lots_fine {zs : List Str} {ls : List Ed0} (oz : OwedOk zs) (ok : LotsOk ls) : FineK zs ls := ⟨owed_due oz, ok.good, ok.many⟩
theorem made_run {K : PySem.W.Frag} {H : Hp} {q p : Addr} {acc : List V} {ls : List Ed0} {zs : List Str} {Q : VK} {E : XK} (hq : SqL K H q acc) (he : Els (LotV K) H acc ls) (ok : LotsOk ls) (hp : SqL K H p (zs.map V.str)) (oz : OwedOk zs)
    (fin : ∀ (H' : Hp) (x : Addr), Same H H' → H x = none → ChK K H' (.ref x) zs ls → Q (.ref x) H') : spMadeK K (adK K) (aeK K) (acK K) [.ref q, .ref p] H Q E :=
  ⟨q, p, acc, ls, zs, rfl, hq, he, ok.good, ok.many, hp, owed_due oz, fun H' x dx fs xs es1 s u hx hC hE o => fin H' x s u ⟨x, dx, fs, xs, es1, rfl, hx, hC, hE, o⟩⟩
theorem new_run {K : PySem.W.Frag} {H : Hp} {v ev : V} {uz : List Str} {es : List Ed0} {e : Ed0} {σ : L2.St} {ta : TE} {t : TA} {Q : VK} (CO : ChK K H v uz es) (hv : EdR K (adK K) (aeK K) H ev e) (fk : FineK uz (es.dropLast ++ [e])) (few : es.length ≤ 10) (ht : ∀ Q : VK, Q v H → ta σ H Q) (ht2 : ∀ Q : List V → Hp → Prop, Q [ev] H → t σ H Q)
    (q : ∀ (H' : Hp) (y : Addr), Same H H' → H y = none → ChK K H' (.ref y) uz (es.dropLast ++ [e]) → Q (.ref y) H') : tMeth (acK K).cCh "newest" (spChNewest K (adK K) (aeK K) (acK K)) [] E0 ta t σ H Q := by
  have CO' := CO
  obtain ⟨x, dx, fs, xs, es1, rfl, h1, h2, _⟩ := CO.ex
  exact ht _ ⟨x, dx, fs, rfl, h1, h2.bare _ (by decide), ht2 _ ⟨.ref x, ev, uz, es, e, rfl, CO', hv, fk, few, q⟩⟩
theorem wo_run {K : PySem.W.Frag} {H : Hp} {v : V} {i : Nat} {uz : List Str} {es : List Ed0} {σ : L2.St} {ta : TE} {t : TA} {Q : VK} (CO : ChK K H v uz es) (hi : i < es.length) (fk : FineK uz (es.eraseIdx i)) (few : es.length ≤ 10) (ht : ∀ Q : VK, Q v H → ta σ H Q) (ht2 : ∀ Q : List V → Hp → Prop, Q [.int (i : Nat)] H → t σ H Q)
    (q : ∀ (H' : Hp) (y : Addr), Same H H' → H y = none → ChK K H' (.ref y) uz (es.eraseIdx i) → Q (.ref y) H') : tMeth (acK K).cCh "without" (spChWithout K (adK K) (aeK K) (acK K)) [] E0 ta t σ H Q := by
  have CO' := CO
  obtain ⟨x, dx, fs, xs, es1, rfl, h1, h2, _⟩ := CO.ex
  exact ht _ ⟨x, dx, fs, rfl, h1, h2.bare _ (by decide), ht2 _ ⟨.ref x, i, uz, es, rfl, CO', hi, few, fk, q⟩⟩
theorem add_run {K : PySem.W.Frag} {mg : Str → Option Value} (F : EF K mg) {H : Hp} {v ev : V} {uz : List Str} {es : List Ed0} {e : Ed0} {Q : VK} (CO : ChK K H v uz es) (hv : EdR K (adK K) (aeK K) H ev e) (fk : FineK uz (es ++ [e]))
    (q : ∀ (H' : Hp) (y : Addr), Same H H' → H y = none → ChK K H' (.ref y) uz (es ++ [e]) → Q (.ref y) H') : rOwnAdd K (mA K "Chain" "__add__") (spChAdd K (adK K) (aeK K) (acK K)) E0 v ev H Q := by
  have CO' := CO
  have hv' := hv
  obtain ⟨x, dx, fs, xs, es1, rfl, h1, _⟩ := CO.ex
  obtain ⟨y, dy, gs, ys, rfl, h2, _⟩ := hv
  exact ⟨x, _, dx, y, _, dy, fs, gs, rfl, h1, rfl, h2, F.AX.ne, F.AX.at_, F.AX.sf, F.AX.nn, .ref x, .ref y, uz, es, e, rfl, CO', hv', fk, fun H' z s u c => ⟨z, rfl, q H' z s u c⟩⟩
/-- chain[i] -/
theorem get_ev {K : PySem.W.Frag} {mg : Str → Option Value} (F : EF K mg) {H : Hp} {v : V} {i : Nat} {uz : List Str} {es : List Ed0} {e : Ed0} (CO : ChK K H v uz es) (hi : es[i]? = some e) : ∃ ev, EdR K (adK K) (aeK K) H ev e ∧ ∀ Q : VK, Q ev H → rIxOwn K (mA K "Chain" "__getitem__") (spChGet K (acK K).cCh) E0 v (.int (i : Nat)) H Q := by
  obtain ⟨x, dx, fs, xs, es1, rfl, h1, h2, hE, _⟩ := CO.ex
  obtain ⟨t, e1, e2⟩ := h2.eds
  have li := (List.getElem?_eq_some_iff.mp hi).1
  have hx : xs[i]? = some (xs[i]'(by rw [hE.len]; exact li)) := List.getElem?_eq_getElem _
  obtain ⟨o, ho, r⟩ := hE.at_ i _ hx
  obtain rfl := Option.some.inj (hi.symm.trans ho)
  exact ⟨_, r, fun Q q => ⟨x, _, dx, fs, rfl, h1, F.CX.getAt, x, dx, t, fs, xs, i, _, rfl, h1, h2.bare _ (by decide), e1, e2, hx, q⟩⟩
theorem range_if {m : Nat} {σ : L2.St} {H : Hp} {Q : VK} (e : σ[5]? = some (some (.int (m : Nat)))) (q : ∀ n : Nat, n ≤ m → (1 < m ∨ n = 0) → Q (.int (n : Nat)) H) :
    tIf (tTest (tOp (rI0 fun i j => .bl (decide (j < i))) (tVar 5) (tC (.int 1)))) (tVar 5) (tC (.int 0)) σ H Q := by
  refine ⟨_, e, _, _, rfl, rfl, _, rfl, ?_⟩
  by_cases h : 1 < m
  · rw [show decide ((1 : Int) < (m : Nat)) = true from decide_eq_true (by omega)]
    exact iteT ⟨_, e, q m (Nat.le_refl _) (.inl h)⟩
  · rw [show decide ((1 : Int) < (m : Nat)) = false from decide_eq_false (by omega)]
    exact iteF (q 0 (Nat.zero_le _) (.inr rfl))
theorem q_int {Q : List V → Hp → Prop} {a b : Int} {H : Hp} (e : a = b) (q : Q [.int b] H) : Q [.int a] H := by rw [e]; exact q
theorem lots_take {ls : List Ed0} {m : Nat} (of : ∀ e ∈ ls, LotOf e) (h1 : 1 ≤ m) (h2 : m ≤ 3) (h3 : ls.length = 3) : LotsOk (ls.take m) := ⟨fun z => by
  have := congrArg List.length z
  rw [List.length_take, h3] at this
  simp at this
  omega, by rw [List.length_take]; omega, fun e he => of e (List.mem_of_mem_take he)⟩
theorem lots_more {ls : List Ed0} {e : Ed0} {m : Nat} (of : ∀ e ∈ ls, LotOf e) (h : LotOf e) (h2 : m ≤ 3) : LotsOk (ls.take m ++ [e]) := ⟨by simp, by rw [List.length_append, List.length_take]; simp; omega, fun o ho => by
  rcases List.mem_append.mp ho with ho | ho
  · exact of o (List.mem_of_mem_take ho)
  · rw [List.mem_singleton.mp ho]
    exact h⟩
theorem lots_less {ls : List Ed0} {i m : Nat} (of : ∀ e ∈ ls, LotOf e) (h1 : 2 ≤ m) (h2 : m ≤ 3) (h3 : ls.length = 3) (hi : i < m) : LotsOk (ls.take i ++ (ls.take m).drop (i + 1)) := ⟨fun z => by
  have := congrArg List.length z
  rw [List.length_append, List.length_take, List.length_drop, List.length_take, h3] at this
  simp at this
  omega, by rw [List.length_append, List.length_take, List.length_drop, List.length_take]; omega, fun o ho => by
  rcases List.mem_append.mp ho with ho | ho
  · exact of o (List.mem_of_mem_take ho)
  · exact of o (List.mem_of_mem_take (List.mem_of_mem_drop ho))⟩
theorem less_erase {α : Type} {ls : List α} {i m : Nat} (hi : i ≤ m) : (ls.take m).eraseIdx i = ls.take i ++ (ls.take m).drop (i + 1) := by
  rw [List.eraseIdx_eq_take_drop_succ, List.take_take, Nat.min_eq_left hi]
theorem more_erase {α : Type} {ls : List α} {e : α} {m : Nat} (h : m ≤ ls.length) : (ls.take m ++ [e]).eraseIdx m = ls.take m := by
  have hl : (ls.take m).length = m := by rw [List.length_take]; omega
  rw [List.eraseIdx_append_of_length_le (by omega), hl, Nat.sub_self]
  simp
theorem take_last {α : Type} {ls : List α} {m : Nat} (h1 : 1 ≤ m) (h : m ≤ ls.length) : (ls.take m).dropLast = ls.take (m - 1) := by
  rw [List.dropLast_eq_take, List.length_take, List.take_take]
  congr 1
  omega
theorem last_same {α : Type} {ls : List α} {e : α} {m : Nat} (h1 : 1 ≤ m) (h : m ≤ ls.length) (he : (ls.take m)[m - 1]? = some e) : (ls.take m).dropLast ++ [e] = ls.take m := by
  have hl : (ls.take m).length = m := by rw [List.length_take]; omega
  have lt := (List.getElem?_eq_some_iff.mp he)
  have ne : ls.take m ≠ [] := fun z => by rw [z] at hl; simp at hl; omega
  have e2 : (ls.take m).getLast ne = e := by
    rw [List.getLast_eq_getElem]
    obtain ⟨lt, e3⟩ := lt
    rw [← e3]
    congr 1
    omega
  rw [← e2]
  exact List.dropLast_concat_getLast ne
theorem LawF.okLaw (L : LawF K mg) : FnOk P w K mg base CX0 12 (He.ga K "law") (gaD K "law") ["_law_script"] (spLaw K) := by
  refine L.law.F.ok scLaw (fun vs H Q E h => ?_) (fun cdv A outer s H vs Q E hr h => ?_)
  · obtain ⟨sa, ns, rfl, _⟩ := h
    rfl
  · obtain ⟨sa, ns, rfl, hS, hlen, fin⟩ := h
    have F := L.F
    have T := F.T
    have hr1 : Room 1 _ := hr.mono (by decide)
    have hr2 : Room 2 _ := hr.mono (by decide)
    have hr3 : Room 3 _ := hr.mono (by decide)
    have hr4 : Room 4 _ := hr.mono (by decide)
    have hr7 : Room 7 _ := hr.mono (by decide)
    have hr10 : Room 10 _ := hr.mono (by decide)
    have hr11 : Room 11 _ := hr.mono (by decide)
    have hu : (A.deeper (PyProof.Rows.envOfC (Str.ofString "law") (defScope sLaw) s.heap.objs.size (He.ga K "law") cdv)).units + 64 < cLine := by
      have := hr.units
      omega
    have okDeal : FnOk P w K mg base CX0 1 (He.ga K "_law_deal") (gaD K "_law_deal") ["_law_script", "_law_base_here"] (spDeal K) := ok_deal L.deal.F L.tInt L.tAbs
    have GD : FnOk P w K mg base CX0 1 (He.ga K "_law_draw") (gaD K "_law_draw") ["_law_deal_here", "_law_many"] spDraw := ok_draw L.draw.F L.tInt
    have GP : FnOk P w K mg base CX0 2 (He.ga K "_law_pick") (gaD K "_law_pick") ["_law_deal_here", "_law_some"] (spPick K) := ok_pick L.pick.F L.draw.F L.draw.g L.draw.b L.tInt T.tLen
    have GM : FnOk P w K mg base CX0 2 (He.ga K "_law_mixed") (gaD K "_law_mixed") ["_law_deal_here", "_law_some"] (spMixed K) := ok_mixed L.mixed.F L.draw.F L.draw.g L.draw.b L.tInt T.tLen T.tList L.tRange
    have GB : FnOk P w K mg base CX0 3 (He.ga K "_law_base") (gaD K "_law_base") ["_law_deal_here"] (spBase K) := okBase L.base.F GM L.mixed.F.kp L.mixed.g L.mixed.b GP L.pick.F.kp L.pick.g L.pick.b GD L.draw.F.kp L.draw.g L.draw.b T.tLen
    have GL : FnOk P w K mg base CX0 1 (He.ga K "_law_lines") (gaD K "_law_lines") ["_law_parts"] (spLines K) := okLines L.lines.F L.F.D.enum T.tLen T.tTuple L.F.D.zip
    have GO : FnOk P w K mg base CX0 2 (He.ga K "_law_lot") (gaD K "_law_lot") ["_law_deal_here", "_law_parts"] (spLot K) := okLot L.lot.F GL L.lines.F.kp L.lines.g L.lines.b GD L.draw.F.kp L.draw.g L.draw.b
    have GLo : FnOk P w K mg base CX0 4 (He.ga K "_law_lots") (gaD K "_law_lots") ["_law_deal_here", "_law_many"] (spLots K) := L.okLots
    have GOw : FnOk P w K mg base CX0 3 (He.ga K "_law_owed") (gaD K "_law_owed") ["_law_deal_here"] (spOwed K) := okOwed L.owed.F GM L.mixed.F.kp L.mixed.g L.mixed.b GP L.pick.F.kp L.pick.g L.pick.b F.E.N.sorted T.tStr
    have GLT : FnOk P w K mg base CX0 1 (He.ga K "_law_line_text") (gaD K "_law_line_text") ["_law_line"] (spLT K) := okLT L.lineT.F T.tList
    have GT : FnOk P w K mg base CX0 2 (He.ga K "_law_lot_text") (gaD K "_law_lot_text") ["_law_lot_here"] (spLotT K) := okLotT L.lotT.F GLT L.lineT.F.kp L.lineT.g L.lineT.b
    have GMa : FnOk P w K mg base CX0 11 (He.ga K "_law_made") (gaD K "_law_made") ["_law_lots_here", "_law_owed_here"] (spMadeK K (adK K) (aeK K) (acK K)) := okMadeK L.made.F GT L.lotT.F.kp L.lotT.g L.lotT.b F.M.g F.D.edR F.D.edM F.okEdRead F.D.edB F.CM.g F.chK F.okCh F.CT.bindAll
    have OE : FnOk P w K mg base (L2.CX P w) 10 (rdA K "Edition") (Hd.fdOf K (rdA K "Edition")) ["cls", "text"] (spEdRead K (adK K) (aeK K)) := F.okEdRead
    have cEq : FnOk P w K mg base CX0 1 (mA K "Chain" "__eq__") (mD K "Chain" "__eq__") ["self", "other"] (spChEq K (acK K).cCh) := F.CM.okEq T
    have cStr : FnOk P w K mg base CX0 1 (mA K "Chain" "__str__") (mD K "Chain" "__str__") ["self"] (spChStr (acK K).cCh) := F.CM.okStr T
    have cLen : FnOk P w K mg base CX0 1 (mA K "Chain" "__len__") (mD K "Chain" "__len__") ["self"] (spChLen K (acK K).cCh) := F.CM.okLen T
    have cGet : FnOk P w K mg base CX0 2 (mA K "Chain" "__getitem__") (mD K "Chain" "__getitem__") ["self", "at"] (spChGet K (acK K).cCh) := F.CM.okGet T
    have cNew : FnOk P w K mg base CX0 7 (mA K "Chain" "newest") (mD K "Chain" "newest") ["self", "edition"] (spChNewest K (adK K) (aeK K) (acK K)) := okChNewest F.CM F.okCh F.chK F.CT.bindAll F.neF
    have cAdd : FnOk P w K mg base CX0 7 (mA K "Chain" "__add__") (mD K "Chain" "__add__") ["self", "other"] (spChAdd K (adK K) (aeK K) (acK K)) := okChAdd F.CM T F.M F.okCh F.chK F.CT.bindAll F.adF
    have cWo : FnOk P w K mg base CX0 7 (mA K "Chain" "without") (mD K "Chain" "without") ["self", "at"] (spChWithout K (adK K) (aeK K) (acK K)) := okChWithout F.CM T F.okCh F.chK F.CT.bindAll F.woF
    have eEq : FnOk P w K mg base CX0 1 (edA K "__eq__") (edD K "__eq__") ["self", "other"] (spEdEq K (aeK K).cEd) := F.M.okEq T
    refine ⟨_, pss_cons (ps_set (i := 1) scLaw.nd rfl (Or.inl rfl) (pe_call okDeal hr1 rfl L.deal.g L.deal.F.kp L.deal.b .nil pass0 (pa_cons (pv 0) (pa_cons pe_int pa_nil))))
      (pss_cons (ps_for PassesOwn.never rfl (pi_range1 rfl L.tRange (pa_cons pe_int pa_nil)) (pg_name (i := 2) scLaw.nd rfl (Or.inl rfl))
        (pss_cons (ps_par (i := 3) (j := 4) (by rfl) scLaw.nd rfl rfl (by decide) rfl rfl (pa_cons (pe_call GLo hr4 rfl L.lots.g L.lots.F.kp L.lots.b .nil pass0 (pa_cons (pv 1) (pa_cons pe_int pa_nil))) (pa_cons (pe_call GOw hr3 rfl L.owed.g L.owed.F.kp L.owed.b .nil pass0 (pa_cons (pv 1) pa_nil)) pa_nil)) (by rfl))
        (pss_cons (ps_set (i := 5) scLaw.nd rfl (Or.inl rfl) (pe_op op_add pe_int (pe_call GD hr1 rfl L.draw.g L.draw.F.kp L.draw.b .nil pass0 (pa_cons (pv 1) (pa_cons pe_int pa_nil)))))
        (pss_cons (ps_par (i := 6) (j := 7) (by rfl) scLaw.nd rfl rfl (by decide) rfl rfl (pa_cons (pe_call GMa hr11 rfl L.made.g L.made.F.kp L.made.b .nil pass0 (pa_cons (pe_slice sl_list (pv 3) po_none (po_some (pv 5))) (pa_cons (pv 4) pa_nil)))
            (pa_cons (pe_callTy (call_strOwn cStr hr3 F.CX.strI F.CM.strB pass0) (by rfl) T.tStr PyProof.Rows.boot_str (pa_cons (pe_call GMa hr11 rfl L.made.g L.made.F.kp L.made.b .nil pass0 (pa_cons (pe_slice sl_list (pv 3) po_none (po_some (pv 5))) (pa_cons (pv 4) pa_nil))) pa_nil)) pa_nil)) (by rfl))
        (pss_cons (ps_set (i := 8) scLaw.nd rfl (Or.inl rfl) (pe_call GO hr2 rfl L.lot.g L.lot.F.kp L.lot.b .nil pass0 (pa_cons (pv 1) (pa_cons (pe_call GB hr3 rfl L.base.g L.base.F.kp L.base.b .nil pass0 (pa_cons (pv 1) pa_nil)) pa_nil))))
        (pss_cons (ps_set (i := 9) scLaw.nd rfl (Or.inl rfl) (ClX.pe_cmeth (E := E0) (pe_glob (v := .ref (aeK K).cEd) (by rfl) F.M.g rfl) F.D.edR F.D.edM (OE.raw F.D.edB .nil) hr10 passL (pa_cons (pe_call GT hr2 rfl L.lotT.g L.lotT.F.kp L.lotT.b .nil pass0 (pa_cons (pv 8) pa_nil)) pa_nil)))
        (pss_cons (ps_if (pt_cmpR (op_ownNe cEq hr2 F.CX.eqI F.CM.eqB pass0) (pe_meth (pv 6) F.CM.cl F.neM cNew hr7 F.neB .nil pass0 (pa_cons (pv 9) pa_nil)) (pe_call GMa hr11 rfl L.made.g L.made.F.kp L.made.b .nil pass0 (pa_cons (pe_op op_cat (pe_slice sl_list (pv 3) po_none (po_some (pe_op op_sub (pv 5) pe_int))) (pe_lst (pa_cons (pv 8) pa_nil))) (pa_cons (pv 4) pa_nil))) (nomark _)) (pss_one (ps_ret pe_bl)) pss_nil)
        (pss_cons (ps_if (pt_cmpR op_lt (pv 5) pe_int (nomark _))
          (pss_cons (ps_set (i := 10) scLaw.nd rfl (Or.inl rfl) (pe_op (op_ownAdd cAdd hr7 F.AX.I F.adB pass0) (pv 6) (pv 9)))
          (pss_cons (ps_if (pt_cmpR (op_ownNe cEq hr2 F.CX.eqI F.CM.eqB pass0) (pv 10) (pe_call GMa hr11 rfl L.made.g L.made.F.kp L.made.b .nil pass0 (pa_cons (pe_op op_cat (pe_slice sl_list (pv 3) po_none (po_some (pv 5))) (pe_lst (pa_cons (pv 8) pa_nil))) (pa_cons (pv 4) pa_nil))) (nomark _)) (pss_one (ps_ret pe_bl)) pss_nil)
          (pss_cons (ps_if (PW.pt (pw_or (pt_cmpR op_ne (pe_callB (call_lenOwn cLen hr2 F.CX.lenI F.CM.lenB pass0) (by rfl) T.tLen PySem.boot_len (pa_cons (pv 10) pa_nil)) (pe_op op_add (pv 5) pe_int) (nomark _)) (pw_or1 (pt_cmpR (op_ownNe eEq hr2 F.X.eqI F.M.eqB pass0) (pe_ixOwn cGet hr3 F.CX.getI F.CX.getN F.CM.getB pass0 (pv 10) (pv 5) (fun _ _ => rfl)) (pv 9) (nomark _))))) (pss_one (ps_ret pe_bl)) pss_nil)
          (pss_cons (ps_if (PW.pt (pw_or (pt_cmpR (op_ownNe cEq hr2 F.CX.eqI F.CM.eqB pass0) (pe_meth (pv 10) F.CM.cl F.woM cWo hr7 F.woB .nil pass0 (pa_cons (pv 5) pa_nil)) (pv 6) (nomark _)) (pw_or1 (pt_cmpR (op_neD hu) (pe_fld (pe_meth (pv 6) F.CM.cl F.neM cNew hr7 F.neB .nil pass0 (pa_cons (pv 9) pa_nil)) rfl) (pe_callTy call_tuple_of (by rfl) T.tTuple PyProof.Rows.boot_tuple (pa_cons (pv 4) pa_nil)) (nomark _))))) (pss_one (ps_ret pe_bl)) pss_nil)
          (pss_cons (ps_set (i := 11) scLaw.nd rfl (Or.inl rfl) (pv 6))
          (pss_cons (ps_aug (i := 11) scLaw.nd rfl (Or.inl rfl) (pv 9) (ip_ownAdd cAdd hr7 F.AX.I F.adB pass0))
          (pss_one (ps_if (PW.pt (pw_or (pt_cmpR (op_ownNe cEq hr2 F.CX.eqI F.CM.eqB pass0) (pv 11) (pv 10) (nomark _)) (pw_or1 (pt_cmpR op_ne (pe_callB (call_lenOwn cLen hr2 F.CX.lenI F.CM.lenB pass0) (by rfl) T.tLen PySem.boot_len (pa_cons (pv 6) pa_nil)) (pv 5) (nomark _))))) (pss_one (ps_ret pe_bl)) pss_nil))))))))
          pss_nil)
        (pss_cons (ps_for PassesOwn.never rfl (pi_range1 rfl L.tRange (pa_cons (pe_ifExp (pt_cmpR op_gt (pv 5) pe_int (nomark _)) (pv 5) pe_int) pa_nil)) (pg_name (i := 12) scLaw.nd rfl (Or.inl rfl))
          (pss_cons (ps_set (i := 13) scLaw.nd rfl (Or.inl rfl) (pe_op op_cat (pe_slice sl_list (pv 3) po_none (po_some (pv 12))) (pe_slice sl_list (pv 3) (po_some (pe_op op_add (pv 12) pe_int)) (po_some (pv 5)))))
          (pss_one (ps_if (pt_cmpR (op_ownNe cEq hr2 F.CX.eqI F.CM.eqB pass0) (pe_meth (pv 6) F.CM.cl F.woM cWo hr7 F.woB .nil pass0 (pa_cons (pv 12) pa_nil)) (pe_call GMa hr11 rfl L.made.g L.made.F.kp L.made.b .nil pass0 (pa_cons (pv 13) (pa_cons (pv 4) pa_nil))) (nomark _)) (pss_one (ps_ret pe_bl)) pss_nil))))
        (pss_cons (ps_if (PW.pt (pw_or (pt_cmpR op_ne (pe_callTy (call_strOwn cStr hr3 F.CX.strI F.CM.strB pass0) (by rfl) T.tStr PyProof.Rows.boot_str (pa_cons (pv 6) pa_nil)) (pv 7) (nomark _)) (pw_or1 (pt_cmpR (op_ownNe cEq hr2 F.CX.eqI F.CM.eqB pass0) (pe_meth (pv 6) F.CM.cl F.neM cNew hr7 F.neB .nil pass0 (pa_cons (pe_ixOwn cGet hr3 F.CX.getI F.CX.getN F.CM.getB pass0 (pv 6) (pe_op op_sub (pv 5) pe_int) (fun _ _ => rfl)) pa_nil)) (pv 6) (nomark _))))) (pss_one (ps_ret pe_bl)) pss_nil)
        (pss_one (ps_if (pt_cmpR (op_ownNe eEq hr2 F.X.eqI F.M.eqB pass0) (pv 9) (ClX.pe_cmeth (E := E0) (pe_glob (v := .ref (aeK K).cEd) (by rfl) F.M.g rfl) F.D.edR F.D.edM (OE.raw F.D.edB .nil) hr10 passL (pa_cons (pe_call GT hr2 rfl L.lotT.g L.lotT.F.kp L.lotT.b .nil pass0 (pa_cons (pv 8) pa_nil)) pa_nil)) (nomark _)) (pss_one (ps_ret pe_bl)) pss_nil))))))))))))
      (pss_one (ps_ret pe_bl))), ?_⟩
    refine ⟨_, rfl, sa, ns, 0, rfl, hS, hlen, by omega, by omega, fun H1 d l D1 => ?_⟩
    dsimp only [gName, tNext]
    refine ⟨3, rfl, by decide, by decide, for_range (lo := 0) (n := 3) (fun j σ1 H2 => ∃ v2 v3 v4 v5 v6 v7 v8 v9 v10 v11 v12 v13, σ1 = [some (.ref sa), some (.ref d), v2, v3, v4, v5, v6, v7, v8, v9, v10, v11, v12, v13] ∧ ∃ G, Same H G ∧ Deal G H2 d l) ⟨_, _, _, _, _, _, _, _, _, _, _, _, rfl, H, Same.refl H, D1⟩ ?_ ?_⟩
    · rintro j _ H2 hj ⟨v2, v3, v4, v5, v6, v7, v8, v9, v10, v11, v12, v13, rfl, G, kG, D2⟩
      refine seq_cut (fun σ1 H3 => ∃ (L p : Addr) (ls : List Ed0) (zs : List Str) (G1 : Hp) (v2 : Option V), σ1 = [some (.ref sa), some (.ref d), v2, some (.ref L), some (.ref p), v5, v6, v7, v8, v9, v10, v11, v12, v13] ∧ Same H G1 ∧ Deal G1 H3 d l ∧ KL K G1 L p ls zs ∧ ls.length = 3 ∧ (∀ e ∈ ls, LotOf e) ∧ OwedOk zs) ?_ fun after => ?_
      rotate_left
      · refine ⟨_, rfl, G, d, l, 3, rfl, D2, by decide, by decide, fun G4 H4 L ls k4 D4 gL hl len of => ?_⟩
        refine ⟨_, rfl, G4, d, l, rfl, D4, fun G5 H5 p zs k5 D5 gp hp oz => ?_⟩
        obtain ⟨acc, hL, hls⟩ := hl
        exact ⟨_, _, rfl, after _ _ ⟨L, p, ls, zs, G5, _, rfl, (kG.trans k4).trans k5, D5, ⟨⟨acc, k5 _ _ hL, hls.same lotV_stays k5⟩, hp⟩, len, of, oz⟩⟩
      rintro _ H3 ⟨L, p, ls, zs, G1, v2, rfl, k1, D3, kl, l3, of, oz⟩
      clear kG D2
      refine ⟨_, rfl, G1, d, l, 3, rfl, D3, by decide, by decide, fun H4 r D4 r0 r1 => ?_⟩
      obtain ⟨m0, rfl⟩ : ∃ m : Nat, r = (m : Nat) := ⟨r.toNat, by omega⟩
      refine ⟨_, _, rfl, rfl, ?_⟩
      have em : (1 : Int) + (m0 : Nat) = ((1 + m0 : Nat) : Int) := by omega
      dsimp only [gName, tNext]
      rw [em]
      have hm1 : 1 ≤ 1 + m0 := by omega
      have hm3 : 1 + m0 ≤ 3 := by omega
      generalize 1 + m0 = m at hm1 hm3 ⊢
      clear em r0 r1
      have okm := lots_take of hm1 hm3 l3
      have lsl : m ≤ ls.length := by omega
      refine seq_cut (fun σ1 H5 => ∃ (x : Addr) (z : Str) (G2 : Hp) (v2 : Option V), σ1 = [some (.ref sa), some (.ref d), v2, some (.ref L), some (.ref p), some (.int (m : Nat)), some (.ref x), some (.str z), v8, v9, v10, v11, v12, v13] ∧ Same G1 G2 ∧ Deal G2 H5 d l ∧ ChK K G2 (.ref x) zs (ls.take m) ∧ TxtOf zs (ls.take m) z) ?_ fun after => ?_
      rotate_left
      · obtain ⟨acc, hL, hls⟩ := kl.l
        have la : m ≤ acc.length := by rw [hls.len]; exact lsl
        refine ⟨_, rfl, _, rfl, _, rfl, L, acc, rfl, SqL.of (D4.same _ _ hL), fun q uq => ⟨_, rfl, ?_⟩⟩
        rw [cut_to la]
        dsimp only [tNil]
        have s1 : Same H4 (upd H4 q (.lst (acc.take m))) := same_new uq
        refine made_run (SqL.of upd_same) ((els_take m hls).same lotV_stays (D4.same.trans s1)) okm (SqL.of (s1 _ _ (D4.same _ _ kl.p))) oz fun H5 x s5 ux CO => ?_
        have s15 := s1.trans s5
        refine ⟨_, rfl, _, rfl, _, rfl, L, acc, rfl, SqL.of (s15 _ _ (D4.same _ _ hL)), fun q2 uq2 => ⟨_, rfl, ?_⟩⟩
        rw [cut_to la]
        dsimp only [tNil]
        have s2 : Same H5 (upd H5 q2 (.lst (acc.take m))) := same_new uq2
        have s25 := s15.trans s2
        refine made_run (SqL.of upd_same) ((els_take m hls).same lotV_stays (D4.same.trans s25)) okm (SqL.of (s25 _ _ (D4.same _ _ kl.p))) oz fun H6 x2 s6 ux2 CO2 => ?_
        refine chStr F CO2 fun z hz => ?_
        have s46 := s25.trans s6
        obtain ⟨G2, k2, D6, pr⟩ := adopt D4 s46
        exact ⟨_, _, rfl, after _ _ ⟨x, z, G2, _, rfl, k2, D6, ((CO.same (s2.trans s6)).hardC).same pr, hz⟩⟩
      rintro _ H5 ⟨x, z, G2, v2, rfl, k2, D5, CO, hz⟩
      have kl2 := kl.same k2
      have k02 := k1.trans k2
      clear D3 D4 kl k1 k2
      -- a further edition
      refine seq_cut (fun σ1 H6 => ∃ (r : Addr) (e : Ed0) (G3 : Hp) (v2 : Option V), σ1 = [some (.ref sa), some (.ref d), v2, some (.ref L), some (.ref p), some (.int (m : Nat)), some (.ref x), some (.str z), some (.ref r), v9, v10, v11, v12, v13] ∧ Same G2 G3 ∧ Deal G3 H6 d l ∧ LotV K G3 (.ref r) e ∧ LotOf e) ?_ fun after => ?_
      rotate_left
      · refine ⟨_, rfl, _, rfl, G2, d, l, rfl, D5, fun G3 H6 v ps k3 D6 hd bo => ?_⟩
        have pk := base_ok bo
        have := pk.few
        refine ⟨G3, d, l, v, ps, rfl, D6, hd, by omega, fun G4 H7 r lp tp ys dz k4 D7 hr _ _ hlp hys htp lo => ?_⟩
        exact after _ _ ⟨r, (linesP ps, dz), G4, _, rfl, k3.trans k4, D7, ⟨r, lp, tp, ys, rfl, SqT.of hr, hlp, hys, htp⟩, ps, pk, rfl, lo⟩
      rintro _ H6 ⟨r, e, G3, v2, rfl, k3, D6, hv, lo⟩
      have kl3 := kl2.same k3
      have CO3 := CO.same k3
      have k03 := k02.trans k3
      have ok1 : LotsOk [e] := ⟨by simp, by simp, fun o ho => by rw [List.mem_singleton.mp ho]; exact lo⟩
      have ge := ok1.good.each e (by simp)
      clear D5 kl2 CO k02 k3
      have rd : ∀ {H7 : Hp} {Q7 : VK} {E7 : XK}, (∀ (H8 : Hp) (y : Addr), Same H7 H8 → EdR K (adK K) (aeK K) H8 (.ref y) e → Q7 (.ref y) H8) → spEdRead K (adK K) (aeK K) [.ref (aeK K).cEd, .str (textE e.1 e.2)] H7 Q7 E7 := fun {H7 Q7 E7} q => by
        refine ⟨e.2, e.1, rfl, ge.dzok, ge.fewz, ge.ne, ge.good, ge.few, fun _ H8 y dy fs xs s8 uy hy hE hR => ?_, fun z ez => ?_⟩
        · exact q H8 y s8 ⟨y, dy, fs, xs, rfl, hy, hE, hR⟩
        · rw [ge.right] at ez
          cases ez
      refine seq_cut (fun σ1 H7 => ∃ (y : Addr) (G4 : Hp) (v2 : Option V), σ1 = [some (.ref sa), some (.ref d), v2, some (.ref L), some (.ref p), some (.int (m : Nat)), some (.ref x), some (.str z), some (.ref r), some (.ref y), v10, v11, v12, v13] ∧ Same G3 G4 ∧ Deal G4 H7 d l ∧ EdR K (adK K) (aeK K) G4 (.ref y) e) ?_ fun after => ?_
      rotate_left
      · refine ⟨rfl, _, rfl, .ref r, e, rfl, lotV_stays.on D6.same hv, ge.good, ge.few, ge.dzok, ge.fewz, fun H7 s7 => ?_⟩
        dsimp only [tNil]
        refine rd fun H8 y s8 hy => ?_
        obtain ⟨G4, k4, D8, pr⟩ := adopt D6 (s7.trans s8)
        exact after _ _ ⟨y, G4, _, rfl, k4, D8, edR_stays.on pr (edR_hard hy)⟩
      rintro _ H7 ⟨y, G4, v2, rfl, k4, D7, hy⟩
      have kl4 := kl3.same k4
      have CO4 := CO3.same k4
      have k04 := k03.trans k4
      have hv4 := lotV_stays.on k4 hv
      obtain ⟨acc, hL, hls⟩ := kl4.l
      have hp := kl4.p
      have la3 : acc.length = 3 := by rw [hls.len, l3]
      have lt10 : (ls.take m).length ≤ 10 := by rw [List.length_take]; omega
      have ltm : (ls.take m).length = m := by rw [List.length_take]; omega
      -- lots[:k] + [lot], made
      have mk : ∀ {H8 : Hp} {k : Nat} {t : TE} {σ : L2.St} {Q : VK}, Same H7 H8 → k ≤ 3 → σ[3]? = some (some (.ref L)) → σ[4]? = some (some (.ref p)) → σ[8]? = some (some (.ref r)) → (∀ Q : VK, Q (.int (k : Nat)) H8 → t σ H8 Q) → (∀ (H9 : Hp) (x : Addr), Same H8 H9 → ChK K H9 (.ref x) zs (ls.take k ++ [e]) → Q (.ref x) H9) →
          tCall (spMadeK K (adK K) (aeK K) (acK K)) [] E0 (tCons (tOp rCat (tSl (rSlL K) (tVar 3) tNoPart (tPart t)) (tLst (tCons (tVar 8) tNil))) (tCons (tVar 4) tNil)) σ H8 Q := fun {H8 k t σ Q} s8 hk e3 e4 e8 ht q => by
        have s78 := D7.same.trans s8
        refine ⟨_, e3, ht _ ⟨_, rfl, L, acc, rfl, SqL.of (s78 _ _ hL), fun q1 u1 => ?_⟩⟩
        rw [cut_to (by omega)]
        have s1 : Same H8 (upd H8 q1 (.lst (acc.take k))) := same_new u1
        refine ⟨_, e8, (by show 1 ≤ sizeLine; decide), fun l1 u2 => ?_⟩
        have s2 : Same (upd H8 q1 (.lst (acc.take k))) (upd (upd H8 q1 (.lst (acc.take k))) l1 (.lst [.ref r])) := same_new u2
        refine ⟨q1, l1, _, _, rfl, rfl, s2 _ _ upd_same, upd_same, Nat.le_trans (show _ ≤ 10 by rw [List.length_take]; simp; omega) (by decide), fun l2 u3 => ⟨_, e4, ?_⟩⟩
        dsimp only [tNil]
        have s12 := s1.trans s2
        have s3 := s12.trans (same_new (o := .lst (acc.take k ++ [.ref r])) u3)
        refine made_run (SqL.of upd_same) (els_app ((els_take k hls).same lotV_stays (s78.trans s3)) (els_one (lotV_stays.on (s78.trans s3) hv4))) (lots_more of lo hk) (SqL.of (s3 _ _ (s78 _ _ hp))) oz fun H9 x9 s9 _ C9 => q H9 x9 (s3.trans s9) C9
      have fk1 : FineK zs (ls.take (m - 1) ++ [e]) := lots_fine oz (lots_more of lo (by omega))
      have fk2 : FineK zs (ls.take m ++ [e]) := lots_fine oz (lots_more of lo hm3)
      have fkm : FineK zs (ls.take m) := lots_fine oz okm
      have fk3 : FineK zs ((ls.take m).dropLast ++ [e]) := by rw [take_last hm1 lsl]; exact fk1
      refine new_run (CO4.same D7.same) (edR_stays.on D7.same hy) fk3 lt10 (tv rfl) (fun Q q => ⟨_, rfl, q⟩) fun H8 y1 s8 u1 C1 => ?_
      refine mk (k := m - 1) s8 (by omega) rfl rfl rfl (fun Q q => ⟨_, rfl, _, _, rfl, rfl, ?_⟩) fun H9 y2 s9 C2 => ?_
      · show Q (.int ((m : Int) - 1)) H8
        rw [show ((m : Nat) : Int) - 1 = ((m - 1 : Nat) : Int) from by omega]
        exact q
      rw [take_last hm1 lsl] at C1
      refine chNe F (C1.same s9) C2 (fun _ => Iff.rfl) (SameK.refl _) ⟨_, rfl, iteF ?_⟩
      dsimp only [tNext]
      have D9 := (D7.on s8).on s9
      have s79 := s8.trans s9
      clear C1 C2 s8 s9 u1
      refine seq_cut (fun σ1 H10 => ∃ (v10 v11 : Option V), σ1 = [some (.ref sa), some (.ref d), v2, some (.ref L), some (.ref p), some (.int (m : Nat)), some (.ref x), some (.str z), some (.ref r), some (.ref y), v10, v11, v12, v13] ∧ Same H9 H10) ?_ fun after => ?_
      rotate_left
      · refine ⟨_, rfl, _, _, rfl, rfl, _, rfl, ?_⟩
        by_cases h3 : m < 3
        · rw [show decide ((m : Int) < 3) = true from decide_eq_true (by omega)]
          refine iteT ?_
          have CO9 := (CO4.same D7.same).same s79
          have hy9 := edR_stays.on s79 (edR_stays.on D7.same hy)
          refine ⟨_, rfl, _, rfl, add_run F CO9 hy9 fk2 fun H10 q s10 uq CL => ?_⟩
          dsimp only [gName, tNext]
          refine ⟨_, rfl, ?_⟩
          refine mk (k := m) (s79.trans s10) hm3 rfl rfl rfl (fun Q q => ⟨_, rfl, q⟩) fun H11 y2 s11 C2 => ?_
          have CL11 := CL.same s11
          refine chNe F CL11 C2 (fun _ => Iff.rfl) (SameK.refl _) ⟨_, rfl, iteF ?_⟩
          dsimp only [tNext]
          have s711 := (s79.trans s10).trans s11
          have CO11 := (CO4.same D7.same).same s711
          have hy11 := edR_stays.on s711 (edR_stays.on D7.same hy)
          have hi1 : (ls.take m ++ [e])[m]? = some e := by rw [List.getElem?_append_right (by omega), ltm, Nat.sub_self]; rfl
          obtain ⟨ev, hev, gev⟩ := get_ev F CL11 hi1
          have lcl : (ls.take m ++ [e]).length = m + 1 := by rw [List.length_append, ltm]; rfl
          refine chLenT F CL11 (by rw [lcl]; omega) (tv rfl) ⟨_, rfl, _, _, rfl, rfl, rfl, _, rfl, ?_⟩
          rw [lcl]
          rw [show decide (V.int ((m + 1 : Nat) : Int) = V.int ((m : Int) + 1)) = true from decide_eq_true (by congr 1)]
          refine iteF ⟨_, rfl, _, rfl, gev _ ⟨_, rfl, edNe_ F hev hy11 rfl (fun _ => Iff.rfl) ⟨_, rfl, iteF ?_⟩⟩⟩
          dsimp only [tNext]
          refine wo_run CL11 (by rw [lcl]; omega) (by rw [more_erase lsl]; exact fkm) (by rw [lcl]; omega) (tv rfl) (fun Q q => ⟨_, rfl, q⟩) fun H12 y3 s12 _ C3 => ⟨_, rfl, ?_⟩
          rw [more_erase lsl] at C3
          have CO12 := CO11.same s12
          refine chNe F C3 CO12 (fun _ => Iff.rfl) (SameK.refl _) ⟨_, rfl, iteF ?_⟩
          refine new_run CO12 (edR_stays.on s12 hy11) fk3 lt10 (tv rfl) (fun Q q => ⟨_, rfl, q⟩) fun H13 y4 s13 _ C4 => ?_
          obtain ⟨x4, dx4, fs4, xs4, es4, e4, g1, g2, _, _⟩ := C4.ex
          cases e4
          obtain ⟨t4, us4, g3, g4, g5, _⟩ := g2.due
          rw [drops_of] at g5
          refine ⟨y4, _, dx4, fs4, _, rfl, g1, F.CM.cl, F.CM.no "due" (by simp), g3, ?_⟩
          have s1013 := (s11.trans s12).trans s13
          have s713 := (s79.trans s10).trans s1013
          refine ⟨_, rfl, p, _, rfl, .inl ⟨SqL.of (s713 _ _ (D7.same _ _ hp)), fun t5 u5 => ?_⟩⟩
          have s14 : Same H13 (upd H13 t5 (.tup (zs.map V.str))) := same_new u5
          have CL14 := (((CL11.same s12).same s13).same s14)
          have CO14 := (CO12.same s13).same s14
          have hy14 := edR_stays.on ((s12.trans s13).trans s14) hy11
          obtain rfl : us4 = zs := rises_unique g5 (rises_self oz.so oz.nd (List.Perm.refl _)) fun _ => Iff.rfl
          refine strs_ne (.tup (same_tup s14 g4) (strs_dp _)) (.tup (SqT.of upd_same) (strs_dp _)) rfl (fun z hz => name_strOk ((owed_due oz).names z hz)) ⟨_, rfl, iteF ?_⟩
          have s1014 := s1013.trans s14
          generalize upd H13 t5 (.tup (us4.map V.str)) = H14 at *
          dsimp only [gName, tNext]
          refine ⟨_, rfl, ?_⟩
          dsimp only [gName, tNext]
          have CO14' := CO14
          obtain ⟨x6, dx6, fs6, xs6, es6, e6, i1, _⟩ := CO14'.ex
          cases e6
          refine ⟨_, rfl, _, rfl, ⟨x, _, dx6, fs6, rfl, i1, F.AX.ni⟩, add_run F CO14 hy14 fk2 fun H15 q2 s15 _ CH => ?_⟩
          dsimp only [gName, tNext]
          have CO15 := CO14.same s15
          refine ⟨_, rfl, _, rfl, chNe F CH (CL14.same s15) (fun _ => Iff.rfl) (SameK.refl _) ⟨_, rfl, iteF ?_⟩⟩
          refine chLenT F CO15 (by omega) (tv rfl) ⟨_, rfl, rfl, _, rfl, ?_⟩
          rw [ltm, show decide (V.int (m : Nat) = V.int (m : Nat)) = true from decide_eq_true rfl]
          refine iteF (after _ _ ⟨_, _, rfl, (s10.trans s1014).trans s15⟩)
        · rw [show decide ((m : Int) < 3) = false from decide_eq_false (by omega)]
          exact iteF (after _ _ ⟨_, _, rfl, Same.refl _⟩)
      rintro _ H10 ⟨v10, v11, rfl, s10⟩
      have D10 := D9.on s10
      refine seq_cut (fun σ1 H11 => ∃ (v12 v13 : Option V), σ1 = [some (.ref sa), some (.ref d), v2, some (.ref L), some (.ref p), some (.int (m : Nat)), some (.ref x), some (.str z), some (.ref r), some (.ref y), v10, v11, v12, v13] ∧ Same H10 H11) ?_ fun after => ?_
      rotate_left
      · refine range_if rfl fun n hn hn1 => ?_
        refine ⟨n, rfl, by omega, by omega, for_range (lo := 0) (n := n) (fun i σ1 H11 => ∃ (v12 v13 : Option V), σ1 = [some (.ref sa), some (.ref d), v2, some (.ref L), some (.ref p), some (.int (m : Nat)), some (.ref x), some (.str z), some (.ref r), some (.ref y), v10, v11, v12, v13] ∧ Same H10 H11) ⟨_, _, rfl, Same.refl _⟩ ?_ ?_⟩
        · rintro i _ H11 hi ⟨v12, v13, rfl, s11⟩
          have hm2 : 2 ≤ m := by omega
          have him : i < m := by omega
          have s711 := (s79.trans s10).trans s11
          have s011 := D7.same.trans s711
          dsimp only [gName, tNext]
          refine ⟨_, rfl, _, rfl, _, rfl, L, acc, rfl, SqL.of (s011 _ _ hL), fun q1 u1 => ?_⟩
          have s1 : Same H11 (upd H11 q1 (.lst (cutV acc none (some (0 + (i : Int)))))) := same_new u1
          refine ⟨_, rfl, _, rfl, _, _, rfl, rfl, _, rfl, _, rfl, _, rfl, L, acc, rfl, SqL.of (s1 _ _ (s011 _ _ hL)), fun q2 u2 => ?_⟩
          have s2 := s1.trans (same_new (o := .lst (cutV acc (some (0 + (i : Int) + 1)) (some (m : Int)))) u2)
          have c1 : cutV acc none (some (0 + (i : Int))) = acc.take i := by rw [Int.zero_add]; exact cut_to (by omega)
          have c2 : cutV acc (some (0 + (i : Int) + 1)) (some (m : Int)) = (acc.take m).drop (i + 1) := by
            rw [show (0 + (i : Int) + 1) = ((i + 1 : Nat) : Int) from by omega]
            exact cut_mid (by omega) (by omega)
          refine ⟨q1, q2, _, _, rfl, rfl, by rw [upd_ne (ne_of_none upd_same u2)]; exact upd_same, upd_same, Nat.le_trans (show _ ≤ 10 by rw [c1, c2]; simp; omega) (by decide), fun q3 u3 => ?_⟩
          have s3 := s2.trans (same_new (o := .lst (cutV acc none (some (0 + (i : Int))) ++ cutV acc (some (0 + (i : Int) + 1)) (some (m : Int)))) u3)
          dsimp only [gName, tNext]
          have CO12 := (CO4.same D7.same).same (s711.trans s3)
          have okl := lots_less of hm2 hm3 l3 him
          have eI : (0 : Int) + (i : Int) = ((i : Nat) : Int) := by omega
          refine wo_run (i := i) CO12 (by omega) (by rw [less_erase (by omega)]; exact lots_fine oz okl) lt10 (tv rfl) (fun Q q => ⟨_, rfl, q_int eI q⟩) fun H13 y3 s13 _ C3 => ?_
          refine ⟨_, rfl, _, rfl, ?_⟩
          dsimp only [tNil]
          have s313 := s3.trans s13
          refine made_run (SqL.of (s13 _ _ upd_same)) (by rw [c1, c2]; exact els_app ((els_take i hls).same lotV_stays (s011.trans s313)) ((els_drop (i + 1) (els_take m hls)).same lotV_stays (s011.trans s313))) okl (SqL.of (s313 _ _ (s011 _ _ hp))) oz fun H14 x9 s14 _ C9 => ?_
          rw [less_erase (by omega)] at C3
          refine chNe F (C3.same s14) C9 (fun _ => Iff.rfl) (SameK.refl _) ⟨_, rfl, iteF ?_⟩
          exact ⟨_, _, rfl, s11.trans (s313.trans s14)⟩
        · rintro _ H11 ⟨v12, v13, rfl, s11⟩
          exact after _ _ ⟨_, _, rfl, s11⟩
      rintro _ H11 ⟨v12, v13, rfl, s11⟩
      have D11 := D10.on s11
      have s711 := (s79.trans s10).trans s11
      have CO11 := (CO4.same D7.same).same s711
      have hy11 := edR_stays.on s711 (edR_stays.on D7.same hy)
      refine chStrT F CO11 (tv rfl) fun z1 hz1 => ⟨_, rfl, rfl, _, rfl, ?_⟩
      rw [hz1.same hz (fun _ => Iff.rfl) (SameK.refl _), show decide (V.str z = V.str z) = true from decide_eq_true rfl]
      refine iteF ?_
      obtain ⟨e2, he2⟩ := at_some (l := ls.take m) (j := m - 1) (by omega)
      obtain ⟨ev, hev, gev⟩ := get_ev F CO11 he2
      have hsm := last_same hm1 lsl he2
      refine new_run CO11 hev (by rw [hsm]; exact fkm) lt10 (tv rfl) (fun Q q => ⟨_, rfl, _, rfl, _, _, rfl, rfl, ?_⟩) fun H12 y4 s12 _ C4 => ?_
      · show rIxOwn K (mA K "Chain" "__getitem__") (spChGet K (acK K).cCh) E0 (.ref x) (.int ((m : Int) - 1)) H11 _
        rw [show ((m : Int) - 1) = ((m - 1 : Nat) : Int) from by omega]
        exact gev _ q
      rw [hsm] at C4
      refine ⟨_, rfl, chNe F C4 (CO11.same s12) (fun _ => Iff.rfl) (SameK.refl _) ⟨_, rfl, iteF ?_⟩⟩
      refine ⟨_, rfl, rfl, _, rfl, .ref r, e, rfl, lotV_stays.on ((D7.same.trans s711).trans s12) hv4, ge.good, ge.few, ge.dzok, ge.fewz, fun H13 s13 => ?_⟩
      dsimp only [tNil]
      refine rd fun H14 y5 s14 hy5 => ?_
      refine edNe_ F (edR_stays.on ((s12.trans s13).trans s14) hy11) hy5 rfl (fun _ => Iff.rfl) ⟨_, rfl, iteF ?_⟩
      exact ⟨_, _, _, _, _, _, _, _, _, _, _, _, rfl, G4, k04, ((D11.on s12).on s13).on s14⟩
    · rintro _ H2 ⟨v2, v3, v4, v5, v6, v7, v8, v9, v10, v11, v12, v13, rfl, G, kG, D2⟩
      exact fin H2
end
end K2

set_option Elab.async false
set_option linter.all false
set_option maxRecDepth 100000
set_option maxHeartbeats 0
namespace K2
open PySem PySem.Spec PyProof.Rows L2 Lw TL SxT Hd
section
variable {K : PySem.W.Frag} {h : Heap} {mg : PySem.Str → Option Value}
theorem facts {P : Program} {w : World} {f : Addr} (X : K.In h) (G : h.Ns mainGlobals mg) (hfa : mg ("law" : PySem.Str) = some (.ref f)) (c : He5.SaysA fasA fnsA K) (ex : extra K = true) :
    ∃ fd : FuncData, (∀ (s : Shared) (v : Value), BindsTo s fd ⟨[v], []⟩ [("_law_script", v)]) ∧ ∀ base : Heap, K.In base → base.Ns mainGlobals mg → FnOk P w K mg base CX0 12 f fd ["_law_script"] (spLaw K) := by
  unfold extra at ex
  simp only [Bool.and_eq_true] at ex
  obtain ⟨ex1, ex2⟩ := ex
  have pf := eF_of (fun _ z => List.mem_append_left _ z) (fun _ z => List.mem_append_left _ z) X G c ex1
  have L : LawF K mg := {
    F := pf
    tInt := He.free_ok X G (fa_mem c (List.mem_append_right _ (List.mem_of_getElem? (i := 15) rfl)))
    tAbs := He.free_ok X G (fa_mem c (List.mem_append_right _ (List.mem_of_getElem? (i := 16) rfl)))
    tRange := He.free_ok X G (fa_mem c (List.mem_append_right _ (List.mem_of_getElem? (i := 17) rfl)))
    deal := topA X G c (List.mem_append_right _ (List.mem_of_getElem? (i := 0) rfl)) (List.mem_append_right _ (List.mem_of_getElem? (i := 0) rfl)) (fun _ _ _ _ _ _ us hl => match us, hl with | [_, _], _ => rfl)
    draw := topA X G c (List.mem_append_right _ (List.mem_of_getElem? (i := 1) rfl)) (List.mem_append_right _ (List.mem_of_getElem? (i := 1) rfl)) (fun _ _ _ _ _ _ us hl => match us, hl with | [_, _], _ => rfl)
    pick := topA X G c (List.mem_append_right _ (List.mem_of_getElem? (i := 2) rfl)) (List.mem_append_right _ (List.mem_of_getElem? (i := 2) rfl)) (fun _ _ _ _ _ _ us hl => match us, hl with | [_, _], _ => rfl)
    mixed := topA X G c (List.mem_append_right _ (List.mem_of_getElem? (i := 3) rfl)) (List.mem_append_right _ (List.mem_of_getElem? (i := 3) rfl)) (fun _ _ _ _ _ _ us hl => match us, hl with | [_, _], _ => rfl)
    size := topA X G c (List.mem_append_right _ (List.mem_of_getElem? (i := 4) rfl)) (List.mem_append_right _ (List.mem_of_getElem? (i := 4) rfl)) (fun _ _ _ _ _ _ us hl => match us, hl with | [_], _ => rfl)
    base := topA X G c (List.mem_append_right _ (List.mem_of_getElem? (i := 5) rfl)) (List.mem_append_right _ (List.mem_of_getElem? (i := 5) rfl)) (fun _ _ _ _ _ _ us hl => match us, hl with | [_], _ => rfl)
    near := topA X G c (List.mem_append_right _ (List.mem_of_getElem? (i := 6) rfl)) (List.mem_append_right _ (List.mem_of_getElem? (i := 6) rfl)) (fun _ _ _ _ _ _ us hl => match us, hl with | [_, _], _ => rfl)
    lines := topA X G c (List.mem_append_right _ (List.mem_of_getElem? (i := 7) rfl)) (List.mem_append_right _ (List.mem_of_getElem? (i := 7) rfl)) (fun _ _ _ _ _ _ us hl => match us, hl with | [_], _ => rfl)
    lot := topA X G c (List.mem_append_right _ (List.mem_of_getElem? (i := 8) rfl)) (List.mem_append_right _ (List.mem_of_getElem? (i := 8) rfl)) (fun _ _ _ _ _ _ us hl => match us, hl with | [_, _], _ => rfl)
    lots := topA X G c (List.mem_append_right _ (List.mem_of_getElem? (i := 9) rfl)) (List.mem_append_right _ (List.mem_of_getElem? (i := 9) rfl)) (fun _ _ _ _ _ _ us hl => match us, hl with | [_, _], _ => rfl)
    owed := topA X G c (List.mem_append_right _ (List.mem_of_getElem? (i := 10) rfl)) (List.mem_append_right _ (List.mem_of_getElem? (i := 10) rfl)) (fun _ _ _ _ _ _ us hl => match us, hl with | [_], _ => rfl)
    lineT := topA X G c (List.mem_append_right _ (List.mem_of_getElem? (i := 11) rfl)) (List.mem_append_right _ (List.mem_of_getElem? (i := 11) rfl)) (fun _ _ _ _ _ _ us hl => match us, hl with | [_], _ => rfl)
    lotT := topA X G c (List.mem_append_right _ (List.mem_of_getElem? (i := 12) rfl)) (List.mem_append_right _ (List.mem_of_getElem? (i := 12) rfl)) (fun _ _ _ _ _ _ us hl => match us, hl with | [_], _ => rfl)
    made := topA X G c (List.mem_append_right _ (List.mem_of_getElem? (i := 13) rfl)) (List.mem_append_right _ (List.mem_of_getElem? (i := 13) rfl)) (fun _ _ _ _ _ _ us hl => match us, hl with | [_, _], _ => rfl)
    law := topA X G c (List.mem_append_right _ (List.mem_of_getElem? (i := 14) rfl)) (List.mem_append_right _ (List.mem_of_getElem? (i := 14) rfl)) (fun _ _ _ _ _ _ us hl => match us, hl with | [_], _ => rfl) }
  have e := hfa.symm.trans L.law.g
  cases e
  refine ⟨fdOf K (He.ga K "law"), fun s v => ?_, fun base _ _ => L.okLaw⟩
  obtain ⟨oc, od, kV, doc, pm, an, cdv, ct, osl, e, _, _⟩ := L.law.F.ex
  rw [show Hd.fdOf K (He.ga K "law") = _ from e]
  exact .of_eq rfl
end
end K2
open PySem PySem.W PySem.Calls PyProof.Rows
theorem PySem.Challenge.cw_elderlogs_k25_chains_put_together_holds : PySem.Challenge.rw_elderlogs_k25_chains_put_together.Holds := by
  w_on; o_law
  refine HandSHeadRun.head_any (r := OpenLaw.row PySem.Challenge.rw_elderlogs_k25_chains_put_together) (q := view (OpenLaw.row PySem.Challenge.rw_elderlogs_k25_chains_put_together).prog [50]) (H := K2.hk) (ob := K2.ob) (M := 8000) (loose := K2.others) (d := HandSHeadRun.topDef (OpenLaw.row PySem.Challenge.rw_elderlogs_k25_chains_put_together).prog 50) (kwd := []) K2.ob_eq
    (by kernel_rfl) (fun s => by kernel_rfl) K2.run (by kernel_rfl) (by kernel_rfl) (by kernel_rfl) (by rfl) (by first | assumption | decide +kernel) (by decide +kernel) ⟨rfl, rfl, rfl, rfl, rfl, by decide +kernel⟩ ?hw ?hc
  case hw => w_witness2
  case hc =>
    refine L2.walk_ofE (l := PySem.Challenge.rw_elderlogs_k25_chains_put_together) (n := 63) (k := 12) (x := "_law_script") (CX := L2.CX0) rfl (by decide) (by kernel_rfl) ⟨rfl, by decide, by decide⟩ ?F (fun _ _ _ _ z => z)
    intro w mg fa h Y G hmg0
    obtain ⟨K, KX, c, ex⟩ := Y
    have hmg : mg ("law" : PySem.Str) = some (.ref fa) := by
      have e : (HandSHeadRun.topDef (OpenLaw.row PySem.Challenge.rw_elderlogs_k25_chains_put_together).prog 50).name = ("law" : PySem.Str) := by kernel_rfl
      rw [← e]
      exact hmg0
    obtain ⟨fd, hb, hF⟩ := K2.facts (P := (PySem.Challenge.rw_elderlogs_k25_chains_put_together).prog) (w := w) KX G hmg c ex
    exact ⟨K, fd, K2.spLaw K, KX, hb, fun H a ns hl _ hS => ⟨a, ns, rfl, hS, hl, fun _ => rfl⟩, hF⟩


import PyProof.Rows.All
import Wide.All
import OpenK.AllK
import Wide.FinOn
import HandS.ForMost
import HandS.ForExc
import HandS.IsInst
import HandS.SetKeys
import HandS.Strs
import HandS.SetBool
import PyProof.IsiHeapPairs
import HandS.ClsMeth
import HandS.ExcInit
import HandS.ExcField
import KE.KExcIs
import HandS.ExcIs
import HandS.Text
import KE.GoesMore
import KE.GoesEnum
import HandS.HeadEnd
import PyProof.ReprRoads
import HandS.Defaults
import KE.KCallOwn
import KE.KStateDown
import HandS.Head0
import HandS.Head1
import HandS.Head2
import HandS.HeadHook1
import HandS.HeadHook2
import HandS.Zip
import HandS.Style
import PySem.Challenge.RW_elderlogs_k02_rows_made
import HandS.Star
import HandS.RaiseMore
set_option Elab.async false
set_option linter.all false
set_option maxRecDepth 100000
set_option maxHeartbeats 4000000
/-! What the laws' own helpers draw from; data. -/
namespace Lw
open PySem L2
/-! ### data -/
theorem ints_data {K : PySem.W.Frag} {H : Hp} : ∀ ns : List Int, DpAll K H (ns.map V.int) (ns.map PyData.int)
  | [] => .nil
  | n :: ns => .cons (.int n) (ints_data ns)
theorem ints_lay : ∀ ns : List Int, PyData.canLayAll0 (ns.map PyData.int) = true
  | [] => by simp [PyData.canLayAll0]
  | n :: ns => by simp [PyData.canLayAll0, PyData.canLay0, ints_lay ns]
theorem ints_depth : ∀ ns : List Int, PyData.depthAll (ns.map PyData.int) = 0
  | [] => by simp [PyData.depthAll]
  | n :: ns => by simp [PyData.depthAll, PyData.depth, ints_depth ns]
theorem ints_shaped (ns : List Int) : SeqAt.shaped (.list (ns.map PyData.int)) = true := by
  simp [SeqAt.shaped, PyData.canLay0, PyData.depth, ints_lay, ints_depth]
theorem nil_shaped : SeqAt.shaped (.list []) = true := by simp [SeqAt.shaped, PyData.canLay0, PyData.depth, PyData.canLayAll0, PyData.depthAll]
theorem eqv_nil (ds : List PyData) : PyData.eqv (.list ds) (.list []) = ds.isEmpty := by
  cases ds <;> simp [PyData.eqv, PyData.eqvAll]

/-! ### a deal: great numbers to draw from, and a mixed one -/
/-- at d the deal, its list ns at l, its mixed number m -/
structure At (H : Hp) (d l : Addr) (ns : List Int) (m : Int) : Prop where
  hd : H d = some (.lst [.ref l, .int m])
  hl : H l = some (.lst (ns.map V.int))
  len : ns.length ≤ 63
  nn : ∀ n ∈ ns, 0 ≤ n
  m0 : 0 ≤ m
  m1 : m < 2147483647
/-- H is G and a deal -/
structure Deal (G H : Hp) (d l : Addr) : Prop where
  same : Same G H
  gd : G d = none
  gl : G l = none
  ne : l ≠ d
  it : ∃ ns m, At H d l ns m
theorem Deal.put {G H : Hp} {d l : Addr} (D : Deal G H d l) {p : Addr} {o : HO} (h : H p = none) : Deal (upd G p o) (upd H p o) d l := by
  obtain ⟨ns, m, h1, h2, r1, r2, r3, r4⟩ := D.it
  have nd : d ≠ p := ne_of_none h1 h
  have nl : l ≠ p := ne_of_none h2 h
  refine ⟨fun b u e => ?_, by rw [upd_ne nd]; exact D.gd, by rw [upd_ne nl]; exact D.gl, D.ne, ns, m, by rw [upd_ne nd]; exact h1, by rw [upd_ne nl]; exact h2, r1, r2, r3, r4⟩
  by_cases q : b = p
  · subst q
    rw [upd_same] at e ⊢
    exact e
  · rw [upd_ne q] at e ⊢
    exact D.same b u e
/-- something new beside it -/
theorem At.put {H : Hp} {d l : Addr} {ns : List Int} {m : Int} (a : At H d l ns m) {p : Addr} {o : HO} (h : H p = none) : At (upd H p o) d l ns m :=
  ⟨by rw [upd_ne (ne_of_none a.hd h)]; exact a.hd, by rw [upd_ne (ne_of_none a.hl h)]; exact a.hl, a.len, a.nn, a.m0, a.m1⟩
theorem Deal.more {G H : Hp} {d l : Addr} (D : Deal G H d l) {p : Addr} {o : HO} (h : H p = none) : Deal G (upd H p o) d l :=
  ⟨fun b u e => by rw [upd_ne (ne_of_none (D.same b u e) h)]; exact D.same b u e, D.gd, D.gl, D.ne, let ⟨ns, m, a⟩ := D.it; ⟨ns, m, a.put h⟩⟩
/-- only the deal's own two lists change -/
theorem Deal.set {G H : Hp} {d l : Addr} (D : Deal G H d l) {H' : Hp} {ns : List Int} {m : Int} (k : ∀ b, b ≠ d → b ≠ l → H' b = H b) (a : At H' d l ns m) : Deal G H' d l :=
  ⟨fun b u e => by
    have nd : b ≠ d := fun z => by rw [z, D.gd] at e; cases e
    have nl : b ≠ l := fun z => by rw [z, D.gl] at e; cases e
    rw [k b nd nl]; exact D.same b u e, D.gd, D.gl, D.ne, ns, m, a⟩
/-- its list is another -/
theorem Deal.list {G H : Hp} {d l : Addr} {ns ns' : List Int} {m : Int} (D : Deal G H d l) (a : At H d l ns m) (h1 : ns'.length ≤ 63) (h2 : ∀ n ∈ ns', 0 ≤ n) : Deal G (upd H l (.lst (ns'.map V.int))) d l ∧ At (upd H l (.lst (ns'.map V.int))) d l ns' m := by
  have a' : At (upd H l (.lst (ns'.map V.int))) d l ns' m := ⟨by rw [upd_ne D.ne.symm]; exact a.hd, upd_same, h1, h2, a.m0, a.m1⟩
  exact ⟨D.set (fun b _ hb => upd_ne hb) a', a'⟩
/-- its mixed number is another -/
theorem Deal.mix {G H : Hp} {d l : Addr} {ns : List Int} {m m' : Int} (D : Deal G H d l) (a : At H d l ns m) (h1 : 0 ≤ m') (h2 : m' < 2147483647) : Deal G (upd H d (.lst [.ref l, .int m'])) d l ∧ At (upd H d (.lst [.ref l, .int m'])) d l ns m' := by
  have a' : At (upd H d (.lst [.ref l, .int m'])) d l ns m' := ⟨upd_same, by rw [upd_ne D.ne]; exact a.hl, a.len, a.nn, h1, h2⟩
  exact ⟨D.set (fun b hb _ => upd_ne hb) a', a'⟩
/-- the promise of a draw below k -/
def spDraw : Sp := fun vs H Q _ => ∃ (G : Hp) (d l : Addr) (k : Int), vs = [.ref d, .int k] ∧ Deal G H d l ∧ 0 < k ∧ k < 1000000 ∧ ∀ (H' : Hp) (r : Int), Deal G H' d l → 0 ≤ r → r < k → Q (.int r) H'

/-- what follows a statement, shown once -/
theorem seq_cut {t rest : TS} {D : Ends} {σ : St} {H : Hp} (Post : St → Hp → Prop) (after : ∀ σ1 H1, Post σ1 H1 → rest D σ1 H1) (go : (∀ σ1 H1, Post σ1 H1 → rest D σ1 H1) → t { D with nx := rest D } σ H) : tSeq t rest D σ H := go after

theorem at0 {a b : V} : atI [a, b] 0 = some a := rfl
theorem at1 {a b : V} : atI [a, b] 1 = some b := rfl
theorem set0 : ixN 2 0 = some 0 := rfl
theorem set1 : ixN 2 1 = some 1 := rfl
theorem split_end {ns : List Int} (h : ns ≠ []) : ∃ r n, ns = r ++ [n] := ⟨ns.dropLast, ns.getLast h, (List.dropLast_concat_getLast h).symm⟩
theorem at_end (r : List Int) (n : Int) : atI ((r ++ [n]).map V.int) (-1) = some (.int n) := by
  rw [List.map_append]
  exact atI_last _ _
theorem get_end (r : List Int) (n : Int) : ((r ++ [n]).map V.int)[((r ++ [n]).map V.int).length - 1]? = some (.int n) := by simp
theorem drop_end (r : List Int) (n : Int) : ((r ++ [n]).map V.int).dropLast = r.map V.int := by simp

/-! ### comprehensions whose turns leave what stood -/
/-- what a turn adds -/
def outOf (out : List (Option V)) : List V := out.filterMap id
theorem outOf_take {out : List (Option V)} {j : Nat} {o : Option V} (h : out[j]? = some o) : outOf (out.take (j + 1)) = outOf (out.take j) ++ o.toList := by
  unfold outOf
  rw [List.take_add_one, h, List.filterMap_append]
  cases o <;> rfl
theorem outOf_len (out : List (Option V)) : (outOf out).length ≤ out.length := List.length_filterMap_le _ _
/-- a turn: the test, then the element -/
structure Turns (H1 : Hp) (i : Nat) (σ : L2.St) (xs : List V) (out : List (Option V)) (tt : TT) (te : TE) : Prop where
  len : out.length = xs.length
  few : xs.length ≤ 100000
  keep : ∀ (j : Nat) (x y : V) (H : Hp) (Q : VK), xs[j]? = some x → out[j]? = some (some y) → Same H1 H → (∀ H', Same H H' → Q y H') → tt (σ.set i (some x)) H fun b H3 => b = true ∧ Same H H3 ∧ te (σ.set i (some x)) H3 Q
  drop : ∀ (j : Nat) (x : V) (H : Hp), xs[j]? = some x → out[j]? = some none → Same H1 H → tt (σ.set i (some x)) H fun b H3 => b = false ∧ Same H H3
/-- a test's reading grows with what is wanted -/
def MonoT (tt : TT) : Prop := ∀ σ H (Q Q' : Bool → Hp → Prop), (∀ b H1, Q b H1 → Q' b H1) → tt σ H Q → tt σ H Q'
theorem mono_yes : MonoT tYes := fun _ _ _ _ f h => f _ _ h
theorem turn_core {H1 H : Hp} {D : Addr} {i : Nat} {σ : L2.St} {xs : List V} {out : List (Option V)} {tt : TT} {te : TE} (T : Turns H1 i (σ.set i none) xs out tt te) (mono : MonoT tt) {j : Nat} {x : V} (hx : xs[j]? = some x)
    (s1 : Same H1 H) (hD : H D = some (.lst (outOf (out.take j)))) (un : H1 D = none) {Nx : Hp → Prop} (fin : ∀ H', Same H1 H' → H' D = some (.lst (outOf (out.take (j + 1)))) → Nx H') :
    gName i x (wipe σ [i]) H fun σ2 H2 => wipe σ2 [i] = wipe σ [i] ∧ tt σ2 H2 fun b H3 => if b = true then te σ2 H3 fun y H4 => ∃ acc, H4 D = some (.lst acc) ∧ acc.length < sizeLine ∧ Nx (upd H4 D (.lst (acc ++ [y]))) else Nx H3 := by
  refine ⟨by simp [wipe], ?_⟩
  show tt ((σ.set i none).set i (some x)) H _
  have hj : j < out.length := by rw [T.len]; exact (List.getElem?_eq_some_iff.mp hx).1
  have ho : out[j]? = some out[j] := List.getElem?_eq_getElem hj
  cases e : out[j] with
  | none =>
    rw [e] at ho
    refine mono _ _ _ _ (fun b H3 ⟨eb, s3⟩ => ?_) (T.drop j x H hx ho s1)
    subst eb
    refine iteF (fin H3 (s1.trans s3) ?_)
    rw [outOf_take ho, Option.toList_none, List.append_nil]
    exact s3 _ _ hD
  | some y =>
    rw [e] at ho
    refine mono _ _ _ _ ?_ (T.keep j x y H (fun y H4 => ∃ acc, H4 D = some (.lst acc) ∧ acc.length < sizeLine ∧ Nx (upd H4 D (.lst (acc ++ [y])))) hx ho s1 ?_)
    · rintro b H3 ⟨eb, s3, q⟩
      subst eb
      exact iteT q
    · intro H4 s4
      refine ⟨_, s4 _ _ hD, ?_, fin _ (fun b o eb => ?_) ?_⟩
      · have := outOf_len (out.take j)
        rw [List.length_take] at this
        have l2 := T.few
        have l3 := T.len
        have : (outOf (out.take j)).length ≤ 100000 := by omega
        exact Nat.lt_of_le_of_lt this (by decide)
      · rw [upd_ne (ne_of_none eb un)]
        exact s4 _ _ (s1 _ _ eb)
      · rw [upd_same, outOf_take ho]
        rfl
theorem same_new {H : Hp} {p : Addr} {o : HO} (un : H p = none) : Same H (upd H p o) := fun b u e => by rw [upd_ne (ne_of_none e un)]; exact e
theorem outOf_zero (out : List (Option V)) : outOf (out.take 0) = [] := by simp [outOf]
/-- over a list -/
theorem lc_of_list {K : PySem.W.Frag} {a : Addr} {H1 : Hp} {D : Addr} {i : Nat} {σ : L2.St} {xs : List V} (out : List (Option V)) {tt : TT} {te : TE} {Qd : Hp → Prop} (hl : SqL K H1 a xs) (un : H1 D = none) (T : Turns H1 i (σ.set i none) xs out tt te) (mono : MonoT tt)
    (fin : ∀ H', Same H1 H' → H' D = some (.lst (outOf out)) → Qd H') :
    ∃ W : Nat → Nat → Hp → Prop, (∃ m, W 0 m (upd H1 D (.lst []))) ∧ ∀ i' m H, W i' m H →
      ((Itl K a).stop i' H ∧ Qd H) ∨ ((Itl K a).go i' H ∧ ∃ Nx : Hp → Prop, (∀ H', Nx H' → ∃ m', m' < m ∧ W (i' + 1) m' H') ∧ ∀ x H', (Itl K a).yld i' H x H' → gName i x (wipe σ [i]) H' fun σ2 H2 => wipe σ2 [i] = wipe σ [i] ∧ tt σ2 H2 fun b H3 =>
        if b = true then te σ2 H3 fun y H4 => ∃ acc, H4 D = some (.lst acc) ∧ acc.length < sizeLine ∧ Nx (upd H4 D (.lst (acc ++ [y]))) else Nx H3) := by
  refine lc_list (K := K) (a := a) (xs := xs) (fun j H => Same H1 H ∧ H D = some (.lst (outOf (out.take j)))) ⟨same_new un, by rw [upd_same, outOf_zero]⟩ (fun j H _ q => q.1.seq hl) (fun j x H hx q => ?_) fun H q => fin H q.1 ?_
  · exact turn_core T mono hx q.1 q.2 un fun H' a b => ⟨a, b⟩
  · have q2 := q.2
    rw [← T.len, List.take_length] at q2
    exact q2
theorem same_tup {K : PySem.W.Frag} {H H' : Hp} {a : Addr} {xs : List V} (e : Same H H') (h : SqT K H a xs) : SqT K H' a xs := by
  rcases h with (h | ⟨o, h⟩) | h
  · exact .inl (.inl (e _ _ h))
  · exact .inl (.inr ⟨o, e _ _ h⟩)
  · exact .inr h
/-- over a tuple -/
theorem lc_of_tup {K : PySem.W.Frag} {a : Addr} {H1 : Hp} {D : Addr} {i : Nat} {σ : L2.St} {xs : List V} (out : List (Option V)) {tt : TT} {te : TE} {Qd : Hp → Prop} (hl : SqT K H1 a xs) (un : H1 D = none) (T : Turns H1 i (σ.set i none) xs out tt te) (mono : MonoT tt)
    (fin : ∀ H', Same H1 H' → H' D = some (.lst (outOf out)) → Qd H') :
    ∃ W : Nat → Nat → Hp → Prop, (∃ m, W 0 m (upd H1 D (.lst []))) ∧ ∀ i' m H, W i' m H →
      ((Itt K a).stop i' H ∧ Qd H) ∨ ((Itt K a).go i' H ∧ ∃ Nx : Hp → Prop, (∀ H', Nx H' → ∃ m', m' < m ∧ W (i' + 1) m' H') ∧ ∀ x H', (Itt K a).yld i' H x H' → gName i x (wipe σ [i]) H' fun σ2 H2 => wipe σ2 [i] = wipe σ [i] ∧ tt σ2 H2 fun b H3 =>
        if b = true then te σ2 H3 fun y H4 => ∃ acc, H4 D = some (.lst acc) ∧ acc.length < sizeLine ∧ Nx (upd H4 D (.lst (acc ++ [y]))) else Nx H3) := by
  refine lc_tup (K := K) (a := a) (xs := xs) (fun j H => Same H1 H ∧ H D = some (.lst (outOf (out.take j)))) ⟨same_new un, by rw [upd_same, outOf_zero]⟩ (fun j H _ q => same_tup q.1 hl) (fun j x H hx q => ?_) fun H q => fin H q.1 ?_
  · exact turn_core T mono hx q.1 q.2 un fun H' a b => ⟨a, b⟩
  · have q2 := q.2
    rw [← T.len, List.take_length] at q2
    exact q2
theorem outOf_some (ys : List V) : outOf (ys.map some) = ys := by simp [outOf]
theorem out_map (f : V → V) : ∀ xs : List V, outOf (xs.map fun x => some (f x)) = xs.map f
  | [] => rfl
  | x :: r => by
    have ih := out_map f r
    unfold outOf at ih ⊢
    rw [List.map_cons, List.map_cons, List.filterMap_cons]
    exact congrArg _ ih
/-- no test -/
theorem turns_map {H1 : Hp} {i : Nat} {σ : L2.St} {xs : List V} (f : V → V) {te : TE} (few : xs.length ≤ 100000)
    (el : ∀ x H (Q : VK), x ∈ xs → Same H1 H → (∀ H', Same H H' → Q (f x) H') → te (σ.set i (some x)) H Q) : Turns H1 i σ xs (xs.map fun x => some (f x)) tYes te where
  len := by simp
  few := few
  keep := fun j x y H Q hx hy s1 q => by
    rw [List.getElem?_map, hx] at hy
    simp only [Option.map_some, Option.some.injEq] at hy
    subst hy
    exact ⟨rfl, Same.refl H, el x H Q (List.mem_of_getElem? hx) s1 q⟩
  drop := fun j x H hx hy _ => by
    rw [List.getElem?_map, hx] at hy
    cases hy

/-! ### readings grow with what is wanted -/
def MonoE (t : TE) : Prop := ∀ σ H (Q Q' : VK), (∀ v H1, Q v H1 → Q' v H1) → t σ H Q → t σ H Q'
def MonoR (r : R2) : Prop := ∀ x y H (Q Q' : VK), (∀ v H1, Q v H1 → Q' v H1) → r x y H Q → r x y H Q'
theorem mono_var {i : Nat} : MonoE (tVar i) := fun _ _ _ _ f ⟨v, e, q⟩ => ⟨v, e, f _ _ q⟩
theorem mono_c {v : V} : MonoE (tC v) := fun _ _ _ _ f q => f _ _ q
theorem mono_op {r : R2} {ta tb : TE} (hr : MonoR r) (ha : MonoE ta) (hb : MonoE tb) : MonoE (tOp r ta tb) := fun σ H Q Q' f q => ha _ _ _ _ (fun x H1 q1 => hb _ _ _ _ (fun y H2 q2 => hr _ _ _ _ _ f q2) q1) q
theorem mono_rI {C : Int → Int → Prop} {g : Int → Int → V} : MonoR (rI C g) := fun _ _ _ _ _ f ⟨i, j, e1, e2, c, q⟩ => ⟨i, j, e1, e2, c, f _ _ q⟩
theorem mono_rI0 {g : Int → Int → V} : MonoR (rI0 g) := fun _ _ _ _ _ f ⟨i, j, e1, e2, q⟩ => ⟨i, j, e1, e2, f _ _ q⟩
theorem mono_rEq : MonoR rEq := fun _ _ _ _ _ f ⟨e, q⟩ => ⟨e, f _ _ q⟩
theorem mono_rNe : MonoR rNe := fun _ _ _ _ _ f ⟨e, q⟩ => ⟨e, f _ _ q⟩
theorem mono_test {t : TE} (h : MonoE t) : MonoT (tTest t) := fun _ _ _ _ f q => h _ _ _ _ (fun _ _ ⟨k, e, q1⟩ => ⟨k, e, f _ _ q1⟩) q
theorem mono_tB {t : TE} (h : MonoE t) : MonoT (tB t) := fun _ _ _ _ f q => h _ _ _ _ (fun _ _ ⟨k, e, q1⟩ => ⟨k, e, f _ _ q1⟩) q

/-! ### a deal's making, a pick -/
def mag (i : Int) : Int := if i < 0 then -i else i
theorem mag_nn (i : Int) : 0 ≤ mag i := by unfold mag; split <;> omega
theorem cut_ints (ns : List Int) (lo hi : Option Int) : ∃ ms : List Int, cutV (ns.map V.int) lo hi = ms.map V.int ∧ ms.length ≤ ns.length := by
  refine ⟨(ns.drop (HT.sIx ns.length 0 lo)).take (HT.sIx ns.length ns.length hi - HT.sIx ns.length 0 lo), ?_, ?_⟩
  · unfold cutV
    rw [List.length_map, List.map_take, List.map_drop]
  · rw [List.length_take, List.length_drop]
    omega
theorem mem_ints {x : V} {ns : List Int} (h : x ∈ ns.map V.int) : ∃ n, n ∈ ns ∧ x = V.int n := by
  obtain ⟨n, hn, e⟩ := List.mem_map.mp h
  exact ⟨n, hn, e.symm⟩
/-- a deal that is made: b a number from 0 on -/
def spDeal (K : PySem.W.Frag) : Sp := fun vs H Q _ => ∃ (a : Addr) (ns : List Int) (b : Int), vs = [.ref a, .int b] ∧ SqL K H a (ns.map V.int) ∧ ns.length ≤ 63 ∧ 0 ≤ b ∧ b < 1000 ∧
  ∀ (H' : Hp) (d l : Addr), Deal H H' d l → Q (.ref d) H'
/-- one of these, a list or a tuple of at least one -/
def spPick (K : PySem.W.Frag) : Sp := fun vs H Q _ => ∃ (G : Hp) (d l a : Addr) (xs : List V), vs = [.ref d, .ref a] ∧ Deal G H d l ∧ SqL K G a xs ∧ xs ≠ [] ∧ xs.length < 1000 ∧ ∀ (H' : Hp) (x : V), Deal G H' d l → x ∈ xs → Q x H'
theorem at_int {xs : List V} {r : Int} (h0 : 0 ≤ r) (h1 : r < xs.length) : ∃ x, x ∈ xs ∧ atI xs r = some x := by
  have h : r.toNat < xs.length := by omega
  refine ⟨xs[r.toNat], List.getElem_mem h, ?_⟩
  have q := atI_nat (List.getElem?_eq_getElem h)
  rwa [Int.toNat_of_nonneg h0] at q
def magV : V → V
  | .int i => .int (mag i)
  | v => v
theorem magV_map (ms : List Int) : (ms.map V.int).map magV = (ms.map mag).map V.int := by
  rw [List.map_map, List.map_map]; rfl
def bigV : V → Option V
  | .int i => if decide ((10 : Int) ^ (18 : Int).toNat ≤ i) = true then some (.int i) else none
  | _ => none
theorem big_out (ms : List Int) : outOf ((ms.map V.int).map bigV) = (ms.filter fun i => decide ((10 : Int) ^ (18 : Int).toNat ≤ i)).map V.int := by
  unfold outOf
  induction ms with
  | nil => rfl
  | cons m r ih =>
    rw [List.map_cons, List.map_cons, List.filterMap_cons, List.filter_cons]
    by_cases h : decide ((10 : Int) ^ (18 : Int).toNat ≤ m) = true
    · have e : bigV (.int m) = some (.int m) := if_pos h
      rw [if_pos h, List.map_cons, e]
      exact congrArg _ ih
    · have e : bigV (.int m) = none := if_neg h
      rw [if_neg h, e]
      exact ih

/-! ### data: what stands stays; its type -/
mutual
theorem dp_same {K : PySem.W.Frag} {H H' : Hp} (e : Same H H') : ∀ (d : PyData) (v : V), Dp K H v d → Dp K H' v d
  | .none, _, h => by cases h; exact .non
  | .bool b, _, h => by cases h; exact .bl b
  | .int i, _, h => by cases h; exact .int i
  | .str x, _, h => by cases h; exact .str x
  | .list ds, _, h => by
    cases h with
    | lst h1 h2 => exact .lst (e.seq h1) (dpAll_same e ds _ h2)
  | .tuple ds, _, h => by
    cases h with
    | tup h1 h2 => exact .tup (same_tup e h1) (dpAll_same e ds _ h2)
  | .dict _, _, h => by cases h
theorem dpAll_same {K : PySem.W.Frag} {H H' : Hp} (e : Same H H') : ∀ (ds : List PyData) (vs : List V), DpAll K H vs ds → DpAll K H' vs ds
  | [], _, h => by cases h; exact .nil
  | d :: ds, _, h => by
    cases h with
    | cons h1 h2 => exact .cons (dp_same e d _ h1) (dpAll_same e ds _ h2)
end
theorem dpAll_len {K : PySem.W.Frag} {H : Hp} : ∀ {vs : List V} {ds : List PyData}, DpAll K H vs ds → vs.length = ds.length
  | _, _, .nil => rfl
  | _, _, .cons _ t => congrArg (· + 1) (dpAll_len t)
theorem dpAll_at {K : PySem.W.Frag} {H : Hp} : ∀ {vs : List V} {ds : List PyData} {i : Nat} {v : V}, DpAll K H vs ds → vs[i]? = some v → ∃ d, ds[i]? = some d ∧ Dp K H v d
  | _, _, _, _, .nil, e => by simp at e
  | _, _, 0, _, .cons h _, e => by
    have e' := Option.some.inj e
    subst e'
    exact ⟨_, rfl, h⟩
  | _, _, i + 1, _, .cons _ t, e => dpAll_at (i := i) t (by simpa using e)
theorem dpAll_mem {K : PySem.W.Frag} {H : Hp} {vs : List V} {ds : List PyData} {v : V} (h : DpAll K H vs ds) (m : v ∈ vs) : ∃ d, d ∈ ds ∧ Dp K H v d := by
  obtain ⟨i, hi⟩ := List.getElem?_of_mem m
  obtain ⟨d, e, q⟩ := dpAll_at h hi
  exact ⟨d, List.mem_of_getElem? e, q⟩
def tyD : PyData → String
  | .none => "NoneType" | .bool _ => "bool" | .int _ => "int" | .str _ => "str" | .list _ => "list" | .tuple _ => "tuple" | .dict _ => "dict"
theorem ty_data {K : PySem.W.Frag} {H : Hp} {v : V} {d : PyData} (h : Dp K H v d) : TyX K H v (.type (tyD d)) := by
  cases h with
  | non => exact .base .non
  | bl b => exact .base (.bl b)
  | int i => exact .base (.int i)
  | str x => exact .base (.str x)
  | lst hs _ =>
    rcases hs with (hs | ⟨o, hs⟩) | ⟨o, _, _, hs, hc, _⟩
    · exact .base (.lst hs)
    · exact .base (.frz hs)
    · exact .kList hs hc
  | tup hs _ =>
    rcases hs with (hs | ⟨o, hs⟩) | ⟨o, _, _, hs, hc, _⟩
    · exact .base (.tup hs)
    · exact .fTuple hs
    · exact .kTuple hs hc
def isStr : PyData → Bool | .str _ => true | _ => false
def isTup : PyData → Bool | .tuple _ => true | _ => false
def isSeq : PyData → Bool | .list _ => true | .tuple _ => true | _ => false
theorem kit_str {K : PySem.W.Frag} {d : PyData} (h : ∀ kvs, d ≠ .dict kvs) : PySem.W.kitOne K (.type (tyD d)) (.type "str") = some (isStr d) := by
  cases d with
  | dict kvs => exact absurd rfl (h kvs)
  | _ => exact kit_ty (by dsimp only [tyD, isStr, isTup]; decide +kernel)
theorem kit_tup {K : PySem.W.Frag} {d : PyData} (h : ∀ kvs, d ≠ .dict kvs) : PySem.W.kitOne K (.type (tyD d)) (.type "tuple") = some (isTup d) := by
  cases d with
  | dict kvs => exact absurd rfl (h kvs)
  | _ => exact kit_ty (by dsimp only [tyD, isStr, isTup]; decide +kernel)
theorem kit_seq {K : PySem.W.Frag} {d : PyData} (h : ∀ kvs, d ≠ .dict kvs) : PySem.W.kitAny K (.type (tyD d)) [.type "list", .type "tuple"] = some (isSeq d) := by
  cases d with
  | dict kvs => exact absurd rfl (h kvs)
  | list _ => exact kitAny_cons (b := true) (kit_ty (by dsimp only [tyD, isStr, isTup]; decide +kernel)) (fun z => nomatch z) (fun _ => rfl)
  | tuple _ => exact kitAny_cons (b := false) (kit_ty (by dsimp only [tyD, isStr, isTup]; decide +kernel)) (fun _ => kitAny_cons (b := true) (kit_ty (by dsimp only [tyD, isStr, isTup]; decide +kernel)) (fun z => nomatch z) (fun _ => rfl)) (fun z => nomatch z)
  | _ => exact kitAny_cons (b := false) (kit_ty (by dsimp only [tyD, isStr, isTup]; decide +kernel)) (fun _ => kitAny_cons (b := false) (kit_ty (by dsimp only [tyD, isStr, isTup]; decide +kernel)) (fun _ => kitAny_nil) (fun z => nomatch z)) (fun z => nomatch z)
theorem no_dict {K : PySem.W.Frag} {H : Hp} {v : V} {d : PyData} (h : Dp K H v d) : ∀ kvs, d ≠ .dict kvs := fun kvs z => by
  subst z
  cases h

mutual
/-- no dict in it, no long text, no long list -/
def fine : PyData → Bool
  | .str x => decide (x.length ≤ 1000) && PyData.strOk x
  | .list ds => decide (ds.length ≤ 1000) && fineAll ds
  | .tuple ds => decide (ds.length ≤ 1000) && fineAll ds
  | .dict _ => false
  | .none => true
  | .bool _ => true
  | .int _ => true
def fineAll : List PyData → Bool
  | [] => true
  | d :: ds => fine d && fineAll ds
end
theorem fineAll_mem : ∀ {ds : List PyData} {d : PyData}, fineAll ds = true → d ∈ ds → fine d = true
  | e :: ds, d, h, m => by
    have h' : (fine e && fineAll ds) = true := by rw [fineAll] at h; exact h
    obtain ⟨h1, h2⟩ := Bool.and_eq_true_iff.mp h'
    rcases List.mem_cons.mp m with q | q
    · rw [q]; exact h1
    · exact fineAll_mem h2 q

theorem fine_str {z : Str} (h : fine (.str z) = true) : z.length ≤ 1000 ∧ PyData.strOk z = true := by
  rw [fine] at h
  obtain ⟨h1, h2⟩ := Bool.and_eq_true_iff.mp h
  exact ⟨of_decide_eq_true h1, h2⟩
theorem strs_lay : ∀ zs : List Str, (∀ z ∈ zs, PyData.strOk z = true) → PyData.canLayAll0 (zs.map PyData.str) = true
  | [], _ => by simp [PyData.canLayAll0]
  | z :: r, h => by
    have h1 := h z List.mem_cons_self
    have h2 := strs_lay r fun y hy => h y (List.mem_cons_of_mem _ hy)
    simp [PyData.canLayAll0, PyData.canLay0, h1, h2]
theorem strs_depth : ∀ zs : List Str, PyData.depthAll (zs.map PyData.str) = 0
  | [] => by simp [PyData.depthAll]
  | z :: r => by simp [PyData.depthAll, PyData.depth, strs_depth r]
theorem strs_shaped {zs : List Str} (h : ∀ z ∈ zs, PyData.strOk z = true) : SeqAt.shaped (.list (zs.map PyData.str)) = true := by
  simp [SeqAt.shaped, PyData.canLay0, PyData.depth, strs_lay zs h, strs_depth]
theorem strs_data {K : PySem.W.Frag} {H : Hp} : ∀ zs : List Str, DpAll K H (zs.map V.str) (zs.map PyData.str)
  | [] => .nil
  | z :: r => .cons (.str z) (strs_data r)

/-! ### a comprehension over a text -/
abbrev signsOf (z : Str) : List V := z.cps.toList.map fun c => V.str ⟨#[c]⟩
theorem lc_of_str {z : Str} {H1 : Hp} {D : Addr} {i : Nat} {σ : L2.St} (out : List (Option V)) {tt : TT} {te : TE} {Qd : Hp → Prop} (un : H1 D = none) (T : Turns H1 i (σ.set i none) (signsOf z) out tt te) (mono : MonoT tt)
    (fin : ∀ H', Same H1 H' → H' D = some (.lst (outOf out)) → Qd H') :
    ∃ W : Nat → Nat → Hp → Prop, (∃ m, W 0 m (upd H1 D (.lst []))) ∧ ∀ i' m H, W i' m H →
      ((Its z).stop i' H ∧ Qd H) ∨ ((Its z).go i' H ∧ ∃ Nx : Hp → Prop, (∀ H', Nx H' → ∃ m', m' < m ∧ W (i' + 1) m' H') ∧ ∀ x H', (Its z).yld i' H x H' → gName i x (wipe σ [i]) H' fun σ2 H2 => wipe σ2 [i] = wipe σ [i] ∧ tt σ2 H2 fun b H3 =>
        if b = true then te σ2 H3 fun y H4 => ∃ acc, H4 D = some (.lst acc) ∧ acc.length < sizeLine ∧ Nx (upd H4 D (.lst (acc ++ [y]))) else Nx H3) := by
  refine ⟨fun j m H => m = z.cps.size - j ∧ j ≤ z.cps.size ∧ Same H1 H ∧ H D = some (.lst (outOf (out.take j))), ⟨z.cps.size, rfl, Nat.zero_le _, same_new un, by rw [upd_same, outOf_zero]⟩, ?_⟩
  rintro j m H ⟨rfl, hj, s1, hD⟩
  have ol : out.length = z.cps.size := by rw [T.len, List.length_map, Array.length_toList]
  by_cases lt : j < z.cps.size
  · refine .inr ⟨lt, fun H' => Same H1 H' ∧ H' D = some (.lst (outOf (out.take (j + 1)))), fun H' q => ⟨z.cps.size - (j + 1), by omega, rfl, lt, q⟩, fun x H' y => ?_⟩
    obtain ⟨rfl, c, hc, rfl⟩ := y
    refine turn_core T mono (j := j) ?_ s1 hD un fun H'' a b => ⟨a, b⟩
    rw [List.getElem?_map, Array.getElem?_toList, hc]
    rfl
  · have e : j = z.cps.size := by omega
    subst e
    refine .inl ⟨Nat.le_refl _, fin H s1 ?_⟩
    rw [← ol, List.take_length] at hD
    exact hD
end Lw

set_option Elab.async false
set_option linter.all false
set_option maxRecDepth 100000
set_option maxHeartbeats 4000000
/-! Sets of keys (ints, texts) made of a list, a tuple, by a comprehension; their length. -/
namespace Sx
open PySem PySem.Spec PyProof.Rows L2

theorem key_beq (a b : Key) : (a == b) = true ↔ a = b := by
  cases a with
  | inl i =>
    cases b with
    | inl j => exact ⟨fun z => congrArg Sum.inl (eq_of_beq (show (i == j) = true from z)), fun z => by cases z; exact beq_self_eq_true i⟩
    | inr y => exact ⟨fun z => absurd (show false = true from z) Bool.false_ne_true, fun z => by cases z⟩
  | inr x =>
    cases b with
    | inl j => exact ⟨fun z => absurd (show false = true from z) Bool.false_ne_true, fun z => by cases z⟩
    | inr y => exact ⟨fun z => congrArg Sum.inr (eq_of_beq (show (x == y) = true from z)), fun z => by cases z; exact beq_self_eq_true x⟩
instance keyLaw : LawfulBEq Key where
  eq_of_beq := fun {a b} h => (key_beq a b).mp h
  rfl := fun {a} => (key_beq a a).mpr rfl

/-! ### each key once, in the order of its first place -/
def put1 (acc : List Key) (k : Key) : List Key := if k ∈ acc then acc else acc ++ [k]
def nub (l : List Key) : List Key := l.foldl put1 []
theorem nub_snoc (l : List Key) (k : Key) : nub (l ++ [k]) = put1 (nub l) k := by
  unfold nub; rw [List.foldl_append]; rfl
theorem mem_put1 {acc : List Key} {k x : Key} : x ∈ put1 acc k ↔ x ∈ acc ∨ x = k := by
  unfold put1
  by_cases h : k ∈ acc
  · rw [if_pos h]
    constructor
    · exact .inl
    · rintro (q | q)
      · exact q
      · rw [q]; exact h
  · rw [if_neg h]; simp
theorem mem_nub : ∀ (n : Nat) (l : List Key), l.length = n → ∀ x, x ∈ nub l ↔ x ∈ l
  | 0, l, h, x => by
    have e : l = [] := List.length_eq_zero_iff.mp h
    subst e; exact Iff.rfl
  | n + 1, l, h, x => by
    have ne : l ≠ [] := by intro e; subst e; simp at h
    obtain ⟨r, k, e⟩ : ∃ r k, l = r ++ [k] := ⟨l.dropLast, l.getLast ne, (List.dropLast_concat_getLast ne).symm⟩
    subst e
    have hr : r.length = n := by simpa using h
    rw [nub_snoc, mem_put1, mem_nub n r hr x]; simp
theorem mem_nub' {l : List Key} {x : Key} : x ∈ nub l ↔ x ∈ l := mem_nub l.length l rfl x
theorem len_put1 {acc : List Key} {k : Key} : (put1 acc k).length = if k ∈ acc then acc.length else acc.length + 1 := by
  unfold put1; split <;> simp
theorem len_nub_le : ∀ (n : Nat) (l : List Key), l.length = n → (nub l).length ≤ l.length
  | 0, l, h => by
    have e : l = [] := List.length_eq_zero_iff.mp h
    subst e; exact Nat.le_refl _
  | n + 1, l, h => by
    have ne : l ≠ [] := by intro e; subst e; simp at h
    obtain ⟨r, k, e⟩ : ∃ r k, l = r ++ [k] := ⟨l.dropLast, l.getLast ne, (List.dropLast_concat_getLast ne).symm⟩
    subst e
    have hr : r.length = n := by simpa using h
    have ih := len_nub_le n r hr
    rw [nub_snoc, len_put1, List.length_append, List.length_singleton]
    split <;> omega
/-- as many as there are: just if each stands once -/
theorem len_nub_iff : ∀ (n : Nat) (l : List Key), l.length = n → ((nub l).length = l.length ↔ l.Nodup)
  | 0, l, h => by
    have e : l = [] := List.length_eq_zero_iff.mp h
    subst e; simp [nub]
  | n + 1, l, h => by
    have ne : l ≠ [] := by intro e; subst e; simp at h
    obtain ⟨r, k, e⟩ : ∃ r k, l = r ++ [k] := ⟨l.dropLast, l.getLast ne, (List.dropLast_concat_getLast ne).symm⟩
    subst e
    have hr : r.length = n := by simpa using h
    have ih := len_nub_iff n r hr
    have le := len_nub_le n r hr
    rw [nub_snoc, len_put1, List.length_append, List.length_singleton, List.nodup_append]
    by_cases hk : k ∈ r
    · rw [if_pos (mem_nub'.mpr hk)]
      constructor
      · intro q; omega
      · rintro ⟨_, _, q⟩
        exact absurd rfl (q k hk k (by simp))
    · rw [if_neg fun z => hk (mem_nub'.mp z)]
      constructor
      · intro q
        refine ⟨ih.mp (by omega), by simp, fun a ha b hb => ?_⟩
        have : b = k := by simpa using hb
        subst this
        intro z; subst z; exact hk ha
      · rintro ⟨q, _, _⟩
        have := ih.mpr q
        omega
theorem nub_nodup_iff {l : List Key} : (nub l).length = l.length ↔ l.Nodup := len_nub_iff l.length l rfl

/-! ### filling -/
abbrev inPre (ks : List Key) (i : Nat) : Key → Bool := fun k => decide (k ∈ ks.take i)
abbrev HasSet (P : Program) (w : World) (h : Heap) (S : Addr) (ks : List Key) : Prop := h.SetOf (mixKind P w) S (fun k => decide (k ∈ ks)) (nub ks).length
theorem hasSet_next {P : Program} {w : World} {h : Heap} {S : Addr} {ks : List Key} {k : Key}
    (x : h.SetOf (mixKind P w) S (fun j => decide (j ∈ ks) || decide (j = k)) (if decide (k ∈ ks) = true then (nub ks).length else (nub ks).length + 1)) : HasSet P w h S (ks ++ [k]) := by
  refine SetOf_congr x (fun j => ?_) ?_
  · simp [Bool.decide_or]
  · rw [nub_snoc, len_put1]
    by_cases h : k ∈ ks
    · rw [if_pos (decide_eq_true h), if_pos (mem_nub'.mpr h)]
    · rw [if_neg (by simpa using h), if_neg fun z => h (mem_nub'.mp z)]
section
variable {P : Program} {w : World} {A : Around} {R : Result → Shared → Prop} {I : Addr} {fp wr : List Addr} {G : Array GenState → Array GenState → Prop} {n : Nat} {Pv : Nat → Value → Prop} {St : Nat → Shared → Prop}
theorem fill_loop (W : WalksS P w A.in1 I fp wr G n Pv St) (S : Addr) (away : S ∉ fp) (ks : List Key) (hlen : ks.length = n)
    (vals : ∀ i v, Pv i v → ∃ k, ks[i]? = some k ∧ RelV (kV k) v) (few : n + 1 < scanBound) :
    ∀ (left i : Nat) (s : Shared), n - i = left → i ≤ n → St i s → HasSet P w s.heap S (ks.take i) →
      (∀ s', Moved (S :: wr) G s s' → HasSet P w s'.heap S ks → R (.ok (.ret .none)) s') →
      codeAny (model P w) A (.builtin "set.update.loop" ⟨[.ref S, .ref I], []⟩) R s := by
  have Sw : S ∉ wr := fun z => away (W.sub _ z)
  have more : ∀ b ∈ wr, b ∈ S :: wr := fun _ hb => List.mem_cons_of_mem _ hb
  intro left
  induction left with
  | zero =>
    intro i s hl hi st hs fin
    have ei : i = n := by omega
    subst ei
    refine codeAny_builtin (A := A) PyProof.Rows.F.entry_set_update_loop ?_
    rw [Around.under_plainId (A := A) PyProof.Rows.F.plain_set_update_loop _]
    show wpAny (model P w) A.in1 (pyNext (.ref I) >>= _) _ _ s
    refine wpAny_bind (W.done s _ _ st fun s1 mv => ?_)
    show wpAny (model P w) A.in1 (ret Value.none) _ _ s1
    refine wpAny_pure (fin s1 (mv.mono more) ?_)
    rw [List.take_of_length_le (by omega)] at hs
    obtain ⟨o, es, ep, t, ho, r⟩ := hs
    exact ⟨o, es, ep, t, mv.heap S _ Sw ho, r⟩
  | succ left ih =>
    intro i s hl hi st hs fin
    have lt : i < n := by omega
    refine codeAny_builtin (A := A) PyProof.Rows.F.entry_set_update_loop ?_
    rw [Around.under_plainId (A := A) PyProof.Rows.F.plain_set_update_loop _]
    show wpAny (model P w) A.in1 (pyNext (.ref I) >>= _) _ _ s
    refine wpAny_bind (W.item i s _ _ lt st fun v s1 hv st1 mv => ?_)
    obtain ⟨k, hk, rv⟩ := vals i v hv
    have hs1 : HasSet P w s1.heap S (ks.take i) := by
      obtain ⟨o, es, ep, t, ho, r⟩ := hs
      exact ⟨o, es, ep, t, mv.heap S _ Sw ho, r⟩
    show wpAny (model P w) A.in1 (holding [v] (setAdd S v) >>= _) _ _ s1
    refine wpAny_bind (wpAny_holding ?_)
    unfold setAdd
    refine wpAny_holding (wpAny_bind ((mixKind P w).pyHash (k := k) (kV_is rv) ?_))
    have room : (nub (ks.take i)).length + 1 < scanBound := by
      have := len_nub_le _ (ks.take i) rfl
      rw [List.length_take] at this
      omega
    refine wpAny_setAddHashed_of (knd := mixKind P w) (s := { s1 with toks := s1.toks + 1 }) (kV_is rv) (key_scan rv) hs1 room fun h2 same hs2 => ?_
    have hs3 : HasSet P w h2 S (ks.take (i + 1)) := by
      rw [List.take_add_one, hk]
      exact hasSet_next hs2
    refine wpAny_pure ⟨plainId_quiet PyProof.Rows.F.plain_set_update_loop _, ih (i + 1) _ (by omega) lt (W.frame _ s1 _ _ st1 (Nat.le_succ _) fun b hb o e => ?_) hs3 fun s2 mv2 hs4 => ?_⟩
    · exact (same.2 b fun z : b = S => away (z ▸ hb)).trans e
    · refine fin s2 (Moved.trans W.gtrans ((mv.mono more).then_heap (Nat.le_succ _) fun b o hb e => ?_) mv2) hs4
      exact (same.2 b fun z : b = S => hb (z ▸ List.mem_cons_self)).trans e
end
end Sx

set_option Elab.async false
set_option linter.all false
set_option maxRecDepth 100000
set_option maxHeartbeats 4000000
namespace Sx
open PySem PySem.Spec PyProof.Rows L2
abbrev eset (led : Bool) : Obj := { cls := .type "set", dict := none, data := .set #[] 0 (.fresh 0 0 led) }
section
variable {P : Program} {w : World} {A : Around} {E : Value → Shared → Prop} {s : Shared}
theorem set_of_list {l : Addr} {items : Array Value} {ks : List Key} {Q : Value → Shared → Prop} (calm : A.handled = none) (hl : s.heap.IsList l items) (rk : Vals (ks.map kV) items.toList) (few : items.size + 1 < scanBound)
    (fin : ∀ (h' : Heap) (tk : Nat), HasSet P w h' s.heap.objs.size ks → (∀ b o, b < s.heap.objs.size → s.heap.get? b = some o → h'.get? b = some o) → Q (.ref s.heap.objs.size) { s with heap := h', toks := tk }) :
    wpAny (model P w) A (call (.type "set") [.ref l]) Q E s := by
  obtain ⟨c0, tl0, mro0⟩ := PySem.F.called_set.mro
  have made0 := PySem.F.called_set.made
  have sub0 := PySem.F.called_set.sub
  refine wpAny_call (codeAny_of_tree ?_)
  show wpAny (model P w) _ (callAny (.type "set") _) _ _ _
  refine wpAny_pure ⟨Code.quiet_builtin _ (by decide +kernel), codeAny_builtin PySem.F.entry_type_call ?_⟩
  rw [Around.under_plain (weight_type_call_type ("set") [Value.ref l] []) rfl]
  have nt0 := PySem.F.called_set.notType
  have cc0 := PySem.F.called_set.canCreate
  have tc0 := PySem.F.typeCall_set_1 (Value.ref l)
  repeat (any_goals (first | assumption | wp_step))
  refine codeAny_mono (code_set_new_1 (.ref l) (E := E) (Q₁ := fun ob s1 => ∃ led : Bool, ob = .ref s.heap.objs.size ∧ s1 = { s with heap := s.heap.push (eset led) }) fun led => ⟨led, rfl, rfl⟩) fun r s1 hr => ?_
  cases r with
  | error e => exact hr
  | ok fl =>
    cases fl with
    | next => exact hr.elim
    | brk => exact hr.elim
    | cont => exact hr.elim
    | ret ob =>
      obtain ⟨led, rfl, rfl⟩ := hr
      have gS : (s.heap.push (eset led)).get? s.heap.objs.size = some (eset led) := Heap.get?_push_size _ rfl
      have tS : Shared.TypeIs { s with heap := s.heap.push (eset led) } (.ref s.heap.objs.size) "set" := ⟨_, gS, rfl⟩
      have li0 := PySem.F.called_set.init.lookup
      have bi0 := PySem.F.called_set.init.bind (Value.ref s.heap.objs.size)
      repeat (any_goals (first | assumption | wp_step))
      refine codeAny_mono (codeAny_call_builtin (R := wants (fun r s2 => r = .none ∧ ∃ h' tk, s2 = { s with heap := h', toks := tk } ∧ HasSet P w h' s.heap.objs.size ks ∧ (∀ b o, b < s.heap.objs.size → s.heap.get? b = some o → h'.get? b = some o)) E)
        PySem.F.called_set.init.plain PySem.F.entry_set_init (check_set_init_1 tS ?_)) fun r2 s2 hr2 => ?_
      · obtain ⟨ol, gl, cl0, nl, dl0⟩ := hl
        obtain ⟨oc, od, ot, osl⟩ := ol
        simp only at cl0 dl0
        subst cl0; subst dl0
        have gl' : (s.heap.push (eset led)).get? l = some { cls := .type "list", dict := od, data := .seq items nl, slots := osl } := Heap.get?_push_of_some _ gl
        have sb1 := PySem.F.sub_list_set
        have sb2 := PySem.F.sub_list_frozenset
        have nd0 : (Value.type "list" == Value.type "dict") = false := by decide
        have hl1 : (s.heap.push (eset led)).IsList l items := ⟨_, gl', rfl, nl, rfl⟩
        unfold Builtin.«set.__init__» noKeywords Builtin.Frozenset.updateFrom
        generalize ePI : pyIter = PI
        wp_walk
        subst ePI
        refine wpAny_pyIter_list hl1 ?_
        refine wpAny_bind (wpAny_runValue ?_)
        have llt : l < s.heap.objs.size := Heap.lt_size gl
        have calm3 : A.in1.in1.in1.handled = none := by simp [calm]
        have apart : l ≠ (s.heap.push (eset led)).objs.size := by
          rw [Heap.size_push]
          exact Nat.ne_of_lt (Nat.lt_succ_of_lt llt)
        have away : s.heap.objs.size ∉ [(s.heap.push (eset led)).objs.size, l] := fun z => by
          rw [Heap.size_push] at z
          rcases List.mem_cons.mp z with z | z
          · exact absurd z (Nat.ne_of_lt (Nat.lt_succ_self _))
          · exact absurd (List.mem_singleton.mp z) (Nat.ne_of_gt llt)
        have vals : ∀ (i : Nat) (v : Value), items[i]? = some v → ∃ k, ks[i]? = some k ∧ RelV (kV k) v := fun i v hv => by
          have hv' : items.toList[i]? = some v := by rw [Array.getElem?_toList]; exact hv
          cases e : ks[i]? with
          | none =>
            have e2 : (ks.map kV)[i]? = none := by rw [List.getElem?_map, e]; rfl
            rw [rk.none_of e2] at hv'; cases hv'
          | some k =>
            have e2 : (ks.map kV)[i]? = some (kV k) := by rw [List.getElem?_map, e]; rfl
            obtain ⟨u, hu, ru⟩ := rk.get e2
            rw [hv'] at hu; cases hu
            exact ⟨k, rfl, ru⟩
        have hlen : ks.length = items.size := by
          have q := rk.length
          rw [List.length_map, Array.length_toList] at q
          exact q
        refine fill_loop ((Walks.list calm3 _ l apart items).toS) s.heap.objs.size away ks hlen vals few (items.size - 0) 0 _ (by omega) (Nat.zero_le _)
          ⟨⟨_, Heap.get?_push_size _ rfl, rfl, rfl⟩, (hl1.push _)⟩ ?first ?last
        case first =>
          have g0 : ((s.heap.push (eset led)).push { cls := .type "list_iterator", data := .fields #[.ref l, .int 0 0] }).get? s.heap.objs.size = some (eset led) := Heap.get?_push_of_some _ gS
          exact PyProof.Rows.SetOf_congr ((PyProof.Rows.setObjOf_fresh (knd := mixKind P w) led).setOf g0 (by unfold scanBound; omega)) (fun k => by simp) rfl
        case last =>
          intro s3 mv hs3
          obtain ⟨h3, g3, d3, t3, os3⟩ := s3
          have eg : g3 = s.gens := mv.gens
          have ed : d3 = s.drawn := mv.drawn
          have eo : os3 = s.os := mv.os
          subst eg; subst ed; subst eo
          show wpAny (model P w) _ _ _ _ _
          refine wpAny_pure ?_
          show wpAny (model P w) _ (ret Value.none) _ _ _
          refine wpAny_pure ⟨rfl, h3, t3, rfl, hs3, fun b o hb e => ?_⟩
          refine mv.heap b o (fun z => ?_) (Heap.get?_push_of_some _ (Heap.get?_push_of_some _ e))
          rcases List.mem_cons.mp z with z | z
          · exact absurd z (Nat.ne_of_lt hb)
          · have z1 := List.mem_singleton.mp z
            rw [Heap.size_push] at z1
            exact absurd z1 (Nat.ne_of_lt (Nat.lt_succ_of_lt hb))
      · cases r2 with
        | error e => exact hr2
        | ok fl2 =>
          cases fl2 with
          | ret r =>
            obtain ⟨rfl, h', tk, rfl, a1, a2⟩ := hr2
            repeat (any_goals (first | assumption | wp_step))
            exact fin _ _ a1 a2
          | _ => exact hr2.elim
theorem set_of_tuple {l : Addr} {items : Array Value} {ks : List Key} {Q : Value → Shared → Prop} (calm : A.handled = none) (hl : s.heap.IsTuple l items) (rk : Vals (ks.map kV) items.toList) (few : items.size + 1 < scanBound)
    (fin : ∀ (h' : Heap) (tk : Nat), HasSet P w h' s.heap.objs.size ks → (∀ b o, b < s.heap.objs.size → s.heap.get? b = some o → h'.get? b = some o) → Q (.ref s.heap.objs.size) { s with heap := h', toks := tk }) :
    wpAny (model P w) A (call (.type "set") [.ref l]) Q E s := by
  obtain ⟨c0, tl0, mro0⟩ := PySem.F.called_set.mro
  have made0 := PySem.F.called_set.made
  have sub0 := PySem.F.called_set.sub
  refine wpAny_call (codeAny_of_tree ?_)
  show wpAny (model P w) _ (callAny (.type "set") _) _ _ _
  refine wpAny_pure ⟨Code.quiet_builtin _ (by decide +kernel), codeAny_builtin PySem.F.entry_type_call ?_⟩
  rw [Around.under_plain (weight_type_call_type ("set") [Value.ref l] []) rfl]
  have nt0 := PySem.F.called_set.notType
  have cc0 := PySem.F.called_set.canCreate
  have tc0 := PySem.F.typeCall_set_1 (Value.ref l)
  repeat (any_goals (first | assumption | wp_step))
  refine codeAny_mono (code_set_new_1 (.ref l) (E := E) (Q₁ := fun ob s1 => ∃ led : Bool, ob = .ref s.heap.objs.size ∧ s1 = { s with heap := s.heap.push (eset led) }) fun led => ⟨led, rfl, rfl⟩) fun r s1 hr => ?_
  cases r with
  | error e => exact hr
  | ok fl =>
    cases fl with
    | next => exact hr.elim
    | brk => exact hr.elim
    | cont => exact hr.elim
    | ret ob =>
      obtain ⟨led, rfl, rfl⟩ := hr
      have gS : (s.heap.push (eset led)).get? s.heap.objs.size = some (eset led) := Heap.get?_push_size _ rfl
      have tS : Shared.TypeIs { s with heap := s.heap.push (eset led) } (.ref s.heap.objs.size) "set" := ⟨_, gS, rfl⟩
      have li0 := PySem.F.called_set.init.lookup
      have bi0 := PySem.F.called_set.init.bind (Value.ref s.heap.objs.size)
      repeat (any_goals (first | assumption | wp_step))
      refine codeAny_mono (codeAny_call_builtin (R := wants (fun r s2 => r = .none ∧ ∃ h' tk, s2 = { s with heap := h', toks := tk } ∧ HasSet P w h' s.heap.objs.size ks ∧ (∀ b o, b < s.heap.objs.size → s.heap.get? b = some o → h'.get? b = some o)) E)
        PySem.F.called_set.init.plain PySem.F.entry_set_init (check_set_init_1 tS ?_)) fun r2 s2 hr2 => ?_
      · obtain ⟨ol, gl, cl0, nl, dl0⟩ := hl
        obtain ⟨oc, od, ot, osl⟩ := ol
        simp only at cl0 dl0
        subst cl0; subst dl0
        have gl' : (s.heap.push (eset led)).get? l = some { cls := .type "tuple", dict := od, data := .seq items nl, slots := osl } := Heap.get?_push_of_some _ gl
        have sb1 := PySem.F.sub_tuple_set
        have sb2 := PySem.F.sub_tuple_frozenset
        have nd0 : (Value.type "tuple" == Value.type "dict") = false := by decide
        have hl1 : (s.heap.push (eset led)).IsTuple l items := ⟨_, gl', rfl, nl, rfl⟩
        unfold Builtin.«set.__init__» noKeywords Builtin.Frozenset.updateFrom
        generalize ePI : pyIter = PI
        wp_walk
        subst ePI
        refine wpAny_pyIter_tuple hl1 ?_
        refine wpAny_bind (wpAny_runValue ?_)
        have llt : l < s.heap.objs.size := Heap.lt_size gl
        have calm3 : A.in1.in1.in1.handled = none := by simp [calm]
        have apart : l ≠ (s.heap.push (eset led)).objs.size := by
          rw [Heap.size_push]
          exact Nat.ne_of_lt (Nat.lt_succ_of_lt llt)
        have away : s.heap.objs.size ∉ [(s.heap.push (eset led)).objs.size, l] := fun z => by
          rw [Heap.size_push] at z
          rcases List.mem_cons.mp z with z | z
          · exact absurd z (Nat.ne_of_lt (Nat.lt_succ_self _))
          · exact absurd (List.mem_singleton.mp z) (Nat.ne_of_gt llt)
        have vals : ∀ (i : Nat) (v : Value), items[i]? = some v → ∃ k, ks[i]? = some k ∧ RelV (kV k) v := fun i v hv => by
          have hv' : items.toList[i]? = some v := by rw [Array.getElem?_toList]; exact hv
          cases e : ks[i]? with
          | none =>
            have e2 : (ks.map kV)[i]? = none := by rw [List.getElem?_map, e]; rfl
            rw [rk.none_of e2] at hv'; cases hv'
          | some k =>
            have e2 : (ks.map kV)[i]? = some (kV k) := by rw [List.getElem?_map, e]; rfl
            obtain ⟨u, hu, ru⟩ := rk.get e2
            rw [hv'] at hu; cases hu
            exact ⟨k, rfl, ru⟩
        have hlen : ks.length = items.size := by
          have q := rk.length
          rw [List.length_map, Array.length_toList] at q
          exact q
        refine fill_loop ((Walks.tuple calm3 _ l apart items).toS) s.heap.objs.size away ks hlen vals few (items.size - 0) 0 _ (by omega) (Nat.zero_le _)
          ⟨⟨_, Heap.get?_push_size _ rfl, rfl, rfl⟩, (hl1.push _)⟩ ?first ?last
        case first =>
          have g0 : ((s.heap.push (eset led)).push { cls := .type "tuple_iterator", data := .fields #[.ref l, .int 0 0] }).get? s.heap.objs.size = some (eset led) := Heap.get?_push_of_some _ gS
          exact PyProof.Rows.SetOf_congr ((PyProof.Rows.setObjOf_fresh (knd := mixKind P w) led).setOf g0 (by unfold scanBound; omega)) (fun k => by simp) rfl
        case last =>
          intro s3 mv hs3
          obtain ⟨h3, g3, d3, t3, os3⟩ := s3
          have eg : g3 = s.gens := mv.gens
          have ed : d3 = s.drawn := mv.drawn
          have eo : os3 = s.os := mv.os
          subst eg; subst ed; subst eo
          show wpAny (model P w) _ _ _ _ _
          refine wpAny_pure ?_
          show wpAny (model P w) _ (ret Value.none) _ _ _
          refine wpAny_pure ⟨rfl, h3, t3, rfl, hs3, fun b o hb e => ?_⟩
          refine mv.heap b o (fun z => ?_) (Heap.get?_push_of_some _ (Heap.get?_push_of_some _ e))
          rcases List.mem_cons.mp z with z | z
          · exact absurd z (Nat.ne_of_lt hb)
          · have z1 := List.mem_singleton.mp z
            rw [Heap.size_push] at z1
            exact absurd z1 (Nat.ne_of_lt (Nat.lt_succ_of_lt hb))
      · cases r2 with
        | error e => exact hr2
        | ok fl2 =>
          cases fl2 with
          | ret r =>
            obtain ⟨rfl, h', tk, rfl, a1, a2⟩ := hr2
            repeat (any_goals (first | assumption | wp_step))
            exact fin _ _ a1 a2
          | _ => exact hr2.elim
end

/-! ### over the layer -/
section
variable {X : Cx}
/-- set(xs), xs a list or a tuple of keys -/
def rSetOf (K : PySem.W.Frag) (P : Program) (w : World) : List V → Hp → VK → Prop := fun xs H Q => ∃ (l : Addr) (ks : List Key), xs = [V.ref l] ∧ (SqL K H l (ks.map kV) ∨ SqT K H l (ks.map kV)) ∧ ks.length ≤ 4000 ∧
  ∀ p, H p = none → Q (.ref p) (upd H p (SetK P w p (fun k => decide (k ∈ ks)) (nub ks).length))
theorem cr_setOf (calm : X.calm = true) : CallR X (.type "set") (rSetOf X.K X.prog X.w) := by
  intro pins s σ H xs us Q I r h
  obtain ⟨l, ks, rfl, hl, few, q⟩ := h
  obtain ⟨u, rfl, rl⟩ := vals1 r
  obtain rfl : u = Value.ref l := rl
  have un : H s.heap.objs.size = none := I.hok.fresh (Nat.le_refl _)
  have done : ∀ (h' : Heap) (tk : Nat), HasSet X.prog X.w h' s.heap.objs.size ks → (∀ b o, b < s.heap.objs.size → s.heap.get? b = some o → h'.get? b = some o) → EP X pins σ Q (.ref s.heap.objs.size) { s with heap := h', toks := tk } := fun h' tk hs kp =>
    ⟨.ref s.heap.objs.size, upd H s.heap.objs.size (SetK X.prog X.w s.heap.objs.size (fun k => decide (k ∈ ks)) (nub ks).length), I.laid (t' := tk) (fun b o e => kp b o (Heap.lt_size e) e) (Nat.le_refl _) (setK_new hs), rfl, q _ un⟩
  rcases hl with hl | hl
  · obtain ⟨its, rv, pl, hz⟩ := I.list hl
    have e1 := rv.length
    rw [List.length_map] at e1
    exact set_of_list (I.ok.hd calm) pl.isList (by simpa using rv) (by rw [List.size_toArray]; unfold scanBound; omega) done
  · obtain ⟨its, rv, pl, hz⟩ := I.tuple hl
    have e1 := rv.length
    rw [List.length_map] at e1
    exact set_of_tuple (I.ok.hd calm) pl (by simpa using rv) (by rw [List.size_toArray]; unfold scanBound; omega) done
/-- len(s), s a set of keys -/
def rLenK (P : Program) (w : World) : List V → Hp → VK → Prop := fun xs H Q => ∃ (a : Addr) (S : Key → Bool) (n : Nat), xs = [V.ref a] ∧ H a = some (SetK P w a S n) ∧ Q (.int (n : Nat)) H
theorem cr_lenK : CallR X (.builtin "len") (rLenK X.prog X.w) := by
  intro pins s σ H xs us Q I r h
  obtain ⟨a, S, n, rfl, ha, q⟩ := h
  obtain ⟨u, rfl, rl⟩ := vals1 r
  obtain rfl : u = Value.ref a := rl
  obtain ⟨o, es, ep, t, ho, hex, hd, _, _, hb, hf, hn⟩ := setK_get I ha
  refine call_len_set ho hex hd hf (by unfold scanBound at hb; omega) ⟨.int (n : Nat), H, I.tok _, ⟨_, by rw [hn]⟩, q⟩
/-- either of two rules for one call -/
theorem CallR.or {f : Value} {r r' : List V → Hp → VK → Prop} (h : CallR X f r) (h' : CallR X f r') : CallR X f (fun xs H Q => r xs H Q ∨ r' xs H Q) := by
  intro pins s σ H xs us Q I rv q
  rcases q with q | q
  · exact h pins s σ H xs us Q I rv q
  · exact h' pins s σ H xs us Q I rv q
end
end Sx

set_option Elab.async false
set_option linter.all false
set_option maxRecDepth 100000
set_option maxHeartbeats 4000000
namespace Sx
open PySem PySem.Spec PyProof.Rows L2
/-! ### a set comprehension of keys -/
section
variable {X : Cx}
/-- one key more in the set at D -/
theorem add_key {pins : List (Addr × Obj)} {σ : L2.St} {H : Hp} {s : Shared} {E : Value → Shared → Prop} {D : Addr} {S : Key → Bool} {n : Nat} {k : Key} {u : Value} {Q : Value → Shared → Prop}
    (I : Inv X pins σ H s) (at_ : H D = some (SetK X.prog X.w D S n)) (room : n + 1 < scanBound) (ru : RelV (kV k) u)
    (fin : ∀ s', Inv X pins σ (upd H D (SetK X.prog X.w D (fun j => S j || decide (j = k)) (if S k = true then n else n + 1))) s' → Q .none s') :
    wpAny (model X.prog X.w) X.A (call (.builtin "set.add") [.ref D, u]) Q E s := by
  refine PySem.call_set_add (kV_is ru) (key_scan ru) (setK_get I at_) room fun h' same new => ?_
  have there : ∃ o, h'.get? D = some o := let ⟨o, _, _, _, ho, _⟩ := new; ⟨o, ho⟩
  exact fin _ (I.write (e := D) (t' := s.toks + 1) (by rw [at_]; trivial) (.inl rfl) (fun b o hb ho => (same.2 b hb).trans ho) there (setK_new new))
/-- what a turn does with the element's value -/
def TurnK (P : Program) (w : World) (D : Addr) (Nx : Hp → Prop) : VK := fun y H4 => ∃ (k : Key) (S : Key → Bool) (n : Nat), y = kV k ∧ H4 D = some (SetK P w D S n) ∧ n + 1 < scanBound ∧
  Nx (upd H4 D (SetK P w D (fun j => S j || decide (j = k)) (if S k = true then n else n + 1)))
/-- {elt for target in iter if ..} -/
def tSck (P : Program) (w : World) (wi : TI) (g : TG) (tt : TT) (te : TE) (vs : List Nat) : TE := fun σ H Q => wi σ H fun J H1 => ∀ D, H1 D = none →
  ∃ W : Nat → Nat → Hp → Prop, (∃ m, W 0 m (upd H1 D (SetK P w D (fun _ => false) 0))) ∧ ∀ i m H, W i m H →
    (J.stop i H ∧ Q (.ref D) H) ∨
    (J.go i H ∧ ∃ Nx : Hp → Prop, (∀ H', Nx H' → ∃ m', m' < m ∧ W (i + 1) m' H') ∧ ∀ x H', J.yld i H x H' →
      g x (wipe σ vs) H' fun σ2 H2 => wipe σ2 vs = wipe σ vs ∧ tt σ2 H2 fun b H3 => if b = true then te σ2 H3 (TurnK P w D Nx) else Nx H3)
variable {elt tg iter : Expr} {ifs : List Expr} {scope : Scope} {own : List (PySem.Str × Nat)} {pos pos' : Pos} {wi : TI} {g : TG} {tt : TT} {te : TE}
/-- the context of the block -/
abbrev Blk (X : Cx) (scope : Scope) (s : Shared) (H : Hp) (C : Addr) (cl : List (PySem.Str × Addr)) (fp : List Addr) : Cx := X.blk s H scope (compEnvC scope cl C X.env) fp
theorem pe_sck (calm : X.calm = true) (nd : X.N.Nodup) (hi : PI X tg iter wi) (ok : BlkOk X.N X.env.scope scope own)
    (hg : ∀ s H C cl fp, PG (Blk X scope s H C cl fp) tg g) (ht : ∀ s H C cl fp, PTs (Blk X scope s H C cl fp) ifs tt) (he : ∀ s H C cl fp, PE (Blk X scope s H C cl fp) elt te)
    (hs : ∀ x, foldedSetIterable iter X.env x = pure x := by intro _; rfl) :
    PE X (.SetComp elt [⟨tg, iter, ifs, 0⟩] scope pos) (tSck X.prog X.w wi g tt te (own.map (·.2))) := by
  refine ⟨fun pins s σ H Q I h => ?_⟩
  rw [PpSet.eval_SetComp]
  have captured : ∀ y ∈ scope.names, y.2 = .free → ∃ c, X.env.cells.lookup y.1 = some c := fun y hy e => (ok.free y hy e).elim (fun z => I.ok.has _ (.inl z)) fun z => I.ok.has _ (.inr z)
  refine wpAny_comprehension_free (use := none) rfl hs (closure_ok captured) ok.kind (fun y hy e => by rw [ok.uniq y hy, e]) (thn (hi.run pins s σ H _ I h) fun xv s1 q1 => thn q1 fun itv s2 q2 => ?_)
  obtain ⟨it, fp, tn, J, H2, ei, I2, T, st2, f2, q⟩ := q2
  subst ei
  refine PpSet.newSet_ok (newEnv_comp ?_)
  generalize eD : s2.heap.objs.size = D
  have freeD : H2 D = none := I2.hok.fresh (Nat.le_of_eq eD)
  obtain ⟨W, ⟨m0, w0⟩, turn⟩ := q D freeD
  -- the set, empty
  generalize es3 : ({ s2 with heap := s2.heap.push { cls := .type "set", dict := none, data := .set #[] 0 (.fresh 0 0 (!X.w.params.followText "set-order")) } } : Shared) = s3
  generalize eH3 : upd H2 D (SetK X.prog X.w D (fun _ => false) 0) = H3 at w0
  have heap3 : s3.heap = s2.heap.push { cls := .type "set", dict := none, data := .set #[] 0 (.fresh 0 0 (!X.w.params.followText "set-order")) } := by rw [← es3]
  have I3 : Inv X pins σ H3 s3 := by
    rw [← es3, ← eH3]
    refine I2.laid (t' := s2.toks) (fun b o e => Heap.get?_push_of_some _ e) (Nat.le_of_eq eD) (setK_new ?_)
    rw [← eD]
    exact ⟨_, #[], 0, _, Heap.get?_push_size _ rfl, ⟨rfl, rfl, rfl⟩, rfl, (fun e z => by simp at z), (fun k => by simp), (by decide), (by rfl), rfl⟩
  have below : ∀ b ∈ fp, b < s2.heap.objs.size := fun b hb => let ⟨_, e, _⟩ := T.obj _ _ st2 b hb; Heap.lt_size e
  have f3 : ∀ b ∈ fp, FpOk X pins H3 b ∧ b < s3.heap.objs.size := fun b hb => by
    have lt := below b hb
    refine ⟨⟨?_, (f2 b hb).2⟩, ?_⟩
    · rw [← eH3, upd_ne (by rw [← eD]; exact Nat.ne_of_lt lt)]
      exact (f2 b hb).1
    · rw [heap3, Heap.size_push]
      exact Nat.lt_succ_of_lt lt
  have st3 : tn 0 s3.heap := T.keep _ _ _ st2 fun b _ o e => by rw [heap3]; exact Heap.get?_push_of_some _ e
  have I4 := block_start I3 ok nd f3
  show codeAny _ _ (.compStart (.SetComp elt [⟨tg, iter, ifs, 0⟩] scope pos) 0 (.ref it) (.ref D) (compEnvC scope (cellsFrom (s3.heap.objs.size + 1) scope.names (cloFrom X.env.cells scope.names [])) s3.heap.objs.size X.env)) (compPost (model X.prog X.w) X.A X.xe none (EP X pins σ Q) (.ref D) s3.heap.objs.size) { s3 with heap := pushCells (s3.heap.push { cls := .type "dict", data := .dict #[] }) scope.names }
  generalize cellsFrom (s3.heap.objs.size + 1) scope.names (cloFrom X.env.cells scope.names []) = cl at I4 ⊢
  have pg := hg s3 H3 s3.heap.objs.size cl fp
  have pt := ht s3 H3 s3.heap.objs.size cl fp
  have pe := he s3 H3 s3.heap.objs.size cl fp
  unfold Blk at pg pt pe
  generalize ece : compEnvC scope cl s3.heap.objs.size X.env = ce at I4 pg pt pe ⊢
  have atC : ce.locals = s3.heap.objs.size := by rw [← ece]; rfl
  generalize es4 : ({ s3 with heap := pushCells (s3.heap.push { cls := .type "dict", data := .dict #[] }) scope.names } : Shared) = s4 at I4 ⊢
  have st4 : tn 0 s4.heap := T.keep _ _ _ st3 fun b _ o e => by rw [← es4]; exact pushCells_keeps _ _ _ _ (Heap.get?_push_of_some _ e)
  have still : ∀ {σ' : L2.St} {H' : Hp} {s' : Shared}, Inv (X.blk s3 H3 scope ce fp) [] σ' H' s' → (∀ b ∈ fp, H' b = none) → ∀ b ∈ fp, FpOk (X.blk s3 H3 scope ce fp) [] H' b := fun {σ' H' s'} J' un b hb =>
    ⟨un b hb, (J'.ok.exf b hb).1, J'.ok.exfs b hb, .inl hb, fun x c e => (J'.ok.exf b hb).2 x c e, fun p hp => absurd (show p ∈ ([] : List (Addr × Obj)) ++ [] from hp) (by simp)⟩
  refine PpSet.codeAny_compStart_set ?loop (T.self X.A 0 _ _ _ st4 ?loop)
  refine PpSet.compLoopS_any (fun n s' => ∃ i H', Inv (X.blk s3 H3 scope ce fp) [] (wipe σ (own.map (·.2))) H' s' ∧ tn i s'.heap ∧ (∀ b ∈ fp, H' b = none) ∧ W i n H') ?_ m0 ⟨0, H3, I4, st4, fun b hb => (f3 b hb).1.1, w0⟩
  rintro n s5 ⟨i, H5, I5, st5, un5, w5⟩
  rcases turn i n H5 w5 with ⟨stop, fin⟩ | ⟨go, Nx, next, step⟩
  · -- the end: back in the def
    refine thnF (T.done (X.blk s3 H3 scope ce fp) rfl rfl rfl calm i [] s5 _ H5 (fun _ _ => False) I5 (still I5 un5) st5 stop) fun r s6 ⟨er, I6⟩ => ?_
    subst er
    have I7 : Inv X pins σ H5 s6 := I3.call' (ch := fp) I6.os I6.base I6.hok I6.bare fun b hb => ⟨(f3 b hb).1.2.2.2.1, (f3 b hb).1.2.1, (f3 b hb).1.2.2.2.2.1, (f3 b hb).1.2.2.2.2.2⟩
    have unC : H5 s3.heap.objs.size = none := by
      have z : H5 ce.locals = none := I6.free
      rwa [atC] at z
    obtain ⟨m, ns, _⟩ := I6.loc
    have ns : s6.heap.Ns ce.locals m := ns
    rw [atC] at ns
    refine ⟨m, ns, fun h'' sb => ?_⟩
    obtain ⟨f0, f1, _, fr3, fr4, fr5⟩ := I3.fpOk (Nat.le_refl _) unC
    exact ⟨.ref D, H5, I7.turned (t' := s6.toks) (fun b o hb e => (sb.2 b hb).trans e) f0 f1 fr3 fr4 fr5, rfl, fin⟩
  · refine thnF (T.item (X.blk s3 H3 scope ce fp) rfl rfl rfl calm i [] s5 _ H5 (fun _ _ => False) I5 (still I5 un5) st5 go) fun r s6 ⟨u, er, q6⟩ => ?_
    subst er
    refine thnF q6 fun _ s7 ⟨x, H7, I7, r7, y7, st7, un7⟩ => ?_
    have I7' := I7.pinned (still I7 un7) (T.obj _ _ st7)
    refine thnF (pg.run _ s7 _ H7 x u _ I7' r7 (step x H7 y7)) fun _ s8 ⟨σ8, H8, I8, same, q8⟩ => ?_
    refine thnF (pt.run _ s8 σ8 H8 _ I8 q8) fun b s9 ⟨H9, I9, q9⟩ => ?_
    have back : ∀ {s' : Shared} {H' : Hp}, Inv (X.blk s3 H3 scope ce fp) ([] ++ pinsAt fp s7.heap) σ8 H' s' → Nx H' →
        ∃ m, m < n ∧ ∃ i H', Inv (X.blk s3 H3 scope ce fp) [] (wipe σ (own.map (·.2))) H' s' ∧ tn i s'.heap ∧ (∀ b ∈ fp, H' b = none) ∧ W i m H' := fun {s' H'} I' nx => by
      obtain ⟨m', lt, w'⟩ := next H' nx
      have pin : ∀ b ∈ fp, ∀ o, s7.heap.get? b = some o → s'.heap.get? b = some o ∧ H' b = none := fun b hb o e =>
        let z := I'.pin (b, o) (List.mem_append_right _ (List.mem_append_right _ (mem_pinsAt hb e)))
        ⟨z.1, z.2.1⟩
      have len : (wipe σ (own.map (·.2))).length = σ8.length := by rw [← same, wipe_length]
      refine ⟨m', lt, i + 1, H', (I'.unpinned (pins := [])).weak len (fun j v e => ?_), T.keep _ _ _ st7 fun b hb o e => (pin b hb o e).1, fun b hb => ?_, w'⟩
      · rw [← same] at e
        exact (wipe_some e).1
      · obtain ⟨o, e, _⟩ := T.obj _ _ st7 b hb
        exact (pin b hb o e).2
    cases b with
    | false =>
      simp only [Bool.false_eq_true, if_false] at q9 ⊢
      exact back I9 q9
    | true =>
      simp only [if_true] at q9 ⊢
      refine thnF (pe.run _ s9 σ8 H9 _ I9 q9) fun z s10 ⟨y, H10, I10, r10, k, S0, n0, ey, at0, room, nx⟩ => ?_
      subst ey
      exact add_key (X := X.blk s3 H3 scope ce fp) I10 at0 room r10 fun s11 I11 => back I11 nx
end
end Sx

set_option Elab.async false
set_option linter.all false
set_option maxRecDepth 100000
set_option maxHeartbeats 4000000
/-! Two rules: C.f(e, ..) of a class's plain def; C(e, ..) that may raise, in a try. An own error's making. -/
namespace Lw
open PySem PySem.Spec PyProof.Rows L2
section
variable {X : Cx} {CX : CXT} {k : Nat} {f C : Addr} {fd : FuncData} {ps : List Str} {sp : Sp} {dvs : List V} {ds : List Value} {E : XK} {x m : Str} {p pos apos : Pos} {e o : Expr} {es : List Expr} {ta : TE} {t : TA} {mc : Value} {pl : Sem Bool}
/-- C.f(e, ..), C a class, f a def of it -/
def tCFun (C : Addr) (sp : Sp) (E : XK) (ta : TE) (t : TA) : TE := fun σ H Q => ta σ H fun x H1 => x = .ref C ∧ t σ H1 fun vs H2 => sp vs H2 Q E
theorem pe_cfun (he : PE X o ta) (r : ClX.CRead X.K C mc) (c : ClX.CVal X.K C mc m (.ref f) (.ref f)) (F : FnOk X.prog X.w X.K X.mg X.base CX k f fd ps sp) (hr : Room k X.A) (hk : PySem.W.keepIn X.K (.ref f) = true) (hb : Binds X.K fd ps []) (hx : Passes CX X E) (ha : PA X (e :: es) t)
    (hst : starEach (e :: es) X.env = (false, eval e X.env) :: starEach es X.env := by rfl) (hpl : (backTo pos (starEach es X.env)).any (·.1) = false := by rfl)
    (ht : eval (.Call (.Attribute o m apos) (e :: es) [] pos) X.env = (do
      let ov ← eval o X.env
      standAt apos.atName
      let (f, first) ← holding [ov] (getMethod ov m pl)
      callWith pos f first (backTo pos (starEach (e :: es) X.env)) (backToKw pos (keywordEach [] X.env))) := by rfl) :
    PE X (.Call (.Attribute o m apos) (e :: es) [] pos) (tCFun C sp E ta t) := by
  refine ⟨fun pins s σ H Q I h => ?_⟩
  refine PySem.W.methodCall_KW (pl := pl) (thn (he.run pins s σ H _ I h) fun u s1 ⟨x, H1, I1, rx, ex, q⟩ => ?_) ht
  subst ex
  obtain rfl : u = Value.ref C := rx
  refine PySem.W.method_cls I1.kIn r.ga (ClX.getcval_ok I1 r c fun s2 I2 => ?_)
  refine PySem.W.callWith_K (h₀ := X.base) I2.ok.mod.kin hk (thn (ha.run pos pins s2 σ H1 _ I2 q) fun us s3 ⟨vs, H2, I3, r3, q3⟩ => ⟨I3.kIn, ?_⟩) hst hpl
  exact run_fn F hr hb .nil hx I3 r3 (by rw [List.append_nil]; exact q3)
/-- C(e, ..), what it raises wished for at the slots -/
def tMakeS (C : Addr) (sp : Sp) (dvs : List V) (E : L2.St → XK) (t : TA) : TE := fun σ H Q => t σ H fun vs H1 => ∀ x dx, H1 x = none → H1 dx = none → dx ≠ x →
  sp (.ref x :: (vs ++ dvs)) (upd (upd H1 dx (.own x)) x (.ins C dx [])) (fun v H2 => v = .non ∧ Q (.ref x) H2) (E σ)
theorem pe_makeS {E : L2.St → XK} (M : Mk X.K C f) (F : FnOk X.prog X.w X.K X.mg X.base CX k f fd ps sp) (hr : Room (k + 1) X.A) (hg : Gl X x) (hm : X.mg x = some (.ref C)) (hb : Binds X.K fd ps ds) (hd : Vals dvs ds) (hx : ∀ σ, PassesAt CX X σ (E σ))
    (ha : PA X (e :: es) t) (hdb : (x == ("__debug__" : Str)) = false := by decide) (he : starEach (e :: es) X.env = (false, eval e X.env) :: starEach es X.env := by rfl) (hpl : (backTo pos (starEach es X.env)).any (·.1) = false := by rfl) :
    PE X (.Call (.Name x p) (e :: es) [] pos) (tMakeS C sp dvs E t) := by
  refine ⟨fun pins s σ H Q I h => ?_⟩
  refine wpAny_Call_Name_kw (ld_glob I hg hm ?_ hdb)
  refine PySem.W.callWith_K (h₀ := X.base) I.ok.mod.kin M.kp (thn (ha.run pos pins s σ H _ I h) fun us s1 ⟨vs, H1, I1, r, q⟩ => ⟨I1.kIn, ?_⟩) he hpl
  have hq := q (s1.heap.objs.size + 1) s1.heap.objs.size (I1.hok.fresh (Nat.le_succ _)) (I1.hok.fresh (Nat.le_refl _)) (Nat.ne_of_lt (Nat.lt_succ_self _))
  have I2 := Inv.made (C := C) I1
  have r2 : Vals (V.ref (s1.heap.objs.size + 1) :: (vs ++ dvs)) (Value.ref (s1.heap.objs.size + 1) :: (us ++ ds)) := .cons rfl (r.append hd)
  have hl : (Value.ref (s1.heap.objs.size + 1) :: us ++ ds).length = ps.length := by
    have e := r2.length
    rw [F.len _ _ _ _ hq] at e
    exact e.symm
  refine wpAny_call (make_map (f := f) I1.kIn M.makes M.init (beq_iff_eq.mp M.fn) (codeAny_mono (F.run _ X.stack _ _ ⟨Value.ref (s1.heap.objs.size + 1) :: us, []⟩ (Value.ref (s1.heap.objs.size + 1) :: (us ++ ds)) _ _ (E σ) (hr.make C us [])
    (I2.env0.make C us []) (hb _ (Value.ref (s1.heap.objs.size + 1) :: us) I2.kIn hl) r2 hq) fun r s' hq' => ?_))
  cases r with
  | error e => exact hx σ pins _ _ e s' I2 hq'
  | ok fl =>
    cases fl with
    | ret u =>
      obtain ⟨v, H', I3, rv, ev, q3⟩ := I2.after hq'
      subst ev
      exact ⟨rv, ⟨V.ref (s1.heap.objs.size + 1), H', I3, rfl, q3⟩⟩
    | next => exact False.elim hq'
    | brk => exact False.elim hq'
    | cont => exact False.elim hq'
end
/-- the promise of an own error's __init__ that keeps one argument -/
def spErr (C : Addr) (f : Str) : Sp := fun vs H Q _ => ∃ (a : Addr) (x : V), vs = [.ref a, x] ∧ H a = some (exo a C none) ∧ (∀ dx, H dx = none → dx ≠ a → Q .non (upd (upd H dx (exd dx [(f, x)])) a (exo a C (some dx))))
/-- what is asked of the heap behind the making of an own error -/
theorem err_heap {H : Hp} {a d : Addr} {C : Addr} {f : Str} {x : V} (ha : H a = none) (hd : (upd H a (exo a C none)) d = none) (ne : d ≠ a) :
    upd (del (upd (upd (upd H a (exo a C none)) d (exd d [(f, x)])) a (exo a C (some d))) a) d (.xd [(f, x)]) = upd H d (.xd [(f, x)]) := by
  funext b
  by_cases e : b = d
  · subst e
    rw [upd_same, upd_same]
  · rw [upd_ne e, upd_ne e]
    by_cases e2 : b = a
    · subst e2
      rw [del_same, ha]
    · rw [del_ne e2, upd_ne e2, upd_ne e, upd_ne e2]
end Lw

set_option Elab.async false
set_option linter.all false
set_option maxRecDepth 100000
set_option maxHeartbeats 4000000
/-! What is walked is a list or a tuple. -/
namespace Lw
open PySem PySem.Spec PyProof.Rows L2
section
variable {X : Cx} {tg l : Expr} {t1 t2 : TI}
theorem PI.or (h1 : PI X tg l t1) (h2 : PI X tg l t2) : PI X tg l (fun σ H R => t1 σ H R ∨ t2 σ H R) := by
  refine ⟨fun pins s σ H R I h => ?_⟩
  rcases h with h | h
  · exact h1.run pins s σ H R I h
  · exact h2.run pins s σ H R I h
end
def SqA (K : PySem.W.Frag) (H : Hp) (a : Addr) (xs : List V) : Prop := SqL K H a xs ∨ SqT K H a xs
theorem SqA.same {K : PySem.W.Frag} {H H' : Hp} {a : Addr} {xs : List V} (e : Same H H') (h : SqA K H a xs) : SqA K H' a xs := h.elim (fun h => .inl (e.seq h)) fun h => .inr (same_tup e h)
abbrev iSeq (K : PySem.W.Frag) (tl : TE) : TI := fun σ H R => iList K tl σ H R ∨ iTup K tl σ H R
theorem pi_seq {X : Cx} {tg l : Expr} {tl : TE} (h : PE X l tl) : PI X tg l (iSeq X.K tl) := PI.or (pi_list h) (pi_tup h)
/-- how it is walked -/
inductive JA (K : PySem.W.Frag) (H : Hp) (a : Addr) (xs : List V) : L2.It → Prop
  | l (h : SqL K H a xs) : JA K H a xs (Itl K a)
  | t (h : SqT K H a xs) : JA K H a xs (Itt K a)
theorem seq_run {K : PySem.W.Frag} {a : Addr} {xs : List V} {σ : L2.St} {H : Hp} {i0 : Nat} {R : L2.It → Hp → Prop} (e : σ[i0]? = some (some (.ref a))) (hs : SqA K H a xs) (f : ∀ J, JA K H a xs J → R J H) : iList K (tVar i0) σ H R ∨ iTup K (tVar i0) σ H R := by
  rcases hs with hs | hs
  · exact .inl ⟨_, e, a, rfl, ⟨_, hs⟩, f _ (.l hs)⟩
  · exact .inr ⟨_, e, a, rfl, ⟨_, hs⟩, f _ (.t hs)⟩
theorem lc_of_J {K : PySem.W.Frag} {a : Addr} {H1 : Hp} {D : Addr} {i : Nat} {σ : L2.St} {xs : List V} {J : L2.It} (out : List (Option V)) {tt : TT} {te : TE} {Qd : Hp → Prop} (hl : JA K H1 a xs J) (un : H1 D = none) (T : Turns H1 i (σ.set i none) xs out tt te) (mono : MonoT tt)
    (fin : ∀ H', Same H1 H' → H' D = some (.lst (outOf out)) → Qd H') :
    ∃ W : Nat → Nat → Hp → Prop, (∃ m, W 0 m (upd H1 D (.lst []))) ∧ ∀ i' m H, W i' m H →
      (J.stop i' H ∧ Qd H) ∨ (J.go i' H ∧ ∃ Nx : Hp → Prop, (∀ H', Nx H' → ∃ m', m' < m ∧ W (i' + 1) m' H') ∧ ∀ x H', J.yld i' H x H' → gName i x (wipe σ [i]) H' fun σ2 H2 => wipe σ2 [i] = wipe σ [i] ∧ tt σ2 H2 fun b H3 =>
        if b = true then te σ2 H3 fun y H4 => ∃ acc, H4 D = some (.lst acc) ∧ acc.length < sizeLine ∧ Nx (upd H4 D (.lst (acc ++ [y]))) else Nx H3) := by
  cases hl with
  | l h => exact lc_of_list out h un T mono fin
  | t h => exact lc_of_tup out h un T mono fin
theorem for_J {K : PySem.W.Frag} {a : Addr} {xs : List V} {σ : L2.St} {H : Hp} {J : L2.It} {g : TG} {t : TS} {D : Ends} (hs : JA K H a xs J) (Pv : Nat → L2.St → Hp → Prop) (h0 : Pv 0 σ H) (keep : ∀ i σ' H', Pv i σ' H' → Same H H')
    (turn : ∀ i x σ' H', xs[i]? = some x → Pv i σ' H' → g x σ' H' fun σ2 H2 => t { D with nx := Pv (i + 1), ct := Pv (i + 1), bk := D.nx } σ2 H2) (done : ∀ σ' H', Pv xs.length σ' H' → D.nx σ' H') :
    ∃ W : Nat → Nat → L2.St → Hp → Prop, (∃ m, W 0 m σ H) ∧ ∀ i m σ H, W i m σ H →
      (J.stop i H ∧ D.nx σ H) ∨ (J.go i H ∧ ∃ N : L2.St → Hp → Prop, (∀ σ' H', N σ' H' → ∃ m', m' < m ∧ W (i + 1) m' σ' H') ∧ ∀ x H', J.yld i H x H' → g x σ H' fun σ2 H2 => t { D with nx := N, ct := N, bk := D.nx } σ2 H2) := by
  cases hs with
  | l h => exact for_list (K := K) (a := a) (xs := xs) Pv h0 (fun i σ' H' _ p => (keep i σ' H' p).seq h) turn done
  | t h => exact for_tup (K := K) (a := a) (xs := xs) Pv h0 (fun i σ' H' _ p => same_tup (keep i σ' H' p) h) turn done
/-- the turns of a set comprehension -/
structure TurnsK (H1 : Hp) (i : Nat) (σ : L2.St) (xs : List V) (ks : List Key) (te : TE) : Prop where
  len : ks.length = xs.length
  few : xs.length ≤ 1000
  el : ∀ (j : Nat) (x : V) (k : Key) (H : Hp) (Q : VK), xs[j]? = some x → ks[j]? = some k → Same H1 H → (∀ H', Same H H' → Q (kV k) H') → te (σ.set i (some x)) H Q
theorem turnK_core {P : Program} {w : World} {H1 H : Hp} {D : Addr} {i : Nat} {σ : L2.St} {xs : List V} {ks : List Key} {te : TE} (T : TurnsK H1 i (σ.set i none) xs ks te) {j : Nat} {x : V} (hx : xs[j]? = some x)
    (s1 : Same H1 H) (hD : H D = some (SetK P w D (fun k => decide (k ∈ ks.take j)) (Sx.nub (ks.take j)).length)) (un : H1 D = none) {Nx : Hp → Prop} (fin : ∀ H', Same H1 H' → H' D = some (SetK P w D (fun k => decide (k ∈ ks.take (j + 1))) (Sx.nub (ks.take (j + 1))).length) → Nx H') :
    gName i x (wipe σ [i]) H fun σ2 H2 => wipe σ2 [i] = wipe σ [i] ∧ tYes σ2 H2 fun b H3 => if b = true then te σ2 H3 (Sx.TurnK P w D Nx) else Nx H3 := by
  refine ⟨by simp [wipe], ?_⟩
  show if true = true then te ((σ.set i none).set i (some x)) H (Sx.TurnK P w D Nx) else Nx H
  refine iteT ?_
  have hj : j < ks.length := by rw [T.len]; exact (List.getElem?_eq_some_iff.mp hx).1
  have hk : ks[j]? = some ks[j] := List.getElem?_eq_getElem hj
  refine T.el j x ks[j] H _ hx hk s1 fun H4 s4 => ⟨ks[j], _, _, rfl, s4 _ _ hD, ?_, fin _ (fun b o eb => ?_) ?_⟩
  · have := Sx.len_nub_le _ (ks.take j) rfl
    rw [List.length_take] at this
    have l2 := T.few
    have l3 := T.len
    exact Nat.lt_of_le_of_lt (show (Sx.nub (ks.take j)).length + 1 ≤ 1001 by omega) (by decide)
  · rw [upd_ne (ne_of_none eb un)]
    exact s4 _ _ (s1 _ _ eb)
  · have tk : ks.take (j + 1) = ks.take j ++ [ks[j]] := by rw [List.take_add_one, hk]; rfl
    have e1 : (fun k => decide (k ∈ ks.take j) || decide (k = ks[j])) = fun k => decide (k ∈ ks.take (j + 1)) := by
      funext k
      have q : k ∈ ks.take (j + 1) ↔ k ∈ ks.take j ∨ k = ks[j] := by rw [tk, List.mem_append, List.mem_singleton]
      rw [decide_eq_decide.mpr q, Bool.decide_or]
    have e2 : (if decide (ks[j] ∈ ks.take j) = true then (Sx.nub (ks.take j)).length else (Sx.nub (ks.take j)).length + 1) = (Sx.nub (ks.take (j + 1))).length := by
      rw [tk, Sx.nub_snoc, Sx.len_put1]
      by_cases h : ks[j] ∈ ks.take j
      · rw [if_pos (decide_eq_true h), if_pos (Sx.mem_nub'.mpr h)]
      · rw [if_neg (by simpa using h), if_neg fun z => h (Sx.mem_nub'.mp z)]
    rw [upd_same]
    show some (SetK P w D (fun k => decide (k ∈ ks.take j) || decide (k = ks[j])) (if decide (ks[j] ∈ ks.take j) = true then (Sx.nub (ks.take j)).length else (Sx.nub (ks.take j)).length + 1)) = _
    rw [e1, e2]
theorem sck_of_J {P : Program} {w : World} {K : PySem.W.Frag} {a : Addr} {xs : List V} {ks : List Key} {σ : L2.St} {H1 : Hp} {D : Addr} {i : Nat} {te : TE} {Qd : Hp → Prop} {J : L2.It} (hs : JA K H1 a xs J) (un : H1 D = none) (T : TurnsK H1 i (σ.set i none) xs ks te)
    (fin : ∀ H', Same H1 H' → H' D = some (SetK P w D (fun k => decide (k ∈ ks)) (Sx.nub ks).length) → Qd H') :
    ∃ W : Nat → Nat → Hp → Prop, (∃ m, W 0 m (upd H1 D (SetK P w D (fun _ => false) 0))) ∧ ∀ i' m H, W i' m H →
      (J.stop i' H ∧ Qd H) ∨ (J.go i' H ∧ ∃ Nx : Hp → Prop, (∀ H', Nx H' → ∃ m', m' < m ∧ W (i' + 1) m' H') ∧ ∀ x H', J.yld i' H x H' →
        gName i x (wipe σ [i]) H' fun σ2 H2 => wipe σ2 [i] = wipe σ [i] ∧ tYes σ2 H2 fun b H3 => if b = true then te σ2 H3 (Sx.TurnK P w D Nx) else Nx H3) := by
  have all : ∀ {H' : Hp}, H' D = some (SetK P w D (fun k => decide (k ∈ ks.take xs.length)) (Sx.nub (ks.take xs.length)).length) → H' D = some (SetK P w D (fun k => decide (k ∈ ks)) (Sx.nub ks).length) := fun {H'} h => by
    rwa [← T.len, List.take_length] at h
  have zero : (upd H1 D (SetK P w D (fun _ => false) 0)) D = some (SetK P w D (fun k => decide (k ∈ ks.take 0)) (Sx.nub (ks.take 0)).length) := by
    rw [upd_same]
    have e1 : (fun k : Key => decide (k ∈ ks.take 0)) = fun _ => false := by
      funext k
      simp
    rw [e1]
    rfl
  refine ⟨fun j m H' => m = xs.length - j ∧ j ≤ xs.length ∧ Same H1 H' ∧ H' D = some (SetK P w D (fun k => decide (k ∈ ks.take j)) (Sx.nub (ks.take j)).length), ⟨xs.length, by simp, Nat.zero_le _, same_new un, zero⟩, ?_⟩
  rintro j m H' ⟨rfl, hj, s1, hD⟩
  cases hs with
  | l hs =>
    have q : SqL K H' a xs := s1.seq hs
    by_cases lt : j < xs.length
    · refine .inr ⟨⟨xs, xs[j], q, by simp [lt]⟩, fun H' => Same H1 H' ∧ H' D = some (SetK P w D (fun k => decide (k ∈ ks.take (j + 1))) (Sx.nub (ks.take (j + 1))).length), fun H' p' => ⟨xs.length - (j + 1), by omega, rfl, lt, p'⟩, fun x H'' y => ?_⟩
      obtain ⟨e, y⟩ := y
      subst e
      exact turnK_core T (y xs q) s1 hD un fun _ a b => ⟨a, b⟩
    · have e : j = xs.length := by omega
      subst e
      exact .inl ⟨⟨xs, q, Nat.le_refl _⟩, fin H' s1 (all hD)⟩
  | t hs =>
    have q : SqT K H' a xs := same_tup s1 hs
    by_cases lt : j < xs.length
    · refine .inr ⟨⟨xs, xs[j], q, by simp [lt]⟩, fun H' => Same H1 H' ∧ H' D = some (SetK P w D (fun k => decide (k ∈ ks.take (j + 1))) (Sx.nub (ks.take (j + 1))).length), fun H' p' => ⟨xs.length - (j + 1), by omega, rfl, lt, p'⟩, fun x H'' y => ?_⟩
      obtain ⟨e, y⟩ := y
      subst e
      exact turnK_core T (y xs q) s1 hD un fun _ a b => ⟨a, b⟩
    · have e : j = xs.length := by omega
      subst e
      exact .inl ⟨⟨xs, q, Nat.le_refl _⟩, fin H' s1 (all hD)⟩
end Lw

set_option Elab.async false
set_option linter.all false
set_option maxRecDepth 100000
set_option maxHeartbeats 4000000
namespace Lw
open PySem PySem.Spec PyProof.Rows L2
/-- all but what stands at p, an instance -/
def But (p : Addr) (H H' : Hp) : Prop := ∀ b o, H b = some o → b ≠ p → H' b = some o
theorem But.seq {K : PySem.W.Frag} {H H' : Hp} {p a C dx : Addr} {fs : List (Str × V)} {xs : List V} (hp : H p = some (.ins C dx fs)) (k : But p H H') (h : SqL K H a xs) : SqL K H' a xs := by
  rcases h with (h | ⟨o, h⟩) | h
  · exact .inl (.inl (k _ _ h fun z => by rw [z, hp] at h; cases h))
  · exact .inl (.inr ⟨o, k _ _ h fun z => by rw [z, hp] at h; cases h⟩)
  · exact .inr h
theorem But.tup {K : PySem.W.Frag} {H H' : Hp} {p a C dx : Addr} {fs : List (Str × V)} {xs : List V} (hp : H p = some (.ins C dx fs)) (k : But p H H') (h : SqT K H a xs) : SqT K H' a xs := by
  rcases h with (h | ⟨o, h⟩) | h
  · exact .inl (.inl (k _ _ h fun z => by rw [z, hp] at h; cases h))
  · exact .inl (.inr ⟨o, k _ _ h fun z => by rw [z, hp] at h; cases h⟩)
  · exact .inr h
theorem But.sqA {K : PySem.W.Frag} {H H' : Hp} {p a C dx : Addr} {fs : List (Str × V)} {xs : List V} (hp : H p = some (.ins C dx fs)) (k : But p H H') (h : SqA K H a xs) : SqA K H' a xs := h.elim (fun h => .inl (k.seq hp h)) fun h => .inr (k.tup hp h)
/-- [y for t in ts for y in t], ts a list or a tuple of tuples -/
theorem lc2_flat {K : PySem.W.Frag} {a : Addr} {H1 : Hp} {D : Addr} {s0 s1 s2 s3 v4 v5 : Option V} {xs : List V} {J : L2.It} {Qd : Hp → Prop} (hJ : JA K H1 a xs J) (un : H1 D = none) (yss : List (List V)) (len : yss.length = xs.length)
    (each : ∀ (j : Nat) (x : V), xs[j]? = some x → ∃ (p : Addr) (ys : List V), x = .ref p ∧ yss[j]? = some ys ∧ SqT K H1 p ys) (few : yss.flatten.length ≤ 100000) (fin : ∀ H', Same H1 H' → H' D = some (.lst yss.flatten) → Qd H') :
    ∃ W : Nat → Nat → Hp → Prop, (∃ m, W 0 m (upd H1 D (.lst []))) ∧ ∀ i m H, W i m H →
      (J.stop i H ∧ Qd H) ∨ (J.go i H ∧ ∃ Nx : Hp → Prop, (∀ H', Nx H' → ∃ m', m' < m ∧ W (i + 1) m' H') ∧ ∀ x H', J.yld i H x H' → gName 4 x (wipe [s0, s1, s2, s3, v4, v5] [4, 5]) H' fun σ2 H2 => wipe σ2 [4, 5] = wipe [s0, s1, s2, s3, v4, v5] [4, 5] ∧ tYes σ2 H2 fun b H3 =>
        if b = true then iTup K (tVar 4) σ2 H3 fun J1 H4 => ∃ W1 : Nat → Nat → Hp → Prop, (∃ m, W1 0 m H4) ∧ ∀ j k H, W1 j k H →
          (J1.stop j H ∧ Nx H) ∨ (J1.go j H ∧ ∃ Nx1 : Hp → Prop, (∀ H', Nx1 H' → ∃ k', k' < k ∧ W1 (j + 1) k' H') ∧ ∀ x H', J1.yld j H x H' → gName 5 x (wipe σ2 [5]) H' fun σ3 H5 => wipe σ3 [5] = wipe σ2 [5] ∧ tYes σ3 H5 fun b H6 =>
            if b = true then tVar 5 σ3 H6 fun y H7 => ∃ acc, H7 D = some (.lst acc) ∧ acc.length < sizeLine ∧ Nx1 (upd H7 D (.lst (acc ++ [y]))) else Nx1 H6)
        else Nx H3) := by
  have turn : ∀ (j : Nat) (x : V) (H : Hp), xs[j]? = some x → Same H1 H → H D = some (.lst (yss.take j).flatten) →
      gName 4 x (wipe [s0, s1, s2, s3, v4, v5] [4, 5]) H fun σ2 H2 => wipe σ2 [4, 5] = wipe [s0, s1, s2, s3, v4, v5] [4, 5] ∧ tYes σ2 H2 fun b H3 =>
        if b = true then iTup K (tVar 4) σ2 H3 fun J1 H4 => ∃ W1 : Nat → Nat → Hp → Prop, (∃ m, W1 0 m H4) ∧ ∀ j' k H, W1 j' k H →
          (J1.stop j' H ∧ (Same H1 H ∧ H D = some (.lst (yss.take (j + 1)).flatten))) ∨ (J1.go j' H ∧ ∃ Nx1 : Hp → Prop, (∀ H', Nx1 H' → ∃ k', k' < k ∧ W1 (j' + 1) k' H') ∧ ∀ x H', J1.yld j' H x H' → gName 5 x (wipe σ2 [5]) H' fun σ3 H5 => wipe σ3 [5] = wipe σ2 [5] ∧ tYes σ3 H5 fun b H6 =>
            if b = true then tVar 5 σ3 H6 fun y H7 => ∃ acc, H7 D = some (.lst acc) ∧ acc.length < sizeLine ∧ Nx1 (upd H7 D (.lst (acc ++ [y]))) else Nx1 H6)
        else (Same H1 H3 ∧ H3 D = some (.lst (yss.take (j + 1)).flatten)) := by
    intro j x H hx s1' hD
    obtain ⟨p, ys, rfl, hy, ht⟩ := each j x hx
    have htk : (yss.take (j + 1)).flatten = (yss.take j).flatten ++ ys := by
      rw [List.take_add_one, hy, List.flatten_append]
      simp
    have bound : (yss.take j).flatten.length + ys.length ≤ 100000 := by
      have e : yss.flatten = (yss.take (j + 1)).flatten ++ (yss.drop (j + 1)).flatten := by rw [← List.flatten_append, List.take_append_drop]
      have := congrArg List.length e
      rw [List.length_append, htk, List.length_append] at this
      omega
    have ht' : SqT K H p ys := same_tup s1' ht
    refine ⟨rfl, ?_⟩
    dsimp only [tYes]
    refine iteT ⟨_, rfl, p, rfl, ⟨_, ht'⟩, fun j' k H' => k = ys.length - j' ∧ j' ≤ ys.length ∧ Same H1 H' ∧ H' D = some (.lst ((yss.take j).flatten ++ ys.take j')), ⟨ys.length, by simp, Nat.zero_le _, s1', by simpa using hD⟩, ?_⟩
    rintro j' k H' ⟨rfl, hj, s2', hD'⟩
    have q : SqT K H' p ys := same_tup s2' ht
    by_cases lt : j' < ys.length
    · refine .inr ⟨⟨ys, ys[j'], q, by simp [lt]⟩, fun H'' => Same H1 H'' ∧ H'' D = some (.lst ((yss.take j).flatten ++ ys.take (j' + 1))), fun H'' z => ⟨ys.length - (j' + 1), by omega, rfl, lt, z⟩, fun y H'' yy => ?_⟩
      obtain ⟨e, yy⟩ := yy
      subst e
      have ey := yy ys q
      refine ⟨rfl, ?_⟩
      dsimp only [tYes]
      refine iteT ⟨_, rfl, _, hD', ?_, fun b o eb => ?_, ?_⟩
      · rw [List.length_append, List.length_take]
        exact Nat.lt_of_le_of_lt (show _ ≤ 100000 by omega) (by decide)
      · rw [upd_ne (ne_of_none eb un)]
        exact s2' _ _ eb
      · rw [upd_same, List.take_add_one, ey, List.append_assoc]
        rfl
    · have e : j' = ys.length := by omega
      subst e
      rw [List.take_length] at hD'
      exact .inl ⟨⟨ys, q, Nat.le_refl _⟩, s2', by rw [htk]; exact hD'⟩
  refine ⟨fun j m H' => m = xs.length - j ∧ j ≤ xs.length ∧ Same H1 H' ∧ H' D = some (.lst (yss.take j).flatten), ⟨xs.length, by simp, Nat.zero_le _, same_new un, by rw [upd_same]; simp⟩, ?_⟩
  rintro j m H' ⟨rfl, hj, s1', hD⟩
  have done : j = xs.length → Qd H' := fun e => fin H' s1' (by rwa [e, ← len, List.take_length] at hD)
  cases hJ with
  | l hs =>
    have q : SqL K H' a xs := s1'.seq hs
    by_cases lt : j < xs.length
    · refine .inr ⟨⟨xs, xs[j], q, by simp [lt]⟩, fun H' => Same H1 H' ∧ H' D = some (.lst (yss.take (j + 1)).flatten), fun H' p' => ⟨xs.length - (j + 1), by omega, rfl, lt, p'⟩, fun x H'' y => ?_⟩
      obtain ⟨e, y⟩ := y
      subst e
      exact turn j x _ (y xs q) s1' hD
    · have e : j = xs.length := by omega
      subst e
      exact .inl ⟨⟨xs, q, Nat.le_refl _⟩, done rfl⟩
  | t hs =>
    have q : SqT K H' a xs := same_tup s1' hs
    by_cases lt : j < xs.length
    · refine .inr ⟨⟨xs, xs[j], q, by simp [lt]⟩, fun H' => Same H1 H' ∧ H' D = some (.lst (yss.take (j + 1)).flatten), fun H' p' => ⟨xs.length - (j + 1), by omega, rfl, lt, p'⟩, fun x H'' y => ?_⟩
      obtain ⟨e, y⟩ := y
      subst e
      exact turn j x _ (y xs q) s1' hD
    · have e : j = xs.length := by omega
      subst e
      exact .inl ⟨⟨xs, q, Nat.le_refl _⟩, done rfl⟩
end Lw

set_option Elab.async false
set_option linter.all false
set_option maxRecDepth 100000
set_option maxHeartbeats 4000000
namespace Lw
open PySem PySem.Spec PyProof.Rows L2
/-- isinstance(e, c), e the exception that the suite holds, one with a dict of its own -/
def rIsV (K : PySem.W.Frag) (a : Addr) (cls : Value) (d : Option Addr) : List V → Hp → VK → Prop := fun xs H Q => ∃ (D dd : Addr) (fs : List (PySem.Str × V)) (c : V) (cv : Value) (b : Bool),
  cls = .ref D ∧ d = some dd ∧ H dd = some (.xd fs) ∧ ExcC K D ∧ xs = [.ref a, c] ∧ (∀ u, RelV c u → u = cv) ∧ PySem.W.kitOne K (.ref D) cv = some b ∧ Q (.bl b) H
theorem call_isV {X : Cx} {a : Addr} {cls : Value} {d : Option Addr} {oe : Obj} {pn : List (Addr × Obj)} (hz : Zc cls d oe) (hf : ∃ vs, oe.data = .fields vs) : CallR (X.suite a ((a, oe) :: pn)) (.builtin "isinstance") (rIsV X.K a cls d) := by
  intro pins s σ H xs us Q I r h
  obtain ⟨D, dd, fs, c, cv, b, rfl, rfl, hdd, C, rfl, hcv, e, q⟩ := h
  cases r with
  | cons rx rr =>
    cases rr with
    | cons rt rr =>
      cases rr
      cases rx
      have ec := hcv _ rt
      subst ec
      obtain ⟨hget, _⟩ := I.pin (a, oe) (List.mem_append.mpr (.inl List.mem_cons_self))
      obtain ⟨vs, hv⟩ := hf
      have hx : ObjOk X.prog X.w H s.heap dd (.xd fs) := I.hok dd _ hdd
      obtain ⟨mA, hns, _⟩ := hx
      obtain ⟨od, ho, _⟩ := lookIn_ns hns
      have J : PySem.W.InstAt s.heap a oe D (some od) := ⟨hget, hz.1, by unfold PySem.W.notCls; rw [hv] <;> rfl, by rw [hz.2]; exact ho⟩
      have hcl : (PySem.W.clsIn X.K D).isSome = true := by
        obtain ⟨cd, hc, _⟩ := PySem.W.any_some C.hd
        rw [hc]
        rfl
      exact PySem.W.kia_one (PySem.W.kitx_exc hcl C.hg C.hk C.hs C.ha C.hn C.ht C.hm) I.kIn J e (fun z => nomatch z) fun tk => ⟨.bl b, H, I.kept (t' := tk) fun _ _ z => z, rfl, q⟩
end Lw

set_option Elab.async false
set_option linter.all false
set_option maxRecDepth 100000
set_option maxHeartbeats 4000000
namespace Lw
open PySem PySem.Spec PyProof.Rows L2
/-- from the deal's heap H on: G' beside the deal, N only new things -/
structure News (G H G' N : Hp) (d l : Addr) : Prop where
  dl : Deal G' H d l
  kp : Same G G'
  sub : Same N G'
  dis : ∀ b o, N b = some o → G b = none
theorem News.zero {G H : Hp} {d l : Addr} (D : Deal G H d l) : News G H G (fun _ => none) d l := ⟨D, Same.refl G, fun b o e => (by cases e), fun b o e => (by cases e)⟩
theorem News.put {G H G' N : Hp} {d l p : Addr} {o : HO} (n : News G H G' N d l) (h : H p = none) : News G (upd H p o) (upd G' p o) (upd N p o) d l := by
  have gp : G' p = none := n.dl.same.free h
  refine ⟨n.dl.put h, fun b u e => ?_, fun b u e => ?_, fun b u e => ?_⟩
  · rw [upd_ne (ne_of_none (n.kp _ _ e) gp)]
    exact n.kp _ _ e
  · by_cases q : b = p
    · subst q
      rw [upd_same] at e ⊢
      exact e
    · rw [upd_ne q] at e ⊢
      exact n.sub _ _ e
  · by_cases q : b = p
    · subst q
      exact n.kp.free gp
    · rw [upd_ne q] at e
      exact n.dis _ _ e
theorem News.here {G H G' N : Hp} {d l p : Addr} {o : HO} (n : News G H G' N d l) (h : H p = none) : upd N p o p = some o := upd_same
theorem News.stay {G H G' N : Hp} {d l p : Addr} {o : HO} (n : News G H G' N d l) (h : H p = none) : Same N (upd N p o) := same_new (n.sub.free (n.dl.same.free h))
theorem News.redeal {G H H2 G' N : Hp} {d l : Addr} (n : News G H G' N d l) (D : Deal G' H2 d l) : News G H2 G' N d l := ⟨D, n.kp, n.sub, n.dis⟩
/-- what is new behind what is new -/
theorem News.more {G H G1 N1 H2 G2 N2 : Hp} {d l : Addr} (n : News G H G1 N1 d l) (m : News G1 H2 G2 N2 d l) : News G H2 G2 (fun b => match N1 b with | some o => some o | none => N2 b) d l := by
  refine ⟨m.dl, n.kp.trans m.kp, fun b o e => ?_, fun b o e => ?_⟩
  · cases h : N1 b with
    | some u =>
      have e' : some u = some o := by simpa [h] using e
      cases e'
      exact m.kp _ _ (n.sub _ _ h)
    | none =>
      have e' : N2 b = some o := by simpa [h] using e
      exact m.sub _ _ e'
  · cases h : N1 b with
    | some u => exact n.dis _ _ h
    | none =>
      have e' : N2 b = some o := by simpa [h] using e
      exact n.kp.free (m.dis _ _ e')
theorem News.left {G H G1 N1 H2 G2 N2 : Hp} {d l : Addr} (n : News G H G1 N1 d l) (m : News G1 H2 G2 N2 d l) : Same N1 (fun b => match N1 b with | some o => some o | none => N2 b) := fun b o e => by simp [e]
theorem News.right {G H G1 N1 H2 G2 N2 : Hp} {d l : Addr} (n : News G H G1 N1 d l) (m : News G1 H2 G2 N2 d l) : Same N2 (fun b => match N1 b with | some o => some o | none => N2 b) := fun b o e => by
  have h : N1 b = none := by
    cases q : N1 b with
    | none => rfl
    | some u =>
      have := m.dis _ _ e
      rw [n.sub _ _ q] at this
      cases this
  simp [h, e]
theorem Deal.over {G H : Hp} {d l D : Addr} {o u : HO} (n : Deal (upd G D u) H d l) : Deal (upd G D o) (upd H D o) d l := by
  have nd : d ≠ D := fun z => by have := n.gd; rw [z, upd_same] at this; cases this
  have nl : l ≠ D := fun z => by have := n.gl; rw [z, upd_same] at this; cases this
  obtain ⟨ns, m, a⟩ := n.it
  refine ⟨fun b v e => ?_, ?_, ?_, n.ne, ns, m, ?_⟩
  · by_cases q : b = D
    · subst q
      rw [upd_same] at e ⊢
      exact e
    · rw [upd_ne q] at e ⊢
      exact n.same _ _ (by rw [upd_ne q]; exact e)
  · have := n.gd
    rwa [upd_ne nd] at this ⊢
  · have := n.gl
    rwa [upd_ne nl] at this ⊢
  · exact ⟨by rw [upd_ne nd]; exact a.hd, by rw [upd_ne nl]; exact a.hl, a.len, a.nn, a.m0, a.m1⟩
theorem News.inH {G H G' N : Hp} {d l : Addr} (n : News G H G' N d l) : Same N H := n.sub.trans n.dl.same
theorem News.tup {G H G' N : Hp} {d l t : Addr} (n : News G H G' N d l) (u : H t = none) (xs : List V) : ∃ H1 G1 N1 : Hp, H1 = upd H t (.tup xs) ∧ News G H1 G1 N1 d l ∧ N1 t = some (.tup xs) ∧ Same N N1 := ⟨_, _, _, rfl, n.put u, upd_same, n.stay u⟩
theorem News.lst {G H G' N : Hp} {d l t : Addr} (n : News G H G' N d l) (u : H t = none) (xs : List V) : ∃ H1 G1 N1 : Hp, H1 = upd H t (.lst xs) ∧ News G H1 G1 N1 d l ∧ N1 t = some (.lst xs) ∧ Same N N1 := ⟨_, _, _, rfl, n.put u, upd_same, n.stay u⟩
/-- a heap without what stands at D -/
def hide (D : Addr) (G : Hp) : Hp := fun b => if b = D then none else G b
theorem hide_ne {D b : Addr} {G : Hp} (h : b ≠ D) : hide D G b = G b := if_neg h
theorem hide_same {D : Addr} {G : Hp} : hide D G D = none := if_pos rfl
theorem hide_upd {D : Addr} {G : Hp} {o : HO} : upd (hide D G) D o = upd G D o := by
  funext b
  by_cases q : b = D
  · subst q
    rw [upd_same, upd_same]
  · rw [upd_ne q, upd_ne q, hide_ne q]
/-- the promise of what hands a thing back -/
def Hands (K : PySem.W.Frag) (G : Hp) (d l : Addr) (Q : VK) : Prop := ∀ (G' H' N : Hp) (x : V) (pd : PyData), News G H' G' N d l → Dp K N x pd → fine pd = true → Q x H'
end Lw

set_option Elab.async false
set_option linter.all false
set_option maxRecDepth 100000
set_option maxHeartbeats 4000000
namespace Lw
open PySem PySem.Spec PyProof.Rows L2
theorem dpAll_app {K : PySem.W.Frag} {H : Hp} : ∀ {xs ys : List V} {ds es : List PyData}, DpAll K H xs ds → DpAll K H ys es → DpAll K H (xs ++ ys) (ds ++ es)
  | _, _, _, _, .nil, h => h
  | _, _, _, _, .cons a r, h => .cons a (dpAll_app r h)
/-- behind i turns of a comprehension (its list at L) that draw and hand new data; of the j-th R says something -/
def HP (K : PySem.W.Frag) (G : Hp) (d l L : Addr) (R : Nat → PyData → Prop) (i : Nat) (H' : Hp) : Prop := ∃ (B N : Hp) (xs : List V) (pds : List PyData), Same G B ∧ B L = none ∧ Deal (upd B L (.lst xs)) H' d l ∧ Same N B ∧ (∀ b o, N b = some o → G b = none) ∧
  DpAll K N xs pds ∧ xs.length = i ∧ ∀ j pd, pds[j]? = some pd → R j pd
theorem HP.zero {K : PySem.W.Frag} {G H : Hp} {d l L : Addr} {R : Nat → PyData → Prop} (D : Deal G H d l) (u : H L = none) : HP K G d l L R 0 (upd H L (.lst [])) :=
  ⟨G, fun _ => none, [], [], Same.refl _, D.same.free u, D.put u, fun b o e => (by cases e), fun b o e => (by cases e), .nil, rfl, fun j pd e => by simp at e⟩
theorem HP.turn {K : PySem.W.Frag} {G H1 : Hp} {d l L : Addr} {R : Nat → PyData → Prop} {i : Nat} {te : TE} {σ : L2.St} (h : HP K G d l L R i H1) (few : i < 100000)
    (el : ∀ Gx, Same G Gx → Deal Gx H1 d l → ∀ Q : VK, (∀ (G' H' N : Hp) (y : V) (pd : PyData), News Gx H' G' N d l → Dp K N y pd → R i pd → Q y H') → te σ H1 Q) :
    te σ H1 fun y H4 => ∃ acc, H4 L = some (.lst acc) ∧ acc.length < sizeLine ∧ HP K G d l L R (i + 1) (upd H4 L (.lst (acc ++ [y]))) := by
  obtain ⟨B, N, xs, pds, sB, nB, DB, sN, dN, hx, len, hR⟩ := h
  have sGx : Same G (upd B L (.lst xs)) := fun b o e => by rw [upd_ne (ne_of_none (sB _ _ e) nB)]; exact sB _ _ e
  refine el _ sGx DB _ fun G' H2 N1 y pd nw hd hr => ?_
  have gL : G' L = some (.lst xs) := nw.kp _ _ upd_same
  have gU : upd G' L (.lst xs) = G' := by
    funext b
    by_cases q : b = L
    · rw [q, upd_same, gL]
    · rw [upd_ne q]
  have bB : ∀ b o, B b = some o → b ≠ L := fun b o e z => by rw [z, nB] at e; cases e
  have toB : Same B (hide L G') := fun b o e => by
    have ne := bB b o e
    rw [hide_ne ne]
    exact nw.kp _ _ (by rw [upd_ne ne]; exact e)
  have n1 : ∀ b o, N1 b = some o → b ≠ L ∧ B b = none := fun b o e => by
    have z := nw.dis b o e
    have ne : b ≠ L := fun q => by rw [q, upd_same] at z; cases z
    rw [upd_ne ne] at z
    exact ⟨ne, z⟩
  have nn : ∀ b o, N1 b = some o → N b = none := fun b o e => sN.free (n1 b o e).2
  refine ⟨xs, nw.dl.same _ _ gL, Nat.lt_of_le_of_lt (show xs.length ≤ 100000 by omega) (by decide), hide L G', fun b => match N b with | some o => some o | none => N1 b, xs ++ [y], pds ++ [pd], sB.trans toB, hide_same, ?_, fun b o e => ?_, fun b o e => ?_, ?_, by rw [List.length_append, len]; rfl, ?_⟩
  · rw [hide_upd]
    exact Deal.over (G := G') (u := .lst xs) (by rw [gU]; exact nw.dl)
  · cases q : N b with
    | some u =>
      have e' : some u = some o := by simpa [q] using e
      cases e'
      exact toB _ _ (sN _ _ q)
    | none =>
      have e' : N1 b = some o := by simpa [q] using e
      rw [hide_ne (n1 b o e').1]
      exact nw.sub _ _ e'
  · cases q : N b with
    | some u => exact dN _ _ q
    | none =>
      have e' : N1 b = some o := by simpa [q] using e
      exact sB.free (n1 b o e').2
  · exact dpAll_app (dpAll_same (fun b o e => by simp [e]) _ _ hx) (.cons (dp_same (fun b o e => by simp [nn b o e, e]) _ _ hd) .nil)
  · intro j q e
    by_cases h : j < pds.length
    · rw [List.getElem?_append_left h] at e
      exact hR j q e
    · rw [List.getElem?_append_right (by omega)] at e
      have hj : j = pds.length := by
        by_cases z : j - pds.length = 0
        · omega
        · have : ([pd] : List PyData)[j - pds.length]? = none := List.getElem?_eq_none (by simp; omega)
          rw [this] at e
          cases e
      subst hj
      simp only [Nat.sub_self, List.getElem?_cons_zero, Option.some.injEq] at e
      rw [← e, ← dpAll_len hx, len]
      exact hr
theorem HP.same {K : PySem.W.Frag} {G H' : Hp} {d l L : Addr} {R : Nat → PyData → Prop} {n : Nat} (h : HP K G d l L R n H') : Same G H' := by
  obtain ⟨B, N, xs, pds, gB, nB, DB, _⟩ := h
  exact fun b o e => DB.same _ _ (by rw [upd_ne (ne_of_none (gB _ _ e) nB)]; exact gB _ _ e)
theorem HP.done {K : PySem.W.Frag} {G H' : Hp} {d l L : Addr} {R : Nat → PyData → Prop} {n : Nat} (h : HP K G d l L R n H') :
    ∃ (G' N : Hp) (xs : List V) (pds : List PyData), News G H' G' N d l ∧ N L = some (.lst xs) ∧ DpAll K N xs pds ∧ xs.length = n ∧ ∀ j pd, pds[j]? = some pd → R j pd := by
  obtain ⟨B, N, xs, pds, gB, nB, DB, sN, dN, hx, len, hR⟩ := h
  have nL : N L = none := sN.free nB
  refine ⟨upd B L (.lst xs), upd N L (.lst xs), xs, pds, ⟨DB, fun b o e => by rw [upd_ne (ne_of_none (gB _ _ e) nB)]; exact gB _ _ e, fun b o e => ?_, fun b o e => ?_⟩, upd_same, dpAll_same (same_new nL) _ _ hx, len, hR⟩
  · by_cases q : b = L
    · subst q
      rw [upd_same] at e ⊢
      exact e
    · rw [upd_ne q] at e ⊢
      exact sN _ _ e
  · by_cases q : b = L
    · subst q
      exact gB.free nB
    · rw [upd_ne q] at e
      exact dN _ _ e
end Lw

set_option Elab.async false
set_option linter.all false
set_option maxRecDepth 100000
set_option maxHeartbeats 4000000
namespace Lw
open PySem PySem.Spec PyProof.Rows L2
theorem HP.more {K : PySem.W.Frag} {G H : Hp} {d l L T : Addr} {R : Nat → PyData → Prop} {i : Nat} {o : HO} (h : HP K G d l L R i H) (u : H T = none) : HP K G d l L R i (upd H T o) := by
  obtain ⟨B, N, xs, pds, sB, nB, DB, r⟩ := h
  exact ⟨B, N, xs, pds, sB, nB, DB.more u, r⟩
/-- something new that stands in the heap by now -/
theorem News.grow {G H H' G' N : Hp} {d l p : Addr} {o : HO} (n : News G H G' N d l) (s : Same H H') (u : H p = none) (e : H' p = some o) : News G H' (upd G' p o) (upd N p o) d l := by
  obtain ⟨ns, m, a⟩ := n.dl.it
  have nd : d ≠ p := ne_of_none a.hd u
  have nl : l ≠ p := ne_of_none a.hl u
  have gp : G' p = none := n.dl.same.free u
  refine ⟨⟨fun b v h => ?_, by rw [upd_ne nd]; exact n.dl.gd, by rw [upd_ne nl]; exact n.dl.gl, n.dl.ne, ns, m, s _ _ a.hd, s _ _ a.hl, a.len, a.nn, a.m0, a.m1⟩, fun b v h => ?_, fun b v h => ?_, fun b v h => ?_⟩
  · by_cases q : b = p
    · subst q
      rw [upd_same] at h
      cases h
      exact e
    · rw [upd_ne q] at h
      exact s _ _ (n.dl.same _ _ h)
  · rw [upd_ne (ne_of_none (n.kp _ _ h) gp)]
    exact n.kp _ _ h
  · by_cases q : b = p
    · subst q
      rw [upd_same] at h ⊢
      exact h
    · rw [upd_ne q] at h ⊢
      exact n.sub _ _ h
  · by_cases q : b = p
    · subst q
      exact n.kp.free gp
    · rw [upd_ne q] at h
      exact n.dis _ _ h
/-- a comprehension over enumerate of a list -/
theorem lc_enum {K : PySem.W.Frag} {a : Addr} {xs : List V} {g : TG} {tt : TT} {te : TE} {vs : List Nat} {σ : L2.St} {H1 : Hp} {D : Addr} {Qd : Hp → Prop} (Pv : Nat → Hp → Prop) (h0 : Pv 0 (upd H1 D (.lst []))) (hl : ∀ i H, Pv i H → SqL K H a xs)
    (hs : ∀ i x T H, xs[i]? = some x → Pv i H → H T = none → g (.ref T) (wipe σ vs) (upd H T (.tup [.int (i : Nat), x])) fun σ2 H2 => wipe σ2 vs = wipe σ vs ∧ tt σ2 H2 fun b H3 =>
      if b = true then te σ2 H3 fun y H4 => ∃ acc, H4 D = some (.lst acc) ∧ acc.length < sizeLine ∧ Pv (i + 1) (upd H4 D (.lst (acc ++ [y]))) else Pv (i + 1) H3) (hd : ∀ H, Pv xs.length H → Qd H) :
    ∃ W : Nat → Nat → Hp → Prop, (∃ m, W 0 m (upd H1 D (.lst []))) ∧ ∀ i m H, W i m H →
      ((Ite K a).stop i H ∧ Qd H) ∨ ((Ite K a).go i H ∧ ∃ Nx : Hp → Prop, (∀ H', Nx H' → ∃ m', m' < m ∧ W (i + 1) m' H') ∧ ∀ x H', (Ite K a).yld i H x H' → g x (wipe σ vs) H' fun σ2 H2 => wipe σ2 vs = wipe σ vs ∧ tt σ2 H2 fun b H3 =>
        if b = true then te σ2 H3 fun y H4 => ∃ acc, H4 D = some (.lst acc) ∧ acc.length < sizeLine ∧ Nx (upd H4 D (.lst (acc ++ [y]))) else Nx H3) := by
  refine ⟨fun i m H => m = xs.length - i ∧ i ≤ xs.length ∧ Pv i H, ⟨xs.length, by simp, Nat.zero_le _, h0⟩, ?_⟩
  rintro i m H ⟨rfl, hi, p⟩
  have q := hl i H p
  by_cases hlt : i < xs.length
  · refine .inr ⟨⟨xs, xs[i], q, by simp [hlt]⟩, Pv (i + 1), fun H' p' => ⟨xs.length - (i + 1), by omega, rfl, hlt, p'⟩, fun x H' y => ?_⟩
    obtain ⟨T, x', rfl, hT, rfl, f⟩ := y
    exact hs i x' T H (f xs q) p hT
  · have e : i = xs.length := by omega
    subst e
    exact .inl ⟨⟨xs, q, Nat.le_refl _⟩, hd H p⟩
theorem dp_perm {K : PySem.W.Frag} {N : Hp} {α : Type} (f : α → PyData) : ∀ {xs ys : List V}, ys.Perm xs → ∀ {rs : List α}, DpAll K N xs (rs.map f) → ∃ rs' : List α, rs'.Perm rs ∧ DpAll K N ys (rs'.map f) := by
  intro xs ys h
  induction h with
  | nil => exact fun {rs} a => ⟨rs, List.Perm.refl _, a⟩
  | cons x _ ih =>
    intro rs a
    cases rs with
    | nil => cases a
    | cons r rs =>
      cases a with
      | cons a1 a2 =>
        obtain ⟨rs', p, b⟩ := ih a2
        exact ⟨r :: rs', p.cons r, .cons a1 b⟩
  | swap x y zs =>
    intro rs a
    match rs, a with
    | r1 :: r2 :: rs, .cons a1 (.cons a2 a3) => exact ⟨r2 :: r1 :: rs, List.Perm.swap _ _ _, .cons a2 (.cons a1 a3)⟩
  | trans _ _ ih1 ih2 =>
    intro rs a
    obtain ⟨rs1, p1, b1⟩ := ih2 a
    obtain ⟨rs2, p2, b2⟩ := ih1 b1
    exact ⟨rs2, p2.trans p1, b2⟩
end Lw

set_option Elab.async false
set_option linter.all false
set_option maxRecDepth 100000
set_option maxHeartbeats 4000000
namespace Lw
open PySem PySem.Spec PyProof.Rows L2
/-! ### a row as the laws draw it -/
inductive Row0 where
  | ask (p n : Str) (ws : List (Str × Str))
  | note (p w t : Str)
  | gate (p m n e : Str)
  | end_ (p : Str)
def wayD (w : Str × Str) : PyData := .tuple [.str w.1, .str w.2]
def lineD : Row0 → PyData
  | .ask p n ws => .tuple [.str "ask", .str p, .str n, .tuple (ws.map wayD)]
  | .note p w t => .tuple [.str "note", .str p, .str w, .str t]
  | .gate p m n e => .tuple [.str "mark", .str p, .str m, .str n, .str e]
  | .end_ p => .tuple [.str "end", .str p]
/-- its words, its text -/
def wordsR : Row0 → List Str
  | .ask p n ws => p :: "ask" :: n :: (ws.map fun w => [w.1, w.2]).flatten
  | .note p w t => [p, "note", w, t]
  | .gate p m n e => [p, "mark", m, n, e]
  | .end_ p => [p, "end"]
def textR (r : Row0) : Str := Txt.join " " (wordsR r)
/-- the attributes of its object -/
def fieldsOk (K : PySem.W.Frag) (H : Hp) (fs : List (Str × V)) : Row0 → Prop
  | .ask p n ws => fs.lookup ("place" : Str) = some (.str p) ∧ fs.lookup ("name" : Str) = some (.str n) ∧ (∃ wa, fs.lookup ("ways" : Str) = some (.ref wa) ∧ Dp K H (.ref wa) (.tuple (ws.map wayD))) ∧ fs.lookup ("_text" : Str) = some (.str (textR (.ask p n ws)))
  | .note p w t => fs.lookup ("place" : Str) = some (.str p) ∧ fs.lookup ("word" : Str) = some (.str w) ∧ fs.lookup ("then" : Str) = some (.str t) ∧ fs.lookup ("_text" : Str) = some (.str (textR (.note p w t)))
  | .gate p m n e => fs.lookup ("place" : Str) = some (.str p) ∧ fs.lookup ("mark" : Str) = some (.str m) ∧ fs.lookup ("newer" : Str) = some (.str n) ∧ fs.lookup ("elder" : Str) = some (.str e) ∧ fs.lookup ("_text" : Str) = some (.str (textR (.gate p m n e)))
  | .end_ p => fs.lookup ("place" : Str) = some (.str p) ∧ fs.lookup ("_text" : Str) = some (.str (textR (.end_ p)))
/-- the row that these arguments make -/
def Made : List PyData → Row0 → Prop
  | ds, .ask p n ws => ds = [.str p, .str n, .list (ws.map wayD)] ∨ ds = [.str p, .str n, .tuple (ws.map wayD)]
  | ds, .note p w t => ds = [.str p, .str w, .str t]
  | ds, .gate p m n e => ds = [.str p, .str m, .str n, .str e]
  | ds, .end_ p => ds = [.str p]
mutual
theorem dp_but {K : PySem.W.Frag} {H H' : Hp} {p C dx : Addr} {fs : List (Str × V)} (hp : H p = some (.ins C dx fs)) (e : But p H H') : ∀ (d : PyData) (v : V), Dp K H v d → Dp K H' v d
  | .none, _, h => by cases h; exact .non
  | .bool b, _, h => by cases h; exact .bl b
  | .int i, _, h => by cases h; exact .int i
  | .str x, _, h => by cases h; exact .str x
  | .list ds, _, h => by
    cases h with
    | lst h1 h2 => exact .lst (e.seq hp h1) (dpAll_but hp e ds _ h2)
  | .tuple ds, _, h => by
    cases h with
    | tup h1 h2 => exact .tup (e.tup hp h1) (dpAll_but hp e ds _ h2)
  | .dict _, _, h => by cases h
theorem dpAll_but {K : PySem.W.Frag} {H H' : Hp} {p C dx : Addr} {fs : List (Str × V)} (hp : H p = some (.ins C dx fs)) (e : But p H H') : ∀ (ds : List PyData) (vs : List V), DpAll K H vs ds → DpAll K H' vs ds
  | [], _, h => by cases h; exact .nil
  | d :: ds, _, h => by
    cases h with
    | cons h1 h2 => exact .cons (dp_but hp e d _ h1) (dpAll_but hp e ds _ h2)
end
end Lw

set_option Elab.async false
set_option linter.all false
set_option maxRecDepth 100000
set_option maxHeartbeats 4000000
/-! enumerate(t), t a tuple. -/
namespace Lw
open PySem PySem.Spec PyProof.Rows L2
theorem meets_enum_tup (t : Addr) (items : Array Value) (n : Nat) (dct : Option Addr) (sl : Array (Option Value)) :
    Meets (Builtin.«enumerate.__new__» ⟨[.type "enumerate", .ref t], []⟩) (fun _ R s => s.heap.get? t = some { cls := .type "tuple", dict := dct, data := .seq items n, slots := sl } ∧
      R (.ok (.ret (.ref (s.heap.objs.size + 1)))) { s with heap := (s.heap.push { cls := .type "tuple_iterator", data := .fields #[.ref t, .int 0 0] }).push { cls := .type "enumerate", data := .fields #[.none, .bool false, .ref s.heap.objs.size, rawInt 0, .none, .none] } }) :=
  .of_wp fun prog w A R s told => by
    obtain ⟨hp, g, d, tk, os⟩ := s
    obtain ⟨at_, fin⟩ := told
    have sub := sub_enumerate
    have isT : Heap.IsTuple (Shared.heap ⟨hp, g, d, tk, os⟩) t items := ⟨_, at_, rfl, n, rfl⟩
    have size : (hp.push { cls := .type "tuple_iterator", data := .fields #[.ref t, .int 0 0] }).objs.size = hp.objs.size + 1 := Heap.size_push ..
    have fin' : R (.ok (.ret (.ref (hp.push { cls := .type "tuple_iterator", data := .fields #[.ref t, .int 0 0] }).objs.size))) ⟨(hp.push { cls := .type "tuple_iterator", data := .fields #[.ref t, .int 0 0] }).push { cls := .type "enumerate", data := .fields #[.none, .bool false, .ref hp.objs.size, rawInt 0, .none, .none] }, g, d, tk, os⟩ := by rw [size]; exact fin
    wp_walk using PySem.AutoSeq1.wpAny_loadPart' at_
    refine wpAny_stack_any fun st => wpAny_pure ?_
    split
    · rename_i c _ _ _ _ _
      cases (c == Value.type "enumerate")
      · wp_walk using PySem.AutoSeq1.wpAny_loadPart' at_, wpAny_pyIter_tuple isT
        exact ⟨_, rfl, fin'⟩
      · wp_walk using PySem.AutoSeq1.wpAny_loadPart' at_, wpAny_pyIter_tuple isT
        exact ⟨_, rfl, fin'⟩
    · wp_walk using PySem.AutoSeq1.wpAny_loadPart' at_, wpAny_pyIter_tuple isT
      exact ⟨_, rfl, fin'⟩
theorem call_enum_tup {prog : Program} {w : World} {A : Around} {E : Value → Shared → Prop} {s : Shared} {t : Addr} {items : Array Value} {Q : Value → Shared → Prop} (isT : s.heap.IsTuple t items)
    (fin : ∀ h', IsEnum h' (s.heap.objs.size + 1) s.heap.objs.size 0 .none → h'.IsTupleIter s.heap.objs.size t 0 → (∀ b o, s.heap.get? b = some o → h'.get? b = some o) → Q (.ref (s.heap.objs.size + 1)) { s with heap := h' }) :
    wpAny (model prog w) A (call (.type "enumerate") [.ref t]) Q E s := by
  obtain ⟨⟨c, dct, dt, sl⟩, at_, isC, n, isD⟩ := isT
  obtain rfl : c = .type "tuple" := isC
  obtain rfl : dt = .seq items n := isD
  refine callType_new F.called_enumerate (by decide) (F.typeCall_enumerate_1 _) (F.newCall_enumerate_1 _) (fun obj => F.args_object_init_2 obj _) F.entry_enumerate_new (meets_enum_tup t items n dct sl) ⟨at_, ?_⟩
  have size : (s.heap.push { cls := .type "tuple_iterator", data := .fields #[.ref t, .int 0 0] }).objs.size = s.heap.objs.size + 1 := Heap.size_push ..
  have isE : IsEnum ((s.heap.push { cls := .type "tuple_iterator", data := .fields #[.ref t, .int 0 0] }).push { cls := .type "enumerate", data := .fields #[.none, .bool false, .ref s.heap.objs.size, rawInt 0, .none, .none] }) (s.heap.objs.size + 1) s.heap.objs.size 0 .none := by
    have z := Heap.get?_push_size (s.heap.push { cls := .type "tuple_iterator", data := .fields #[.ref t, .int 0 0] }) (o := { cls := .type "enumerate", data := .fields #[.none, .bool false, .ref s.heap.objs.size, rawInt 0, .none, .none] }) rfl
    rwa [size] at z
  exact ⟨⟨_, isE, rfl⟩, fin _ isE ⟨_, Heap.get?_push_of_some _ (Heap.get?_push_size _ rfl), rfl, rfl⟩ fun b o x => Heap.get?_push_of_some _ (Heap.get?_push_of_some _ x)⟩
/-- the tuple at a, each item in a new pair -/
def ItEt (K : PySem.W.Frag) (a : Addr) : It :=
  ⟨fun i H => ∃ (xs : List V) (x : V), SqT K H a xs ∧ xs[i]? = some x, fun i H v H' => ∃ T x, v = .ref T ∧ H T = none ∧ H' = upd H T (.tup [.int (i : Nat), x]) ∧ ∀ xs, SqT K H a xs → xs[i]? = some x, fun i H => ∃ xs : List V, SqT K H a xs ∧ xs.length = i⟩
theorem turn_enum_tup {P : Program} {w : World} {K : PySem.W.Frag} {elts : List Expr} {kk : Nat} {tpos : Pos} (a e it : Addr) :
    Turn P w K (.Tuple elts kk tpos) (ItEt K a) [e, it] e (fun i h => (∃ old, IsEnum h e it ((i : Nat) : Int) old) ∧ h.IsTupleIter it a i ∧ e ≠ it) where
  mem := by simp
  obj := fun i h st b hb => by
    obtain ⟨⟨old, isE⟩, ⟨o, ho, hc, hd⟩, _⟩ := st
    rcases (show b = e ∨ b = it by simpa using hb) with rfl | rfl
    · exact ⟨_, isE, fun v q => nomatch q⟩
    · exact ⟨o, ho, fun v q => by rw [hd] at q; cases q⟩
  keep := fun i h h' st k => by
    obtain ⟨⟨old, isE⟩, isI, ne⟩ := st
    exact ⟨⟨old, k e (by simp) _ isE⟩, isI.at fun o q => k it (by simp) o q, ne⟩
  item := by
    intro X hP hw hK hc i pins s σ H E I hf st hg
    subst hP hw hK
    obtain ⟨⟨old, isE⟩, isI, ne⟩ := st
    obtain ⟨xs, x, hq, hx⟩ := hg
    obtain ⟨its, rv, p, hz⟩ := I.tuple hq
    have isT : s.heap.IsTuple a its.toArray := p
    obtain ⟨u, hu, ru⟩ := rv.get hx
    have inE : e < s.heap.objs.size := Heap.lt_size isE
    have inI : it < s.heap.objs.size := by obtain ⟨_, q, _⟩ := isI; exact Heap.lt_size q
    have neA : e ≠ a := fun z => by
      obtain ⟨o, q, qc, _⟩ := isT
      rw [← z, show s.heap.get? e = _ from isE] at q
      cases q
      exact absurd qc (by show ¬ Value.type "enumerate" = Value.type "tuple"; decide)
    have neI : a ≠ it := fun z => by
      obtain ⟨o, q, qc, _⟩ := isT
      obtain ⟨o', q', qc', _⟩ := isI
      rw [z, q'] at q
      cases q
      rw [qc'] at qc
      exact absurd qc (by decide)
    have few : i < its.toArray.size := by
      have := (List.getElem?_eq_some_iff.mp hu).1
      simpa using this
    refine wpAny_pyNext_enum_itemD (PySem.Draws.tuple (A := X.A.in1) (I.ok.hd hc) it a neI its.toArray) isE ⟨isI, isT⟩ few ne (by simp [ne, neA]) fun x2 h' tk hp2 out st2 hT hsz hk => ?_
    have e2 : x2 = u := by
      have hu' : its.toArray[i]? = some u := by simpa using hu
      rw [hu'] at hp2
      exact (Option.some.inj hp2).symm
    subst e2
    refine ⟨_, rfl, wpAny_letOwnedTupleGo_enum (s := { s with heap := h', toks := tk + 1 }) out fun h2 isE2 sb => ?_⟩
    have hT2 : h2.get? s.heap.objs.size = some { cls := .type "tuple", data := .seq #[.int i tk, x2] } := (sb.2 _ (Nat.ne_of_gt inE)).trans hT
    have new : ObjOk X.prog X.w (upd H s.heap.objs.size (.tup [.int (i : Nat), x])) h2 s.heap.objs.size (.tup [.int (i : Nat), x]) := ⟨by show 2 ≤ sizeLine; decide, [.int i tk, x2], .cons ⟨_, rfl⟩ (.cons ru .nil), ⟨_, hT2, rfl, _, rfl⟩⟩
    have I1 : Inv X pins σ (upd H s.heap.objs.size (.tup [.int (i : Nat), x])) { s with heap := h2, toks := tk + 1 } :=
      I.turnedNew (ch := [e, it]) (fun b ob hb q => (sb.2 b (fun z => hb (by simp [z]))).trans (hk b ob (fun z => hb (by simp [z])) (fun z => hb (by simp [z])) q)) hf (Nat.le_refl _) new
    refine ⟨.ref s.heap.objs.size, _, I1, rfl, ⟨_, x, rfl, I.hok.fresh (Nat.le_refl _), rfl, fun ys hy => by rw [I.tuple_inj hy hq]; exact hx⟩, ⟨⟨x2, ?_⟩, st2.1.at fun o q => (sb.2 it (Ne.symm ne)).trans q, ne⟩, fun b hb => ?_⟩
    · rw [show ((i + 1 : Nat) : Int) = (i : Int) + 1 by omega]
      exact isE2
    · have hb' : b < s.heap.objs.size := by
        rcases (show b = e ∨ b = it by simpa using hb) with rfl | rfl
        · exact inE
        · exact inI
      rw [upd_ne (Nat.ne_of_lt hb')]
      exact (hf b hb).1
  done := by
    intro X hP hw hK hc i pins s σ H E I hf st hg
    subst hP hw hK
    obtain ⟨⟨old, isE⟩, isI, ne⟩ := st
    obtain ⟨xs, hq, hx⟩ := hg
    obtain ⟨its, rv, p, hz⟩ := I.tuple hq
    have isT : s.heap.IsTuple a its.toArray := p
    obtain ⟨f0, f1, f2, f3, f4, f5⟩ := hf it (by simp)
    have size : its.toArray.size = i := by rw [List.size_toArray, ← rv.length]; exact hx
    have neI : a ≠ it := fun z => by
      obtain ⟨o, q, qc, _⟩ := isT
      obtain ⟨o', q', qc', _⟩ := isI
      rw [z, q'] at q
      cases q
      rw [qc'] at qc
      exact absurd qc (by decide)
    exact wpAny_pyNext_enum_endD (PySem.Draws.tuple (A := X.A.in1) (I.ok.hd hc) it a neI its.toArray) isE ⟨by rw [size]; exact isI, isT⟩ fun h' eb => ⟨rfl, I.turned (t' := s.toks) (fun b o hb q => eb b o hb q) f0 f1 f3 f4 f5⟩
  self := fun A i s Q E st h => by
    obtain ⟨⟨_, isE⟩, _⟩ := st
    exact wpAny_pyIter_enum isE h

end Lw

set_option Elab.async false
set_option linter.all false
set_option maxRecDepth 100000
set_option maxHeartbeats 400000
namespace Lw
open PySem PySem.Spec PyProof.Rows L2
def iEnumT (K : PySem.W.Frag) (ta : TA) : TI := fun σ H R => ta σ H fun vs H1 => ∃ a xs, vs = [.ref a] ∧ SqT K H1 a xs ∧ R (ItEt K a) H1
theorem pi_enumT {X : Cx} {e : Expr} {ta : TA} {p pos tpos : Pos} {elts : List Expr} {kk : Nat} (glob : Gl X "enumerate") (free : X.mg "enumerate" = none) (arg : PA X [e] ta) (hs : starEach [e] X.env = [(false, eval e X.env)] := by rfl) :
    PI X (.Tuple elts kk tpos) (.Call (.Name "enumerate" p) [e] [] pos) (iEnumT X.K ta) := by
  constructor
  intro pins s σ H R I h
  refine Call_ (ld_blt I glob free boot_enumerate (PyProof.Rows.callWith_type1 (thn (arg.run pos pins s σ H _ I h) fun us s1 told => ?_) hs rfl))
  obtain ⟨vs, H1, I1, r1, q1⟩ := told
  obtain ⟨a, xs, rfl, hq, q⟩ := q1
  cases r1 with
  | cons r none =>
    cases none
    cases r
    obtain ⟨its, rv, p', hz⟩ := I1.tuple hq
    refine call_enum_tup p' fun h' isE isI hk => wpAny_pyIter_enum isE ?_
    have I2 : Inv X pins σ H1 { s1 with heap := h' } := I1.kept (t' := s1.toks) hk
    refine ⟨s1.heap.objs.size + 1, [s1.heap.objs.size + 1, s1.heap.objs.size], _, _, H1, rfl, I2, turn_enum_tup a (s1.heap.objs.size + 1) s1.heap.objs.size, ⟨⟨.none, isE⟩, isI, Nat.succ_ne_self _⟩, fun b hb => ?_, q⟩
    have up : s1.heap.objs.size ≤ b := by
      rcases (show b = s1.heap.objs.size + 1 ∨ b = s1.heap.objs.size by simpa using hb) with rfl | rfl
      · exact Nat.le_succ _
      · exact Nat.le_refl _
    exact I1.fpOk up (I1.hok.fresh up)
/-- a list or a tuple -/
abbrev iEnumA (K : PySem.W.Frag) (ta : TA) : TI := fun σ H R => iEnum K ta σ H R ∨ iEnumT K ta σ H R
theorem pi_enumA {X : Cx} {e : Expr} {ta : TA} {p pos tpos : Pos} {elts : List Expr} {kk : Nat} (glob : Gl X "enumerate") (free : X.mg "enumerate" = none) (arg : PA X [e] ta) (hs : starEach [e] X.env = [(false, eval e X.env)] := by rfl) :
    PI X (.Tuple elts kk tpos) (.Call (.Name "enumerate" p) [e] [] pos) (iEnumA X.K ta) := PI.or (pi_enum glob free arg hs) (pi_enumT glob free arg hs)
inductive JE (K : PySem.W.Frag) (H : Hp) (a : Addr) (xs : List V) : L2.It → Prop
  | l (h : SqL K H a xs) : JE K H a xs (Ite K a)
  | t (h : SqT K H a xs) : JE K H a xs (ItEt K a)
theorem for_JE {K : PySem.W.Frag} {a : Addr} {xs : List V} {σ : L2.St} {H : Hp} {J : L2.It} {g : TG} {t : TS} {D : Ends} (hs : JE K H a xs J) (Pv : Nat → L2.St → Hp → Prop) (h0 : Pv 0 σ H) (keep : ∀ i σ' H', Pv i σ' H' → Same H H')
    (turn : ∀ i x σ' H' T, xs[i]? = some x → Pv i σ' H' → H' T = none → g (.ref T) σ' (upd H' T (.tup [.int (i : Nat), x])) fun σ2 H2 => t { D with nx := Pv (i + 1), ct := Pv (i + 1), bk := D.nx } σ2 H2) (done : ∀ σ' H', Pv xs.length σ' H' → D.nx σ' H') :
    ∃ W : Nat → Nat → L2.St → Hp → Prop, (∃ m, W 0 m σ H) ∧ ∀ i m σ H, W i m σ H →
      (J.stop i H ∧ D.nx σ H) ∨ (J.go i H ∧ ∃ N : L2.St → Hp → Prop, (∀ σ' H', N σ' H' → ∃ m', m' < m ∧ W (i + 1) m' σ' H') ∧ ∀ x H', J.yld i H x H' → g x σ H' fun σ2 H2 => t { D with nx := N, ct := N, bk := D.nx } σ2 H2) := by
  refine ⟨fun i m σ' H' => m = xs.length - i ∧ i ≤ xs.length ∧ Pv i σ' H', ⟨xs.length, by simp, Nat.zero_le _, h0⟩, ?_⟩
  rintro i m σ' H' ⟨rfl, le, p⟩
  have same := keep i σ' H' p
  cases hs with
  | l hs =>
    have q : SqL K H' a xs := same.seq hs
    by_cases lt : i < xs.length
    · refine .inr ⟨⟨xs, xs[i], q, by simp [lt]⟩, Pv (i + 1), fun σ2 H2 p2 => ⟨xs.length - (i + 1), by omega, rfl, lt, p2⟩, fun x H2 y => ?_⟩
      obtain ⟨T, x', rfl, hT, rfl, f⟩ := y
      exact turn i x' σ' H' T (f xs q) p hT
    · have e : i = xs.length := by omega
      subst e
      exact .inl ⟨⟨xs, q, Nat.le_refl _⟩, done σ' H' p⟩
  | t hs =>
    have q : SqT K H' a xs := same_tup same hs
    by_cases lt : i < xs.length
    · refine .inr ⟨⟨xs, xs[i], q, by simp [lt]⟩, Pv (i + 1), fun σ2 H2 p2 => ⟨xs.length - (i + 1), by omega, rfl, lt, p2⟩, fun x H2 y => ?_⟩
      obtain ⟨T, x', rfl, hT, rfl, f⟩ := y
      exact turn i x' σ' H' T (f xs q) p hT
    · have e : i = xs.length := by omega
      subst e
      exact .inl ⟨⟨xs, q, rfl⟩, done σ' H' p⟩
theorem enum_run {K : PySem.W.Frag} {a : Addr} {xs : List V} {σ : L2.St} {H : Hp} {i0 : Nat} {R : L2.It → Hp → Prop} (e : σ[i0]? = some (some (.ref a))) (hs : SqA K H a xs) (f : ∀ J, JE K H a xs J → R J H) : iEnumA K (tCons (tVar i0) tNil) σ H R := by
  rcases hs with hs | hs
  · exact .inl ⟨_, e, a, xs, rfl, hs, f _ (.l hs)⟩
  · exact .inr ⟨_, e, a, xs, rfl, hs, f _ (.t hs)⟩
/-- what is never come to -/
def tDead : TS := fun _ _ _ => False
theorem ps_dead {X : Cx} {st : Stmt} : PS X st tDead := ⟨fun _ _ _ _ _ _ h => h.elim⟩
end Lw


set_option Elab.async false
set_option linter.all false
set_option maxRecDepth 100000
set_option maxHeartbeats 4000000
/-! Promises of defs that write things out (repr): nothing else is being written out around them. -/
namespace Lw
open PySem PySem.Spec PyProof.Rows L2
/-- as FnOk, where nothing is being written out around the call -/
structure FnG (P : Program) (w : World) (K : PySem.W.Frag) (mg : PySem.Str → Option Value) (base : Heap) (C : CXT) (k : Nat) (f : Addr) (fd : FuncData) (ps : List PySem.Str) (sp : Sp) : Prop where
  lenG : ∀ vs H Q E, sp vs H Q E → vs.length = ps.length
  runG : ∀ (A : Around) (out : List Env) (s : Shared) (H : Hp) (args : Args) (us : List Value) (vs : List V) (Q : VK) (E : XK), Room k A → A.guards = some [] → Env0 P w K mg base A out s H → BindsTo s fd args (ps.zip us) → Vals vs us → sp vs H Q E →
    codeAny (model P w) A (.call (.ref f) args) (CR C out P w H s Q E) s
section
variable {P : Program} {w : World} {K : PySem.W.Frag} {mg : PySem.Str → Option Value} {base : Heap}
theorem FnG.mono {C : CXT} {j k : Nat} {f : Addr} {fd : FuncData} {ps : List PySem.Str} {sp : Sp} (F : FnG P w K mg base C j f fd ps sp) (h : j ≤ k) : FnG P w K mg base C k f fd ps sp :=
  ⟨F.lenG, fun A out s H args us vs Q E room => F.runG A out s H args us vs Q E (room.mono h)⟩
/-- a def that may be called anywhere -/
theorem FnG.of {C : CXT} {k : Nat} {f : Addr} {fd : FuncData} {ps : List PySem.Str} {sp : Sp} (F : FnOk P w K mg base C k f fd ps sp) : FnG P w K mg base C k f fd ps sp :=
  ⟨F.len, fun A out s H args us vs Q E room _ => F.run A out s H args us vs Q E room⟩
/-- the rule for a def, by its body -/
theorem fun_okG {C : CXT} {x qual : PySem.Str} {st : Stmt} {f : Addr} {fd : FuncData} {N ps : List PySem.Str} {k : Nat} {sp : Sp} (F : Fun K x qual st f fd) (S : FnScope N ps (defScope st)) (len : ∀ vs H Q E, sp vs H Q E → vs.length = ps.length)
    (body : ∀ (cdv : Value) (A : Around) (out : List Env) (s : Shared) (H : Hp) (vs : List V) (Q : VK) (E : XK), Room k (A.deeper (envOfC qual (defScope st) s.heap.objs.size f cdv)) → (A.deeper (envOfC qual (defScope st) s.heap.objs.size f cdv)).guards = some [] → sp vs H Q E →
      ∃ t, PSs (cxOf C P w K mg base N qual (defScope st) f cdv A out s H E) (defBody st) t ∧ t { nx := fun _ H' => Q .non H', rt := Q } (start N vs) H) : FnG P w K mg base C (k + 1) f fd ps sp := by
  obtain ⟨oc, od, kV, doc, pm, an, cdv, ct, osl, rfl, look, hcd⟩ := F.ex
  refine ⟨len, fun A out s H args us vs Q E room hg start0 bind rel want => ?_⟩
  have fewer : vs.length = ps.length := len vs H Q E want
  have inS : K.In s.heap := start0.mod.kin.keeps fun b o e => (start0.bs b o e).1
  have free : s.heap.NoLimit := start0.mod.nolimit.keeps fun b o e => (start0.bs b o e).1
  have kinds : ∀ y ∈ ps.zip us, (defScope st).names.lookup y.1 = some .local ∨ ((defScope st).names.lookup y.1 = some .cell ∧ ((cellsFrom (s.heap.objs.size + 1) (defScope st).names []).lookup y.1).isSome = true) := by
    rintro ⟨name, value⟩ hy
    cases S.par name (List.of_mem_zip hy).1 with
    | inl h => exact .inl h
    | inr h => exact .inr ⟨h, PySem.W.cellsFrom_some _ _ _ (.inl h)⟩
  refine codeAny_call_function room.depth (inS _ _ look) rfl S.co S.gen rfl (PySem.W.codeRec_of inS hcd) (bind _ _ _ _ ?_)
  refine wpAny_newFunctionEnv_cells S.kind kinds fun env isEnv s1 x => ?_
  subst isEnv
  refine ⟨free.keeps x.toInCall.keep, codeAny_func ?_⟩
  have deep : (A.deeper (envOfC qual (defScope st) s.heap.objs.size f cdv)).guards = some [] := hg
  obtain ⟨t, term, read⟩ := body cdv A out s H vs Q E (room.deeper _) deep want
  have I := inv_start (CX := C) (E := E) S room.hd start0 fewer rel x
  refine wpAny_mono (term.run [] s1 (start N vs) H _ I read) (fun flow s2 told => ?_) fun _ _ z => z
  cases flow with
  | ret u =>
    obtain ⟨v, σ2, H2, J, rv, q⟩ := told
    exact ⟨v, H2, J.os, J.bare, J.base, J.hok, rv, q⟩
  | next =>
    obtain ⟨σ2, H2, J, q⟩ := told
    exact ⟨V.non, H2, J.os, J.bare, J.base, J.hok, rfl, q⟩
  | brk => exact told.elim fun _ z => z.elim fun _ z => z.2.elim
  | cont => exact told.elim fun _ z => z.elim fun _ z => z.2.elim
end
/-- its call -/
theorem pe_callG {X : Cx} {C : CXT} {k : Nat} {f : Addr} {fd : FuncData} {ps : List PySem.Str} {sp : Sp} {E : XK} {x : PySem.Str} {p pos : Pos} {e : Expr} {es : List Expr} {t : TA} (F : FnG X.prog X.w X.K X.mg X.base C k f fd ps sp) (room : Room k X.A) (hg : X.A.guards = some [])
    (glob : Gl X x) (hm : X.mg x = some (.ref f)) (kept : PySem.W.keepIn X.K (.ref f) = true) (bind : Binds X.K fd ps []) (out : Passes C X E) (args : PA X (e :: es) t)
    (hdb : (x == ("__debug__" : PySem.Str)) = false := by decide) (he : starEach (e :: es) X.env = (false, eval e X.env) :: starEach es X.env := by rfl) (hpl : (backTo pos (starEach es X.env)).any (·.1) = false := by rfl) :
    PE X (.Call (.Name x p) (e :: es) [] pos) (tCall sp [] E t) := by
  refine ⟨fun pins s σ H Q I h => wpAny_Call_Name_kw (ld_glob I glob hm ?_ hdb)⟩
  refine PySem.W.callWith_K (h₀ := X.base) I.ok.mod.kin kept (thn (args.run pos pins s σ H _ I h) fun us s1 ⟨vs, H1, I1, rel, q⟩ => ⟨I1.kIn, ?_⟩) he hpl
  have q : sp (vs ++ []) H1 Q E := q
  rw [List.append_nil] at q
  have few : (us ++ []).length = ps.length := by rw [List.append_nil, ← rel.length]; exact F.lenG _ _ _ _ q
  have b := bind s1 us I1.kIn few
  rw [List.append_nil] at b
  refine wpAny_call (codeAny_mono (F.runG X.A X.stack s1 H1 ⟨us, []⟩ us vs Q E room hg I1.env0 b rel q) fun r s' z => ?_)
  match r, z with
  | .error u, z => exact out pins σ H1 s1 u s' I1 z
  | .ok (.ret u), z => exact I1.after z
  | .ok .next, z => exact z.elim
  | .ok .brk, z => exact z.elim
  | .ok .cont, z => exact z.elim
/-- repr of data -/
def rRepr (K : PySem.W.Frag) : List V → Hp → VK → Prop := fun xs H Q => ∃ (v : V) (d : PyData), xs = [v] ∧ Dp K H v d ∧ d.showable = true ∧ d.hasDict = false ∧ d.depth ≤ 40 ∧ d.shown.length ≤ sizeLine ∧ Q (.str d.shown) H
theorem call_repr {X : Cx} (hg : X.A.guards = some []) (hu : X.A.units + 64 < cLine) : CallR X (.builtin "repr") (rRepr X.K) := by
  intro pins s σ H xs us Q I r h
  obtain ⟨v, d, rfl, hd, h1, h2, h3, h4, q⟩ := h
  obtain ⟨u, rfl, rx⟩ := vals1 r
  obtain ⟨as, rd⟩ := Dp.reads I d v u hd rx
  cases hd with
  | lst _ _ =>
    cases rx
    exact PySem.repr_of_reads' rd h1 (PySem.PyData.noDict_hsm h2) hg (by omega) (fun b o e => e) (fun h' u tk hk => ⟨.str _, H, I.kept (h' := h') (t' := tk) hk, ⟨_, rfl⟩, q⟩) h4
  | tup _ _ =>
    cases rx
    exact PySem.repr_of_reads' rd h1 (PySem.PyData.noDict_hsm h2) hg (by omega) (fun b o e => e) (fun h' u tk hk => ⟨.str _, H, I.kept (h' := h') (t' := tk) hk, ⟨_, rfl⟩, q⟩) h4
  | non => cases rx; exact PySem.P.repr_of_none ⟨.str _, H, I.tok _, ⟨_, rfl⟩, by simpa only [PyData.shown] using q⟩
  | bl b => cases rx; exact PySem.P.repr_of_bool ⟨.str _, H, I.tok _, ⟨_, rfl⟩, by simpa only [PyData.shown] using q⟩
  | int i => obtain ⟨t, rfl⟩ := rx; exact PySem.P.repr_of_int (by simpa [PyData.showable] using h1) ⟨.str _, H, I.tok _, ⟨_, rfl⟩, by simpa only [PyData.shown] using q⟩
  | str z => obtain ⟨t, rfl⟩ := rx; exact PySem.P.repr_of_str ⟨.str _, H, I.tok _, ⟨_, rfl⟩, by simpa only [PyData.shown] using q⟩ (by simpa only [PyData.shown] using h4)

/-! ### the end: a law whose def writes things out -/
/-- the abstract heap at the law's call: the script alone, or nothing -/
structure Start (P : Program) (w : World) (K : PySem.W.Frag) (h : Heap) (a : Addr) (xs : List V) (H : Hp) : Prop where
  only : Only H
  list : SqL K H a xs
  ok : HOk P w H h
  at_ : ∀ b, H b ≠ none → b = a
  out : H a ≠ none → K.lookup a = none
theorem start_ex {P : Program} {w : World} {K : PySem.W.Frag} {h : Heap} {a : Addr} {us : List Value} {xs : List V} (inH : K.In h) (look : h.get? a = some { cls := .type "list", data := .seq us.toArray }) (rel : Vals xs us) (few : xs.length ≤ sizeLine) :
    ∃ H, Start P w K h a xs H := by
  cases told : K.lookup a with
  | none =>
    let o : Obj := { cls := .type "list", data := .seq us.toArray }
    let H : Hp := fun b => if b = a then some (.frz o (.lst xs)) else none
    have atA : H a = some (.frz o (.lst xs)) := if_pos rfl
    have away : ∀ b, b ≠ a → H b = none := fun b ne => if_neg ne
    have one : ∀ b u, H b = some u → b = a ∧ u = .frz o (.lst xs) := fun b u e => by
      by_cases z : b = a
      · subst z
        rw [atA] at e
        exact ⟨rfl, (Option.some.inj e).symm⟩
      · rw [away b z] at e
        cases e
    refine ⟨H, ⟨fun b => ?_, .inl (.inr ⟨o, atA⟩), fun b u e => ?_, fun b ne => ?_, fun _ => told⟩⟩
    · cases e : H b with
      | none => exact .inl rfl
      | some u => exact .inr ⟨o, xs, by rw [(one b u e).2]⟩
    · obtain ⟨rfl, rfl⟩ := one b u e
      exact ⟨look, few, us, _, rel, look⟩
    · cases e : H b with
      | none => exact absurd e ne
      | some u => exact (one b u e).1
  | some o =>
    have e := inH a o told
    rw [look] at e
    cases e
    refine ⟨fun _ => none, ⟨fun _ => .inl rfl, .inr ⟨_, us.toArray, _, told, rfl, rfl, rfl, by rw [List.size_toArray, ← rel.length]; exact few, by simpa using rel⟩, (fun _ _ e => nomatch e), fun _ ne => absurd rfl ne, fun ne => absurd rfl ne⟩⟩
/-- the heap less what is tracked is the base of a call -/
theorem Start.env {P : Program} {w : World} {K : PySem.W.Frag} {mg mb : PySem.Str → Option Value} {s : Shared} {a : Addr} {us : List Value} {xs : List V} {H : Hp} (S : Start P w K s.heap a xs H) (inH : K.In s.heap) (names : s.heap.Ns mainGlobals mg) (bs : s.heap.Ns builtinsNs mb)
    (boot : ∀ x : PySem.Str, x ≠ "__name__" → mb x = bootBuiltins x) (lim : s.heap.NoLimit) (gens : s.gens = #[]) (look : s.heap.get? a = some { cls := .type "list", data := .seq us.toArray }) :
    K.In (hidT s.heap H) ∧ (hidT s.heap H).Ns mainGlobals mg ∧ Env0 P w K mg (hidT s.heap H) callerA [] s H := by
  have stays : ∀ {b : Addr} {o : Obj}, s.heap.get? b = some o → (∀ (es : Array DictEntry) (n : Nat), o.data = .dict es n → True) → H b = none → (hidT s.heap H).get? b = some o := fun e _ z => hidT_get e z
  have dictFree : ∀ {b : Addr} {o : Obj} {es : Array DictEntry} {n : Nat}, s.heap.get? b = some o → o.data = .dict es n → H b = none := by
    intro b o es n e d
    refine Classical.byContradiction fun z => ?_
    rw [S.at_ b z, look] at e
    obtain rfl := (Option.some.inj e).symm
    cases d
  have space : ∀ {L : Addr} {m : PySem.Str → Option Value}, s.heap.Ns L m → (hidT s.heap H).Ns L m := by
    rintro L m ⟨o, es, n, e, d, rest⟩
    exact ⟨o, es, n, hidT_get e (dictFree e d), d, rest⟩
  have inB : K.In (hidT s.heap H) := fun b o e => hidT_get (inH b o e) (Classical.byContradiction fun z => by
    have eb := S.at_ b z
    subst eb
    rw [S.out z] at e
    cases e)
  obtain ⟨mc, l1, l2⟩ := lim
  exact ⟨inB, space names, rfl, ⟨inB, space names, ⟨mb, space bs, boot⟩, ⟨mc, space l1, l2⟩⟩, fun b o e => of_hidT e, Nat.le_of_eq (hidT_size _ _), trivial, (fun b m => nomatch m), S.ok, .of_eq gens⟩
theorem call_lawG {P : Program} {w : World} {K : PySem.W.Frag} {mg mb : PySem.Str → Option Value} {k : Nat} {fa a : Addr} {fd : FuncData} {x : PySem.Str} {sp : Sp} {s : Shared} {us : List Value} {ns : List Int}
    (inH : K.In s.heap) (names : s.heap.Ns mainGlobals mg) (bs : s.heap.Ns builtinsNs mb) (boot : ∀ x : PySem.Str, x ≠ "__name__" → mb x = bootBuiltins x) (lim : s.heap.NoLimit) (gens : s.gens = #[])
    (look : s.heap.get? a = some { cls := .type "list", data := .seq us.toArray }) (whole : IntsAre us ns) (few : ns.length ≤ sizeLine) (room : Room k callerA)
    (F : ∀ base : Heap, K.In base → base.Ns mainGlobals mg → FnG P w K mg base CX0 k fa fd [x] sp) (bind : ∀ (s : Shared) (u : Value), BindsTo s fd ⟨[u], []⟩ [(x, u)])
    (want : ∀ H : Hp, SqL K H a (ns.map V.int) → sp [.ref a] H (fun v _ => v = .bl true) E0) :
    codeAny (model P w) callerA (.call (.ref fa) ⟨[.ref a], []⟩) (fun r s' => r = .ok (.ret (.bool true)) ∧ OldK s.heap s'.heap ∧ s'.os = s.os ∧ AllBare s'.gens) s := by
  obtain ⟨H, S⟩ := start_ex (P := P) (w := w) inH look (vals_ints whole) (by rw [List.length_map]; exact few)
  obtain ⟨inB, nsB, start⟩ := S.env inH names bs boot lim gens look
  refine codeAny_mono ((F _ inB nsB).runG callerA [] s H ⟨[.ref a], []⟩ [.ref a] [.ref a] _ _ room rfl start (bind s (.ref a)) (.cons rfl .nil) (want H S.list)) fun r s' told => ?_
  match r, told with
  | .error _, told => exact told.elim
  | .ok .next, told => exact told.elim
  | .ok .brk, told => exact told.elim
  | .ok .cont, told => exact told.elim
  | .ok (.ret u), told =>
    obtain ⟨v, H2, os, bare, un, ok2, rel, isTrue⟩ := told
    obtain rfl : v = .bl true := isTrue
    obtain rfl : u = Value.bool true := rel
    refine ⟨rfl, .of_keep fun b o e => ?_, os, bare⟩
    rcases S.only b with z | ⟨ob, xs, z⟩
    · exact un.keep b o e z (fun m => nomatch m) (by simp)
    · have e1 := (S.ok b _ z).1
      have e2 := (ok2 b _ (un.frzs b ob _ z)).1
      rw [e] at e1
      obtain rfl := Option.some.inj e1
      exact e2
theorem walk_ofG {l : PySem.W.OpenLaw} {n k : Nat} {q : Program} {loose : List PySem.Str} {XP : (PySem.Str → Option Value) → Heap → Prop} {YP : World → Heap → Prop} {d : DefRec} {x : PySem.Str} (most : l.most = some n) (few : n ≤ sizeLine) (noDef : d.params.defaults = []) (room : Room k callerA)
    (F : ∀ (w : World) (mg : PySem.Str → Option Value) (fa : Addr) (h : Heap), YP w h → h.Ns mainGlobals mg → mg d.name = some (.ref fa) →
      ∃ (K : PySem.W.Frag) (fd : FuncData) (sp : Sp), K.In h ∧ (∀ (s : Shared) (u : Value), BindsTo s fd ⟨[u], []⟩ [(x, u)]) ∧ (∀ (H : Hp) (a : Addr) (ns : List Int), ns.length ≤ n → SqL K H a (ns.map V.int) → sp [.ref a] H (fun v _ => v = .bl true) E0) ∧
        ∀ base : Heap, K.In base → base.Ns mainGlobals mg → FnG l.prog w K mg base CX0 k fa fd [x] sp) : PySem.W.WalkO q loose XP YP l.row.toRowW d [] (fun f vs => PySem.call f vs) := by
  refine Att.attach_call most noDef fun w s0 s1 mg mb fa o pm cd doc a us ns G Y ho hd hcd name look whole cnt gens => ?_
  obtain ⟨K, fd, sp, inH, bind, want, ok⟩ := F w mg fa _ Y G.T.g name
  exact call_lawG inH G.T.g G.T.b G.T.builtins G.T.nolimit gens look whole (Nat.le_trans cnt few) room ok bind fun H S => want H a ns cnt S
end Lw

set_option Elab.async false
set_option linter.all false
set_option maxRecDepth 100000
set_option maxHeartbeats 1000000
/-! Data: what a comprehension over it hands, how it is shown; own appends beside a deal. -/
namespace Lw
open PySem PySem.Spec PyProof.Rows L2
theorem fineTup {ds : List PyData} (h : fine (.tuple ds) = true) : ds.length ≤ 1000 ∧ fineAll ds = true := by
  rw [fine] at h
  obtain ⟨h1, h2⟩ := Bool.and_eq_true_iff.mp h
  exact ⟨of_decide_eq_true h1, h2⟩
theorem fineList {ds : List PyData} (h : fine (.list ds) = true) : ds.length ≤ 1000 ∧ fineAll ds = true := by
  rw [fine] at h
  obtain ⟨h1, h2⟩ := Bool.and_eq_true_iff.mp h
  exact ⟨of_decide_eq_true h1, h2⟩
/-- a comprehension that asks each thing of a list of data -/
theorem turnsData {K : PySem.W.Frag} {H1 : Hp} {i : Nat} {σ : L2.St} {te : TE} (f : PyData → V) {xs : List V} {ds : List PyData} (ha : DpAll K H1 xs ds) (few : xs.length ≤ 1000)
    (el : ∀ x d H (Q : VK), x ∈ xs → d ∈ ds → Dp K H x d → Same H1 H → (∀ H', Same H H' → Q (f d) H') → te (σ.set i (some x)) H Q) : Turns H1 i σ xs (ds.map fun d => some (f d)) tYes te := by
  refine ⟨by rw [List.length_map, dpAll_len ha], Nat.le_trans few (by decide), fun j x y H Q hx hy s1 q => ?_, fun j x H hx hy _ => ?_⟩
  · obtain ⟨d, ed, hd⟩ := dpAll_at ha hx
    rw [List.getElem?_map, ed] at hy
    obtain rfl : f d = y := by simpa using hy
    exact ⟨rfl, Same.refl H, el x d H Q (List.mem_of_getElem? hx) (List.mem_of_getElem? ed) (dp_same s1 _ _ hd) s1 q⟩
  · rw [List.getElem?_map] at hy
    cases e : ds[j]? with
    | none => rw [e] at hy; cases hy
    | some d => rw [e] at hy; cases hy
theorem outData (f : PyData → V) (ds : List PyData) : outOf (ds.map fun d => some (f d)) = ds.map f := by
  unfold outOf
  induction ds with
  | nil => rfl
  | cons d r ih =>
    rw [List.map_cons, List.map_cons, List.filterMap_cons]
    exact congrArg _ ih
theorem seqOr {K : PySem.W.Frag} {H : Hp} {v : V} {d : PyData} (hd : Dp K H v d) (hz : fine d = true) :
    (∃ (p : Addr) (xs : List V) (ds : List PyData), v = .ref p ∧ SqA K H p xs ∧ DpAll K H xs ds ∧ ds.length ≤ 1000 ∧ fineAll ds = true ∧ isSeq d = true ∧ (d = .list ds ∨ d = .tuple ds)) ∨ isSeq d = false := by
  cases d with
  | list ds =>
    cases hd with
    | lst hs ha => exact .inl ⟨_, _, ds, rfl, .inl hs, ha, (fineList hz).1, (fineList hz).2, rfl, .inl rfl⟩
  | tuple ds =>
    cases hd with
    | tup hs ha => exact .inl ⟨_, _, ds, rfl, .inr hs, ha, (fineTup hz).1, (fineTup hz).2, rfl, .inr rfl⟩
  | _ => exact .inr rfl
theorem fineAll_of {ds : List PyData} (h : ∀ d ∈ ds, fine d = true) : fineAll ds = true := by
  induction ds with
  | nil => rfl
  | cons d r ih =>
    rw [fineAll, h d List.mem_cons_self, ih fun e he => h e (List.mem_cons_of_mem _ he)]
    rfl
/-- a comprehension's turns over texts -/
theorem dpAll_in {K : PySem.W.Frag} {H : Hp} {x : V} {ds : List PyData} {xs : List V} (h : DpAll K H xs ds) {d : PyData} (m : d ∈ ds) : ∃ v, v ∈ xs ∧ Dp K H v d := by
  induction ds generalizing xs with
  | nil => cases m
  | cons e r ih =>
    cases h with
    | cons h1 h2 =>
      rcases List.mem_cons.mp m with rfl | m
      · exact ⟨_, List.mem_cons_self, h1⟩
      · obtain ⟨v, hv, q⟩ := ih h2 m
        exact ⟨v, List.mem_cons_of_mem _ hv, q⟩
theorem HP.step {K : PySem.W.Frag} {G H1 : Hp} {d l L : Addr} {R : Nat → PyData → Prop} {i : Nat} {B N : Hp} {xs : List V} {pds : List PyData} (sB : Same G B) (nB : B L = none) (DB : Deal (upd B L (.lst xs)) H1 d l)
    (rest : Same N B ∧ (∀ b o, N b = some o → G b = none) ∧ DpAll K N xs pds ∧ xs.length = i ∧ ∀ j pd, pds[j]? = some pd → R j pd) (few : i < 100000) {G' H2 N1 : Hp} {y : V} {pd : PyData} (nw : News (upd B L (.lst xs)) H2 G' N1 d l) (hd : Dp K N1 y pd) (hr : R i pd) :
    ∃ acc, H2 L = some (.lst acc) ∧ acc.length < sizeLine ∧ HP K G d l L R (i + 1) (upd H2 L (.lst (acc ++ [y]))) := by
  obtain ⟨sN, dN, hx, len, hR⟩ := rest
  have gL : G' L = some (.lst xs) := nw.kp _ _ upd_same
  have gU : upd G' L (.lst xs) = G' := by
    funext b
    by_cases q : b = L
    · rw [q, upd_same, gL]
    · rw [upd_ne q]
  have bB : ∀ b o, B b = some o → b ≠ L := fun b o e z => by rw [z, nB] at e; cases e
  have toB : Same B (hide L G') := fun b o e => by
    have ne := bB b o e
    rw [hide_ne ne]
    exact nw.kp _ _ (by rw [upd_ne ne]; exact e)
  have n1 : ∀ b o, N1 b = some o → b ≠ L ∧ B b = none := fun b o e => by
    have z := nw.dis b o e
    have ne : b ≠ L := fun q => by rw [q, upd_same] at z; cases z
    rw [upd_ne ne] at z
    exact ⟨ne, z⟩
  have nn : ∀ b o, N1 b = some o → N b = none := fun b o e => sN.free (n1 b o e).2
  refine ⟨xs, nw.dl.same _ _ gL, Nat.lt_of_le_of_lt (show xs.length ≤ 100000 by omega) (by decide), hide L G', fun b => match N b with | some o => some o | none => N1 b, xs ++ [y], pds ++ [pd], sB.trans toB, hide_same, ?_, fun b o e => ?_, fun b o e => ?_, ?_, by rw [List.length_append, len]; rfl, ?_⟩
  · rw [hide_upd]
    exact Deal.over (G := G') (u := .lst xs) (by rw [gU]; exact nw.dl)
  · cases q : N b with
    | some u =>
      have e' : some u = some o := by simpa [q] using e
      cases e'
      exact toB _ _ (sN _ _ q)
    | none =>
      have e' : N1 b = some o := by simpa [q] using e
      rw [hide_ne (n1 b o e').1]
      exact nw.sub _ _ e'
  · cases q : N b with
    | some u => exact dN _ _ q
    | none =>
      have e' : N1 b = some o := by simpa [q] using e
      exact sB.free (n1 b o e').2
  · exact dpAll_app (dpAll_same (fun b o e => by simp [e]) _ _ hx) (.cons (dp_same (fun b o e => by simp [nn b o e, e]) _ _ hd) .nil)
  · intro j q e
    have lp : pds.length = i := by rw [← dpAll_len hx, len]
    by_cases h : j < pds.length
    · rw [List.getElem?_append_left h] at e
      exact hR j q e
    · rw [List.getElem?_append_right (by omega)] at e
      by_cases z : j - pds.length = 0
      · rw [z, List.getElem?_cons_zero] at e
        obtain rfl := Option.some.inj e
        obtain rfl : j = i := by omega
        exact hr
      · rw [List.getElem?_eq_none (by simp; omega)] at e
        cases e
/-- beside a deal: a list at L to which new data are appended -/
theorem HP.open_ {K : PySem.W.Frag} {G H1 : Hp} {d l L : Addr} {R : Nat → PyData → Prop} {i : Nat} (h : HP K G d l L R i H1) (few : i < 100000) :
    ∃ Gx, Same G Gx ∧ Deal Gx H1 d l ∧ (∃ acc, Gx L = some (.lst acc)) ∧ ∀ (G' H' N : Hp) (y : V) (pd : PyData), News Gx H' G' N d l → Dp K N y pd → R i pd → ∃ acc, H' L = some (.lst acc) ∧ acc.length < sizeLine ∧ HP K G d l L R (i + 1) (upd H' L (.lst (acc ++ [y]))) := by
  obtain ⟨B, N0, xs, pds, sB, nB, DB, rest⟩ := h
  refine ⟨upd B L (.lst xs), fun b o e => by rw [upd_ne (ne_of_none (sB _ _ e) nB)]; exact sB _ _ e, DB, ⟨xs, upd_same⟩, fun G' H2 N1 y pd nw hd hr => ?_⟩
  exact HP.step sB nB DB rest few nw hd hr
theorem outStrs (ys : List PySem.Str) : (ys.map V.str).length = ys.length := List.length_map ..

/-! ### how data are shown, compared -/
mutual
theorem eqvSelf : ∀ d : PyData, fine d = true → PyData.eqv d d = true
  | .none, _ => by simp [PyData.eqv]
  | .bool b, _ => by simp [PyData.eqv]
  | .int i, _ => by simp [PyData.eqv]
  | .str x, _ => by simp [PyData.eqv]
  | .list ds, h => by simp [PyData.eqv, eqvSelfAll ds (fineList h).2]
  | .tuple ds, h => by simp [PyData.eqv, eqvSelfAll ds (fineTup h).2]
  | .dict _, h => by simp [fine] at h
theorem eqvSelfAll : ∀ ds : List PyData, fineAll ds = true → PyData.eqvAll ds ds = true
  | [], _ => by simp [PyData.eqvAll]
  | d :: ds, h => by
    rw [fineAll] at h
    obtain ⟨h1, h2⟩ := Bool.and_eq_true_iff.mp h
    simp [PyData.eqvAll, eqvSelf d h1, eqvSelfAll ds h2]
end

/-! ### a comprehension that makes one new thing a turn (its list at D) -/
def MadeL (K : PySem.W.Frag) (H1 : Hp) (D : Addr) (ds : List PyData) (H' : Hp) : Prop := Same H1 H' ∧ ∃ (N : Hp) (acc : List V), Same N H' ∧ N D = none ∧ H' D = some (.lst acc) ∧ DpAll K N acc ds
theorem MadeL.zero {K : PySem.W.Frag} {H1 : Hp} {D : Addr} (u : H1 D = none) : MadeL K H1 D [] (upd H1 D (.lst [])) := ⟨same_new u, fun _ => none, [], fun _ _ e => (by cases e), rfl, upd_same, .nil⟩
theorem MadeL.mono {K : PySem.W.Frag} {H1 H' H2 : Hp} {D : Addr} {ds : List PyData} (h : MadeL K H1 D ds H') (s : Same H' H2) : MadeL K H1 D ds H2 := by
  obtain ⟨s1, N, acc, sN, nD, hD, ha⟩ := h
  exact ⟨s1.trans s, N, acc, sN.trans s, nD, s _ _ hD, ha⟩
theorem MadeL.add {K : PySem.W.Frag} {H1 H H4 : Hp} {D t : Addr} {o : HO} {ds : List PyData} {d : PyData} {y : V} (h : MadeL K H1 D ds H) (u : H1 D = none) (few : ds.length < 100000) (ut : H t = none) (s : Same H H4) (e : H4 t = some o) (hd : Dp K (upd (fun _ => none) t o) y d) :
    ∃ acc, H4 D = some (.lst acc) ∧ acc.length < sizeLine ∧ MadeL K H1 D (ds ++ [d]) (upd H4 D (.lst (acc ++ [y]))) := by
  obtain ⟨s1, N, acc, sN, nD, hD, ha⟩ := h
  have ne : t ≠ D := fun z => by rw [z, hD] at ut; cases ut
  have nt : N t = none := sN.free ut
  have sN4 : Same (upd N t o) (upd H4 D (.lst (acc ++ [y]))) := fun b v eb => by
    by_cases q : b = t
    · subst q
      rw [upd_same] at eb
      cases eb
      rw [upd_ne ne]
      exact e
    · rw [upd_ne q] at eb
      have neD : b ≠ D := fun z => by rw [z, nD] at eb; cases eb
      rw [upd_ne neD]
      exact s _ _ (sN _ _ eb)
  refine ⟨acc, s _ _ hD, Nat.lt_of_le_of_lt (show acc.length ≤ 100000 by rw [dpAll_len ha]; omega) (by decide), fun b v eb => ?_, upd N t o, acc ++ [y], sN4, by rw [upd_ne ne.symm]; exact nD, upd_same, ?_⟩
  · rw [upd_ne (ne_of_none eb u)]
    exact s _ _ (s1 _ _ eb)
  · refine dpAll_app (dpAll_same (same_new nt) _ _ ha) (.cons (dp_same (fun b v eb => ?_) _ _ hd) .nil)
    by_cases q : b = t
    · subst q
      rw [upd_same] at eb ⊢
      exact eb
    · rw [upd_ne q] at eb
      cases eb
end Lw

set_option Elab.async false
set_option linter.all false
set_option maxRecDepth 100000
set_option maxHeartbeats 1000000
namespace Lw
open PySem PySem.Spec PyProof.Rows L2
theorem fun_okG0 {P : Program} {w : World} {K : PySem.W.Frag} {mg : PySem.Str → Option Value} {base : Heap} {x qual : PySem.Str} {st : Stmt} {f : Addr} {fd : FuncData} {N ps : List PySem.Str} {k : Nat} {sp : Sp} (F : Fun K x qual st f fd) (S : FnScope N ps (defScope st)) (len : ∀ vs H Q E, sp vs H Q E → vs.length = ps.length)
    (body : ∀ (cdv : Value) (A : Around) (out : List Env) (s : Shared) (H : Hp) (vs : List V) (Q : VK) (E : XK), Room k (A.deeper (envOfC qual (defScope st) s.heap.objs.size f cdv)) → (A.deeper (envOfC qual (defScope st) s.heap.objs.size f cdv)).guards = some [] → sp vs H Q E →
      ∃ t, PSs (cxOf CX0 P w K mg base N qual (defScope st) f cdv A out s H E).nox (defBody st) t ∧ t { nx := fun _ H' => Q .non H', rt := Q } (start N vs) H) : FnG P w K mg base CX0 (k + 1) f fd ps sp :=
  fun_okG F S len fun cdv A out s H vs Q E room hg h => by
    obtain ⟨t, term, q⟩ := body cdv A out s H vs Q E room hg h
    exact ⟨t, term.nox, q⟩
theorem Deal.on {G H H' : Hp} {d l : Addr} (D : Deal G H d l) (s : Same H H') : Deal G H' d l :=
  ⟨D.same.trans s, D.gd, D.gl, D.ne, let ⟨ns, m, a⟩ := D.it; ⟨ns, m, s _ _ a.hd, s _ _ a.hl, a.len, a.nn, a.m0, a.m1⟩⟩
theorem News.on {G H H' G' N : Hp} {d l : Addr} (n : News G H G' N d l) (s : Same H H') : News G H' G' N d l := n.redeal (n.dl.on s)
end Lw

set_option Elab.async false
set_option linter.all false
set_option maxRecDepth 100000
set_option maxHeartbeats 4000000
namespace Lw
open PySem PySem.Spec PyProof.Rows L2
/-! ### x == y, x an instance of a class with an __eq__ of its own, y anything -/
def rOwnEq (K : PySem.W.Frag) (f : Addr) (sp : Sp) (E : XK) : R2 := fun x y H Q => ∃ (a C dx : Addr) (fs : List (PySem.Str × V)) (t : Value), x = .ref a ∧ H a = some (.ins C dx fs) ∧ TyX K H y t ∧ PySem.W.notFirst K C t = true ∧ PySem.W.findIn K (.ref C) "__eq__" = some (some (.ref f)) ∧
  sp [x, y] H (fun v H' => ∃ b, v = .bl b ∧ Q (.bl b) H') E
section
variable {X : Cx}
theorem op_ownEq {CX : CXT} {f : Addr} {fd : FuncData} {ps : List PySem.Str} {sp : Sp} {E : XK} {n : Nat} (F : FnOk X.prog X.w X.K X.mg X.base CX n f fd ps sp) (hr : Room n X.A) (hf : PySem.W.isFn X.K (.ref f) = true) (hb : Binds X.K fd ps []) (hx : Passes CX X E) :
    OpR X (compareOp .Eq) (rOwnEq X.K f sp E) := by
  intro pins s σ H x y v u Q I rx ry hq
  obtain ⟨a, C, dx, fs, t, rfl, ha, ty, nf, hs, hsp⟩ := hq
  obtain rfl : v = Value.ref a := rx
  obtain ⟨Pz, Z, pz, _⟩ := kit_of I ry ty
  obtain ⟨mA, J, _⟩ := ins_get I.hok ha
  obtain ⟨od, J, _⟩ := J.look
  obtain ⟨m, hF⟩ := I.fr
  show wpAny (model X.prog X.w) X.A (richCompare .Eq (.ref a) u) (EP X pins σ Q) X.xe s
  refine PySem.W.cmp_K (op := .Eq) (tb := t) hr.units0 hF I.ok.mod.kin J (Z.ty _ _ I.kIn pz) nf hs hf ?_
  have r2 : Vals [V.ref a, y] [Value.ref a, u] := .cons rfl (.cons ry .nil)
  have hl := F.len _ _ _ _ hsp
  have z := run_fn (us := [Value.ref a, u]) F hr hb .nil hx I r2 (by rw [List.append_nil]; exact hsp)
  refine wpAny_mono z (fun w s' q => ?_) fun _ _ q => q
  obtain ⟨v', H', I', r', q⟩ := q
  obtain ⟨b, eb, q2⟩ := q
  subst eb
  have e : w = Value.bool b := r'
  subst e
  exact ⟨.bl b, H', I', rfl, q2⟩
/-- x != y: object's own, which asks the class's __eq__ -/
def rOwnNe (K : PySem.W.Frag) (f : Addr) (sp : Sp) (E : XK) : R2 := fun x y H Q => ∃ (a C dx : Addr) (fs : List (PySem.Str × V)) (t : Value), x = .ref a ∧ H a = some (.ins C dx fs) ∧ TyX K H y t ∧ PySem.W.notFirst K C t = true ∧ PySem.W.findIn K (.ref C) "__eq__" = some (some (.ref f)) ∧
  PySem.W.findIn K (.ref C) "__ne__" = some (some (.builtin "object.__ne__")) ∧ PySem.W.mroIn K C (.type "object") = some true ∧ sp [x, y] H (fun v H' => ∃ b, v = .bl b ∧ Q (.bl !b) H') E
theorem special_ne {M : Model} {A : Around} {E' : Value → Shared → Prop} {s : Shared} {K : PySem.W.Frag} {x C : Addr} {ox : Obj} {od : Option Obj} {more : List Value} {Q : Option Value → Shared → Prop} (kin : K.In s.heap) (inst : PySem.W.InstAt s.heap x ox C od)
    (found : PySem.W.findIn K (.ref C) "__ne__" = some (some (.builtin "object.__ne__"))) (goes : wpAny M A (call (.builtin "object.__ne__") (.ref x :: more)) (fun v => Q (some v)) E' s) : wpAny M A (callSpecialIfBound? (.ref x) "__ne__" more) Q E' s := by
  have last : wpAny M A ((fun v => some v) <$> call (.builtin "object.__ne__") ([Value.ref x] ++ more)) Q E' s := wpAny_bind (wpAny_mono goes (fun _ _ q => wpAny_pure q) fun _ _ q => q)
  unfold callSpecialIfBound? bindSpecialIfBound?
  refine wpAny_holding (wpAny_bind (wpAny_bind (wpAny_bind (inst.type.here ((PySem.W.looks_findIn kin found).here ?_)))))
  refine wpAny_bind (wpAny_askSetting (wpAny_ite ?_))
  split
  · exact wpAny_bind (wpAny_of_eq (F.cmp_object.ne.bind _) (wpAny_pure (by exact last)))
  · exact wpAny_tryCatch (wpAny_bind (wpAny_of_eq (F.cmp_object.ne.bind _) (wpAny_pure (by exact last))))
theorem call_ne {P : Program} {w : World} {A : Around} {E' : Value → Shared → Prop} {s : Shared} {K : PySem.W.Frag} {x C f : Addr} {ox : Obj} {od : Option Obj} {u : Value} {Q : Value → Shared → Prop} (kin : K.In s.heap) (inst : PySem.W.InstAt s.heap x ox C od)
    (hm : PySem.W.mroIn K C (.type "object") = some true) (hs : PySem.W.findIn K (.ref C) "__eq__" = some (some (.ref f))) (hf : PySem.W.isFn K (.ref f) = true) (hu : A.in1.units < cLine)
    (goes : wpAny (model P w) A.in1 (call (.ref f) [.ref x, u]) (fun v s' => ∃ b, v = .bool b ∧ Q (.bool !b) s') E' s) : wpAny (model P w) A (call (.builtin "object.__ne__") [.ref x, u]) Q E' s := by
  refine wpAny_call (codeAny_call_builtin F.cmp_object.ne.plain F.cmpEntry_ne (PySem.W.check_slot F.cmpKind_ne F.cmpSplit_ne (inst.type.andThen (PySem.W.looks_mroIn kin hm)) (F.cmpArgs_ne _ _) ?_))
  unfold Builtin.«object.__ne__»
  refine wpAny_bind (wpAny_of_eq (rfl : slotArgs "__ne__" 1 ⟨[.ref x, u], []⟩ = pure (.ref x, [u])) ?_)
  refine wpAny_bind (wpAny_cRoomFor hu ?_)
  refine wpAny_bind (PySem.W.ifBound_K kin inst hs hf (wpAny_mono goes (fun v s' q => ?_) fun _ _ q => q))
  obtain ⟨b, rfl, q⟩ := q
  exact wpAny_bind (wpAny_truthy_bool (wpAny_pure q))
theorem op_ownNe {CX : CXT} {f : Addr} {fd : FuncData} {ps : List PySem.Str} {sp : Sp} {E : XK} {n : Nat} (F : FnOk X.prog X.w X.K X.mg X.base CX n f fd ps sp) (hr : Room (n + 1) X.A) (hf : PySem.W.isFn X.K (.ref f) = true) (hb : Binds X.K fd ps []) (hx : Passes CX X E) :
    OpR X (compareOp .NotEq) (rOwnNe X.K f sp E) := by
  intro pins s σ H x y v u Q I rx ry hq
  obtain ⟨a, C, dx, fs, t, rfl, ha, ty, nf, hs, hne, hm, hsp⟩ := hq
  obtain rfl : v = Value.ref a := rx
  obtain ⟨Pz, Z, pz, _⟩ := kit_of I ry ty
  obtain ⟨mA, J, _⟩ := ins_get I.hok ha
  obtain ⟨od, J, _⟩ := J.look
  have hr1 : Room n X.A.in1 := hr.in1
  have e0 : Env0 X.prog X.w X.K X.mg X.base X.A.in1 X.stack s H := by
    have e := I.env0
    exact ⟨e.frames, e.mod, e.bs, e.bsz, e.funs, e.frf, e.hok, e.bare⟩
  have r2 : Vals [V.ref a, y] [Value.ref a, u] := .cons rfl (.cons ry .nil)
  have hl := F.len _ _ _ _ hsp
  have inner : wpAny (model X.prog X.w) X.A.in1 (call (.ref f) [.ref a, u]) (fun v s' => ∃ b, v = .bool b ∧ EP X pins σ Q (.bool !b) s') X.xe s := by
    refine wpAny_call (codeAny_mono (F.run X.A.in1 X.stack s H ⟨[.ref a, u], []⟩ [.ref a, u] [.ref a, y] _ E hr1 e0 (by
      have := hb s [.ref a, u] I.kIn (by simpa using hl)
      simpa using this) r2 hsp) fun r s' hq => ?_)
    cases r with
    | error e => exact hx pins σ H s e s' I hq
    | ok fl =>
      cases fl with
      | ret w =>
        obtain ⟨z, H', I', rz, b, ez, q⟩ := I.after hq
        subst ez
        have ew : w = Value.bool b := rz
        exact ⟨b, ew, .bl !b, H', I', rfl, q⟩
      | next => exact False.elim hq
      | brk => exact False.elim hq
      | cont => exact False.elim hq
  have one : wpAny (model X.prog X.w) X.A (tryCompare (.ref a) "__ne__" u) (fun r s' => ∃ v, r = some v ∧ EP X pins σ Q v s') X.xe s := by
    unfold tryCompare
    refine wpAny_bind (special_ne I.kIn J hne (call_ne I.kIn J hm hs hf hr1.units0 (wpAny_mono inner (fun v s' q => ?_) fun _ _ q => q)))
    obtain ⟨b, eb, q⟩ := q
    exact ⟨b, eb, wpAny_pure ⟨_, rfl, q⟩⟩
  show wpAny (model X.prog X.w) X.A (richCompare .NotEq (.ref a) u) (EP X pins σ Q) X.xe s
  unfold richCompare
  simp only [oneThing_ref]
  refine wpAny_holding (wpAny_bind (wpAny_cRoomFor hr.units0 (wpAny_bind (J.type.here (wpAny_bind ((Z.ty _ _ I.kIn pz).here ?_))))))
  split
  · rename_i q
    have e : PySem.W.subIn X.K t (.ref C) = some false := by
      rcases Bool.or_eq_true_iff.mp nf with e | e
      · rw [beq_iff_eq.mp e] at q
        simp at q
      · exact beq_iff_eq.mp e
    refine wpAny_bind ((PySem.W.looks_subIn I.kIn e).here ?_)
    rw [if_neg Bool.false_ne_true]
    refine wpAny_bind (wpAny_mono one (fun r s' z => ?_) fun _ _ q => q)
    obtain ⟨v, rfl, q⟩ := z
    exact wpAny_pure q
  · refine wpAny_bind (wpAny_pure ?_)
    rw [if_neg Bool.false_ne_true]
    refine wpAny_bind (wpAny_mono one (fun r s' z => ?_) fun _ _ q => q)
    obtain ⟨v, rfl, q⟩ := z
    exact wpAny_pure q
end
end Lw

set_option Elab.async false
set_option linter.all false
set_option maxRecDepth 100000
set_option maxHeartbeats 1000000
namespace Lw
open PySem PySem.Spec PyProof.Rows L2
/-! ### str(x), x an instance of a class with a __str__ of its own -/
def rStrOwn (K : PySem.W.Frag) (f : Addr) (sp : Sp) (E : XK) : List V → Hp → VK → Prop := fun xs H Q => ∃ (a C dx : Addr) (fs : List (PySem.Str × V)), xs = [.ref a] ∧ H a = some (.ins C dx fs) ∧ PySem.W.findIn K (.ref C) "__str__" = some (some (.ref f)) ∧
  sp [.ref a] H (fun v H' => ∃ z, v = .str z ∧ Q (.str z) H') E
theorem call_strOwn {X : Cx} {CX : CXT} {f : Addr} {fd : FuncData} {ps : List PySem.Str} {sp : Sp} {E : XK} {n : Nat} (F : FnOk X.prog X.w X.K X.mg X.base CX n f fd ps sp) (hr : Room (n + 2) X.A) (hf : PySem.W.isFn X.K (.ref f) = true) (hb : Binds X.K fd ps []) (hx : Passes CX X E) :
    CallR X (.type "str") (rStrOwn X.K f sp E) := by
  intro pins s σ H xs us Q I r h
  obtain ⟨a, C, dx, fs, rfl, ha, hs, hsp⟩ := h
  obtain ⟨u, rfl, rx⟩ := vals1 r
  obtain rfl : u = Value.ref a := rx
  obtain ⟨mA, J, _⟩ := ins_get I.hok ha
  obtain ⟨od, J, _⟩ := J.look
  have hr2 : Room n X.A.in1.in1 := (show Room (n + 1) X.A.in1 from Room.in1 hr).in1
  have hl := F.len _ _ _ _ hsp
  refine PySem.W.kso_call hr2.units0 I.kIn J hs hf (wpAny_call (codeAny_mono (F.run X.A.in1.in1 X.stack s H ⟨[.ref a], []⟩ [.ref a] [.ref a] _ E hr2 I.env0.in1.in1 (by
      have := hb s [.ref a] I.kIn (by simpa using hl)
      simpa using this) (.cons rfl .nil) hsp) fun r s' hq => ?_))
  cases r with
  | error e => exact hx pins σ H s e s' I hq
  | ok fl =>
    cases fl with
    | ret u =>
      obtain ⟨v, H', I', r', z, ez, q2⟩ := I.after hq
      subst ez
      obtain ⟨t, rfl⟩ := r'
      exact ⟨.str z, H', I', ⟨t, rfl⟩, q2⟩
    | next => exact hq.elim
    | brk => exact hq.elim
    | cont => exact hq.elim
end Lw

set_option Elab.async false
set_option linter.all false
set_option maxRecDepth 100000
set_option maxHeartbeats 1000000
/-! What a law's top leaves, told by names: the parts that do not hang on the law. -/
namespace Hd
open PySem PySem.Spec PyProof.Rows L2
theorem fun_of {K : PySem.W.Frag} {x qual : PySem.Str} {st : Stmt} {f : Addr} {fd : FuncData} (F : FunD K x qual (defArgs st) (defBody st) (defScope st) [] [] f fd) : Fun K x qual st f fd := by
  obtain ⟨oc, od, dV, kV, doc, pm, an, cdv, ct, osl, h1, h2, h3, h4, _⟩ := F.ex
  have e : dV = .none := by
    rcases h4 with ⟨_, h⟩ | ⟨h, _⟩
    · exact h
    · exact absurd rfl h
  subst e
  exact ⟨⟨oc, od, kV, doc, pm, an, cdv, ct, osl, h1, h2, h3⟩, F.kp⟩
def fnTop (x : PySem.Str) (st : Stmt) : He.DefD := ⟨(x, none), x, x, defArgs st, defBody st, defScope st, [], []⟩
def fnIn (C m qual : PySem.Str) (st : Stmt) : He.DefD := ⟨(C, some m), m, qual, defArgs st, defBody st, defScope st, [], []⟩
noncomputable def fdOf (K : PySem.W.Frag) (f : Addr) : FuncData := match K.lookup f with
  | some ⟨_, _, .func fd, _⟩ => fd
  | _ => PySem.W.fnOf Str.empty Str.empty (defArgs (.Pass ⟨0, 0, 0, 0⟩)) [] (defScope (.Pass ⟨0, 0, 0, 0⟩)) .none .none .none .none none .none .none
theorem fdOf_eq {K : PySem.W.Frag} {x qual : PySem.Str} {st : Stmt} {f : Addr} {fd : FuncData} (F : Fun K x qual st f fd) : fdOf K f = fd := by
  obtain ⟨oc, od, kV, doc, pm, an, cdv, ct, osl, h1, h2, h3⟩ := F.ex
  unfold fdOf
  rw [h2]
/-- a def of the top -/
structure Top (K : PySem.W.Frag) (mg : PySem.Str → Option Value) (x : PySem.Str) (st : Stmt) (ps : List PySem.Str) : Prop where
  F : Fun K x x st (He.ga K x) (fdOf K (He.ga K x))
  g : mg x = some (.ref (He.ga K x))
  b : Binds K (fdOf K (He.ga K x)) ps []
section
variable {K : PySem.W.Frag} {h : Heap} {mg : PySem.Str → Option Value} {fas : List He.Fa} {fns : List He.DefD}
theorem free_mem (X : K.In h) (G : h.Ns mainGlobals mg) (c : He.SaysD fas fns K) {x : PySem.Str} (m : He.Fa.free x ∈ fas) : mg x = none := by
  obtain ⟨i, e⟩ := List.getElem?_of_mem m
  exact He.free_ok X G (c.fact i e)
theorem glo_mem (X : K.In h) (G : h.Ns mainGlobals mg) (c : He.SaysD fas fns K) {x : PySem.Str} (m : He.Fa.glo x ∈ fas) : mg x = some (.ref (He.ga K x)) := by
  obtain ⟨i, e⟩ := List.getElem?_of_mem m
  exact He.glo_ok X G (c.fact i e)
theorem top_mem (X : K.In h) (G : h.Ns mainGlobals mg) (c : He.SaysD fas fns K) {x : PySem.Str} {st : Stmt} {ps : List PySem.Str} (md : fnTop x st ∈ fns) (mf : He.Fa.glo x ∈ fas)
    (hb : ∀ (kV doc pm : Value) (an : Option Addr) (cdv ct : Value) (us : List Value), us.length = ps.length → bindArgs (PySem.W.fnOf x x (defArgs st) (defBody st) (defScope st) .none kV doc pm an cdv ct) ⟨us, []⟩ = pure (ps.zip us)) : Top K mg x st ps := by
  obtain ⟨i, e⟩ := List.getElem?_of_mem md
  obtain ⟨fd, F⟩ := c.def_ i e
  have F1 : Fun K x x st (He.ga K x) fd := fun_of (st := st) F
  have ed := fdOf_eq F1
  rw [← ed] at F1
  exact ⟨F1, glo_mem X G c mf, F1.binds hb⟩
end
end Hd

set_option Elab.async false
set_option linter.all false
set_option maxRecDepth 100000
set_option maxHeartbeats 1000000
/-! What the top leaves of own errors and of the rows' classes. -/
namespace Hd
open PySem PySem.Spec PyProof.Rows L2 Lw
def oexB (K : PySem.W.Frag) (C : Addr) : Bool := match K.lookup C with
  | some ⟨.type "type", _, .cls cd, sl⟩ => (match cd.mro, sl.toList with
    | .ref D :: bm, [_, _, _, _, some (.builtin n), _] => (D == C && n == "ValueError.__new__") && (!cd.hasDel && (cd.hasDict && PySem.HandSPX.refsVE bm))
    | _, _ => false)
  | _ => false
theorem oexB_ok {K : PySem.W.Frag} {C : Addr} (q : oexB K C = true) : ∃ nm qn N bs bm sn sub ab col dd k0 k1 k2 k3 k5, K.lookup C = some (excClassObj nm qn C N bs bm true sn sub ab col dd k0 k1 k2 k3 k5 "ValueError.__new__") ∧ PySem.HandSPX.refsVE bm = true := by
  unfold oexB at q
  split at q
  · rename_i dd cd sl ho
    split at q
    · rename_i D bm k0 k1 k2 k3 n k5 hm hs
      simp only [Bool.and_eq_true, beq_iff_eq, Bool.not_eq_true'] at q
      obtain ⟨⟨rfl, rfl⟩, hdel, hdict, ht⟩ := q
      obtain ⟨nm, bs, mro, ns, qn, hd, sn, sub, ab, col, del⟩ := cd
      dsimp only at hm hdel hdict
      subst hm hdel hdict
      obtain ⟨lst⟩ := sl
      dsimp only at hs
      subst hs
      exact ⟨nm, qn, ns, bs, bm, sn, sub, ab, col, dd, k0, k1, k2, k3, k5, ho, ht⟩
    · cases q
  · cases q

/-- an own error whose __init__ keeps one thing under this name -/
structure ErrC (K : PySem.W.Frag) (x f : PySem.Str) : Prop where
  ex : OexC K (He.ga K x)
  I : PySem.W.findIn K (.ref (He.ga K x)) "__init__" = some (some (.ref (He.ma K (He.ga K x) "__init__")))
  T : PySem.W.typeIn K (.ref (He.ma K (He.ga K x) "__init__")) = some (.type "function")
  W : PySem.W.findIn K (.ref (He.ga K x)) f = some none
  X : XfC K (He.ga K x)
def errB (K : PySem.W.Frag) (x f : PySem.Str) : Bool :=
  oexB K (He.ga K x) && (decide (PySem.W.findIn K (.ref (He.ga K x)) "__setattr__" = some (some (.builtin "object.__setattr__"))) && (decide (PySem.W.subIn K (.ref (He.ga K x)) (.type "BaseException") = some true) && (decide (PySem.W.typeIn K (.ref (He.ga K x)) = some (.type "type")) && (PySem.W.keepIn K (.ref (He.ga K x)) &&
  (decide (PySem.W.findIn K (.ref (He.ga K x)) "__init__" = some (some (.ref (He.ma K (He.ga K x) "__init__")))) && (decide (PySem.W.typeIn K (.ref (He.ma K (He.ga K x) "__init__")) = some (.type "function")) && (decide (PySem.W.findIn K (.ref (He.ga K x)) f = some none) && xfB K (He.ga K x))))))))
theorem errB_ok {K : PySem.W.Frag} {x f : PySem.Str} (q : errB K x f = true) : ErrC K x f := by
  unfold errB at q
  simp only [Bool.and_eq_true] at q
  obtain ⟨q1, q2, q3, q4, q5, q6, q7, q8, q9⟩ := q
  exact ⟨⟨oexB_ok q1, of_decide_eq_true q2, of_decide_eq_true q3, of_decide_eq_true q4, q5⟩, of_decide_eq_true q6, of_decide_eq_true q7, of_decide_eq_true q8, xfB_ok q9⟩
/-! ### the rows' classes -/
def rowsN : List PySem.Str := ["Ask", "Note", "Gate", "End"]
def attrsN : List PySem.Str := ["place", "name", "ways", "word", "then", "mark", "newer", "elder", "_text"]
def otherT : List String := ["tuple", "str", "int"]
structure RowsC (K : PySem.W.Frag) : Prop where
  isA : ∀ x ∈ rowsN, PySem.W.findIn K (.ref (He.ga K x)) "__class__" = some (some (.builtin "object.__class__"))
  get : PySem.W.specialIn K (.builtin "object.__class__") "__get__" = some (some (.builtin "getset_descriptor.__get__"))
  tak : PySem.W.takesIn K (.builtin "object.__class__") = some true
  obj : ∀ x ∈ rowsN, PySem.W.mroIn K (He.ga K x) (.type "object") = some true
  row : ∀ x ∈ rowsN, PySem.W.kitOne K (.ref (He.ga K x)) (.ref (He.ga K "Row")) = some true
  own : ∀ x ∈ rowsN, ∀ y ∈ rowsN, PySem.W.kitOne K (.ref (He.ga K x)) (.ref (He.ga K y)) = some (decide (x = y))
  noRow : ∀ t ∈ otherT, PySem.W.kitOne K (.type t) (.ref (He.ga K "Row")) = some false
  eqAt : ∀ x ∈ rowsN, PySem.W.findIn K (.ref (He.ga K x)) "__eq__" = some (some (.ref (He.ma K (He.ga K "Row") "__eq__")))
  neAt : ∀ x ∈ rowsN, PySem.W.findIn K (.ref (He.ga K x)) "__ne__" = some (some (.builtin "object.__ne__"))
  strAt : ∀ x ∈ rowsN, PySem.W.findIn K (.ref (He.ga K x)) "__str__" = some (some (.ref (He.ma K (He.ga K "Row") "__str__")))
  first : ∀ x ∈ rowsN, ∀ y ∈ rowsN, PySem.W.notFirst K (He.ga K x) (.ref (He.ga K y)) = true
  firstT : ∀ x ∈ rowsN, ∀ t ∈ otherT, PySem.W.notFirst K (He.ga K x) (.type t) = true
  eqI : PySem.W.isFn K (.ref (He.ma K (He.ga K "Row") "__eq__")) = true
  strI : PySem.W.isFn K (.ref (He.ma K (He.ga K "Row") "__str__")) = true
def rowsB (K : PySem.W.Frag) : Bool :=
  (decide (PySem.W.specialIn K (.builtin "object.__class__") "__get__" = some (some (.builtin "getset_descriptor.__get__"))) && (decide (PySem.W.takesIn K (.builtin "object.__class__") = some true) && (PySem.W.isFn K (.ref (He.ma K (He.ga K "Row") "__eq__")) && PySem.W.isFn K (.ref (He.ma K (He.ga K "Row") "__str__"))))) &&
  ((otherT.all fun t => decide (PySem.W.kitOne K (.type t) (.ref (He.ga K "Row")) = some false)) &&
  (rowsN.all fun x => decide (PySem.W.findIn K (.ref (He.ga K x)) "__class__" = some (some (.builtin "object.__class__"))) && (decide (PySem.W.mroIn K (He.ga K x) (.type "object") = some true) && (decide (PySem.W.kitOne K (.ref (He.ga K x)) (.ref (He.ga K "Row")) = some true) &&
    (decide (PySem.W.findIn K (.ref (He.ga K x)) "__eq__" = some (some (.ref (He.ma K (He.ga K "Row") "__eq__")))) && (decide (PySem.W.findIn K (.ref (He.ga K x)) "__ne__" = some (some (.builtin "object.__ne__"))) && (decide (PySem.W.findIn K (.ref (He.ga K x)) "__str__" = some (some (.ref (He.ma K (He.ga K "Row") "__str__")))) &&
    ((rowsN.all fun y => decide (PySem.W.kitOne K (.ref (He.ga K x)) (.ref (He.ga K y)) = some (decide (x = y)))) && ((rowsN.all fun y => PySem.W.notFirst K (He.ga K x) (.ref (He.ga K y))) && otherT.all fun t => PySem.W.notFirst K (He.ga K x) (.type t)))))))))) 
theorem rowsB_ok {K : PySem.W.Frag} (q : rowsB K = true) : RowsC K := by
  unfold rowsB at q
  simp only [Bool.and_eq_true, List.all_eq_true] at q
  obtain ⟨⟨a1, a2, a3, a4⟩, b1, c⟩ := q
  exact ⟨fun x hx => of_decide_eq_true (c x hx).1, of_decide_eq_true a1, of_decide_eq_true a2, fun x hx => of_decide_eq_true (c x hx).2.1, fun x hx => of_decide_eq_true (c x hx).2.2.1, fun x hx y hy => of_decide_eq_true ((c x hx).2.2.2.2.2.2.1 y hy), fun t ht => of_decide_eq_true (b1 t ht),
    fun x hx => of_decide_eq_true (c x hx).2.2.2.1, fun x hx => of_decide_eq_true (c x hx).2.2.2.2.1, fun x hx => of_decide_eq_true (c x hx).2.2.2.2.2.1, fun x hx y hy => (c x hx).2.2.2.2.2.2.2.1 y hy, fun x hx t ht => (c x hx).2.2.2.2.2.2.2.2 t ht, a3, a4⟩
def rowI (K : PySem.W.Frag) : Bool := PySem.W.readsIn K (He.ga K "Row") (.type "type") && (decide (PySem.W.specialIn K (.ref (He.ga K "Row")) "__getattribute__" = some (some (.builtin "type.__getattribute__"))) &&
  (match PySem.W.findCls K (.ref (He.ga K "Row")) (.type "type") "__init__" with
    | some (.val v) => decide (v = .ref (He.ma K (He.ga K "Row") "__init__"))
    | _ => false))
theorem rowI_ok {K : PySem.W.Frag} (q : rowI K = true) : ClX.CRead K (He.ga K "Row") (.type "type") ∧ ClX.CVal K (He.ga K "Row") (.type "type") "__init__" (.ref (He.ma K (He.ga K "Row") "__init__")) (.ref (He.ma K (He.ga K "Row") "__init__")) := by
  unfold rowI at q
  simp only [Bool.and_eq_true] at q
  obtain ⟨q1, q2, q3⟩ := q
  refine ⟨⟨q1, of_decide_eq_true q2⟩, ?_, rfl⟩
  cases e : PySem.W.findCls K (.ref (He.ga K "Row")) (.type "type") "__init__" with
  | none => rw [e] at q3; cases q3
  | some z =>
    rw [e] at q3
    cases z with
    | val v => rw [of_decide_eq_true q3]
    | get a b c d => cases q3
section
variable {K : PySem.W.Frag} {h : Heap} {mg : PySem.Str → Option Value} {fas : List He.Fa} {fns : List He.DefD}
theorem in_mem (c : He.SaysD fas fns K) {C m qual : PySem.Str} {st : Stmt} (i : Nat) (md : fns[i]? = some (fnIn C m qual st)) : Fun K m qual st (He.ma K (He.ga K C) m) (fdOf K (He.ma K (He.ga K C) m)) := by
  obtain ⟨fd, F⟩ := c.def_ i md
  have F1 : Fun K m qual st (He.ma K (He.ga K C) m) fd := fun_of (st := st) F
  have ed := fdOf_eq F1
  rw [← ed] at F1
  exact F1
theorem cls_mem (c : He.SaysD fas fns K) {x : PySem.Str} (m : He.Fa.cls x ∈ fas) : Cls K (He.ga K x) := by
  obtain ⟨i, e⟩ := List.getElem?_of_mem m
  exact He.cls_ok (c.fact i e)
theorem mkr_mem (c : He.SaysD fas fns K) {x : PySem.Str} (m : He.Fa.mkr x ∈ fas) : Mk K (He.ga K x) (He.ma K (He.ga K x) "__init__") := by
  obtain ⟨i, e⟩ := List.getElem?_of_mem m
  exact He.mkr_ok (c.fact i e)
theorem noat_mem (c : He.SaysD fas fns K) {x n : PySem.Str} (m : He.Fa.noat x n ∈ fas) : NoAttr K (He.ga K x) n := by
  obtain ⟨i, e⟩ := List.getElem?_of_mem m
  exact He.noat_ok (c.fact i e)
end
end Hd

set_option Elab.async false
set_option linter.all false
set_option maxRecDepth 100000
set_option maxHeartbeats 1000000
namespace Lw
open PySem PySem.Spec PyProof.Rows L2
theorem for_zipLe {K : PySem.W.Frag} {a b : Addr} {xs ys : List V} {g : TG} {tb : TS} {D : Ends} {σ : L2.St} {H : Hp} (hl : xs.length ≤ ys.length) (Pv : Nat → L2.St → Hp → Prop) (h0 : Pv 0 σ H) (hq : ∀ i σ H, Pv i σ H → SqL K H a xs ∧ SqL K H b ys)
    (hs : ∀ (i : Nat) (x y : V) (T : Addr) (σ : L2.St) (H : Hp), xs[i]? = some x → ys[i]? = some y → Pv i σ H → H T = none → g (.ref T) σ (upd H T (.tup [x, y])) fun σ2 H2 => tb { D with nx := Pv (i + 1), ct := Pv (i + 1), bk := D.nx } σ2 H2) (hd : ∀ σ H, Pv xs.length σ H → D.nx σ H) :
    ∃ W : Nat → Nat → L2.St → Hp → Prop, (∃ m, W 0 m σ H) ∧ ∀ i m σ H, W i m σ H →
      ((Itz K a b).stop i H ∧ D.nx σ H) ∨ ((Itz K a b).go i H ∧ ∃ N : L2.St → Hp → Prop, (∀ σ' H', N σ' H' → ∃ m', m' < m ∧ W (i + 1) m' σ' H') ∧ ∀ v H', (Itz K a b).yld i H v H' → g v σ H' fun σ2 H2 => tb { D with nx := N, ct := N, bk := D.nx } σ2 H2) := by
  refine ⟨fun i m σ H => m = xs.length - i ∧ i ≤ xs.length ∧ Pv i σ H, ⟨xs.length, rfl, Nat.zero_le _, h0⟩, ?_⟩
  rintro i m σ H ⟨rfl, hi, p⟩
  obtain ⟨qx, qy⟩ := hq i σ H p
  by_cases hlt : i < xs.length
  · have hx : xs[i]? = some xs[i] := List.getElem?_eq_getElem hlt
    have hlt2 : i < ys.length := by omega
    have hy : ys[i]? = some ys[i] := List.getElem?_eq_getElem hlt2
    refine .inr ⟨⟨xs, ys, _, _, qx, qy, hx, hy⟩, Pv (i + 1), fun σ' H' p' => ⟨xs.length - (i + 1), by omega, rfl, hlt, p'⟩, fun v H' y => ?_⟩
    obtain ⟨T, x', y', rfl, hT, rfl, f1, f2⟩ := y
    exact hs i x' y' T σ H (f1 xs qx) (f2 ys qy) p hT
  · have e : i = xs.length := by omega
    subst e
    exact .inl ⟨⟨xs, ys, qx, qy, Or.inl (Nat.le_refl _)⟩, hd σ H p⟩
end Lw

set_option Elab.async false
set_option linter.all false
set_option maxRecDepth 100000
set_option maxHeartbeats 4000000
namespace K2
open PySem L2 Lw
def top (i : Nat) : Stmt := PySem.Challenge.pw_elderlogs_k02_rows_made.main.body.getD i (.Pass ⟨0, 0, 0, 0⟩)
abbrev sDeal : Stmt := top 19
abbrev sDraw : Stmt := top 20
abbrev sPick : Stmt := top 21
section
variable {P : Program} {w : World} {K : PySem.W.Frag} {mg : Str → Option Value} {base : Heap}
theorem scDraw : FnScope ["_law_deal_here", "_law_many", "_law_left"] ["_law_deal_here", "_law_many"] (defScope sDraw) := ⟨rfl, rfl, rfl, by decide +kernel, rfl, by decide +kernel, by decide +kernel⟩
theorem ok_draw {f : Addr} {fd : FuncData} (F : Fun K "_law_draw" "_law_draw" sDraw f fd) (tI : mg "int" = none) : FnOk P w K mg base CX0 1 f fd ["_law_deal_here", "_law_many"] spDraw := by
  refine F.ok scDraw (fun vs H Q E h => ?_) (fun cdv A outer s H vs Q E hr h => ?_)
  · obtain ⟨G, d, l, k, rfl, _⟩ := h
    rfl
  · obtain ⟨G, d, l, k, rfl, D, k0, k1, fin⟩ := h
    have hu : _ := hr.units
    refine ⟨_, pss_cons (ps_while PassesOwn.never (PW.pt (pw_and (pt_cmpR (op_neD hu) (pe_ix ix_list (pv 0) pe_int (fun _ _ => rfl)) (pe_lst pa_nil) (nomark _))
        (pw_and1 (pt_cmpR op_eq (pe_ix ix_list (pe_ix ix_list (pv 0) pe_int (fun _ _ => rfl)) (pe_un un_neg pe_int) (fun _ _ => rfl)) pe_int (nomark _)))))
        (pss_one (ps_expr (pe_bm0 PySem.F.plainAttrs_list PySem.F.slot_list_pop PySem.F.type_list_pop mt_pop (pe_ix ix_list (pv 0) pe_int (fun _ _ => rfl))))))
      (pss_cons (ps_if (pt_cmpR (op_neD hu) (pe_ix ix_list (pv 0) pe_int (fun _ _ => rfl)) (pe_lst pa_nil) (nomark _))
        (pss_cons (ps_set (i := 2) scDraw.nd rfl (Or.inl rfl) (pe_bm0 PySem.F.plainAttrs_list PySem.F.slot_list_pop PySem.F.type_list_pop mt_pop (pe_ix ix_list (pv 0) pe_int (fun _ _ => rfl))))
          (pss_cons (ps_expr (pe_bm PySem.F.plainAttrs_list PySem.F.slot_list_append PySem.F.type_list_append mt_append (pe_ix ix_list (pv 0) pe_int (fun _ _ => rfl)) (pa_cons (pe_op op_fdiv (pv 2) (pv 1)) pa_nil)))
            (pss_one (ps_ret (pe_op op_mod (pe_callTy call_int1 (by rfl) tI PyProof.Rows.boot_int (pa_cons (pv 2) pa_nil)) (pv 1))))))
        pss_nil)
      (pss_cons (ps_asg (pe_op op_mod (pe_callTy call_int1 (by rfl) tI PyProof.Rows.boot_int (pa_cons (pe_op op_add (pe_op op_mul (pe_ix ix_list (pv 0) pe_int (fun _ _ => rfl)) pe_int) pe_int) pa_nil)) pe_int) (pg_sub (pv 0) pe_int set_list))
        (pss_one (ps_ret (pe_op op_mod (pe_callTy call_int1 (by rfl) tI PyProof.Rows.boot_int (pa_cons (pe_op op_fdiv (pe_ix ix_list (pv 0) pe_int (fun _ _ => rfl)) pe_int) pa_nil)) (pv 1)))))), ?_⟩
    obtain ⟨ns0, m0, a0⟩ := D.it
    refine seq_cut (fun σ1 H1 => σ1 = [some (.ref d), some (.int k), none] ∧ Deal G H1 d l ∧ ∃ ns m, At H1 d l ns m) ?after fun after => ?loop
    case loop =>
      refine ⟨fun c σ H1 => ∃ ns m, c = ns.length ∧ σ = [some (.ref d), some (.int k), none] ∧ Deal G H1 d l ∧ At H1 d l ns m, ⟨_, ns0, m0, rfl, rfl, D, a0⟩, ?_⟩
      rintro _ _ H1 ⟨ns, m, rfl, rfl, D1, a1⟩
      refine ⟨_, rfl, d, _, 0, _, rfl, rfl, SqL.of a1.hd, at0, Nat.zero_le _, fun p hp => ?_⟩
      have D2 := D1.more (o := .lst []) hp
      have a2 := a1.put (o := .lst []) hp
      refine ⟨_, _, .lst (SqL.of a2.hl) (ints_data ns), .lst (SqL.of upd_same) .nil, ints_shaped ns, nil_shaped, _, rfl, ?_⟩
      rw [eqv_nil]
      by_cases e : ns = []
      · subst e
        exact iteF (iteF (after _ _ ⟨rfl, D2, _, _, a2⟩))
      · obtain ⟨r, n, rfl⟩ := split_end e
        have e1 : (!((r ++ [n]).map PyData.int).isEmpty) = true := by simp
        rw [e1]
        refine iteT ⟨_, rfl, d, _, 0, _, rfl, rfl, SqL.of a2.hd, at0, _, rfl, l, _, -1, _, rfl, rfl, SqL.of a2.hl, at_end r n, rfl, _, rfl, ?_⟩
        refine ite2 (fun z => ?_) (fun _ => after _ _ ⟨rfl, D2, _, _, a2⟩)
        obtain ⟨D3, a3⟩ := D2.list a2 (ns' := r) (by have := a2.len; simp at this; omega) (fun x hx => a2.nn x (by simp [hx]))
        refine ⟨fun σ1 H3 => σ1 = [some (.ref d), some (.int k), none] ∧ Deal G H3 d l ∧ At H3 d l r m, fun σ1 H3 ⟨q1, q2, q3⟩ => ⟨r.length, by simp, r, m, rfl, q1, q2, q3⟩, ?_⟩
        refine ⟨_, rfl, d, _, 0, _, rfl, rfl, SqL.of a2.hd, at0, .inl ⟨rfl, _, SqL.of a2.hl⟩, l, _, _, rfl, rfl, a2.hl, get_end r n, ?_⟩
        rw [drop_end]
        exact ⟨rfl, D3, a3⟩
    case after =>
      rintro _ H1 ⟨rfl, D1, ns, m, a1⟩
      refine ⟨_, rfl, d, _, 0, _, rfl, rfl, SqL.of a1.hd, at0, Nat.zero_le _, fun p hp => ?_⟩
      have D2 := D1.more (o := .lst []) hp
      have a2 := a1.put (o := .lst []) hp
      refine ⟨_, _, .lst (SqL.of a2.hl) (ints_data ns), .lst (SqL.of upd_same) .nil, ints_shaped ns, nil_shaped, _, rfl, ?_⟩
      rw [eqv_nil]
      by_cases e : ns = []
      · subst e
        refine iteF ?_
        -- deal[1] = ..
        refine ⟨_, rfl, d, _, 1, _, rfl, rfl, SqL.of a2.hd, at1, _, _, rfl, rfl, .inr ⟨by decide, by decide⟩, _, _, rfl, rfl, .inl ⟨_, rfl, _, _, rfl, rfl, (by show (0 : Int) < 2147483647; decide), ?_⟩⟩
        have b0 : 0 ≤ (m * 48271 + 17) % 2147483647 := Int.emod_nonneg _ (by decide)
        have b1 : (m * 48271 + 17) % 2147483647 < 2147483647 := Int.emod_lt_of_pos _ (by decide)
        obtain ⟨D3, a3⟩ := D2.mix a2 b0 b1
        refine ⟨_, rfl, d, _, 1, 1, rfl, rfl, a2.hd, set1, ?_⟩
        refine ⟨_, rfl, d, _, 1, _, rfl, rfl, SqL.of a3.hd, at1, _, _, rfl, rfl, ⟨by decide, by decide⟩, .inl ⟨_, rfl, _, rfl, _, _, rfl, rfl, k0, ?_⟩⟩
        exact fin _ _ D3 (Int.emod_nonneg _ (by omega)) (Int.emod_lt_of_pos _ k0)
      · obtain ⟨r, n, rfl⟩ := split_end e
        have e1 : (!((r ++ [n]).map PyData.int).isEmpty) = true := by simp
        rw [e1]
        have n0 : 0 ≤ n := a2.nn n (by simp)
        refine iteT ⟨_, rfl, d, _, 0, _, rfl, rfl, SqL.of a2.hd, at0, .inl ⟨rfl, _, SqL.of a2.hl⟩, l, _, _, rfl, rfl, a2.hl, get_end r n, ?_⟩
        rw [drop_end]
        obtain ⟨D3, a3⟩ := D2.list a2 (ns' := r) (by have := a2.len; simp at this; omega) (fun x hx => a2.nn x (by simp [hx]))
        refine ⟨_, rfl, d, _, 0, _, rfl, rfl, SqL.of a3.hd, at0, .inl ⟨rfl, _, SqL.of a3.hl⟩, _, rfl, _, rfl, _, _, rfl, rfl, ⟨k0, by omega⟩, l, _, _, rfl, rfl, a3.hl, (by rw [List.length_map]; have := a3.len; exact Nat.lt_of_le_of_lt this (by decide)), ?_⟩
        obtain ⟨D4, a4⟩ := D3.list a3 (ns' := r ++ [n / k]) (by have := a2.len; simp at this ⊢; omega) (fun x hx => by
          rcases List.mem_append.mp hx with q | q
          · exact a3.nn x q
          · rw [List.mem_singleton.mp q]
            exact Int.ediv_nonneg n0 (by omega))
        rw [upd_upd, List.map_append, List.map_cons, List.map_nil] at D4
        rw [upd_upd]
        refine ⟨_, rfl, .inl ⟨n, rfl, _, rfl, _, _, rfl, rfl, k0, ?_⟩⟩
        exact fin _ _ D4 (Int.emod_nonneg _ (by omega)) (Int.emod_lt_of_pos _ k0)

/-! ### a deal -/
abbrev nDeal : List Str := ["_law_script", "_law_base", "_law_cells", "_law_mixed_here", "_law_cell"]
theorem scDeal : FnScope nDeal ["_law_script", "_law_base"] (defScope sDeal) := ⟨rfl, rfl, rfl, by decide +kernel, rfl, by decide +kernel, by decide +kernel⟩
theorem ok_deal {f : Addr} {fd : FuncData} (F : Fun K "_law_deal" "_law_deal" sDeal f fd) (tI : mg "int" = none) (tA : mg "abs" = none) : FnOk P w K mg base CX0 1 f fd ["_law_script", "_law_base"] (spDeal K) := by
  refine F.ok scDeal (fun vs H Q E h => ?_) (fun cdv A outer s H vs Q E hr h => ?_)
  · obtain ⟨a, ns, b, rfl, _⟩ := h
    rfl
  · obtain ⟨a, ns, b, rfl, hS, len, b0, b1, fin⟩ := h
    refine ⟨_, pss_cons (ps_setLc (i := 2) (own := [("_law_cell", 4)]) (g := gName 4) (tt := tYes) (by rfl) scDeal.nd rfl rfl (sw_true rfl rfl rfl (by decide +kernel)) (pi_list (pe_slice sl_list (pv 0) (po_some (pv 1)) (po_some pe_int)))
          (blkOk_by (own := [("_law_cell", 4)]) (N := nDeal) (sc := defScope sDeal) (by decide +kernel)) (fun _ _ _ _ _ => pg_name (i := 4) scDeal.nd rfl (Or.inl rfl)) (fun _ _ _ _ _ => pts_nil)
          (fun _ _ _ _ _ => pe_callB call_abs (by rfl) tA PyProof.Rows.boot_abs (pa_cons (pe_callTy call_int1 (by rfl) tI PyProof.Rows.boot_int (pa_cons (pv 4) pa_nil)) pa_nil)))
      (pss_cons (ps_set (i := 3) scDeal.nd rfl (Or.inl rfl) (pe_op op_add pe_int (pe_op op_mul pe_int (pv 1))))
      (pss_cons (ps_for PassesOwn.never rfl (pi_list (pv 2)) (pg_name (i := 4) scDeal.nd rfl (Or.inl rfl))
        (pss_one (ps_set (i := 3) scDeal.nd rfl (Or.inl rfl) (pe_op op_mod (pe_callTy call_int1 (by rfl) tI PyProof.Rows.boot_int (pa_cons (pe_op op_add (pe_op op_add (pe_op op_mul (pv 3) pe_int) (pe_op op_mod (pe_callTy call_int1 (by rfl) tI PyProof.Rows.boot_int (pa_cons (pv 4) pa_nil)) pe_int)) pe_int) pa_nil)) pe_int))))
      (pss_one (ps_ret (pe_lst (pa_cons (pe_revL (pe_lc (own := [("_law_cell", 4)]) (g := gName 4) (tt := _) (by rfl) scDeal.nd (pi_list (pv 2))
          (blkOk_by (own := [("_law_cell", 4)]) (N := nDeal) (sc := defScope sDeal) (by decide +kernel)) (fun _ _ _ _ _ => pg_name (i := 4) scDeal.nd rfl (Or.inl rfl))
          (fun _ _ _ _ _ => pts_one (pt_cmpR op_ge (pv 4) (pe_op op_pow pe_int pe_int) (nomark _))) (fun _ _ _ _ _ => pv 4))) (pa_cons (pv 3) pa_nil))))))), ?_⟩
    -- cells
    refine ⟨_, rfl, _, rfl, _, rfl, _, rfl, a, _, rfl, hS, fun p1 u1 => ?_⟩
    obtain ⟨ms, ecut, lms⟩ := cut_ints ns (some b) (some 62)
    rw [ecut]
    have s1 : Same H (upd H p1 (.lst (ms.map V.int))) := same_new u1
    refine ⟨p1, rfl, ⟨_, SqL.of upd_same⟩, fun c u2 => ?_⟩
    have few : (ms.map V.int).length ≤ 100000 := by rw [List.length_map]; omega
    have u2' : H c = none := s1.free u2
    refine lc_of_list ((ms.map V.int).map fun x => some (magV x)) (SqL.of upd_same) u2 (turns_map magV few fun x H2 Q2 hx _ q => ?_) mono_yes fun H2 s2 h2 => ?_
    · obtain ⟨n, _, rfl⟩ := mem_ints hx
      exact ⟨_, rfl, .inl ⟨n, rfl, n, rfl, q _ (Same.refl _)⟩⟩
    rw [out_map, magV_map] at h2
    have s12 := s1.trans s2
    -- mixed
    refine ⟨_, rfl, _, _, rfl, rfl, .inl ⟨by decide, by decide⟩, _, _, rfl, rfl, ?_⟩
    -- the loop
    dsimp only [gName]
    refine seq_cut (fun σ1 H3 => ∃ m v, σ1 = [some (.ref a), some (.int b), some (.ref c), some (.int m), v] ∧ H3 = H2 ∧ 0 ≤ m ∧ m < 2147483647) ?after fun after => ?loop
    case loop =>
      refine ⟨_, rfl, c, rfl, ⟨_, SqL.of h2⟩, for_list (K := K) (a := c) (xs := (ms.map mag).map V.int) (fun i σ1 H3 => ∃ m v, σ1 = [some (.ref a), some (.int b), some (.ref c), some (.int m), v] ∧ H3 = H2 ∧ 0 ≤ m ∧ m < 2147483647)
        ⟨_, _, rfl, rfl, by omega, by omega⟩ (fun i σ1 H3 _ ⟨m, v, _, e3, _⟩ => by rw [e3]; exact SqL.of h2) ?_ (fun σ1 H3 q => after σ1 H3 q)⟩
      rintro i x σ1 H3 hx ⟨m, v, rfl, rfl, m0, _⟩
      obtain ⟨n, _, rfl⟩ := mem_ints (List.mem_of_getElem? hx)
      refine ⟨_, rfl, _, _, rfl, rfl, .inr ⟨by decide, by decide⟩, _, rfl, .inl ⟨n, rfl, _, _, rfl, rfl, (by show (0 : Int) < 2147483629; decide), _, _, rfl, rfl, _, _, rfl, rfl, .inl ⟨_, rfl, _, _, rfl, rfl, (by show (0 : Int) < 2147483647; decide), ?_⟩⟩⟩
      exact ⟨_, _, rfl, rfl, Int.emod_nonneg _ (by decide), Int.emod_lt_of_pos _ (by decide)⟩
    case after =>
      rintro _ _ ⟨m, v, rfl, rfl, m0, m1⟩
      -- the great ones
      refine ⟨_, rfl, c, rfl, ⟨_, SqL.of h2⟩, fun g u3 => ?_⟩
      have few2 : ((ms.map mag).map V.int).length ≤ 100000 := by rw [List.length_map, List.length_map]; omega
      refine lc_of_list (((ms.map mag).map V.int).map bigV) (SqL.of h2) u3 ⟨by simp, few2, fun j x y H3 Q3 hx hy _ q => ?_, fun j x H3 hx hy _ => ?_⟩ (mono_test (mono_op mono_rI0 mono_var (mono_op mono_rI mono_c mono_c))) fun H3 s3 h3 => ?_
      · obtain ⟨n, _, rfl⟩ := mem_ints (List.mem_of_getElem? hx)
        rw [List.getElem?_map, hx] at hy
        have hy : bigV (.int n) = some y := by simpa using hy
        refine ⟨_, rfl, _, _, rfl, rfl, ⟨by decide, by decide, by decide⟩, _, _, rfl, rfl, _, rfl, ?_⟩
        by_cases z : decide ((10 : Int) ^ (18 : Int).toNat ≤ n) = true
        · rw [show bigV (.int n) = some (.int n) from if_pos z] at hy
          cases hy
          exact ⟨z, Same.refl _, _, rfl, q _ (Same.refl _)⟩
        · rw [show bigV (.int n) = none from if_neg z] at hy
          cases hy
      · obtain ⟨n, _, rfl⟩ := mem_ints (List.mem_of_getElem? hx)
        rw [List.getElem?_map, hx] at hy
        have hy : bigV (.int n) = none := by simpa using hy
        refine ⟨_, rfl, _, _, rfl, rfl, ⟨by decide, by decide, by decide⟩, _, _, rfl, rfl, _, rfl, ?_⟩
        by_cases z : decide ((10 : Int) ^ (18 : Int).toNat ≤ n) = true
        · rw [show bigV (.int n) = some (.int n) from if_pos z] at hy
          cases hy
        · exact ⟨by simpa using z, Same.refl _⟩
      rw [big_out] at h3
      refine ⟨g, _, rfl, SqL.of h3, fun l u4 => ?_⟩
      refine ⟨_, rfl, (by show 2 ≤ sizeLine; decide), fun d u5 => ?_⟩
      have nl : l ≠ d := fun z => by rw [z, upd_same] at u5; cases u5
      have s4 := s12.trans s3
      have u4' : H l = none := s4.free u4
      have u5' : H d = none := by rw [upd_ne nl.symm] at u5; exact s4.free u5
      refine fin _ d l ⟨fun p o e => ?_, u5', u4', nl, ((ms.map mag).filter fun i => decide ((10 : Int) ^ (18 : Int).toNat ≤ i)).reverse, m, upd_same, ?_, ?_, fun n hn => ?_, m0, m1⟩
      · rw [upd_ne (ne_of_none e u5'), upd_ne (ne_of_none e u4')]
        exact s4 _ _ e
      · rw [upd_ne nl, upd_same, List.map_reverse]
      · rw [List.length_reverse]
        have := List.length_filter_le (fun i => decide ((10 : Int) ^ (18 : Int).toNat ≤ i)) (ms.map mag)
        rw [List.length_map] at this
        omega
      · obtain ⟨i, _, rfl⟩ := List.mem_map.mp (List.mem_filter.mp (List.mem_reverse.mp hn)).1
        exact mag_nn i

/-! ### a pick -/
theorem scPick : FnScope ["_law_deal_here", "_law_some"] ["_law_deal_here", "_law_some"] (defScope sPick) := ⟨rfl, rfl, rfl, by decide +kernel, rfl, by decide +kernel, by decide +kernel⟩
theorem ok_pick {f fD : Addr} {fd fdD : FuncData} (F : Fun K "_law_pick" "_law_pick" sPick f fd) (FD : Fun K "_law_draw" "_law_draw" sDraw fD fdD) (tD : mg "_law_draw" = some (.ref fD)) (bD : Binds K fdD ["_law_deal_here", "_law_many"] [])
    (tI : mg "int" = none) (tL : mg "len" = none) : FnOk P w K mg base CX0 2 f fd ["_law_deal_here", "_law_some"] (spPick K) := by
  have GD : FnOk P w K mg base CX0 1 fD fdD ["_law_deal_here", "_law_many"] spDraw := ok_draw FD tI
  refine F.ok scPick (fun vs H Q E h => ?_) (fun cdv A outer s H vs Q E hr h => ?_)
  · obtain ⟨G, d, l, a, xs, rfl, _⟩ := h
    rfl
  · obtain ⟨G, d, l, a, xs, rfl, D, hS, ne, few, fin⟩ := h
    refine ⟨_, pss_one (ps_ret (pe_ix ix_list (pv 1) (pe_call GD hr rfl tD FD.kp bD .nil pass0 (pa_cons (pv 0) (pa_cons (pe_callB call_len (by rfl) tL PySem.boot_len (pa_cons (pv 1) pa_nil)) pa_nil))) (fun _ _ => rfl))), ?_⟩
    have hS1 : SqL K H a xs := D.same.seq hS
    have pos : 0 < xs.length := List.length_pos_iff.mpr ne
    refine ⟨_, rfl, _, rfl, _, rfl, _, _, rfl, .inl ⟨_, hS1, rfl⟩, G, d, l, _, rfl, D, by omega, by omega, fun H' r D' r0 r1 => ?_⟩
    obtain ⟨x, hx, ex⟩ := at_int r0 r1
    exact ⟨a, _, r, x, rfl, rfl, D'.same.seq hS, ex, fin H' x D' hx⟩
end
end K2

set_option Elab.async false
set_option linter.all false
set_option maxRecDepth 100000
set_option maxHeartbeats 4000000
namespace Lw
open PySem PySem.Spec PyProof.Rows L2
theorem upd_swap {H : Hp} {p q : Addr} {o u : HO} (h : p ≠ q) : upd (upd H p o) q u = upd (upd H q u) p o := by
  funext b
  by_cases h1 : b = q
  · subst h1
    rw [upd_same, upd_ne h.symm, upd_same]
  · rw [upd_ne h1]
    by_cases h2 : b = p
    · subst h2
      rw [upd_same, upd_same]
    · rw [upd_ne h2, upd_ne h2, upd_ne h1]
/-- two lists that are being changed, beside the deal -/
structure Two (G H : Hp) (d l p q : Addr) (xs ys : List V) : Prop where
  dl : Deal (upd (upd G p (.lst xs)) q (.lst ys)) H d l
  ne : p ≠ q
  gp : G p = none
  gq : G q = none
theorem Two.at1 {G H : Hp} {d l p q : Addr} {xs ys : List V} (t : Two G H d l p q xs ys) : H p = some (.lst xs) := t.dl.same _ _ (by rw [upd_ne t.ne]; exact upd_same)
theorem Two.at2 {G H : Hp} {d l p q : Addr} {xs ys : List V} (t : Two G H d l p q xs ys) : H q = some (.lst ys) := t.dl.same _ _ upd_same
theorem Two.put1 {G H : Hp} {d l p q : Addr} {xs ys : List V} (t : Two G H d l p q xs ys) (zs : List V) : Two G (upd H p (.lst zs)) d l p q zs ys := by
  refine ⟨?_, t.ne, t.gp, t.gq⟩
  have z := t.dl
  rw [upd_swap t.ne] at z ⊢
  exact Deal.over z
theorem Two.put2 {G H : Hp} {d l p q : Addr} {xs ys : List V} (t : Two G H d l p q xs ys) (zs : List V) : Two G (upd H q (.lst zs)) d l p q xs zs := ⟨Deal.over t.dl, t.ne, t.gp, t.gq⟩
theorem Two.deal {G H H' : Hp} {d l p q : Addr} {xs ys : List V} (t : Two G H d l p q xs ys) (D : Deal (upd (upd G p (.lst xs)) q (.lst ys)) H' d l) : Two G H' d l p q xs ys := ⟨D, t.ne, t.gp, t.gq⟩
theorem Two.first {G H : Hp} {d l p q : Addr} {xs ys : List V} (D : Deal G H d l) (hp : H p = none) (hq : (upd H p (.lst xs)) q = none) : Two G (upd (upd H p (.lst xs)) q (.lst ys)) d l p q xs ys := by
  have ne : p ≠ q := fun z => by rw [← z, upd_same] at hq; cases hq
  have hq' : H q = none := by rwa [upd_ne ne.symm] at hq
  exact ⟨(D.put hp).put hq, ne, D.same.free hp, D.same.free hq'⟩
/-- only q is new -/
theorem Two.news {G H : Hp} {d l p q : Addr} {xs ys : List V} (t : Two G H d l p q xs ys) : News G H (upd (upd G p (.lst xs)) q (.lst ys)) (upd (fun _ => none) q (.lst ys)) d l := by
  refine ⟨t.dl, fun b o e => ?_, fun b o e => ?_, fun b o e => ?_⟩
  · rw [upd_ne (ne_of_none e t.gq), upd_ne (ne_of_none e t.gp)]
    exact e
  · by_cases h : b = q
    · subst h
      rw [upd_same] at e ⊢
      exact e
    · rw [upd_ne h] at e
      cases e
  · by_cases h : b = q
    · rw [h]
      exact t.gq
    · rw [upd_ne h] at e
      cases e
/-- the promise of a mixed list -/
def spMixed (K : PySem.W.Frag) : Sp := fun vs H Q _ => ∃ (G : Hp) (d l a : Addr) (xs : List V), vs = [.ref d, .ref a] ∧ Deal G H d l ∧ SqL K G a xs ∧ xs.length ≤ 1000 ∧
  ∀ (G' H' N : Hp) (p : Addr) (ys : List V), News G H' G' N d l → N p = some (.lst ys) → ys.Perm xs → Q (.ref p) H'
theorem perm_pop {xs : List V} {k : Nat} {y : V} (h : xs[k]? = some y) : (xs.eraseIdx k ++ [y]).Perm xs := by
  induction xs generalizing k with
  | nil => simp at h
  | cons x r ih =>
    cases k with
    | zero =>
      obtain rfl : x = y := by simpa using h
      rw [List.eraseIdx_cons_zero]
      exact List.perm_append_comm
    | succ k =>
      rw [List.eraseIdx_cons_succ, List.cons_append]
      exact (ih (by simpa using h)).cons x
end Lw
namespace K2
open PySem L2 Lw
abbrev sMixed : Stmt := top 22
section
variable {P : Program} {w : World} {K : PySem.W.Frag} {mg : Str → Option Value} {base : Heap}
abbrev nMixed : List Str := ["_law_deal_here", "_law_some", "_law_left", "_law_found", "_law_turn"]
theorem scMixed : FnScope nMixed ["_law_deal_here", "_law_some"] (defScope sMixed) := ⟨rfl, rfl, rfl, by decide +kernel, rfl, by decide +kernel, by decide +kernel⟩
theorem ok_mixed {f fD : Addr} {fd fdD : FuncData} (F : Fun K "_law_mixed" "_law_mixed" sMixed f fd) (FD : Fun K "_law_draw" "_law_draw" sDraw fD fdD) (tD : mg "_law_draw" = some (.ref fD)) (bD : Binds K fdD ["_law_deal_here", "_law_many"] [])
    (tI : mg "int" = none) (tL : mg "len" = none) (tLi : mg "list" = none) (tR : mg "range" = none) : FnOk P w K mg base CX0 2 f fd ["_law_deal_here", "_law_some"] (spMixed K) := by
  have GD : FnOk P w K mg base CX0 1 fD fdD ["_law_deal_here", "_law_many"] spDraw := ok_draw FD tI
  refine F.ok scMixed (fun vs H Q E h => ?_) (fun cdv A outer s H vs Q E hr h => ?_)
  · obtain ⟨G, d, l, a, xs, rfl, _⟩ := h
    rfl
  · obtain ⟨G, d, l, a, xs, rfl, D, hS, few, fin⟩ := h
    refine ⟨_, pss_cons (ps_par (i := 2) (j := 3) (by rfl) scMixed.nd rfl rfl (by decide) rfl rfl (pa_cons (pe_callTy call_list_of (by rfl) tLi PyProof.Rows.boot_list (pa_cons (pv 1) pa_nil)) (pa_cons (pe_lst pa_nil) pa_nil)) (by rfl))
      (pss_cons (ps_for PassesOwn.never rfl (pi_range1 rfl tR (pa_cons (pe_callB call_len_seq (by rfl) tL PySem.boot_len (pa_cons (pv 2) pa_nil)) pa_nil)) (pg_name (i := 4) scMixed.nd rfl (Or.inl rfl))
        (pss_one (ps_expr (pe_bm PySem.F.plainAttrs_list PySem.F.slot_list_append PySem.F.type_list_append mt_append (pv 3) (pa_cons (pe_bm PySem.F.plainAttrs_list PySem.F.slot_list_pop PySem.F.type_list_pop mt_popAt (pv 2)
          (pa_cons (pe_call GD hr rfl tD FD.kp bD .nil pass0 (pa_cons (pv 0) (pa_cons (pe_callB call_len_seq (by rfl) tL PySem.boot_len (pa_cons (pv 2) pa_nil)) pa_nil))) pa_nil)) pa_nil)))))
      (pss_one (ps_ret (pv 3)))), ?_⟩
    refine ⟨_, rfl, a, xs, rfl, .inl (D.same.seq hS), fun p up => ⟨(by show 0 ≤ sizeLine; decide), fun q uq => ⟨_, _, rfl, ?_⟩⟩⟩
    have T0 := Two.first (xs := xs) (ys := []) D up uq
    refine ⟨_, rfl, p, xs, rfl, .inl (SqL.of T0.at1), _, rfl, by omega, by omega, for_range (lo := 0) (fun i σ1 H1 => ∃ (ls fs : List V) (v : Option V), σ1 = [some (.ref d), some (.ref a), some (.ref p), some (.ref q), v] ∧ Two G H1 d l p q ls fs ∧ (fs ++ ls).Perm xs ∧ ls.length + i = xs.length)
      ⟨xs, [], _, rfl, T0, List.Perm.refl _, by simp⟩ ?_ ?_⟩
    · rintro i _ H1 hi ⟨ls, fs, v, rfl, T1, pm, len⟩
      refine ⟨_, rfl, .inl ⟨rfl, _, SqL.of T1.at2⟩, _, rfl, .inl ⟨rfl, _, SqL.of T1.at1⟩, _, rfl, _, rfl, p, ls, rfl, .inl (SqL.of T1.at1), _, d, l, _, rfl, T1.dl, by omega, by omega, fun H2 r D2 r0 r1 => ?_⟩
      have T2 := T1.deal D2
      have hix : ixN ls.length r = some r.toNat := by
        unfold ixN
        rw [if_pos r0, if_pos r1]
      obtain ⟨sx, lt, _, _⟩ := ixN_seq hix
      have hy : ls[r.toNat]? = some ls[r.toNat] := List.getElem?_eq_getElem lt
      have pl := pm.length_eq
      rw [List.length_append] at pl
      refine ⟨p, ls, r, r.toNat, _, rfl, rfl, T2.at1, by omega, by omega, sx, hy, ?_⟩
      have T3 := T2.put1 (ls.eraseIdx r.toNat)
      refine ⟨q, fs, _, rfl, rfl, T3.at2, Nat.lt_of_le_of_lt (show fs.length ≤ 1000 by omega) (by decide), ?_⟩
      have T4 := T3.put2 (fs ++ [ls[r.toNat]])
      refine ⟨ls.eraseIdx r.toNat, fs ++ [ls[r.toNat]], _, rfl, T4, ?_, ?_⟩
      · rw [List.append_assoc]
        exact ((List.perm_append_comm.trans (perm_pop hy)).append_left fs).trans pm
      · rw [List.length_eraseIdx, if_pos lt]
        omega
    · rintro _ H1 ⟨ls, fs, v, rfl, T1, pm, len⟩
      have e : ls = [] := by
        have : ls.length = 0 := by
          have := len
          omega
        exact List.length_eq_zero_iff.mp this
      subst e
      rw [List.append_nil] at pm
      exact ⟨_, rfl, fin _ H1 _ q fs T1.news upd_same pm⟩
end
end K2

set_option Elab.async false
set_option linter.all false
set_option maxRecDepth 100000
set_option maxHeartbeats 4000000
namespace Lw
open PySem PySem.Spec PyProof.Rows L2
theorem cut_take {xs : List V} {m : Int} (h0 : 0 ≤ m) (h1 : m ≤ xs.length) : cutV xs none (some m) = xs.take m.toNat := by
  have e : HT.sIx xs.length xs.length (some m) = min m.toNat xs.length := by
    show (if m < 0 then _ else _) = _
    rw [if_neg (by omega)]
  have e2 : HT.sIx xs.length 0 none = 0 := rfl
  unfold cutV
  rw [e, e2, List.drop_zero, Nat.sub_zero, Nat.min_eq_left (by omega)]
theorem cut_drop {xs : List V} {m : Int} (h0 : 0 ≤ m) : cutV xs (some m) none = xs.drop m.toNat := by
  have e : HT.sIx xs.length 0 (some m) = min m.toNat xs.length := by
    show (if m < 0 then _ else _) = _
    rw [if_neg (by omega)]
  have e2 : HT.sIx xs.length xs.length none = xs.length := rfl
  unfold cutV
  rw [e, e2]
  by_cases h : m.toNat ≤ xs.length
  · rw [Nat.min_eq_left h, ← List.length_drop, List.take_length]
  · rw [Nat.min_eq_right (by omega), List.drop_length, List.drop_eq_nil_of_le (by omega), List.take_nil]
theorem perm_str {ys : List V} {zs : List Str} (h : ys.Perm (zs.map V.str)) : ∃ us : List Str, ys = us.map V.str ∧ us.Perm zs := by
  have all : ∀ y ∈ ys, ∃ z, y = V.str z := fun y hy => by
    obtain ⟨z, _, e⟩ := List.mem_map.mp (h.mem_iff.mp hy)
    exact ⟨z, e.symm⟩
  refine ⟨ys.map fun | .str z => z | _ => Str.empty, ?_, ?_⟩
  · rw [List.map_map]
    conv => lhs; rw [← List.map_id ys]
    refine List.map_congr_left fun y hy => ?_
    obtain ⟨z, rfl⟩ := all y hy
    rfl
  · have z := h.map (fun | .str z => z | _ => Str.empty : V → Str)
    rw [List.map_map] at z
    have e : zs.map ((fun | .str z => z | _ => Str.empty : V → Str) ∘ V.str) = zs := by
      conv => rhs; rw [← List.map_id zs]
      exact List.map_congr_left fun _ _ => rfl
    rwa [e] at z
end Lw
namespace K2
open PySem L2 Lw
abbrev sTitles : Stmt := top 23
def sixteen : List Str := ["ask", "note", "mark", "end", "a", "b", "c", "zzzz", "due", "x", "pay", "yes", "no", "k", "ab", "drop"]
def spTitles (K : PySem.W.Frag) : Sp := fun vs H Q _ => ∃ (G : Hp) (d l : Addr) (m : Int), vs = [.ref d, .int m] ∧ Deal G H d l ∧ 0 ≤ m ∧ m ≤ 16 ∧
  ∀ (G' H' N : Hp) (p : Addr) (zs : List Str), News G H' G' N d l → N p = some (.lst (zs.map V.str)) → zs.Nodup → (zs.length : Int) = m → (∀ z ∈ zs, z ∈ sixteen) → Q (.ref p) H'
section
variable {P : Program} {w : World} {K : PySem.W.Frag} {mg : Str → Option Value} {base : Heap}
theorem scTitles : FnScope ["_law_deal_here", "_law_many", "_law_some"] ["_law_deal_here", "_law_many"] (defScope sTitles) := ⟨rfl, rfl, rfl, by decide +kernel, rfl, by decide +kernel, by decide +kernel⟩
theorem ok_titles {f fM : Addr} {fd fdM : FuncData} (F : Fun K "_law_titles" "_law_titles" sTitles f fd) (GM : FnOk P w K mg base CX0 2 fM fdM ["_law_deal_here", "_law_some"] (spMixed K)) (kM : PySem.W.keepIn K (.ref fM) = true) (tM : mg "_law_mixed" = some (.ref fM)) (bM : Binds K fdM ["_law_deal_here", "_law_some"] []) :
    FnOk P w K mg base CX0 3 f fd ["_law_deal_here", "_law_many"] (spTitles K) := by
  refine F.ok scTitles (fun vs H Q E h => ?_) (fun cdv A outer s H vs Q E hr h => ?_)
  · obtain ⟨G, d, l, m, rfl, _⟩ := h
    rfl
  · obtain ⟨G, d, l, m, rfl, D, m0, m1, fin⟩ := h
    refine ⟨_, pss_cons (ps_set (i := 2) scTitles.nd rfl (Or.inl rfl) (pe_lst (pa_cons pe_str (pa_cons pe_str (pa_cons pe_str (pa_cons pe_str (pa_cons pe_str (pa_cons pe_str (pa_cons pe_str (pa_cons pe_str (pa_cons pe_str (pa_cons pe_str (pa_cons pe_str (pa_cons pe_str (pa_cons pe_str (pa_cons pe_str (pa_cons pe_str (pa_cons pe_str pa_nil))))))))))))))))))
      (pss_one (ps_ret (pe_slice sl_list (pe_call GM hr rfl tM kM bM .nil pass0 (pa_cons (pv 0) (pa_cons (pv 2) pa_nil))) po_none (po_some (pv 1))))), ?_⟩
    refine ⟨(by show 16 ≤ sizeLine; decide), fun t u => ?_⟩
    have n1 := (News.zero D).put (o := .lst (sixteen.map V.str)) u
    refine ⟨_, rfl, _, rfl, upd G t (.lst (sixteen.map V.str)), d, l, t, sixteen.map V.str, rfl, n1.dl, SqL.of upd_same, (by show 16 ≤ 1000; decide), fun G' H' N p ys m' hp pm => ?_⟩
    obtain ⟨us, rfl, pu⟩ := perm_str pm
    have n2 := n1.more m'
    have hp2 := n1.right m' _ _ hp
    have len : us.length = 16 := pu.length_eq
    refine ⟨_, rfl, m, rfl, p, _, rfl, SqL.of (m'.inH _ _ hp), fun r ur => ?_⟩
    rw [cut_take m0 (by rw [List.length_map, len]; exact m1), ← List.map_take]
    refine fin _ _ _ r (us.take m.toNat) (n2.put ur) upd_same ?_ ?_ ?_
    · exact (List.take_sublist _ _).nodup (pu.nodup_iff.mpr (by decide +kernel))
    · rw [List.length_take, len]
      omega
    · intro z hz
      exact pu.mem_iff.mp (List.mem_of_mem_take hz)
end
end K2

set_option Elab.async false
set_option linter.all false
set_option maxRecDepth 100000
set_option maxHeartbeats 4000000
namespace Lw
open PySem PySem.Spec PyProof.Rows L2
/-! ### a row as the laws draw it -/
def sixteen : List Str := ["ask", "note", "mark", "end", "a", "b", "c", "zzzz", "due", "x", "pay", "yes", "no", "k", "ab", "drop"]
def LineOk (s : Str) (later spots : List Str) : Row0 → Prop
  | .ask p n ws => p = s ∧ n ∈ (["a", "pay", "end"] : List Str) ∧ ws ≠ [] ∧ (ws.map (·.1)).Nodup ∧ ∀ w ∈ ws, w.1 ∈ (["ok", "no", "ask"] : List Str) ∧ w.2 ∈ spots
  | .note p w t => p = s ∧ w ∈ (["paid", "note", "x"] : List Str) ∧ t ∈ later
  | .gate p m n e => p = s ∧ m ∈ (["m", "n", "mark"] : List Str) ∧ n ∈ later ∧ e ∈ later
  | .end_ p => p = s
def spLine (K : PySem.W.Frag) : Sp := fun vs H Q _ => ∃ (G : Hp) (d l la sa : Addr) (s : Str) (later spots : List Str), vs = [.ref d, .str s, .ref la, .ref sa] ∧ Deal G H d l ∧ SqL K G la (later.map V.str) ∧ SqL K G sa (spots.map V.str) ∧
  (∀ z ∈ later, z ∈ sixteen) ∧ later.length ≤ 16 ∧ spots ≠ [] ∧ spots.length ≤ 16 ∧ ∀ (G' H' N : Hp) (x : V) (r : Row0), News G H' G' N d l → LineOk s later spots r → Dp K N x (lineD r) → Q x H'
theorem ways_of {spots : List Str} : ∀ {pds : List PyData} {ones : List Str}, pds.length = ones.length → (∀ (j : Nat) (pd : PyData), pds[j]? = some pd → ∃ o t, ones[j]? = some o ∧ t ∈ spots ∧ pd = wayD (o, t)) →
    ∃ ws : List (Str × Str), pds = ws.map wayD ∧ ws.map (·.1) = ones ∧ ∀ w ∈ ws, w.2 ∈ spots
  | [], [], _, _ => ⟨[], rfl, rfl, by simp⟩
  | pd :: pds, o :: ones, len, h => by
    obtain ⟨o', t, e1, ht, rfl⟩ := h 0 pd rfl
    obtain rfl : o = o' := by simpa using e1
    obtain ⟨ws, e2, e3, e4⟩ := ways_of (pds := pds) (ones := ones) (by simpa using len) fun (j : Nat) q hj => by
      obtain ⟨o2, t2, a, b, c⟩ := h (j + 1) q (by simpa using hj)
      exact ⟨o2, t2, by simpa using a, b, c⟩
    refine ⟨(o, t) :: ws, by rw [e2]; rfl, by rw [List.map_cons, e3], fun w hw => ?_⟩
    rcases List.mem_cons.mp hw with rfl | hw
    · exact ht
    · exact e4 w hw
  | [], _ :: _, len, _ => by simp at len
  | _ :: _, [], len, _ => by simp at len
theorem mem_strs {x : V} {zs : List Str} (h : x ∈ zs.map V.str) : ∃ z, z ∈ zs ∧ x = .str z := by
  obtain ⟨z, hz, e⟩ := List.mem_map.mp h
  exact ⟨z, hz, e.symm⟩
theorem six_ok {zs : List Str} (h : ∀ z ∈ zs, z ∈ sixteen) : ∀ z ∈ zs, PyData.strOk z = true := fun z hz => by
  have all : sixteen.all (fun z => PyData.strOk z) = true := by decide +kernel
  exact List.all_eq_true.mp all z (h z hz)
end Lw
namespace Lw
open PySem L2
theorem if_cut {c : TT} {t u : TS} {D : Ends} {σ : St} {H : Hp} (Post : Bool → Hp → Prop) (yes : ∀ H1, Post true H1 → t D σ H1) (no : ∀ H1, Post false H1 → u D σ H1) (go : (∀ b H1, Post b H1 → if b = true then t D σ H1 else u D σ H1) → tIfS c t u D σ H) : tIfS c t u D σ H :=
  go fun b H1 p => by
    cases b with
    | true => exact iteT (yes H1 p)
    | false => exact iteF (no H1 p)
end Lw
namespace K2
open PySem L2 Lw
abbrev sLine : Stmt := top 24
section
variable {P : Program} {w : World} {K : PySem.W.Frag} {mg : Str → Option Value} {base : Heap}
abbrev nLine : List Str := ["_law_deal_here", "_law_spot", "_law_later", "_law_spots", "_law_form", "_law_pairs", "_law_one"]
theorem scLine : FnScope nLine ["_law_deal_here", "_law_spot", "_law_later", "_law_spots"] (defScope sLine) := ⟨rfl, rfl, rfl, by decide +kernel, rfl, by decide +kernel, by decide +kernel⟩
theorem ok_line {f fM fP fD : Addr} {fd fdM fdP fdD : FuncData} (F : Fun K "_law_any_line" "_law_any_line" sLine f fd) (GM : FnOk P w K mg base CX0 2 fM fdM ["_law_deal_here", "_law_some"] (spMixed K)) (kM : PySem.W.keepIn K (.ref fM) = true) (tM : mg "_law_mixed" = some (.ref fM)) (bM : Binds K fdM ["_law_deal_here", "_law_some"] [])
    (GP : FnOk P w K mg base CX0 2 fP fdP ["_law_deal_here", "_law_some"] (spPick K)) (kP : PySem.W.keepIn K (.ref fP) = true) (tP : mg "_law_pick" = some (.ref fP)) (bP : Binds K fdP ["_law_deal_here", "_law_some"] [])
    (GD : FnOk P w K mg base CX0 1 fD fdD ["_law_deal_here", "_law_many"] spDraw) (kD : PySem.W.keepIn K (.ref fD) = true) (tD : mg "_law_draw" = some (.ref fD)) (bD : Binds K fdD ["_law_deal_here", "_law_many"] []) (tT : mg "tuple" = none) :
    FnOk P w K mg base CX0 3 f fd ["_law_deal_here", "_law_spot", "_law_later", "_law_spots"] (spLine K) := by
  refine F.ok scLine (fun vs H Q E h => ?_) (fun cdv A outer s H vs Q E hr h => ?_)
  · obtain ⟨G, d, l, la, sa, s, later, spots, rfl, _⟩ := h
    rfl
  · obtain ⟨G, d, l, la, sa, sp, later, spots, rfl, D, hla, hsa, hl16, hlen, hne, hsl, fin⟩ := h
    have hr1 : Room 1 _ := hr.mono (by decide)
    have hu := hr.units
    refine ⟨_, pss_cons (ps_set (i := 4) scLine.nd rfl (Or.inl rfl) (pe_call GD hr1 rfl tD kD bD .nil pass0 (pa_cons (pv 0) (pa_cons pe_int pa_nil))))
      (pss_cons (ps_if (PW.pt (pw_and (pt_cmpR op_eq (pv 4) pe_int (nomark _)) (pw_and1 (pt_cmpR (op_neD hu) (pv 2) (pe_lst pa_nil) (nomark _)))))
        (pss_one (ps_ret (pe_tup (pa_cons pe_str (pa_cons (pv 1) (pa_cons (pe_call GP hr rfl tP kP bP .nil pass0 (pa_cons (pv 0) (pa_cons (pe_lst (pa_cons pe_str (pa_cons pe_str (pa_cons pe_str pa_nil)))) pa_nil)))
          (pa_cons (pe_call GP hr rfl tP kP bP .nil pass0 (pa_cons (pv 0) (pa_cons (pv 2) pa_nil))) pa_nil))))))) pss_nil)
      (pss_cons (ps_if (PW.pt (pw_and (pt_cmpR op_eq (pv 4) pe_int (nomark _)) (pw_and1 (pt_cmpR (op_neD hu) (pv 2) (pe_lst pa_nil) (nomark _)))))
        (pss_one (ps_ret (pe_tup (pa_cons pe_str (pa_cons (pv 1) (pa_cons (pe_call GP hr rfl tP kP bP .nil pass0 (pa_cons (pv 0) (pa_cons (pe_lst (pa_cons pe_str (pa_cons pe_str (pa_cons pe_str pa_nil)))) pa_nil)))
          (pa_cons (pe_call GP hr rfl tP kP bP .nil pass0 (pa_cons (pv 0) (pa_cons (pv 2) pa_nil))) (pa_cons (pe_call GP hr rfl tP kP bP .nil pass0 (pa_cons (pv 0) (pa_cons (pv 2) pa_nil))) pa_nil)))))))) pss_nil)
      (pss_cons (ps_if (pt_cmpR op_eq (pv 4) pe_int (nomark _)) (pss_one (ps_ret (pe_tup (pa_cons pe_str (pa_cons (pv 1) pa_nil))))) pss_nil)
      (pss_cons (ps_setLc (i := 5) (own := [("_law_one", 6)]) (g := gName 6) (tt := tYes) (te := tTup (tCons (tVar 6) (tCons (tCall (spPick K) [] E0 (tCons (tVar 0) (tCons (tVar 3) tNil))) tNil))) (by rfl) scLine.nd rfl rfl (sw_true rfl rfl rfl (by decide +kernel))
          (pi_list (pe_slice sl_list (pe_call GM hr rfl tM kM bM .nil pass0 (pa_cons (pv 0) (pa_cons (pe_lst (pa_cons pe_str (pa_cons pe_str (pa_cons pe_str pa_nil)))) pa_nil))) po_none (po_some (pe_op op_add pe_int (pe_call GD hr1 rfl tD kD bD .nil pass0 (pa_cons (pv 0) (pa_cons pe_int pa_nil)))))))
          (blkOk_by (own := [("_law_one", 6)]) (N := nLine) (sc := defScope sLine) (by decide +kernel)) (fun _ _ _ _ _ => pg_name (i := 6) scLine.nd rfl (Or.inl rfl)) (fun _ _ _ _ _ => pts_nil)
          (fun _ _ _ _ _ => pe_tup (pa_cons (pv 6) (pa_cons (pe_call GP hr rfl tP kP bP .nil pass0 (pa_cons (pv 0) (pa_cons (pv 3) pa_nil))) pa_nil))))
      (pss_one (ps_ret (pe_tup (pa_cons pe_str (pa_cons (pv 1) (pa_cons (pe_call GP hr rfl tP kP bP .nil pass0 (pa_cons (pv 0) (pa_cons (pe_lst (pa_cons pe_str (pa_cons pe_str (pa_cons pe_str pa_nil)))) pa_nil)))
          (pa_cons (pe_callTy call_tuple_of (by rfl) tT PyProof.Rows.boot_tuple (pa_cons (pv 5) pa_nil)) pa_nil))))))))))), ?_⟩
    have lay : SeqAt.shaped (.list (later.map PyData.str)) = true := strs_shaped (six_ok hl16)
    have emp : (later.map PyData.str).isEmpty = later.isEmpty := by cases later <;> rfl
    refine ⟨_, rfl, G, d, l, 6, rfl, D, by decide, by decide, fun H0 r0 D0 _ _ => ?_⟩
    dsimp only [gName]
    -- a note
    refine seq_cut (fun σ1 H1 => σ1 = [some (.ref d), some (.str sp), some (.ref la), some (.ref sa), some (.int r0), none, none] ∧ ∃ G1 N1, News G H1 G1 N1 d l) ?after1 fun after1 => ?go1
    case go1 =>
      refine if_cut (fun b H1 => ∃ G1 N1, News G H1 G1 N1 d l ∧ (b = true → later ≠ [])) (fun H1 ⟨G1, N1, n1, ne⟩ => ?_) (fun H1 ⟨G1, N1, n1, _⟩ => after1 _ _ ⟨rfl, G1, N1, n1⟩) fun both => ?_
      · refine ⟨_, rfl, _, rfl, (by show 3 ≤ sizeLine; decide), fun t u => ?_⟩
        have n2 := n1.put (o := .lst ((["paid", "note", "x"] : List Str).map V.str)) u
        refine ⟨_, d, l, t, (["paid", "note", "x"] : List Str).map V.str, rfl, n2.dl, SqL.of upd_same, by simp, (by show 3 < 1000; decide), fun H2 x D2 hx => ?_⟩
        obtain ⟨z1, hz1, rfl⟩ := mem_strs hx
        have n3 := n2.redeal D2
        refine ⟨_, rfl, _, rfl, _, d, l, la, later.map V.str, rfl, n3.dl, n3.kp.seq hla, by simpa using ne rfl, by rw [List.length_map]; omega, fun H3 y D3 hy => ?_⟩
        obtain ⟨z2, hz2, rfl⟩ := mem_strs hy
        refine ⟨(by show 4 ≤ sizeLine; decide), fun q uq => ?_⟩
        exact fin _ _ _ (.ref q) (.note sp z1 z2) ((n3.redeal D3).put uq) ⟨rfl, hz1, hz2⟩ (.tup (SqT.of upd_same) (.cons (.str _) (.cons (.str _) (.cons (.str _) (.cons (.str _) .nil)))))
      · -- its test
        refine ⟨_, rfl, rfl, _, rfl, ?_⟩
        rw [dec_int]
        cases hc : (r0 == 0) with
        | false => exact iteF (both _ _ ⟨_, _, News.zero D0, fun z => by cases z⟩)
        | true =>
          refine iteT ⟨_, rfl, (by show 0 ≤ sizeLine; decide), fun q uq => ?_⟩
          have n2 := (News.zero D0).put (o := .lst []) uq
          refine ⟨.list (later.map PyData.str), .list [], .lst (n2.dl.same.seq (n2.kp.seq hla)) (strs_data later), .lst (SqL.of upd_same) .nil, lay, nil_shaped, _, rfl, ?_⟩
          rw [eqv_nil, emp]
          refine both _ _ ⟨_, _, n2, fun z => ?_⟩
          cases later with
          | nil => cases z
          | cons _ _ => simp
    case after1 =>
      rintro _ H1 ⟨rfl, G1, N1, n1⟩
      -- a gate
      refine seq_cut (fun σ1 H1 => σ1 = [some (.ref d), some (.str sp), some (.ref la), some (.ref sa), some (.int r0), none, none] ∧ ∃ G1 N1, News G H1 G1 N1 d l) ?after2 fun after2 => ?go2
      case go2 =>
        refine if_cut (fun b H1 => ∃ G1 N1, News G H1 G1 N1 d l ∧ (b = true → later ≠ [])) (fun H1 ⟨G1, N1, n1, ne⟩ => ?_) (fun H1 ⟨G1, N1, n1, _⟩ => after2 _ _ ⟨rfl, G1, N1, n1⟩) fun both => ?_
        · refine ⟨_, rfl, _, rfl, (by show 3 ≤ sizeLine; decide), fun t u => ?_⟩
          have n2 := n1.put (o := .lst ((["m", "n", "mark"] : List Str).map V.str)) u
          refine ⟨_, d, l, t, (["m", "n", "mark"] : List Str).map V.str, rfl, n2.dl, SqL.of upd_same, by simp, (by show 3 < 1000; decide), fun H2 x D2 hx => ?_⟩
          obtain ⟨z1, hz1, rfl⟩ := mem_strs hx
          have n3 := n2.redeal D2
          refine ⟨_, rfl, _, rfl, _, d, l, la, later.map V.str, rfl, n3.dl, n3.kp.seq hla, by simpa using ne rfl, by rw [List.length_map]; omega, fun H3 y D3 hy => ?_⟩
          obtain ⟨z2, hz2, rfl⟩ := mem_strs hy
          have n4 := n3.redeal D3
          refine ⟨_, rfl, _, rfl, _, d, l, la, later.map V.str, rfl, n4.dl, n4.kp.seq hla, by simpa using ne rfl, by rw [List.length_map]; omega, fun H4 y2 D4 hy2 => ?_⟩
          obtain ⟨z3, hz3, rfl⟩ := mem_strs hy2
          refine ⟨(by show 5 ≤ sizeLine; decide), fun q uq => ?_⟩
          exact fin _ _ _ (.ref q) (.gate sp z1 z2 z3) ((n4.redeal D4).put uq) ⟨rfl, hz1, hz2, hz3⟩ (.tup (SqT.of upd_same) (.cons (.str _) (.cons (.str _) (.cons (.str _) (.cons (.str _) (.cons (.str _) .nil))))))
        · -- its test
          refine ⟨_, rfl, rfl, _, rfl, ?_⟩
          rw [dec_int]
          cases hc : (r0 == 1) with
          | false => exact iteF (both _ _ ⟨_, _, n1, fun z => by cases z⟩)
          | true =>
            refine iteT ⟨_, rfl, (by show 0 ≤ sizeLine; decide), fun q uq => ?_⟩
            have n2 := (n1).put (o := .lst []) uq
            refine ⟨.list (later.map PyData.str), .list [], .lst (n2.dl.same.seq (n2.kp.seq hla)) (strs_data later), .lst (SqL.of upd_same) .nil, lay, nil_shaped, _, rfl, ?_⟩
            rw [eqv_nil, emp]
            refine both _ _ ⟨_, _, n2, fun z => ?_⟩
            cases later with
            | nil => cases z
            | cons _ _ => simp
      case after2 =>
        rintro _ H1 ⟨rfl, G1, N1, n1⟩
        -- an end
        refine ⟨_, rfl, rfl, _, rfl, ?_⟩
        rw [dec_int]
        refine ite2 (fun _ => ?_) (fun _ => ?_)
        · refine ⟨_, rfl, (by show 2 ≤ sizeLine; decide), fun q uq => ?_⟩
          exact fin _ _ _ (.ref q) (.end_ sp) (n1.put uq) rfl (.tup (SqT.of upd_same) (.cons (.str _) (.cons (.str _) .nil)))
        · -- an ask
          refine ⟨_, rfl, (by show 3 ≤ sizeLine; decide), fun t u => ?_⟩
          have n2 := n1.put (o := .lst ((["ok", "no", "ask"] : List Str).map V.str)) u
          refine ⟨_, d, l, t, (["ok", "no", "ask"] : List Str).map V.str, rfl, n2.dl, SqL.of upd_same, (by show 3 ≤ 1000; decide), fun G3 H3 N3 p ys m3 hp pm => ?_⟩
          obtain ⟨us, rfl, pu⟩ := perm_str pm
          have ulen : us.length = 3 := pu.length_eq
          have n3 := n2.more m3
          refine ⟨_, rfl, _, d, l, 3, rfl, n3.dl, by decide, by decide, fun H4 r D4 rr0 rr1 => ⟨_, _, rfl, rfl, _, rfl, p, _, rfl, SqL.of (D4.same _ _ (m3.sub _ _ hp)), fun r2 ur2 => ?_⟩⟩
          have n4 := (n3.redeal D4).put (o := .lst (cutV (us.map V.str) none (some (1 + r)))) ur2
          rw [cut_take (by omega) (by rw [List.length_map, ulen]; omega), ← List.map_take] at n4 ⊢
          obtain ⟨ones, eo⟩ : ∃ ones, ones = us.take (1 + r).toNat := ⟨_, rfl⟩
          rw [← eo] at n4 ⊢
          have onn : ones.Nodup := by rw [eo]; exact (List.take_sublist _ _).nodup (pu.nodup_iff.mpr (by decide +kernel))
          have onl : ones.length = (1 + r).toNat := by rw [eo, List.length_take, ulen]; omega
          have onm : ∀ z ∈ ones, z ∈ (["ok", "no", "ask"] : List Str) := fun z hz => pu.mem_iff.mp (List.mem_of_mem_take (eo ▸ hz))
          have qr : ∀ {X Y : Hp}, upd X r2 (.lst (ones.map V.str)) = Y → SqL K Y r2 (ones.map V.str) := fun e => by rw [← e]; exact SqL.of upd_same
          refine ⟨r2, rfl, ⟨_, SqL.of upd_same⟩, fun L uL => lc_list (K := K) (a := r2) (xs := ones.map V.str) (fun i H' => HP K _ d l L (fun j pd => ∃ o t, ones[j]? = some o ∧ t ∈ spots ∧ pd = wayD (o, t)) i H') (HP.zero n4.dl uL) (fun i H' _ hp => hp.same.seq (SqL.of upd_same)) ?_ ?_⟩
          · intro i x H' hx hp
            rw [List.getElem?_map] at hx
            obtain ⟨o, ho, rfl⟩ := Option.map_eq_some_iff.mp hx
            have il : i < ones.length := (List.getElem?_eq_some_iff.mp ho).1
            refine ⟨rfl, ?_⟩
            dsimp only [tYes]
            refine iteT (hp.turn (by omega) fun Gx sx Dx Q2 fin2 => ?_)
            refine ⟨_, rfl, _, rfl, _, rfl, Gx, d, l, sa, spots.map V.str, rfl, Dx, sx.seq (n4.kp.seq hsa), by simpa using hne, by rw [List.length_map]; omega, fun H6 y D6 hy => ?_⟩
            obtain ⟨z, hz, rfl⟩ := mem_strs hy
            refine ⟨(by show 2 ≤ sizeLine; decide), fun q uq => ?_⟩
            exact fin2 _ _ _ (.ref q) (wayD (o, z)) ((News.zero D6).put uq) (.tup (SqT.of upd_same) (.cons (.str _) (.cons (.str _) .nil))) ⟨o, z, ho, hz, rfl⟩
          · intro H' hp
            obtain ⟨G6, N6, ps, pds, n6, hL, ha, plen, hR⟩ := hp.done
            have n7 := n4.more n6
            have hL7 := n4.right n6 _ _ hL
            have ha7 := dpAll_same (n4.right n6) _ _ ha
            rw [List.length_map] at plen
            obtain ⟨ws, rfl, w1, w2⟩ := ways_of (by rw [← dpAll_len ha, plen]) hR
            refine ⟨_, rfl, _, rfl, (by show 3 ≤ sizeLine; decide), fun t2 u2 => ?_⟩
            have n8 := n7.put (o := .lst ((["a", "pay", "end"] : List Str).map V.str)) u2
            have hL8 := n7.stay (o := .lst ((["a", "pay", "end"] : List Str).map V.str)) u2 _ _ hL7
            have ha8 := dpAll_same (n7.stay (o := .lst ((["a", "pay", "end"] : List Str).map V.str)) u2) _ _ ha7
            refine ⟨_, d, l, t2, (["a", "pay", "end"] : List Str).map V.str, rfl, n8.dl, SqL.of upd_same, by simp, (by show 3 < 1000; decide), fun H8 y D8 hy => ?_⟩
            obtain ⟨z, hz, rfl⟩ := mem_strs hy
            have n9 := n8.redeal D8
            refine ⟨_, rfl, L, ps, rfl, .inl ⟨SqL.of (n9.inH _ _ hL8), fun tp up => ?_⟩⟩
            have n10 := n9.put (o := .tup ps) up
            refine ⟨(by show 4 ≤ sizeLine; decide), fun q uq => ?_⟩
            have ha10 := dpAll_same (n9.stay (o := .tup ps) up) _ _ ha8
            refine fin _ _ _ (.ref q) (.ask sp z ws) (n10.put uq) ⟨rfl, hz, fun e => ?_, by rw [w1]; exact onn, fun w hw => ⟨onm _ (w1 ▸ List.mem_map_of_mem hw), w2 w hw⟩⟩ ?_
            · rw [e] at w1
              have : ones.length = 0 := by rw [← w1]; rfl
              omega
            · have k10 := n10.stay (o := .tup [.str "ask", .str sp, .str z, .ref tp]) uq
              exact .tup (SqT.of upd_same) (.cons (.str _) (.cons (.str _) (.cons (.str _) (.cons (.tup (same_tup k10 (SqT.of upd_same)) (dpAll_same k10 _ _ ha10)) .nil))))
end
end K2

set_option Elab.async false
set_option linter.all false
set_option maxRecDepth 100000
set_option maxHeartbeats 4000000
namespace K2
open PySem L2 Lw
abbrev sWide : Stmt := top 25
section
variable {P : Program} {w : World} {K : PySem.W.Frag} {mg : Str → Option Value} {base : Heap}
abbrev nWide : List Str := ["_law_deal_here", "_law_most", "_law_spots", "_law_lines", "_law_known", "_law_passed", "_law_step", "_law_spot", "_law_line_here", "_law_one"]
theorem scWide : FnScope nWide ["_law_deal_here", "_law_most"] (defScope sWide) := ⟨rfl, rfl, rfl, by decide +kernel, rfl, by decide +kernel, by decide +kernel⟩
def marksOf : Row0 → Option Str
  | .gate _ m _ _ => some m
  | _ => none
theorem mono_ixT {K : PySem.W.Frag} : MonoR (rIxT K) := fun _ _ _ _ _ f ⟨p, xs, i, z, e1, e2, h, e, q⟩ => ⟨p, xs, i, z, e1, e2, h, e, f _ _ q⟩
theorem three_of {K : PySem.W.Frag} {H : Hp} {vs : List V} {a b : Str} {c : PyData} {ds : List PyData} (h : DpAll K H vs (.str a :: c :: .str b :: ds)) : ∃ y0 y1 y2 zs, vs = y0 :: y1 :: y2 :: zs ∧ y0 = V.str a ∧ y2 = V.str b := by
  cases h with
  | cons h1 h =>
    cases h with
    | cons h2 h =>
      cases h with
      | cons h3 h =>
        cases h1
        cases h3
        exact ⟨_, _, _, _, rfl, rfl, rfl⟩
theorem head_of {K : PySem.W.Frag} {H : Hp} {vs : List V} {a : Str} {ds : List PyData} (h : DpAll K H vs (.str a :: ds)) : ∃ zs, vs = V.str a :: zs := by
  cases h with
  | cons h1 h =>
    cases h1
    exact ⟨_, rfl⟩
theorem out_marks : ∀ rs : List Row0, outOf (rs.map fun r => (marksOf r).map V.str) = (rs.filterMap marksOf).map V.str
  | [] => rfl
  | r :: rs => by
    have ih := out_marks rs
    unfold outOf at ih ⊢
    rw [List.map_cons, List.filterMap_cons, List.filterMap_cons]
    cases marksOf r with
    | none => exact ih
    | some m => exact congrArg _ ih
theorem rows_of {S : Nat → Row0 → Prop} : ∀ {pds : List PyData}, (∀ (j : Nat) (pd : PyData), pds[j]? = some pd → ∃ r, pd = lineD r ∧ S j r) → ∃ rs : List Row0, pds = rs.map lineD ∧ ∀ (j : Nat) (r : Row0), rs[j]? = some r → S j r := by
  intro pds
  induction pds generalizing S with
  | nil => exact fun _ => ⟨[], rfl, fun j r e => by simp at e⟩
  | cons pd pds ih =>
    intro h
    obtain ⟨r, rfl, s⟩ := h 0 pd rfl
    obtain ⟨rs, e, hs⟩ := ih (S := fun j r => S (j + 1) r) fun j q hq => h (j + 1) q (by simpa using hq)
    refine ⟨r :: rs, by rw [e]; rfl, fun j r' hj => ?_⟩
    cases j with
    | zero =>
      obtain rfl : r = r' := by simpa using hj
      exact s
    | succ j => exact hs j r' (by simpa using hj)
/-- what wide draws: rows in an order in which notes and gates lead on, marks that are let by -/
def WideOk (most : Int) (rs : List Row0) (ps : List Str) : Prop := ∃ spots : List Str, spots.Nodup ∧ spots ≠ [] ∧ (spots.length : Int) ≤ most ∧ (∀ z ∈ spots, z ∈ Lw.sixteen) ∧ rs.length = spots.length ∧
  (∀ (j : Nat) (r : Row0), rs[j]? = some r → ∃ s, spots[j]? = some s ∧ LineOk s (spots.drop (j + 1)) spots r) ∧ ps.Nodup ∧ ∀ p ∈ ps, p ∈ (["m", "n", "mark", "k"] : List Str) ∧ p ∉ rs.filterMap marksOf
def spWide (K : PySem.W.Frag) : Sp := fun vs H Q _ => ∃ (G : Hp) (d l : Addr) (most : Int), vs = [.ref d, .int most] ∧ Deal G H d l ∧ 1 ≤ most ∧ most ≤ 16 ∧
  ∀ (G' H' N : Hp) (q lp tp : Addr) (xs : List V) (rs rs' : List Row0) (ps : List Str), News G H' G' N d l → N q = some (.tup [.ref lp, .ref tp]) → N lp = some (.lst xs) → DpAll K N xs (rs'.map lineD) → rs'.Perm rs → WideOk most rs ps → N tp = some (.tup (ps.map V.str)) → Q (.ref q) H'
theorem ok_wide {f fT fL fM fD : Addr} {fd fdT fdL fdM fdD : FuncData} (F : Fun K "_law_wide" "_law_wide" sWide f fd) (GT : FnOk P w K mg base CX0 3 fT fdT ["_law_deal_here", "_law_many"] (spTitles K)) (kT : PySem.W.keepIn K (.ref fT) = true) (tT : mg "_law_titles" = some (.ref fT)) (bT : Binds K fdT ["_law_deal_here", "_law_many"] [])
    (GL : FnOk P w K mg base CX0 3 fL fdL ["_law_deal_here", "_law_spot", "_law_later", "_law_spots"] (spLine K)) (kL : PySem.W.keepIn K (.ref fL) = true) (tL : mg "_law_any_line" = some (.ref fL)) (bL : Binds K fdL ["_law_deal_here", "_law_spot", "_law_later", "_law_spots"] [])
    (GM : FnOk P w K mg base CX0 2 fM fdM ["_law_deal_here", "_law_some"] (spMixed K)) (kM : PySem.W.keepIn K (.ref fM) = true) (tM : mg "_law_mixed" = some (.ref fM)) (bM : Binds K fdM ["_law_deal_here", "_law_some"] [])
    (GD : FnOk P w K mg base CX0 1 fD fdD ["_law_deal_here", "_law_many"] spDraw) (kD : PySem.W.keepIn K (.ref fD) = true) (tD : mg "_law_draw" = some (.ref fD)) (bD : Binds K fdD ["_law_deal_here", "_law_many"] []) (tTu : mg "tuple" = none) (tEn : mg "enumerate" = none) :
    FnOk P w K mg base CX0 4 f fd ["_law_deal_here", "_law_most"] (spWide K) := by
  refine F.ok scWide (fun vs H Q E h => ?_) (fun cdv A outer s H vs Q E hr h => ?_)
  · obtain ⟨G, d, l, m, rfl, _⟩ := h
    rfl
  · obtain ⟨G, d, l, most, rfl, D, m1, m16, fin⟩ := h
    have hr1 : Room 1 _ := hr.mono (by decide)
    have hr2 : Room 2 _ := hr.mono (by decide)
    refine ⟨_, pss_cons (ps_set (i := 2) scWide.nd rfl (Or.inr rfl) (pe_call GT hr rfl tT kT bT .nil pass0 (pa_cons (pv 0) (pa_cons (pe_op op_add pe_int (pe_call GD hr1 rfl tD kD bD .nil pass0 (pa_cons (pv 0) (pa_cons (pv 1) pa_nil)))) pa_nil))))
      (pss_cons (ps_setLc (i := 3) (own := [("_law_step", 6), ("_law_spot", 7)]) (g := gTup K 2 (gCons (gName 6) (gCons (gName 7) gNil))) (tt := tYes) (te := tCall (spLine K) [] E0 (tCons (tVar 0) (tCons (tVar 7) (tCons (tSl (rSlL K) (tVar 2) (tPart (tOp (rI0 fun i j => .int (i + j)) (tVar 6) (tC (.int 1)))) tNoPart) (tCons (tVar 2) tNil))))) (by rfl) scWide.nd rfl rfl (sw_true rfl rfl rfl (by decide +kernel)) (pi_enum rfl tEn (pa_cons (pv 2) pa_nil))
          (blkOk_by (own := [("_law_step", 6), ("_law_spot", 7)]) (N := nWide) (sc := defScope sWide) (by decide +kernel)) (fun _ _ _ _ _ => pg_tup rfl (pgs_cons (pg_name (i := 6) scWide.nd rfl (Or.inl rfl)) (pgs_cons (pg_name (i := 7) scWide.nd rfl (Or.inl rfl)) pgs_nil))) (fun _ _ _ _ _ => pts_nil)
          (fun _ _ _ _ _ => pe_call GL hr rfl tL kL bL .nil pass0 (pa_cons (pv 0) (pa_cons (pv 7) (pa_cons (pe_slice sl_list (pv 2) (po_some (pe_op op_add (pv 6) pe_int)) po_none) (pa_cons (pv 2) pa_nil))))))
      (pss_cons (ps_set (i := 4) scWide.nd rfl (Or.inr rfl) (pe_lc (own := [("_law_line_here", 8)]) (g := gName 8) (tt := tTest (tOp rEq (tOp (rIxT K) (tVar 8) (tC (.int 0))) (tC (.str "mark")))) (te := tOp (rIxT K) (tVar 8) (tC (.int 2))) (by rfl) scWide.nd (pi_list (pv 3))
          (blkOk_by (own := [("_law_line_here", 8)]) (N := nWide) (sc := defScope sWide) (by decide +kernel)) (fun _ _ _ _ _ => pg_name (i := 8) scWide.nd rfl (Or.inl rfl)) (fun _ _ _ _ _ => pts_one (pt_cmpR op_eq (pe_ix ix_tup (pv 8) pe_int (fun _ _ => rfl)) pe_str (nomark _)))
          (fun _ _ _ _ _ => pe_ix ix_tup (pv 8) pe_int (fun _ _ => rfl))))
      (pss_cons (ps_setLc (i := 5) (own := [("_law_one", 9)]) (g := gName 9) (tt := tAnd (tTest (tOp (rIn K true) (tVar 9) (tVar 4))) (tTest (tOp rEq (tCall spDraw [] E0 (tCons (tVar 0) (tCons (tC (.int 2)) tNil))) (tC (.int 0))))) (te := tVar 9) (by rfl) scWide.nd rfl rfl (sw_true rfl rfl rfl (by decide +kernel)) (pi_list (pe_call GM hr2 rfl tM kM bM .nil pass0 (pa_cons (pv 0) (pa_cons (pe_lst (pa_cons pe_str (pa_cons pe_str (pa_cons pe_str (pa_cons pe_str pa_nil))))) pa_nil))))
          (blkOk_by (own := [("_law_one", 9)]) (N := nWide) (sc := defScope sWide) (by decide +kernel)) (fun _ _ _ _ _ => pg_name (i := 9) scWide.nd rfl (Or.inl rfl))
          (fun _ _ _ _ _ => pts_one (PW.pt (pw_and (pt_cmpR op_notIn_seq (pv 9) (pv 4) rfl) (pw_and1 (pt_cmpR op_eq (pe_call GD hr1 rfl tD kD bD .nil pass0 (pa_cons (pv 0) (pa_cons pe_int pa_nil))) pe_int (nomark _)))))) (fun _ _ _ _ _ => pv 9))
      (pss_one (ps_ret (pe_tup (pa_cons (pe_call GM hr2 rfl tM kM bM .nil pass0 (pa_cons (pv 0) (pa_cons (pv 3) pa_nil))) (pa_cons (pe_callTy call_tuple_of (by rfl) tTu PyProof.Rows.boot_tuple (pa_cons (pv 5) pa_nil)) pa_nil)))))))), ?_⟩
    refine ⟨_, rfl, _, rfl, _, rfl, G, d, l, most, rfl, D, by omega, by omega, fun H1 r D1 r0 r1 => ⟨_, _, rfl, rfl, G, d, l, _, rfl, D1, by omega, by omega, fun G2 H2 N2 p zs n2 hp nd zl zm => ?_⟩⟩
    have zlen : zs.length ≤ 16 := by omega
    -- the rows
    refine ⟨_, rfl, p, _, rfl, SqL.of (n2.inH _ _ hp), fun L uL => lc_enum (K := K) (a := p) (xs := zs.map V.str) (fun i H' => HP K G2 d l L (fun j pd => ∃ r s, pd = lineD r ∧ zs[j]? = some s ∧ LineOk s (zs.drop (j + 1)) zs r) i H') (HP.zero n2.dl uL) (fun i H' hv => hv.same.seq (SqL.of (n2.sub _ _ hp))) ?_ ?_⟩
    · intro i x T H3 hx hv uT
      rw [List.getElem?_map] at hx
      obtain ⟨s0, hs0, rfl⟩ := Option.map_eq_some_iff.mp hx
      have il : i < zs.length := (List.getElem?_eq_some_iff.mp hs0).1
      refine ⟨T, _, rfl, SqT.of upd_same, rfl, _, _, rfl, _, _, rfl, rfl, ?_⟩
      refine ⟨rfl, ?_⟩
      dsimp only [tYes]
      refine iteT ((hv.more uT).turn (by omega) fun Gx sx Dx Q2 fin2 => ?_)
      have hpx : SqL K Gx p (zs.map V.str) := sx.seq (SqL.of (n2.sub _ _ hp))
      refine ⟨_, rfl, _, rfl, _, rfl, _, rfl, _, _, rfl, rfl, _, rfl, p, _, rfl, Dx.same.seq hpx, fun q uq => ?_⟩
      rw [cut_drop (by omega), ← List.map_drop]
      have m1 := (News.zero Dx).put (o := .lst ((zs.drop ((i : Int) + 1).toNat).map V.str)) uq
      have e1 : ((i : Int) + 1).toNat = i + 1 := by omega
      refine ⟨_, rfl, _, d, l, q, p, s0, zs.drop ((i : Int) + 1).toNat, zs, rfl, m1.dl, SqL.of upd_same, m1.kp.seq hpx, fun z hz => zm z (List.mem_of_mem_drop hz), by rw [List.length_drop]; omega, fun z => by rw [z] at il; simp at il, zlen, fun G' H' N x' r' nw ok hd => ?_⟩
      exact fin2 _ _ _ x' (lineD r') (m1.more nw) (dp_same (m1.right nw) _ _ hd) ⟨r', s0, rfl, hs0, by rw [← e1]; exact ok⟩
    · intro H3 hv
      obtain ⟨G3, N3, xs, pds, n3, hL, ha, xlen, hR⟩ := hv.done
      obtain ⟨N4, n4, hL4, ha4⟩ : ∃ X, News G H3 G3 X d l ∧ X L = some (.lst xs) ∧ DpAll K X xs pds := ⟨_, n2.more n3, n2.right n3 _ _ hL, dpAll_same (n2.right n3) _ _ ha⟩
      rw [List.length_map] at xlen
      obtain ⟨rs, rfl, hrs⟩ := rows_of (S := fun j r => ∃ s, zs[j]? = some s ∧ LineOk s (zs.drop (j + 1)) zs r) fun j pd e => by
        obtain ⟨r, s, e1, e2, e3⟩ := hR j pd e
        exact ⟨r, e1, s, e2, e3⟩
      -- the marks
      refine ⟨_, rfl, L, rfl, ⟨_, SqL.of (n4.inH _ _ hL4)⟩, fun M uM => ?_⟩
      have haH := dpAll_same n4.inH _ _ ha4
      have xl16 : xs.length ≤ 16 := by omega
      refine lc_of_list (rs.map fun r => (marksOf r).map V.str) (SqL.of (n4.inH _ _ hL4)) uM ⟨by rw [List.length_map, dpAll_len ha, List.length_map], by omega, fun j x y H4 Q4 hx hy s4 q4 => ?_, fun j x H4 hx hy s4 => ?_⟩ (mono_test (mono_op mono_rEq (mono_op mono_ixT mono_var mono_c) mono_c)) fun H4 s4 h4 => ?_
      · obtain ⟨pd, epd, hpd⟩ := dpAll_at haH hx
        rw [List.getElem?_map] at epd hy
        obtain ⟨r1, er, rfl⟩ := Option.map_eq_some_iff.mp epd
        rw [er] at hy
        cases r1 with
        | gate p1 m1 a1 b1 =>
          obtain rfl : V.str m1 = y := by simpa [marksOf] using hy
          cases hpd with
          | @tup t ys _ ht hys =>
            obtain ⟨y0, y1, y2, zs', rfl, e0, e2⟩ := three_of hys
            subst e0 e2
            exact ⟨_, rfl, t, _, 0, _, rfl, rfl, same_tup s4 ht, atI_nat (j := 0) rfl, rfl, _, rfl, rfl, Same.refl _, _, rfl, t, _, 2, _, rfl, rfl, same_tup s4 ht, atI_nat (j := 2) rfl, q4 _ (Same.refl _)⟩
        | _ => simp [marksOf] at hy
      · obtain ⟨pd, epd, hpd⟩ := dpAll_at haH hx
        rw [List.getElem?_map] at epd hy
        obtain ⟨r1, er, rfl⟩ := Option.map_eq_some_iff.mp epd
        rw [er] at hy
        cases r1 with
        | gate p1 m1 a1 b1 => simp [marksOf] at hy
        | ask _ _ _ | note _ _ _ | end_ _ =>
          cases hpd with
          | @tup t ys _ ht hys =>
            obtain ⟨zs', rfl⟩ := head_of hys
            exact ⟨_, rfl, t, _, 0, _, rfl, rfl, same_tup s4 ht, atI_nat (j := 0) rfl, rfl, _, rfl, rfl, Same.refl _⟩
      · rw [out_marks] at h4
        have n5 := n4.grow s4 uM h4
        have N5 : Same N4 _ := same_new (o := .lst ((rs.filterMap marksOf).map V.str)) (n4.inH.free uM)
        have hL5 := N5 _ _ hL4
        have ha5 := dpAll_same N5 _ _ ha4
        -- the marks that are let by
        refine ⟨_, rfl, (by show 4 ≤ sizeLine; decide), fun t u => ?_⟩
        have n6 := n5.put (o := .lst ((["m", "n", "mark", "k"] : List Str).map V.str)) u
        have N6 := n5.stay (o := .lst ((["m", "n", "mark", "k"] : List Str).map V.str)) u
        have hM6 := N6 M _ upd_same
        have hL6 := N6 _ _ hL5
        have ha6 := dpAll_same N6 _ _ ha5
        refine ⟨_, d, l, t, (["m", "n", "mark", "k"] : List Str).map V.str, rfl, n6.dl, SqL.of upd_same, (by show 4 ≤ 1000; decide), fun G7 H7 N7 p2 ys n7 hp2 pm => ?_⟩
        obtain ⟨us, rfl, pu⟩ := perm_str pm
        obtain ⟨N8, n8, hM8, hL8, ha8, hp8⟩ : ∃ X, News G H7 G7 X d l ∧ X M = some (.lst ((rs.filterMap marksOf).map V.str)) ∧ X L = some (.lst xs) ∧ DpAll K X xs (rs.map lineD) ∧ X p2 = some (.lst (us.map V.str)) :=
          ⟨_, n6.more n7, n6.left n7 _ _ hM6, n6.left n7 _ _ hL6, dpAll_same (n6.left n7) _ _ ha6, n6.right n7 _ _ hp2⟩
        have ulen : us.length = 4 := pu.length_eq
        have und : us.Nodup := pu.nodup_iff.mpr (by decide +kernel)
        refine ⟨p2, rfl, ⟨_, SqL.of (n8.inH _ _ hp8)⟩, fun L2 uL2 => ?_⟩
        have g2 : G7 L2 = none := n8.dl.same.free uL2
        have toG : ∀ {b : Addr} {o : HO} {v : HO}, N8 b = some o → upd G7 L2 v b = some o := fun {b o v} e => by
          have := n8.sub _ _ e
          rw [upd_ne (ne_of_none this g2)]
          exact this
        refine lc_list (K := K) (a := p2) (xs := us.map V.str) (fun i H' => ∃ qs : List Str, Deal (upd G7 L2 (.lst (qs.map V.str))) H' d l ∧ qs.Sublist (us.take i) ∧ ∀ q ∈ qs, q ∉ rs.filterMap marksOf)
          ⟨[], n8.dl.put uL2, List.nil_sublist _, by simp⟩ (fun i H' _ ⟨qs, DQ, _⟩ => SqL.of (DQ.same _ _ (toG hp8))) ?_ ?_
        · rintro i x H' hx ⟨qs, DQ, sub, nm⟩
          rw [List.getElem?_map] at hx
          obtain ⟨o, ho, rfl⟩ := Option.map_eq_some_iff.mp hx
          have tk : us.take (i + 1) = us.take i ++ [o] := by rw [List.take_add_one, ho]; rfl
          have ql : qs.length ≤ 4 := by
            have := sub.length_le
            rw [List.length_take] at this
            omega
          have sub1 : qs.Sublist (us.take (i + 1)) := by rw [tk]; exact sub.trans (List.sublist_append_left _ _)
          refine ⟨rfl, ?_⟩
          refine ⟨_, rfl, _, rfl, M, (rs.filterMap marksOf).map V.str, rfl, .inl (SqL.of (DQ.same _ _ (toG hM8))), rfl, List.all_eq_true.mpr (fun v hv => by obtain ⟨z, _, rfl⟩ := List.mem_map.mp hv; rfl), _, rfl, ?_⟩
          cases hin : inV (V.str o) ((rs.filterMap marksOf).map V.str) with
          | true => exact iteF (iteF ⟨qs, DQ, sub1, nm⟩)
          | false =>
            have no : o ∉ rs.filterMap marksOf := fun z => by
              have : inV (V.str o) ((rs.filterMap marksOf).map V.str) = true := List.any_eq_true.mpr ⟨V.str o, List.mem_map_of_mem z, by simp [eqV]⟩
              rw [hin] at this
              cases this
            refine iteT ⟨_, rfl, _, d, l, 2, rfl, DQ, by decide, by decide, fun H8 r2 D8 _ _ => ⟨rfl, _, rfl, ?_⟩⟩
            rw [dec_int]
            cases (r2 == 0) with
            | true =>
              refine iteT ⟨_, rfl, _, D8.same _ _ upd_same, Nat.lt_of_le_of_lt (show _ ≤ 4 by rw [List.length_map]; exact ql) (by decide), qs ++ [o], ?_, by rw [tk]; exact sub.append (List.Sublist.refl _), fun q hq => ?_⟩
              · rw [List.map_append]
                exact Deal.over D8
              · rcases List.mem_append.mp hq with h | h
                · exact nm q h
                · rw [List.mem_singleton.mp h]
                  exact no
            | false => exact iteF ⟨qs, D8, sub1, nm⟩
        · rintro H9 ⟨qs, DQ, sub, nm⟩
          rw [List.length_map, List.take_length] at sub
          obtain ⟨N9, n9, hQ9, hL9, ha9⟩ : ∃ X, News G H9 (upd G7 L2 (.lst (qs.map V.str))) X d l ∧ X L2 = some (.lst (qs.map V.str)) ∧ X L = some (.lst xs) ∧ DpAll K X xs (rs.map lineD) :=
            ⟨_, (n8.put uL2).redeal DQ, upd_same, n8.stay uL2 _ _ hL8, dpAll_same (n8.stay uL2) _ _ ha8⟩
          refine ⟨_, rfl, _, rfl, _, d, l, L, xs, rfl, n9.dl, SqL.of (n9.sub _ _ hL9), by omega, fun G10 H10 N10 lp ys n10 hlp pm2 => ?_⟩
          obtain ⟨rs', pr, ha'⟩ := dp_perm lineD pm2 ha9
          obtain ⟨N11, n11, hQ11, hlp11, ha11⟩ : ∃ X, News G H10 G10 X d l ∧ X L2 = some (.lst (qs.map V.str)) ∧ X lp = some (.lst ys) ∧ DpAll K X ys (rs'.map lineD) :=
            ⟨_, n9.more n10, n9.left n10 _ _ hQ9, n9.right n10 _ _ hlp, dpAll_same (n9.left n10) _ _ ha'⟩
          refine ⟨_, rfl, L2, _, rfl, .inl ⟨SqL.of (n11.inH _ _ hQ11), fun tp up => ⟨(by show 2 ≤ sizeLine; decide), fun q uq => ?_⟩⟩⟩
          have n12 := n11.put (o := .tup (qs.map V.str)) up
          have k12 := n11.stay (o := .tup (qs.map V.str)) up
          have n13 := n12.put (o := .tup [.ref lp, .ref tp]) uq
          have k13 := n12.stay (o := .tup [.ref lp, .ref tp]) uq
          refine fin _ _ _ q lp tp ys rs rs' qs n13 upd_same (k13 _ _ (k12 _ _ hlp11)) (dpAll_same (k12.trans k13) _ _ ha11) pr ?_ (k13 _ _ upd_same)
          have rl : rs.length = zs.length := by
            have := dpAll_len ha
            rw [List.length_map] at this
            omega
          refine ⟨zs, nd, fun e => ?_, by omega, zm, rl, hrs, sub.nodup und, fun x hx => ⟨pu.mem_iff.mp (sub.subset hx), nm x hx⟩⟩
          rw [e] at zl
          simp at zl
          omega
end
end K2

set_option Elab.async false
set_option linter.all false
set_option maxRecDepth 100000
set_option maxHeartbeats 4000000
namespace K2
open PySem L2 Lw
abbrev sIsName : Stmt := top 7
/-! ### names -/
def abc : Str := "abcdefghijklmnopqrstuvwxyz"
def isAbc (c : Nat) : Bool := decide (c ∈ abc.cps.toList)
def nameOk (z : Str) : Bool := decide (1 ≤ (z.length : Int)) && decide ((z.length : Int) ≤ 4) && z.cps.toList.all isAbc
def nameD : PyData → Bool
  | .str z => nameOk z
  | _ => false
def spIsName (K : PySem.W.Frag) : Sp := fun vs H Q _ => ∃ (v : V) (d : PyData), vs = [v] ∧ Dp K H v d ∧ fine d = true ∧ ∀ H', Same H H' → Q (.bl (nameD d)) H'
section
variable {P : Program} {w : World} {K : PySem.W.Frag} {mg : Str → Option Value} {base : Heap}
theorem scIsName : FnScope ["value", "letter"] ["value"] (defScope sIsName) := ⟨rfl, rfl, rfl, by decide +kernel, rfl, by decide +kernel, by decide +kernel⟩
theorem ok_isName {f : Addr} {fd : FuncData} {tk : Tok} (F : Fun K "is_name" "is_name" sIsName f fd) (tS : mg "str" = none) (tIs : mg "isinstance" = none) (tL : mg "len" = none) (tAll : mg "all" = none) (tAbc : mg "_LETTERS" = some (.str abc tk)) :
    FnOk P w K mg base CX0 1 f fd ["value"] (spIsName K) := by
  refine F.ok scIsName (fun vs H Q E h => ?_) (fun cdv A outer s H vs Q E hr h => ?_)
  · obtain ⟨v, d, rfl, _⟩ := h
    rfl
  · obtain ⟨v, d, rfl, hd, hz, fin⟩ := h
    refine ⟨_, pss_one (ps_ret (pe_and (pe_callB call_isi (by rfl) tIs PyProof.Rows.boot_isinstance (pa_cons (pv 0) (pa_cons (pe_bltn (v := .ty "str") (by rfl) tS PyProof.Rows.boot_str rfl) pa_nil)))
      (pe_and (pe_chain op_le op_le pe_int (pe_callB call_len (by rfl) tL PySem.boot_len (pa_cons (pv 0) pa_nil)) pe_int)
        (pe_one (pe_callB (cr_all rfl) (by rfl) tAll PyProof.Rows.boot_all (pa_cons (pe_lc (own := [("letter", 1)]) (g := gName 1) (tt := tYes) (by rfl) scIsName.nd (pi_str (pv 0))
          (blkOk_by (own := [("letter", 1)]) (N := ["value", "letter"]) (sc := defScope sIsName) (by decide +kernel)) (fun _ _ _ _ _ => pg_name (i := 1) scIsName.nd rfl (Or.inl rfl)) (fun _ _ _ _ _ => pts_nil)
          (fun _ _ _ _ _ => pe_cmpR op_in_sign (pv 1) (pe_glob (v := .str abc) (by rfl) tAbc ⟨_, rfl⟩) rfl)) pa_nil)))))), ?_⟩
    refine ⟨_, rfl, _, _, _, _, _, rfl, .ty "str", ty_data hd, kit_str (no_dict hd), _, rfl, ?_⟩
    cases d with
    | str z =>
      cases hd
      have len : z.length ≤ 1000 := (fine_str hz).1
      have small : z.length ≤ sizeLine := Nat.le_of_lt (small1000 len)
      refine iteT ⟨_, rfl, _, _, rfl, ⟨small, rfl⟩, _, _, rfl, rfl, _, rfl, ?_⟩
      by_cases h1 : decide (1 ≤ (z.length : Int)) = true
      · rw [h1]
        refine iteT ⟨_, _, rfl, rfl, _, rfl, ?_⟩
        by_cases h2 : decide ((z.length : Int) ≤ 4) = true
        · rw [h2]
          refine iteT ⟨_, rfl, z, rfl, fun D un => ?_⟩
          refine lc_of_str ((signsOf z).map fun x => some (match x with | .str y => .bl (isAbc (y.cps.getD 0 0)) | _ => .non)) un (turns_map (fun x => match x with | .str y => .bl (isAbc (y.cps.getD 0 0)) | _ => .non) (by rw [List.length_map, Array.length_toList]; exact Nat.le_trans len (by decide)) fun x H2 Q2 hx _ q => ?_) mono_yes fun H2 s2 h2 => ?_
          · obtain ⟨c, _, rfl⟩ := List.mem_map.mp hx
            exact ⟨_, rfl, c, abc, rfl, rfl, q _ (Same.refl _)⟩
          · rw [out_map] at h2
            have e : (signsOf z).map (fun x => match x with | .str y => V.bl (isAbc (y.cps.getD 0 0)) | _ => .non) = (z.cps.toList.map isAbc).map V.bl := by
              rw [List.map_map, List.map_map]
              rfl
            rw [e] at h2
            refine ⟨D, _, rfl, SqL.of h2, ?_⟩
            have e2 : (List.map isAbc z.cps.toList).all id = nameD (.str z) := by
              show _ = (decide (1 ≤ (z.length : Int)) && decide ((z.length : Int) ≤ 4) && z.cps.toList.all isAbc)
              rw [h1, ‹decide ((z.length : Int) ≤ 4) = true›, List.all_map]
              rfl
            rw [e2]
            exact fin _ s2
        · have h3 : decide ((z.length : Int) ≤ 4) = false := by simpa using h2
          rw [h3]
          refine iteF ?_
          have e2 : nameD (.str z) = false := by
            show (decide (1 ≤ (z.length : Int)) && decide ((z.length : Int) ≤ 4) && z.cps.toList.all isAbc) = false
            rw [h3, Bool.and_false, Bool.false_and]
          rw [← e2]
          exact fin _ (Same.refl _)
      · have h3 : decide (1 ≤ (z.length : Int)) = false := by simpa using h1
        rw [h3]
        refine iteF ⟨_, rfl, iteF ?_⟩
        have e2 : nameD (.str z) = false := by
          show (decide (1 ≤ (z.length : Int)) && decide ((z.length : Int) ≤ 4) && z.cps.toList.all isAbc) = false
          rw [h3, Bool.false_and, Bool.false_and]
        rw [← e2]
        exact fin _ (Same.refl _)
    | _ => exact iteF (fin H (Same.refl H))
end
end K2

set_option Elab.async false
set_option linter.all false
set_option maxRecDepth 100000
set_option maxHeartbeats 4000000
/-! What the top of law k03's text has written. -/
namespace K2
open PySem L2 Lw
abbrev sIr : Stmt := inClass (top 3) 0
abbrev sRow : Stmt := inClass (top 9) 0
abbrev sAsk : Stmt := inClass (top 10) 0
abbrev sNote : Stmt := inClass (top 11) 0
abbrev sGate : Stmt := inClass (top 12) 0
abbrev sEnd : Stmt := inClass (top 13) 0
abbrev sExpect : Stmt := top 14
abbrev sWays : Stmt := top 15
abbrev sWay : Stmt := top 16
/-- where they stand -/
structure Ad where
  cLog : Addr
  cIr : Addr
  cIe : Addr
  cRow : Addr
  cAsk : Addr
  cNote : Addr
  cGate : Addr
  cEnd : Addr
  fIr : Addr
  fRow : Addr
  fAsk : Addr
  fNote : Addr
  fGate : Addr
  fEnd : Addr
  fN : Addr
  fX : Addr
  fWs : Addr
  fW : Addr
  fDeal : Addr
  fDraw : Addr
  fPick : Addr
  fThing : Addr
  fTitle : Addr
  fHeard : Addr
  fPairs : Addr
  fDue : Addr
  fOdd : Addr
  fLaw : Addr
  dIr : FuncData
  dRow : FuncData
  dAsk : FuncData
  dNote : FuncData
  dGate : FuncData
  dEnd : FuncData
  dN : FuncData
  dX : FuncData
  dWs : FuncData
  dW : FuncData
  dDeal : FuncData
  dDraw : FuncData
  dPick : FuncData
  dThing : FuncData
  dTitle : FuncData
  dHeard : FuncData
  dPairs : FuncData
  dDue : FuncData
  dOdd : FuncData
  dLaw : FuncData
/-- a def of the top -/
structure Top (K : PySem.W.Frag) (mg : Str → Option Value) (x : Str) (st : Stmt) (f : Addr) (fd : FuncData) (ps : List Str) : Prop where
  F : Fun K x x st f fd
  g : mg x = some (.ref f)
  b : Binds K fd ps []
/-- a class of rows: its __init__ -/
structure RowC (K : PySem.W.Frag) (mg : Str → Option Value) (x qual : Str) (st : Stmt) (C f : Addr) (fd : FuncData) (ps : List Str) : Prop where
  F : Fun K "__init__" qual st f fd
  b : Binds K fd ps []
  g : mg x = some (.ref C)
  cl : Cls K C
  mkd : Mk K C f
structure Txt (K : PySem.W.Frag) (mg : Str → Option Value) (a : Ad) : Prop where
  tStr : mg "str" = none
  tLen : mg "len" = none
  tAll : mg "all" = none
  tIs : mg "isinstance" = none
  tTuple : mg "tuple" = none
  tList : mg "list" = none
  tSet : mg "set" = none
  abc : ∃ tk, mg "_LETTERS" = some (.str abc tk)
  isName : Top K mg "is_name" sIsName a.fN a.dN ["value"]
  expect : Top K mg "_expect_names" sExpect a.fX a.dX ["pairs"]
  areWays : Top K mg "_are_ways" sWays a.fWs a.dWs ["value"]
  isWay : Top K mg "_is_way" sWay a.fW a.dW ["value"]
  -- the error
  gLog : mg "LogError" = some (.ref a.cLog)
  gIr : mg "InvalidRow" = some (.ref a.cIr)
  ir : OexC K a.cIr
  irF : Fun K "__init__" "InvalidRow.__init__" sIr a.fIr a.dIr
  irB : Binds K a.dIr ["self", "word"] []
  irI : PySem.W.findIn K (.ref a.cIr) "__init__" = some (some (.ref a.fIr))
  irT : PySem.W.typeIn K (.ref a.fIr) = some (.type "function")
  irW : PySem.W.findIn K (.ref a.cIr) "word" = some none
  irX : XfC K a.cIr
  -- rows
  row : RowC K mg "Row" "Row.__init__" sRow a.cRow a.fRow a.dRow ["self", "words"]
  ask : RowC K mg "Ask" "Ask.__init__" sAsk a.cAsk a.fAsk a.dAsk ["self", "place", "name", "ways"]
  note : RowC K mg "Note" "Note.__init__" sNote a.cNote a.fNote a.dNote ["self", "place", "word", "then"]
  gate : RowC K mg "Gate" "Gate.__init__" sGate a.cGate a.fGate a.dGate ["self", "place", "mark", "newer", "elder"]
  end_ : RowC K mg "End" "End.__init__" sEnd a.cEnd a.fEnd a.dEnd ["self", "place"]
  rowR : ClX.CRead K a.cRow (.type "type")
  rowI : ClX.CVal K a.cRow (.type "type") "__init__" (.ref a.fRow) (.ref a.fRow)
  -- attributes that no class of rows has
  no : ∀ C ∈ [a.cAsk, a.cNote, a.cGate, a.cEnd], ∀ n ∈ (["place", "name", "ways", "word", "then", "mark", "newer", "elder", "_text"] : List Str), NoAttr K C n
section
variable {P : Program} {w : World} {K : PySem.W.Frag} {mg : Str → Option Value} {base : Heap} {a : Ad}
theorem Txt.okN (T : Txt K mg a) : FnOk P w K mg base CX0 1 a.fN a.dN ["value"] (spIsName K) := by
  obtain ⟨tk, h⟩ := T.abc
  exact ok_isName T.isName.F T.tStr T.tIs T.tLen T.tAll h
theorem scIr : FnScope ["self", "word"] ["self", "word"] (defScope sIr) := ⟨rfl, rfl, rfl, by decide +kernel, rfl, by decide +kernel, by decide +kernel⟩
theorem Txt.okIr (T : Txt K mg a) : FnOk P w K mg base CX0 1 a.fIr a.dIr ["self", "word"] (spErr a.cIr "word") := by
  refine T.irF.ok scIr (fun vs H Q E h => ?_) (fun cdv A outer s H vs Q E hr h => ?_)
  · obtain ⟨a, x, rfl, _⟩ := h
    rfl
  · obtain ⟨x, v, rfl, hx, fin⟩ := h
    exact ⟨_, pss_one (ps_ost (pv 0) (pv 1)), _, rfl, _, rfl, x, _, rfl, T.ir, T.irW, .inl ⟨hx, fin⟩⟩
end
end K2

set_option Elab.async false
set_option linter.all false
set_option maxRecDepth 100000
set_option maxHeartbeats 4000000
namespace K2
open PySem L2 Lw
/-! ### a way -/
def wayOk : PyData → Bool
  | .tuple [a, b] => nameD a && nameD b
  | _ => false
def spIsWay (K : PySem.W.Frag) : Sp := fun vs H Q _ => ∃ (v : V) (d : PyData), vs = [v] ∧ Dp K H v d ∧ fine d = true ∧ ∀ H', Same H H' → Q (.bl (wayOk d)) H'
/-- what _expect_names is handed: tuples of a word and a value -/
structure It where
  t : Addr
  w : Str
  v : V
  d : PyData
def firstBad (its : List It) : Option Str := (its.find? fun i => !nameD i.d).map (·.w)
def spExpect (K : PySem.W.Frag) (C : Addr) : Sp := fun vs H Q E => ∃ (a : Addr) (its : List It), vs = [.ref a] ∧ SqL K H a (its.map fun i => .ref i.t) ∧
  (∀ i ∈ its, SqT K H i.t [.str i.w, i.v] ∧ Dp K H i.v i.d ∧ fine i.d = true) ∧ (firstBad its = none → ∀ H', Same H H' → Q .non H') ∧
  (∀ w, firstBad its = some w → ∀ (H' : Hp) (d : Addr), Same H H' → H d = none → H' d = some (.xd [("word", .str w)]) → E (.ref C) (some d) H')
theorem fine_tup {ds : List PyData} (h : fine (.tuple ds) = true) : ds.length ≤ 1000 ∧ fineAll ds = true := by
  rw [fine] at h
  obtain ⟨h1, h2⟩ := Bool.and_eq_true_iff.mp h
  exact ⟨of_decide_eq_true h1, h2⟩
theorem fine_list {ds : List PyData} (h : fine (.list ds) = true) : ds.length ≤ 1000 ∧ fineAll ds = true := by
  rw [fine] at h
  obtain ⟨h1, h2⟩ := Bool.and_eq_true_iff.mp h
  exact ⟨of_decide_eq_true h1, h2⟩
section
variable {P : Program} {w : World} {K : PySem.W.Frag} {mg : Str → Option Value} {base : Heap} {a : Ad}
theorem scWay : FnScope ["value"] ["value"] (defScope sWay) := ⟨rfl, rfl, rfl, by decide +kernel, rfl, by decide +kernel, by decide +kernel⟩
theorem Txt.okW (T : Txt K mg a) : FnOk P w K mg base CX0 2 a.fW a.dW ["value"] (spIsWay K) := by
  refine T.isWay.F.ok scWay (fun vs H Q E h => ?_) (fun cdv A outer s H vs Q E hr h => ?_)
  · obtain ⟨v, d, rfl, _⟩ := h
    rfl
  · obtain ⟨v, d, rfl, hd, hz, fin⟩ := h
    refine ⟨_, pss_one (ps_ret (pe_and (pe_callB call_isi (by rfl) T.tIs PyProof.Rows.boot_isinstance (pa_cons (pv 0) (pa_cons (pe_bltn (v := .ty "tuple") (by rfl) T.tTuple PyProof.Rows.boot_tuple rfl) pa_nil)))
      (pe_and (pe_cmpR op_eq (pe_callB call_len_seq (by rfl) T.tLen PySem.boot_len (pa_cons (pv 0) pa_nil)) pe_int (nomark _))
      (pe_and (pe_call T.okN hr rfl T.isName.g T.isName.F.kp T.isName.b .nil pass0 (pa_cons (pe_ix ix_tup (pv 0) pe_int (fun _ _ => rfl)) pa_nil))
        (pe_one (pe_call T.okN hr rfl T.isName.g T.isName.F.kp T.isName.b .nil pass0 (pa_cons (pe_ix ix_tup (pv 0) pe_int (fun _ _ => rfl)) pa_nil))))))), ?_⟩
    refine ⟨_, rfl, _, _, _, _, _, rfl, .ty "tuple", ty_data hd, kit_tup (no_dict hd), _, rfl, ?_⟩
    cases d with
    | tuple ds =>
      cases hd with
      | @tup p xs _ hs ha =>
        have el := dpAll_len ha
        refine iteT ⟨_, rfl, p, xs, rfl, .inr hs, rfl, _, rfl, ?_⟩
        rw [dec_int]
        by_cases e : xs.length = 2
        · match xs, ds, ha, e, el with
          | [x, y], [dx, dy], .cons hx (.cons hy .nil), _, _ =>
            obtain ⟨_, hf⟩ := fine_tup hz
            refine iteT ⟨_, rfl, p, [x, y], 0, x, rfl, rfl, hs, at0, x, dx, rfl, hx, fineAll_mem hf (by simp), fun H1 s1 => ⟨_, rfl, ?_⟩⟩
            cases e1 : nameD dx with
            | false =>
              refine iteF ?_
              have z := fin H1 s1
              rwa [show wayOk (.tuple [dx, dy]) = false from by rw [wayOk, e1, Bool.false_and]] at z
            | true =>
              refine iteT ⟨_, rfl, p, [x, y], 1, y, rfl, rfl, same_tup s1 hs, at1, y, dy, rfl, dp_same s1 _ _ hy, fineAll_mem hf (by simp), fun H2 s2 => ?_⟩
              have z := fin H2 (s1.trans s2)
              rwa [show wayOk (.tuple [dx, dy]) = nameD dy from by rw [wayOk, e1, Bool.true_and]] at z
        · rw [show ((xs.length : Int) == 2) = false from by simpa using (by omega : (xs.length : Int) ≠ 2)]
          refine iteF ?_
          have z := fin H (Same.refl H)
          rwa [show wayOk (.tuple ds) = false from by
            match ds, el with
            | [], _ => rfl
            | [_], _ => rfl
            | [_, _], el => exact absurd el e
            | _ :: _ :: _ :: _, _ => rfl] at z
    | _ => exact iteF (fin H (Same.refl H))
theorem scX : FnScope ["pairs", "word", "value"] ["pairs"] (defScope sExpect) := ⟨rfl, rfl, rfl, by decide +kernel, rfl, by decide +kernel, by decide +kernel⟩
theorem Txt.okX (T : Txt K mg a) : FnOk P w K mg base (L2.CX P w) 3 a.fX a.dX ["pairs"] (spExpect K a.cIr) := by
  refine T.expect.F.okX scX (fun vs H Q E h => ?_) (fun cdv A outer s H vs Q E hr h => ?_)
  · obtain ⟨v, d, rfl, _⟩ := h
    rfl
  · obtain ⟨l, its, rfl, hl, hi, kN, kE⟩ := h
    have hr1 : Room 1 _ := hr.mono (by decide)
    refine ⟨_, pss_one (ps_for (passes_of rfl) rfl (pi_list (pv 0)) (pg_tup rfl (pgs_cons (pg_name (i := 1) scX.nd rfl (.inl rfl)) (pgs_cons (pg_name (i := 2) scX.nd rfl (.inl rfl)) pgs_nil)))
      (pss_one (ps_if (pt_not (pt_val (pe_call T.okN hr1 rfl T.isName.g T.isName.F.kp T.isName.b .nil pass0 (pa_cons (pv 2) pa_nil))))
        (pss_one (ps_raise rfl (takes_of rfl rfl rfl rfl) (pmk_oex T.ir T.irI T.irT T.okIr hr T.irB .nil pass0 rfl T.gIr (pa_cons (pv 1) pa_nil)))) pss_nil))), ?_⟩
    refine ⟨_, rfl, l, rfl, ⟨_, hl⟩, for_list (K := K) (a := l) (xs := its.map fun i => V.ref i.t) (fun i σ H' => ∃ x y, σ = [some (.ref l), x, y] ∧ Same H H' ∧ firstBad (its.take i) = none) ⟨_, _, rfl, Same.refl H, rfl⟩ (fun i σ H' _ ⟨_, _, _, s1, _⟩ => s1.seq hl) ?_ ?_⟩
    · rintro j x σ H1 hx ⟨_, _, rfl, s1, fb⟩
      rw [List.getElem?_map] at hx
      obtain ⟨i, ei, rfl⟩ := Option.map_eq_some_iff.mp hx
      obtain ⟨ht, hd, hf⟩ := hi i (List.mem_of_getElem? ei)
      refine ⟨_, _, rfl, same_tup s1 ht, rfl, ?_⟩
      refine ⟨_, _, rfl, _, _, rfl, rfl, ?_⟩
      refine ⟨_, rfl, _, i.d, rfl, dp_same s1 _ _ hd, hf, fun H2 s2 => ⟨_, rfl, ?_⟩⟩
      have s12 := s1.trans s2
      have step : firstBad (its.take (j + 1)) = if nameD i.d = true then none else some i.w := by
        unfold firstBad at fb ⊢
        have fb' := Option.map_eq_none_iff.mp fb
        rw [List.take_add_one, ei, List.find?_append, fb', Option.none_or]
        show Option.map _ (List.find? _ [i]) = _
        rw [List.find?_cons]
        cases nameD i.d <;> rfl
      cases e1 : nameD i.d with
      | true =>
        rw [e1, if_pos rfl] at step
        exact iteF ⟨_, _, rfl, s12, step⟩
      | false =>
        rw [e1, if_neg (by decide)] at step
        refine iteT ?_
        have full : firstBad its = some i.w := by
          unfold firstBad at step ⊢
          rw [← List.take_append_drop (j + 1) its, List.find?_append]
          obtain ⟨y, ey, ew⟩ := Option.map_eq_some_iff.mp step
          rw [ey, Option.some_or, Option.map_some, ew]
        refine ⟨_, rfl, (by show 1 ≤ 1000; decide), fun x hx => ⟨x, _, rfl, upd_same, fun d h1 h2 => ⟨rfl, d, _, upd_same, by rw [upd_ne h2]; exact upd_same, ?_, ?_⟩⟩⟩
        · rwa [upd_ne h2] at h1
        · rw [err_heap hx h1 h2]
          have hd' : H2 d = none := by rwa [upd_ne h2] at h1
          exact kE _ full _ d (s12.trans (same_new hd')) (s12.free hd') upd_same
    · rintro σ H1 ⟨_, _, rfl, s1, fb⟩
      rw [List.length_map, List.take_length] at fb
      exact kN fb H1 s1
end
end K2

set_option Elab.async false
set_option linter.all false
set_option maxRecDepth 100000
set_option maxHeartbeats 4000000
namespace K2
open PySem L2 Lw
/-! ### ways -/
def headOf : PyData → Str
  | .tuple (.str z :: _) => z
  | _ => Str.empty
def waysD (ds : List PyData) : Bool := !ds.isEmpty && ds.all wayOk && decide ((ds.map headOf).Nodup)
def waysOk : PyData → Bool
  | .list ds => waysD ds
  | .tuple ds => waysD ds
  | _ => false
theorem wayOk_is {d : PyData} (h : wayOk d = true) : ∃ y z, d = .tuple [.str y, .str z] ∧ nameOk y = true ∧ nameOk z = true := by
  match d, h with
  | .tuple [a, b], h =>
    have h' : (nameD a && nameD b) = true := h
    obtain ⟨h1, h2⟩ := Bool.and_eq_true_iff.mp h'
    match a, b, h1, h2 with
    | .str y, .str z, h1, h2 => exact ⟨y, z, rfl, h1, h2⟩
def spWays (K : PySem.W.Frag) : Sp := fun vs H Q _ => ∃ (v : V) (d : PyData), vs = [v] ∧ Dp K H v d ∧ fine d = true ∧ ∀ H', Same H H' → Q (.bl (waysOk d)) H'
theorem nodup_keys : ∀ {l : List Str}, (l.map (Sum.inr : Str → Key)).Nodup ↔ l.Nodup
  | [] => by simp
  | x :: r => by
    have ih := nodup_keys (l := r)
    rw [List.map_cons, List.nodup_cons, List.nodup_cons, ih]
    refine and_congr (not_congr ?_) Iff.rfl
    rw [List.mem_map]
    constructor
    · rintro ⟨y, hy, e⟩
      cases e
      exact hy
    · exact fun h => ⟨x, h, rfl⟩
/-- a comprehension that asks each thing of a list of data -/
theorem turns_data {K : PySem.W.Frag} {H1 : Hp} {i : Nat} {σ : L2.St} {te : TE} (f : PyData → V) : ∀ {xs : List V} {ds : List PyData}, DpAll K H1 xs ds → xs.length ≤ 1000 →
    (∀ x d H (Q : VK), x ∈ xs → d ∈ ds → Dp K H x d → Same H1 H → (∀ H', Same H H' → Q (f d) H') → te (σ.set i (some x)) H Q) → Turns H1 i σ xs (ds.map fun d => some (f d)) tYes te := fun {xs ds} ha few el => by
  refine ⟨by rw [List.length_map, dpAll_len ha], Nat.le_trans few (by decide), fun j x y H Q hx hy s1 q => ?_, fun j x H hx hy _ => ?_⟩
  · obtain ⟨d, ed, hd⟩ := dpAll_at ha hx
    rw [List.getElem?_map, ed] at hy
    obtain rfl : f d = y := by simpa using hy
    exact ⟨rfl, Same.refl H, el x d H Q (List.mem_of_getElem? hx) (List.mem_of_getElem? ed) (dp_same s1 _ _ hd) s1 q⟩
  · rw [List.getElem?_map] at hy
    cases e : ds[j]? with
    | none => rw [e] at hy; cases hy
    | some d => rw [e] at hy; cases hy
theorem outOf_data (f : PyData → V) (ds : List PyData) : outOf (ds.map fun d => some (f d)) = ds.map f := by
  unfold outOf
  induction ds with
  | nil => rfl
  | cons d r ih =>
    rw [List.map_cons, List.map_cons, List.filterMap_cons]
    exact congrArg _ ih
theorem seq_or {K : PySem.W.Frag} {H : Hp} {v : V} {d : PyData} (hd : Dp K H v d) (hz : fine d = true) :
    (∃ (p : Addr) (xs : List V) (ds : List PyData), v = .ref p ∧ SqA K H p xs ∧ DpAll K H xs ds ∧ ds.length ≤ 1000 ∧ fineAll ds = true ∧ isSeq d = true ∧ (d = .list ds ∨ d = .tuple ds)) ∨ isSeq d = false := by
  cases d with
  | list ds =>
    cases hd with
    | lst hs ha => exact .inl ⟨_, _, ds, rfl, .inl hs, ha, (fine_list hz).1, (fine_list hz).2, rfl, .inl rfl⟩
  | tuple ds =>
    cases hd with
    | tup hs ha => exact .inl ⟨_, _, ds, rfl, .inr hs, ha, (fine_tup hz).1, (fine_tup hz).2, rfl, .inr rfl⟩
  | _ => exact .inr rfl
section
variable {P : Program} {w : World} {K : PySem.W.Frag} {mg : Str → Option Value} {base : Heap} {a : Ad}
theorem scWays : FnScope ["value", "way"] ["value"] (defScope sWays) := ⟨rfl, rfl, rfl, by decide +kernel, rfl, by decide +kernel, by decide +kernel⟩
theorem Txt.okWays (T : Txt K mg a) : FnOk P w K mg base CX0 3 a.fWs a.dWs ["value"] (spWays K) := by
  refine T.areWays.F.ok scWays (fun vs H Q E h => ?_) (fun cdv A outer s H vs Q E hr h => ?_)
  · obtain ⟨v, d, rfl, _⟩ := h
    rfl
  · obtain ⟨v, d, rfl, hd, hz, fin⟩ := h
    refine ⟨_, pss_cons (ps_if (PW.pt (pw_or (pt_not (pt_val (pe_callB call_isiT (by rfl) T.tIs PyProof.Rows.boot_isinstance (pa_cons (pv 0) (pa_cons (pe_tup (pa_cons (pe_bltn (v := .ty "list") (by rfl) T.tList PyProof.Rows.boot_list rfl) (pa_cons (pe_bltn (v := .ty "tuple") (by rfl) T.tTuple PyProof.Rows.boot_tuple rfl) pa_nil))) pa_nil)))))
        (pw_or1 (pt_cmpR op_eq (pe_callB call_len_seq (by rfl) T.tLen PySem.boot_len (pa_cons (pv 0) pa_nil)) pe_int (nomark _))))) (pss_one (ps_ret pe_bl)) pss_nil)
      (pss_cons (ps_if (pt_not (pt_val (pe_callB (cr_all rfl) (by rfl) T.tAll PyProof.Rows.boot_all (pa_cons (pe_lc (own := [("way", 1)]) (g := gName 1) (tt := tYes) (by rfl) scWays.nd (pi_seq (pv 0))
          (blkOk_by (own := [("way", 1)]) (N := ["value", "way"]) (sc := defScope sWays) (by decide +kernel)) (fun _ _ _ _ _ => pg_name (i := 1) scWays.nd rfl (Or.inl rfl)) (fun _ _ _ _ _ => pts_nil)
          (fun _ _ _ _ _ => pe_call T.okW hr rfl T.isWay.g T.isWay.F.kp T.isWay.b .nil pass0 (pa_cons (pv 1) pa_nil))) pa_nil)))) (pss_one (ps_ret pe_bl)) pss_nil)
      (pss_one (ps_ret (pe_cmpR op_eq (pe_callB Sx.cr_lenK (by rfl) T.tLen PySem.boot_len (pa_cons (Sx.pe_sck (own := [("way", 1)]) (g := gName 1) (tt := tYes) (te := tOp (rIxT K) (tVar 1) (tC (.int 0))) (by rfl) scWays.nd (pi_seq (pv 0))
          (blkOk_by (own := [("way", 1)]) (N := ["value", "way"]) (sc := defScope sWays) (by decide +kernel)) (fun _ _ _ _ _ => pg_name (i := 1) scWays.nd rfl (Or.inl rfl)) (fun _ _ _ _ _ => pts_nil)
          (fun _ _ _ _ _ => pe_ix ix_tup (pv 1) pe_int (fun _ _ => rfl))) pa_nil)) (pe_callB call_len_seq (by rfl) T.tLen PySem.boot_len (pa_cons (pv 0) pa_nil)) (nomark _))))), ?_⟩
    refine ⟨_, rfl, (by show 2 ≤ sizeLine; decide), fun tp hp => ?_⟩
    have s0 : Same H (upd H tp (.tup [.ty "list", .ty "tuple"])) := same_new hp
    have hd0 := dp_same s0 _ _ hd
    refine ⟨v, tp, _, _, _, _, rfl, upd_same, .cons (.ty "list") (.cons (.ty "tuple") .nil), ty_data hd0, kit_seq (no_dict hd), _, rfl, ?_⟩
    -- a list or a tuple
    rcases seq_or hd hz with ⟨p, xs, ds, rfl, hs, ha, few, hf, es, ed⟩ | es
    · rw [es]
      have el := dpAll_len ha
      have hs0 := hs.same s0
      have ha0 := dpAll_same s0 _ _ ha
      have ew : waysOk d = waysD ds := by rcases ed with rfl | rfl <;> rfl
      rw [ew] at fin
      refine iteF ⟨_, rfl, p, xs, rfl, hs0, rfl, _, rfl, ?_⟩
      rw [dec_int]
      by_cases e : xs.length = 0
      · have ed : ds = [] := List.length_eq_zero_iff.mp (el ▸ e)
        subst ed
        rw [show ((xs.length : Int) == 0) = true from by simpa using e]
        exact iteT (fin _ s0)
      · rw [show ((xs.length : Int) == 0) = false from by simpa using (by omega : (xs.length : Int) ≠ 0)]
        refine iteF ?_
        have few' : xs.length ≤ 1000 := el ▸ few
        refine seq_run rfl hs0 fun J hJ D un => lc_of_J (ds.map fun d => some (.bl (wayOk d))) hJ un (turns_data (fun d => .bl (wayOk d)) ha0 few' fun x d H2 Q2 _ hm hx _ q => ?_) mono_yes fun H1 s1 h1 => ?_
        · exact ⟨_, rfl, x, d, rfl, hx, fineAll_mem hf hm, q⟩
        · rw [outOf_data] at h1
          have e1 : ds.map (fun d => V.bl (wayOk d)) = (ds.map wayOk).map V.bl := by rw [List.map_map]; rfl
          rw [e1] at h1
          refine ⟨D, _, rfl, SqL.of h1, _, rfl, ?_⟩
          have e2 : (ds.map wayOk).all id = ds.all wayOk := by rw [List.all_map]; rfl
          rw [e2]
          have s01 := s0.trans s1
          have ne : ds.isEmpty = false := by
            cases ds with
            | nil => exact absurd el e
            | cons _ _ => rfl
          cases ea : ds.all wayOk with
          | false =>
            refine iteT ?_
            have z := fin _ s01
            rwa [show waysD ds = false from by rw [waysD, ea, Bool.and_false, Bool.false_and]] at z
          | true =>
            refine iteF ?_
            have all : ∀ d ∈ ds, wayOk d = true := List.all_eq_true.mp ea
            have ha1 := dpAll_same s1 _ _ ha0
            refine seq_run rfl (hs0.same s1) fun J hJ D2 un2 => sck_of_J (ks := ds.map fun d => Sum.inr (headOf d)) hJ un2 ⟨by rw [List.length_map, el], few', fun j x k H2 Q2 hx hk s2 q => ?_⟩ fun H2 s2 h2 => ?_
            · obtain ⟨d, ed, hd⟩ := dpAll_at ha1 hx
              rw [List.getElem?_map, ed] at hk
              obtain rfl : Sum.inr (headOf d) = k := by simpa using hk
              obtain ⟨y, z, rfl, _, _⟩ := wayOk_is (all d (List.mem_of_getElem? ed))
              cases hd with
              | @tup p2 zs _ hs2 ha2 =>
                cases ha2 with
                | cons hy hr =>
                  cases hy
                  exact ⟨_, rfl, p2, _, 0, _, rfl, rfl, same_tup s2 hs2, atI_nat (j := 0) rfl, q H2 (Same.refl H2)⟩
            · refine ⟨D2, _, _, rfl, h2, _, rfl, p, xs, rfl, (hs0.same s1).same s2, rfl, ?_⟩
              rw [dec_int]
              have z := fin H2 (s01.trans s2)
              have e3 : waysD ds = (((Sx.nub (ds.map fun d => (Sum.inr (headOf d) : Key))).length : Int) == (xs.length : Int)) := by
                have e4 : (ds.map fun d => (Sum.inr (headOf d) : Key)) = (ds.map headOf).map Sum.inr := by rw [List.map_map]; rfl
                rw [waysD, ne, ea, e4, Bool.eq_iff_iff]
                have e5 := Sx.nub_nodup_iff (l := (ds.map headOf).map (Sum.inr : Str → Key))
                rw [nodup_keys, List.length_map, List.length_map] at e5
                rw [show (!false && true && decide ((ds.map headOf).Nodup)) = decide ((ds.map headOf).Nodup) from rfl, decide_eq_true_iff, ← e5, beq_iff_eq, el]
                omega
              rwa [e3] at z
    · rw [es]
      have ew : waysOk d = false := by
        cases d with
        | list _ => cases es
        | tuple _ => cases es
        | _ => rfl
      have z := fin _ s0
      rw [ew] at z
      exact iteT (iteT z)
end
end K2

set_option Elab.async false
set_option linter.all false
set_option maxRecDepth 100000
set_option maxHeartbeats 4000000
namespace K2
open PySem L2 Lw
/-! ### rows that are made -/
def spRow (K : PySem.W.Frag) : Sp := fun vs H Q _ => ∃ (p l C dx : Addr) (fs : List (Str × V)) (ys : List Str), vs = [.ref p, .ref l] ∧ H p = some (.ins C dx fs) ∧ Cls K C ∧ NoAttr K C "_text" ∧ fs.length < 900 ∧ SqL K H l (ys.map V.str) ∧
  ys.length ≤ 10000 ∧ (∀ y ∈ ys, y.length ≤ 4) ∧ Q .non (upd H p (.ins C dx (putF "_text" (.str (Txt.join " " ys)) fs)))
/-- the first of these that is no name -/
def firstD : List (Str × PyData) → Str
  | [] => Str.empty
  | (w, d) :: r => if nameD d = true then firstD r else w
/-- C(..)'s __init__: due tells the word of the first wrong argument, or nothing; a good one's attributes -/
def spMk (K : PySem.W.Frag) (C Cir : Addr) (due : List PyData → Str) (n : Nat) : Sp := fun vs H Q E => ∃ (p dx : Addr) (xs : List V) (ds : List PyData), vs = .ref p :: xs ∧ xs.length = n ∧ DpAll K H xs ds ∧ fineAll ds = true ∧ H p = some (.ins C dx []) ∧
  (due ds = Str.empty → ∀ (H' : Hp) (fs : List (Str × V)) (r : Row0), (∀ b o, H b = some o → b ≠ p → H' b = some o) → H' p = some (.ins C dx fs) → Made ds r → fieldsOk K H' fs r → Q .non H') ∧
  (due ds ≠ Str.empty → ∀ (H' : Hp) (d : Addr), Same H H' → H d = none → H' d = some (.xd [("word", .str (due ds))]) → E (.ref Cir) (some d) H')
theorem sum4 : ∀ {ys : List Str}, (∀ y ∈ ys, y.length ≤ 4) → (ys.map (·.length)).sum ≤ 4 * ys.length
  | [], _ => by simp
  | y :: r, h => by
    have ih := sum4 (ys := r) fun z hz => h z (List.mem_cons_of_mem _ hz)
    have h1 := h y List.mem_cons_self
    rw [List.map_cons, List.sum_cons, List.length_cons]
    omega
theorem nameD_is {d : PyData} (h : nameD d = true) : ∃ z, d = .str z ∧ z.length ≤ 4 := by
  cases d with
  | str z =>
    refine ⟨z, rfl, ?_⟩
    have h' : (decide (1 ≤ (z.length : Int)) && decide ((z.length : Int) ≤ 4) && z.cps.toList.all isAbc) = true := h
    obtain ⟨h1, _⟩ := Bool.and_eq_true_iff.mp h'
    obtain ⟨_, h2⟩ := Bool.and_eq_true_iff.mp h1
    have := of_decide_eq_true h2
    omega
  | _ => cases h
section
variable {P : Program} {w : World} {K : PySem.W.Frag} {mg : Str → Option Value} {base : Heap} {a : Ad}
theorem scRow : FnScope ["self", "words"] ["self", "words"] (defScope sRow) := ⟨rfl, rfl, rfl, by decide +kernel, rfl, by decide +kernel, by decide +kernel⟩
theorem Txt.okRow (T : Txt K mg a) : FnOk P w K mg base CX0 1 a.fRow a.dRow ["self", "words"] (spRow K) := by
  refine T.row.F.ok scRow (fun vs H Q E h => ?_) (fun cdv A outer s H vs Q E hr h => ?_)
  · obtain ⟨_, _, _, _, _, _, rfl, _⟩ := h
    rfl
  · obtain ⟨p, l, C, dx, fs, ys, rfl, hp, cl, na, few, hl, hn, hy, fin⟩ := h
    refine ⟨_, pss_one (ps_fld (pv 0) (pe_join pe_str (pv 1)) rfl), ?_⟩
    refine ⟨⟨_, rfl⟩, _, rfl, _, l, ys, rfl, rfl, .inl hl, ?_, _, rfl, p, C, dx, fs, rfl, hp, cl, na, by omega, fin⟩
    have := sum4 hy
    show _ + ys.length * 1 ≤ _
    omega
/-- what the display leaves is what _expect_names asks -/
theorem firstBad_none {its : List It} (h : firstBad its = none) : ∀ i ∈ its, nameD i.d = true := by
  unfold firstBad at h
  have := List.find?_eq_none.mp (Option.map_eq_none_iff.mp h)
  exact fun i hi => by simpa using this i hi
theorem firstBad_is : ∀ its : List It, firstBad its = none ∧ firstD (its.map fun i => (i.w, i.d)) = Str.empty ∨ ∃ w, firstBad its = some w ∧ firstD (its.map fun i => (i.w, i.d)) = w ∧ w ∈ its.map (·.w)
  | [] => .inl ⟨rfl, rfl⟩
  | i :: r => by
    cases e : nameD i.d with
    | false => exact .inr ⟨i.w, by simp [firstBad, List.find?_cons, e], by simp [firstD, e], by simp⟩
    | true =>
      have e1 : firstBad (i :: r) = firstBad r := by simp [firstBad, List.find?_cons, e]
      have e2 : firstD ((i :: r).map fun i => (i.w, i.d)) = firstD (r.map fun i => (i.w, i.d)) := by simp [firstD, e]
      rw [e1, e2]
      rcases firstBad_is r with h | ⟨w, h1, h2, h3⟩
      · exact .inl h
      · exact .inr ⟨w, h1, h2, List.mem_cons_of_mem _ h3⟩
/-- names are short texts -/
theorem name_at {H : Hp} {v : V} {d : PyData} (h : Dp K H v d) (n : nameD d = true) : ∃ z, v = .str z ∧ d = .str z ∧ z.length ≤ 4 := by
  obtain ⟨z, rfl, hz⟩ := nameD_is n
  cases h
  exact ⟨z, rfl, rfl, hz⟩
theorem keep_row {H H5 : Hp} {p l2 : Addr} {o1 o2 : HO} {u : HO} (s : Same H H5) (u5 : (upd H5 p o1) l2 = none) : ∀ b o, H b = some o → b ≠ p → upd (upd (upd H5 p o1) l2 u) p o2 b = some o := fun b o e ne => by
  have h5 := s _ _ e
  have n2 : b ≠ l2 := fun z => by
    rw [← z, upd_ne ne, h5] at u5
    cases u5
  rw [upd_ne ne, upd_ne n2, upd_ne ne]
  exact h5
/-- note -/
def dueNote : List PyData → Str
  | [d1, d2, d3] => firstD [("place", d1), ("word", d2), ("then", d3)]
  | _ => Str.empty
theorem scNote : FnScope ["self", "place", "word", "then"] ["self", "place", "word", "then"] (defScope sNote) := ⟨rfl, rfl, rfl, by decide +kernel, rfl, by decide +kernel, by decide +kernel⟩
theorem Txt.okNote (T : Txt K mg a) : FnOk P w K mg base (L2.CX P w) 4 a.fNote a.dNote ["self", "place", "word", "then"] (spMk K a.cNote a.cIr dueNote 3) := by
  refine T.note.F.okX scNote (fun vs H Q E h => ?_) (fun cdv A outer s H vs Q E hr h => ?_)
  · obtain ⟨p, _, xs, _, rfl, e, _⟩ := h
    rw [List.length_cons, e]
    rfl
  · obtain ⟨p, dx, xs, ds, rfl, len, ha, hf, hp, kN, kE⟩ := h
    match xs, ds, ha, len with
    | [x1, x2, x3], [d1, d2, d3], .cons h1 (.cons h2 (.cons h3 .nil)), _ =>
    have hr1 : Room 1 _ := hr.mono (by decide)
    refine ⟨_, pss_cons (ps_expr (pe_call T.okX hr rfl T.expect.g T.expect.F.kp T.expect.b .nil (passes_call (takes_of rfl rfl rfl rfl) fun _ _ _ _ z => z) (pa_cons (pe_lst (pa_cons (pe_tup (pa_cons pe_str (pa_cons (pv 1) pa_nil))) (pa_cons (pe_tup (pa_cons pe_str (pa_cons (pv 2) pa_nil))) (pa_cons (pe_tup (pa_cons pe_str (pa_cons (pv 3) pa_nil))) pa_nil)))) pa_nil)))
      (pss_cons (ps_fld (pv 0) (pv 1) rfl) (pss_cons (ps_fld (pv 0) (pv 2) rfl) (pss_cons (ps_fld (pv 0) (pv 3) rfl) (pss_one (ps_expr (pe_cfun (pe_glob (v := .ref a.cRow) (by rfl) T.row.g rfl) T.rowR T.rowI T.okRow hr1 T.row.F.kp T.row.b pass0 (pa_cons (pv 0) (pa_cons (pe_lst (pa_cons (pv 1) (pa_cons pe_str (pa_cons (pv 2) (pa_cons (pv 3) pa_nil))))) pa_nil)))))))), ?_⟩
    refine ⟨_, rfl, (by show 2 ≤ sizeLine; decide), fun t1 u1 => ⟨_, rfl, (by show 2 ≤ sizeLine; decide), fun t2 u2 => ⟨_, rfl, (by show 2 ≤ sizeLine; decide), fun t3 u3 => ⟨(by show 3 ≤ sizeLine; decide), fun l ul => ?_⟩⟩⟩⟩
    generalize e1 : upd H t1 (.tup [.str "place", x1]) = G1 at *
    have s1 : Same H G1 := e1 ▸ same_new u1
    have q1 : SqT K G1 t1 [.str "place", x1] := e1 ▸ SqT.of upd_same
    generalize e2 : upd G1 t2 (.tup [.str "word", x2]) = G2 at *
    have s2 : Same G1 G2 := e2 ▸ same_new u2
    have q2 : SqT K G2 t2 [.str "word", x2] := e2 ▸ SqT.of upd_same
    generalize e3 : upd G2 t3 (.tup [.str "then", x3]) = G3 at *
    have s3 : Same G2 G3 := e3 ▸ same_new u3
    have q3 : SqT K G3 t3 [.str "then", x3] := e3 ▸ SqT.of upd_same
    have sl : Same G3 (upd G3 l (.lst [.ref t1, .ref t2, .ref t3])) := same_new ul
    have S : Same H _ := (s1.trans (s2.trans (s3.trans sl)))
    have f1 : fine d1 = true := fineAll_mem hf (by simp)
    have f2 : fine d2 = true := fineAll_mem hf (by simp)
    have f3 : fine d3 = true := fineAll_mem hf (by simp)
    have FB := firstBad_is [⟨t1, "place", x1, d1⟩, ⟨t2, "word", x2, d2⟩, ⟨t3, "then", x3, d3⟩]
    refine ⟨l, [⟨t1, "place", x1, d1⟩, ⟨t2, "word", x2, d2⟩, ⟨t3, "then", x3, d3⟩], rfl, SqL.of upd_same, fun i hi => ?_, fun fb H5 s5 => ?_, fun w fb H5 d s5 nd hd => ?_⟩
    · simp only [List.mem_cons, List.not_mem_nil, or_false] at hi
      rcases hi with rfl | rfl | rfl
      · exact ⟨same_tup (s2.trans (s3.trans sl)) q1, dp_same S _ _ h1, f1⟩
      · exact ⟨same_tup (s3.trans sl) q2, dp_same S _ _ h2, f2⟩
      · exact ⟨same_tup sl q3, dp_same S _ _ h3, f3⟩
    · have all := firstBad_none fb
      obtain ⟨z1, rfl, rfl, c1⟩ := name_at h1 (all ⟨t1, "place", x1, d1⟩ (by simp))
      obtain ⟨z2, rfl, rfl, c2⟩ := name_at h2 (all ⟨t2, "word", x2, d2⟩ (by simp))
      obtain ⟨z3, rfl, rfl, c3⟩ := name_at h3 (all ⟨t3, "then", x3, d3⟩ (by simp))
      have S5 := S.trans s5
      refine ⟨_, rfl, _, rfl, p, a.cNote, dx, _, rfl, (S5 _ _ hp), T.note.cl, T.no _ (by simp) _ (by simp), (by show 0 < 1000; decide), _, rfl, _, rfl, p, a.cNote, dx, _, rfl, upd_same, T.note.cl, T.no _ (by simp) _ (by simp), (by show 1 < 1000; decide), _, rfl, _, rfl, p, a.cNote, dx, _, rfl, upd_same, T.note.cl, T.no _ (by simp) _ (by simp), (by show 2 < 1000; decide), ?_⟩
      refine ⟨rfl, _, rfl, _, rfl, _, rfl, _, rfl, (by show 4 ≤ sizeLine; decide), fun l2 ul2 => ?_⟩
      rw [upd_upd, upd_upd] at ul2 ⊢
      have np : p ≠ l2 := fun z => by rw [← z, upd_same] at ul2; cases ul2
      refine ⟨p, l2, a.cNote, dx, _, [z1, "note", z2, z3], rfl, (by rw [upd_ne np]; exact upd_same), T.note.cl, T.no _ (by simp) _ (by simp), (by show 3 < 900; decide), SqL.of upd_same, (by show 4 ≤ 10000; decide), (by simp [*]; try decide), ?_⟩
      refine kN ?_ _ _ (.note z1 z2 z3) (keep_row S5 ul2) upd_same rfl ?_
      · show firstD _ = _
        rcases FB with ⟨_, h⟩ | ⟨w, h, _⟩
        · exact h
        · rw [fb] at h; cases h
      · exact ⟨by rw [lookup_putF, if_neg (by decide), lookup_putF, if_neg (by decide), lookup_putF, if_neg (by decide), lookup_putF, if_pos rfl], by rw [lookup_putF, if_neg (by decide), lookup_putF, if_neg (by decide), lookup_putF, if_pos rfl], by rw [lookup_putF, if_neg (by decide), lookup_putF, if_pos rfl], by rw [lookup_putF, if_pos rfl]; rfl⟩
    · have e : firstD [("place", d1), ("word", d2), ("then", d3)] = w ∧ w ≠ Str.empty := by
        rcases FB with ⟨h, _⟩ | ⟨w2, h, h2, h3⟩
        · rw [fb] at h; cases h
        · rw [fb] at h
          cases h
          refine ⟨h2, fun z => ?_⟩
          rw [z] at h3
          exact absurd (show Str.empty ∈ (["place", "word", "then"] : List Str) from h3) (by decide)
      refine kE (by show firstD _ ≠ _; rw [e.1]; exact e.2) H5 d (S.trans s5) (S.free nd) ?_
      show _ = some (HO.xd [("word", .str (firstD _))])
      rw [e.1]
      exact hd
/-- mark -/
def dueGate : List PyData → Str
  | [d1, d2, d3, d4] => firstD [("place", d1), ("mark", d2), ("newer", d3), ("elder", d4)]
  | _ => Str.empty
theorem scGate : FnScope ["self", "place", "mark", "newer", "elder"] ["self", "place", "mark", "newer", "elder"] (defScope sGate) := ⟨rfl, rfl, rfl, by decide +kernel, rfl, by decide +kernel, by decide +kernel⟩
theorem Txt.okGate (T : Txt K mg a) : FnOk P w K mg base (L2.CX P w) 4 a.fGate a.dGate ["self", "place", "mark", "newer", "elder"] (spMk K a.cGate a.cIr dueGate 4) := by
  refine T.gate.F.okX scGate (fun vs H Q E h => ?_) (fun cdv A outer s H vs Q E hr h => ?_)
  · obtain ⟨p, _, xs, _, rfl, e, _⟩ := h
    rw [List.length_cons, e]
    rfl
  · obtain ⟨p, dx, xs, ds, rfl, len, ha, hf, hp, kN, kE⟩ := h
    match xs, ds, ha, len with
    | [x1, x2, x3, x4], [d1, d2, d3, d4], .cons h1 (.cons h2 (.cons h3 (.cons h4 .nil))), _ =>
    have hr1 : Room 1 _ := hr.mono (by decide)
    refine ⟨_, pss_cons (ps_expr (pe_call T.okX hr rfl T.expect.g T.expect.F.kp T.expect.b .nil (passes_call (takes_of rfl rfl rfl rfl) fun _ _ _ _ z => z) (pa_cons (pe_lst (pa_cons (pe_tup (pa_cons pe_str (pa_cons (pv 1) pa_nil))) (pa_cons (pe_tup (pa_cons pe_str (pa_cons (pv 2) pa_nil))) (pa_cons (pe_tup (pa_cons pe_str (pa_cons (pv 3) pa_nil))) (pa_cons (pe_tup (pa_cons pe_str (pa_cons (pv 4) pa_nil))) pa_nil))))) pa_nil)))
      (pss_cons (ps_fld (pv 0) (pv 1) rfl) (pss_cons (ps_fld (pv 0) (pv 2) rfl) (pss_cons (ps_fld (pv 0) (pv 3) rfl) (pss_cons (ps_fld (pv 0) (pv 4) rfl) (pss_one (ps_expr (pe_cfun (pe_glob (v := .ref a.cRow) (by rfl) T.row.g rfl) T.rowR T.rowI T.okRow hr1 T.row.F.kp T.row.b pass0 (pa_cons (pv 0) (pa_cons (pe_lst (pa_cons (pv 1) (pa_cons pe_str (pa_cons (pv 2) (pa_cons (pv 3) (pa_cons (pv 4) pa_nil)))))) pa_nil))))))))), ?_⟩
    refine ⟨_, rfl, (by show 2 ≤ sizeLine; decide), fun t1 u1 => ⟨_, rfl, (by show 2 ≤ sizeLine; decide), fun t2 u2 => ⟨_, rfl, (by show 2 ≤ sizeLine; decide), fun t3 u3 => ⟨_, rfl, (by show 2 ≤ sizeLine; decide), fun t4 u4 => ⟨(by show 4 ≤ sizeLine; decide), fun l ul => ?_⟩⟩⟩⟩⟩
    generalize e1 : upd H t1 (.tup [.str "place", x1]) = G1 at *
    have s1 : Same H G1 := e1 ▸ same_new u1
    have q1 : SqT K G1 t1 [.str "place", x1] := e1 ▸ SqT.of upd_same
    generalize e2 : upd G1 t2 (.tup [.str "mark", x2]) = G2 at *
    have s2 : Same G1 G2 := e2 ▸ same_new u2
    have q2 : SqT K G2 t2 [.str "mark", x2] := e2 ▸ SqT.of upd_same
    generalize e3 : upd G2 t3 (.tup [.str "newer", x3]) = G3 at *
    have s3 : Same G2 G3 := e3 ▸ same_new u3
    have q3 : SqT K G3 t3 [.str "newer", x3] := e3 ▸ SqT.of upd_same
    generalize e4 : upd G3 t4 (.tup [.str "elder", x4]) = G4 at *
    have s4 : Same G3 G4 := e4 ▸ same_new u4
    have q4 : SqT K G4 t4 [.str "elder", x4] := e4 ▸ SqT.of upd_same
    have sl : Same G4 (upd G4 l (.lst [.ref t1, .ref t2, .ref t3, .ref t4])) := same_new ul
    have S : Same H _ := (s1.trans (s2.trans (s3.trans (s4.trans sl))))
    have f1 : fine d1 = true := fineAll_mem hf (by simp)
    have f2 : fine d2 = true := fineAll_mem hf (by simp)
    have f3 : fine d3 = true := fineAll_mem hf (by simp)
    have f4 : fine d4 = true := fineAll_mem hf (by simp)
    have FB := firstBad_is [⟨t1, "place", x1, d1⟩, ⟨t2, "mark", x2, d2⟩, ⟨t3, "newer", x3, d3⟩, ⟨t4, "elder", x4, d4⟩]
    refine ⟨l, [⟨t1, "place", x1, d1⟩, ⟨t2, "mark", x2, d2⟩, ⟨t3, "newer", x3, d3⟩, ⟨t4, "elder", x4, d4⟩], rfl, SqL.of upd_same, fun i hi => ?_, fun fb H5 s5 => ?_, fun w fb H5 d s5 nd hd => ?_⟩
    · simp only [List.mem_cons, List.not_mem_nil, or_false] at hi
      rcases hi with rfl | rfl | rfl | rfl
      · exact ⟨same_tup (s2.trans (s3.trans (s4.trans sl))) q1, dp_same S _ _ h1, f1⟩
      · exact ⟨same_tup (s3.trans (s4.trans sl)) q2, dp_same S _ _ h2, f2⟩
      · exact ⟨same_tup (s4.trans sl) q3, dp_same S _ _ h3, f3⟩
      · exact ⟨same_tup sl q4, dp_same S _ _ h4, f4⟩
    · have all := firstBad_none fb
      obtain ⟨z1, rfl, rfl, c1⟩ := name_at h1 (all ⟨t1, "place", x1, d1⟩ (by simp))
      obtain ⟨z2, rfl, rfl, c2⟩ := name_at h2 (all ⟨t2, "mark", x2, d2⟩ (by simp))
      obtain ⟨z3, rfl, rfl, c3⟩ := name_at h3 (all ⟨t3, "newer", x3, d3⟩ (by simp))
      obtain ⟨z4, rfl, rfl, c4⟩ := name_at h4 (all ⟨t4, "elder", x4, d4⟩ (by simp))
      have S5 := S.trans s5
      refine ⟨_, rfl, _, rfl, p, a.cGate, dx, _, rfl, (S5 _ _ hp), T.gate.cl, T.no _ (by simp) _ (by simp), (by show 0 < 1000; decide), _, rfl, _, rfl, p, a.cGate, dx, _, rfl, upd_same, T.gate.cl, T.no _ (by simp) _ (by simp), (by show 1 < 1000; decide), _, rfl, _, rfl, p, a.cGate, dx, _, rfl, upd_same, T.gate.cl, T.no _ (by simp) _ (by simp), (by show 2 < 1000; decide), _, rfl, _, rfl, p, a.cGate, dx, _, rfl, upd_same, T.gate.cl, T.no _ (by simp) _ (by simp), (by show 3 < 1000; decide), ?_⟩
      refine ⟨rfl, _, rfl, _, rfl, _, rfl, _, rfl, _, rfl, (by show 5 ≤ sizeLine; decide), fun l2 ul2 => ?_⟩
      rw [upd_upd, upd_upd, upd_upd] at ul2 ⊢
      have np : p ≠ l2 := fun z => by rw [← z, upd_same] at ul2; cases ul2
      refine ⟨p, l2, a.cGate, dx, _, [z1, "mark", z2, z3, z4], rfl, (by rw [upd_ne np]; exact upd_same), T.gate.cl, T.no _ (by simp) _ (by simp), (by show 4 < 900; decide), SqL.of upd_same, (by show 5 ≤ 10000; decide), (by simp [*]; try decide), ?_⟩
      refine kN ?_ _ _ (.gate z1 z2 z3 z4) (keep_row S5 ul2) upd_same rfl ?_
      · show firstD _ = _
        rcases FB with ⟨_, h⟩ | ⟨w, h, _⟩
        · exact h
        · rw [fb] at h; cases h
      · exact ⟨by rw [lookup_putF, if_neg (by decide), lookup_putF, if_neg (by decide), lookup_putF, if_neg (by decide), lookup_putF, if_neg (by decide), lookup_putF, if_pos rfl], by rw [lookup_putF, if_neg (by decide), lookup_putF, if_neg (by decide), lookup_putF, if_neg (by decide), lookup_putF, if_pos rfl], by rw [lookup_putF, if_neg (by decide), lookup_putF, if_neg (by decide), lookup_putF, if_pos rfl], by rw [lookup_putF, if_neg (by decide), lookup_putF, if_pos rfl], by rw [lookup_putF, if_pos rfl]; rfl⟩
    · have e : firstD [("place", d1), ("mark", d2), ("newer", d3), ("elder", d4)] = w ∧ w ≠ Str.empty := by
        rcases FB with ⟨h, _⟩ | ⟨w2, h, h2, h3⟩
        · rw [fb] at h; cases h
        · rw [fb] at h
          cases h
          refine ⟨h2, fun z => ?_⟩
          rw [z] at h3
          exact absurd (show Str.empty ∈ (["place", "mark", "newer", "elder"] : List Str) from h3) (by decide)
      refine kE (by show firstD _ ≠ _; rw [e.1]; exact e.2) H5 d (S.trans s5) (S.free nd) ?_
      show _ = some (HO.xd [("word", .str (firstD _))])
      rw [e.1]
      exact hd
/-- end -/
def dueEnd : List PyData → Str
  | [d1] => firstD [("place", d1)]
  | _ => Str.empty
theorem scEnd : FnScope ["self", "place"] ["self", "place"] (defScope sEnd) := ⟨rfl, rfl, rfl, by decide +kernel, rfl, by decide +kernel, by decide +kernel⟩
theorem Txt.okEnd (T : Txt K mg a) : FnOk P w K mg base (L2.CX P w) 4 a.fEnd a.dEnd ["self", "place"] (spMk K a.cEnd a.cIr dueEnd 1) := by
  refine T.end_.F.okX scEnd (fun vs H Q E h => ?_) (fun cdv A outer s H vs Q E hr h => ?_)
  · obtain ⟨p, _, xs, _, rfl, e, _⟩ := h
    rw [List.length_cons, e]
    rfl
  · obtain ⟨p, dx, xs, ds, rfl, len, ha, hf, hp, kN, kE⟩ := h
    match xs, ds, ha, len with
    | [x1], [d1], .cons h1 .nil, _ =>
    have hr1 : Room 1 _ := hr.mono (by decide)
    refine ⟨_, pss_cons (ps_expr (pe_call T.okX hr rfl T.expect.g T.expect.F.kp T.expect.b .nil (passes_call (takes_of rfl rfl rfl rfl) fun _ _ _ _ z => z) (pa_cons (pe_lst (pa_cons (pe_tup (pa_cons pe_str (pa_cons (pv 1) pa_nil))) pa_nil)) pa_nil)))
      (pss_cons (ps_fld (pv 0) (pv 1) rfl) (pss_one (ps_expr (pe_cfun (pe_glob (v := .ref a.cRow) (by rfl) T.row.g rfl) T.rowR T.rowI T.okRow hr1 T.row.F.kp T.row.b pass0 (pa_cons (pv 0) (pa_cons (pe_lst (pa_cons (pv 1) (pa_cons pe_str pa_nil))) pa_nil)))))), ?_⟩
    refine ⟨_, rfl, (by show 2 ≤ sizeLine; decide), fun t1 u1 => ⟨(by show 1 ≤ sizeLine; decide), fun l ul => ?_⟩⟩
    generalize e1 : upd H t1 (.tup [.str "place", x1]) = G1 at *
    have s1 : Same H G1 := e1 ▸ same_new u1
    have q1 : SqT K G1 t1 [.str "place", x1] := e1 ▸ SqT.of upd_same
    have sl : Same G1 (upd G1 l (.lst [.ref t1])) := same_new ul
    have S : Same H _ := (s1.trans sl)
    have f1 : fine d1 = true := fineAll_mem hf (by simp)
    have FB := firstBad_is [⟨t1, "place", x1, d1⟩]
    refine ⟨l, [⟨t1, "place", x1, d1⟩], rfl, SqL.of upd_same, fun i hi => ?_, fun fb H5 s5 => ?_, fun w fb H5 d s5 nd hd => ?_⟩
    · simp only [List.mem_cons, List.not_mem_nil, or_false] at hi
      obtain rfl := hi
      exact ⟨same_tup sl q1, dp_same S _ _ h1, f1⟩
    · have all := firstBad_none fb
      obtain ⟨z1, rfl, rfl, c1⟩ := name_at h1 (all ⟨t1, "place", x1, d1⟩ (by simp))
      have S5 := S.trans s5
      refine ⟨_, rfl, _, rfl, p, a.cEnd, dx, _, rfl, (S5 _ _ hp), T.end_.cl, T.no _ (by simp) _ (by simp), (by show 0 < 1000; decide), ?_⟩
      refine ⟨rfl, _, rfl, _, rfl, (by show 2 ≤ sizeLine; decide), fun l2 ul2 => ?_⟩
      skip
      have np : p ≠ l2 := fun z => by rw [← z, upd_same] at ul2; cases ul2
      refine ⟨p, l2, a.cEnd, dx, _, [z1, "end"], rfl, (by rw [upd_ne np]; exact upd_same), T.end_.cl, T.no _ (by simp) _ (by simp), (by show 1 < 900; decide), SqL.of upd_same, (by show 2 ≤ 10000; decide), (by simp [*]; try decide), ?_⟩
      refine kN ?_ _ _ (.end_ z1) (keep_row S5 ul2) upd_same rfl ?_
      · show firstD _ = _
        rcases FB with ⟨_, h⟩ | ⟨w, h, _⟩
        · exact h
        · rw [fb] at h; cases h
      · exact ⟨by rw [lookup_putF, if_neg (by decide), lookup_putF, if_pos rfl], by rw [lookup_putF, if_pos rfl]; rfl⟩
    · have e : firstD [("place", d1)] = w ∧ w ≠ Str.empty := by
        rcases FB with ⟨h, _⟩ | ⟨w2, h, h2, h3⟩
        · rw [fb] at h; cases h
        · rw [fb] at h
          cases h
          refine ⟨h2, fun z => ?_⟩
          rw [z] at h3
          exact absurd (show Str.empty ∈ (["place"] : List Str) from h3) (by decide)
      refine kE (by show firstD _ ≠ _; rw [e.1]; exact e.2) H5 d (S.trans s5) (S.free nd) ?_
      show _ = some (HO.xd [("word", .str (firstD _))])
      rw [e.1]
      exact hd
end
end K2

set_option Elab.async false
set_option linter.all false
set_option maxRecDepth 100000
set_option maxHeartbeats 4000000
namespace K2
open PySem L2 Lw
def dueAsk : List PyData → Str
  | [d1, d2, d3] => if firstD [("place", d1), ("name", d2)] = Str.empty then (if waysOk d3 = true then Str.empty else "ways") else firstD [("place", d1), ("name", d2)]
  | _ => Str.empty
def wordsOf : PyData → List Str
  | .tuple [.str y, .str z] => [y, z]
  | _ => []
theorem words_flat : ∀ ds : List PyData, (ds.map fun d => (wordsOf d).map V.str).flatten = (ds.map wordsOf).flatten.map V.str
  | [] => rfl
  | d :: r => by rw [List.map_cons, List.map_cons, List.flatten_cons, List.flatten_cons, words_flat r, List.map_append]
theorem words_len : ∀ ds : List PyData, (ds.map wordsOf).flatten.length ≤ 2 * ds.length
  | [] => by simp
  | d :: r => by
    have ih := words_len r
    have h : (wordsOf d).length ≤ 2 := by unfold wordsOf; split <;> simp
    rw [List.map_cons, List.flatten_cons, List.length_append, List.length_cons]
    omega
theorem words_short {ds : List PyData} (h : ∀ d ∈ ds, wayOk d = true) : ∀ y ∈ (ds.map wordsOf).flatten, y.length ≤ 4 := by
  intro y hy
  obtain ⟨l, hl, hy⟩ := List.mem_flatten.mp hy
  obtain ⟨d, hd, rfl⟩ := List.mem_map.mp hl
  obtain ⟨u, v, rfl, h1, h2⟩ := wayOk_is (h d hd)
  have hu : nameD (.str u) = true := h1
  have hv : nameD (.str v) = true := h2
  obtain ⟨_, e1, l1⟩ := nameD_is hu
  obtain ⟨_, e2, l2⟩ := nameD_is hv
  cases e1
  cases e2
  have hy' : y ∈ [u, v] := hy
  simp at hy'
  rcases hy' with rfl | rfl
  · exact l1
  · exact l2
theorem ways_is : ∀ {dw : List PyData}, (∀ d ∈ dw, wayOk d = true) → ∃ ws : List (Str × Str), dw = ws.map wayD
  | [], _ => ⟨[], rfl⟩
  | d :: r, h => by
    obtain ⟨y, z, rfl, _, _⟩ := wayOk_is (h d (by simp))
    obtain ⟨ws, e⟩ := ways_is (dw := r) fun q hq => h q (List.mem_cons_of_mem _ hq)
    exact ⟨(y, z) :: ws, by rw [e]; rfl⟩
theorem waysD_all {ds : List PyData} (h : waysD ds = true) : ∀ d ∈ ds, wayOk d = true := by
  rw [waysD] at h
  obtain ⟨h1, _⟩ := Bool.and_eq_true_iff.mp h
  obtain ⟨_, h2⟩ := Bool.and_eq_true_iff.mp h1
  exact List.all_eq_true.mp h2
section
variable {P : Program} {w : World} {K : PySem.W.Frag} {mg : Str → Option Value} {base : Heap} {a : Ad}
theorem scAsk : FnScope ["self", "place", "name", "ways", "way", "word"] ["self", "place", "name", "ways"] (defScope sAsk) := ⟨rfl, rfl, rfl, by decide +kernel, rfl, by decide +kernel, by decide +kernel⟩
theorem Txt.okAsk (T : Txt K mg a) : FnOk P w K mg base (L2.CX P w) 4 a.fAsk a.dAsk ["self", "place", "name", "ways"] (spMk K a.cAsk a.cIr dueAsk 3) := by
  refine T.ask.F.okX scAsk (fun vs H Q E h => ?_) (fun cdv A outer s H vs Q E hr h => ?_)
  · obtain ⟨p, _, xs, _, rfl, e, _⟩ := h
    rw [List.length_cons, e]
    rfl
  · obtain ⟨p, dx, xs, ds, rfl, len, ha, hf, hp, kN, kE⟩ := h
    match xs, ds, ha, len with
    | [x1, x2, x3], [d1, d2, d3], .cons h1 (.cons h2 (.cons h3 .nil)), _ =>
    have hr1 : Room 1 _ := hr.mono (by decide)
    have hr2 : Room 2 _ := hr.mono (by decide)
    refine ⟨_, pss_cons (ps_expr (pe_call T.okX hr rfl T.expect.g T.expect.F.kp T.expect.b .nil (passes_call (takes_of rfl rfl rfl rfl) fun _ _ _ _ z => z) (pa_cons (pe_lst (pa_cons (pe_tup (pa_cons pe_str (pa_cons (pv 1) pa_nil))) (pa_cons (pe_tup (pa_cons pe_str (pa_cons (pv 2) pa_nil))) pa_nil))) pa_nil)))
      (pss_cons (ps_if (pt_not (pt_val (pe_call T.okWays hr rfl T.areWays.g T.areWays.F.kp T.areWays.b .nil pass0 (pa_cons (pv 3) pa_nil))))
        (pss_one (ps_raise rfl (takes_of rfl rfl rfl rfl) (pmk_oex T.ir T.irI T.irT T.okIr hr2 T.irB .nil pass0 rfl T.gIr (pa_cons pe_str pa_nil)))) pss_nil)
      (pss_cons (ps_fld (pv 0) (pv 1) rfl) (pss_cons (ps_fld (pv 0) (pv 2) rfl) (pss_cons (ps_fld (pv 0) (pe_callTy call_tuple_of (by rfl) T.tTuple PyProof.Rows.boot_tuple (pa_cons (pv 3) pa_nil)) rfl)
      (pss_one (ps_expr (pe_cfun (pe_glob (v := .ref a.cRow) (by rfl) T.row.g rfl) T.rowR T.rowI T.okRow hr1 T.row.F.kp T.row.b pass0 (pa_cons (pv 0) (pa_cons (pe_lst (pa_cons (pv 1) (pa_cons pe_str (pa_cons (pv 2)
        (StX.pa_star (pe_lc2 (own := [("way", 4), ("word", 5)]) (vs1 := [5]) (g := gName 4) (tt := tYes) (g1 := gName 5) (tt1 := tYes) (wi1 := iTup K (tVar 4)) (te := tVar 5) (by rfl) scAsk.nd (pi_seq (pv 3)) (blkOk_by (own := [("way", 4), ("word", 5)]) (N := ["self", "place", "name", "ways", "way", "word"]) (sc := defScope sAsk) (by decide +kernel)) (by decide)
          (fun _ _ _ _ _ => pg_name (i := 4) scAsk.nd rfl (Or.inl rfl)) (fun _ _ _ _ _ => pts_nil) (fun _ _ _ _ _ => pi_tup (pv 4)) (fun _ _ _ _ _ => pg_name (i := 5) scAsk.nd rfl (Or.inl rfl)) (fun _ _ _ _ _ => pts_nil) (fun _ _ _ _ _ => pv 5)) pa_nil))))) pa_nil))))))))), ?_⟩
    refine ⟨_, rfl, (by show 2 ≤ sizeLine; decide), fun t1 u1 => ⟨_, rfl, (by show 2 ≤ sizeLine; decide), fun t2 u2 => ⟨(by show 2 ≤ sizeLine; decide), fun l ul => ?_⟩⟩⟩
    generalize e1 : upd H t1 (.tup [.str "place", x1]) = G1 at *
    have s1 : Same H G1 := e1 ▸ same_new u1
    have q1 : SqT K G1 t1 [.str "place", x1] := e1 ▸ SqT.of upd_same
    generalize e2 : upd G1 t2 (.tup [.str "name", x2]) = G2 at *
    have s2 : Same G1 G2 := e2 ▸ same_new u2
    have q2 : SqT K G2 t2 [.str "name", x2] := e2 ▸ SqT.of upd_same
    have sl : Same G2 (upd G2 l (.lst [.ref t1, .ref t2])) := same_new ul
    have S : Same H _ := (s1.trans (s2.trans sl))
    have f1 : fine d1 = true := fineAll_mem hf (by simp)
    have f2 : fine d2 = true := fineAll_mem hf (by simp)
    have f3 : fine d3 = true := fineAll_mem hf (by simp)
    have FB := firstBad_is [⟨t1, "place", x1, d1⟩, ⟨t2, "name", x2, d2⟩]
    refine ⟨l, [⟨t1, "place", x1, d1⟩, ⟨t2, "name", x2, d2⟩], rfl, SqL.of upd_same, fun i hi => ?_, fun fb H5 s5 => ?_, fun w fb H5 d s5 nd hd => ?_⟩
    · simp only [List.mem_cons, List.not_mem_nil, or_false] at hi
      rcases hi with rfl | rfl
      · exact ⟨same_tup (s2.trans sl) q1, dp_same S _ _ h1, f1⟩
      · exact ⟨same_tup sl q2, dp_same S _ _ h2, f2⟩
    · have all := firstBad_none fb
      have S5 := S.trans s5
      have fd : firstD [("place", d1), ("name", d2)] = Str.empty := by
        rcases FB with ⟨_, h⟩ | ⟨w, h, _⟩
        · exact h
        · rw [fb] at h; cases h
      have due : dueAsk [d1, d2, d3] = if waysOk d3 = true then Str.empty else "ways" := if_pos fd
      rw [due] at kN kE
      refine ⟨_, rfl, x3, d3, rfl, dp_same S5 _ _ h3, f3, fun H6 s6 => ⟨_, rfl, ?_⟩⟩
      have S6 := S5.trans s6
      cases wo : waysOk d3 with
      | false =>
        rw [wo, if_neg (by decide)] at kE
        refine iteT ⟨(by show 1 ≤ 1000; decide), fun x hx => ⟨x, _, rfl, upd_same, fun d n1 n2 => ⟨rfl, d, _, upd_same, by rw [upd_ne n2]; exact upd_same, ?_, ?_⟩⟩⟩
        · rwa [upd_ne n2] at n1
        · rw [err_heap hx n1 n2]
          have hd' : H6 d = none := by rwa [upd_ne n2] at n1
          exact kE (by decide) _ d (S6.trans (same_new hd')) (S6.free hd') upd_same
      | true =>
        rw [wo, if_pos rfl] at kN
        refine iteF ?_
        obtain ⟨z1, rfl, rfl, c1⟩ := name_at h1 (all ⟨t1, "place", x1, d1⟩ (by simp))
        obtain ⟨z2, rfl, rfl, c2⟩ := name_at h2 (all ⟨t2, "name", x2, d2⟩ (by simp))
        rcases seq_or h3 f3 with ⟨p3, ws, dw, rfl, hs3, ha3, few3, hf3, es3, ed3⟩ | es3
        · have ew : waysD dw = true := by rcases ed3 with rfl | rfl <;> exact wo
          have el := dpAll_len ha3
          have ok := waysD_all ew
          have hs6 := hs3.same S6
          have ha6 := dpAll_same S6 _ _ ha3
          refine ⟨_, rfl, _, rfl, p, a.cAsk, dx, _, rfl, (S6 _ _ hp), T.ask.cl, T.no _ (by simp) _ (by simp), (by show 0 < 1000; decide), ?_⟩
          refine ⟨_, rfl, _, rfl, p, a.cAsk, dx, _, rfl, upd_same, T.ask.cl, T.no _ (by simp) _ (by simp), (by show 1 < 1000; decide), ?_⟩
          rw [upd_upd]
          dsimp only
          refine seq_cut (fun σ1 H1 => ∃ (H7 : Hp) (wa : Addr), σ1 = [some (.ref p), some (.str z1), some (.str z2), some (.ref p3), none, none] ∧ H1 = upd H7 p (.ins a.cAsk dx (putF "ways" (.ref wa) (putF "name" (.str z2) (putF "place" (.str z1) [])))) ∧ (∀ b o, H6 b = some o → b ≠ p → H7 b = some o) ∧ SqT K H1 wa ws) ?after fun after => ?go
          case go =>
            refine ⟨_, rfl, p3, ws, rfl, ?_⟩
            have hp6 := S6 _ _ hp
            have np : ∀ {H' : Hp} {o : HO}, But p H6 (upd H6 p o) := fun {H' o} b u e ne => by rw [upd_ne ne]; exact e
            rcases hs6 with hs6 | hs6
            · refine .inl ⟨(np (H' := H6)).seq hp6 hs6, fun l7 u7 => ?_⟩
              have n7 : p ≠ l7 := fun z => by rw [← z, upd_same] at u7; cases u7
              refine ⟨_, rfl, p, a.cAsk, dx, putF "name" (.str z2) (putF "place" (.str z1) []), rfl, by rw [upd_ne n7]; exact upd_same, T.ask.cl, T.no _ (by simp) _ (by simp), (by show 2 < 1000; decide), ?_⟩
              refine after _ _ ⟨_, l7, rfl, rfl, fun b o e ne => ?_, SqT.of (by rw [upd_ne n7.symm]; exact upd_same)⟩
              have nb : b ≠ l7 := fun z => by rw [← z, upd_ne ne, e] at u7; cases u7
              rw [upd_ne nb, upd_ne ne]
              exact e
            · refine .inr ⟨(np (H' := H6)).tup hp6 hs6, ?_⟩
              refine ⟨_, rfl, p, a.cAsk, dx, putF "name" (.str z2) (putF "place" (.str z1) []), rfl, upd_same, T.ask.cl, T.no _ (by simp) _ (by simp), (by show 2 < 1000; decide), ?_⟩
              exact after _ _ ⟨_, p3, rfl, rfl, fun b o e ne => by rw [upd_ne ne]; exact e, But.tup hp6 (fun b o e ne => by rw [upd_ne ne, upd_ne ne]; exact e) hs6⟩
          case after =>
            rintro _ _ ⟨H7, wa, rfl, rfl, k7, hwa⟩
            have hp6 := S6 _ _ hp
            have k8 : But p H6 (upd H7 p (.ins a.cAsk dx (putF "ways" (.ref wa) (putF "name" (.str z2) (putF "place" (.str z1) []))))) := fun b o e ne => by rw [upd_ne ne]; exact k7 b o e ne
            refine ⟨rfl, _, rfl, _, rfl, _, rfl, ?_⟩
            refine seq_run rfl (k8.sqA hp6 hs6) fun J hJ D un => lc2_flat hJ un (dw.map fun d => (wordsOf d).map V.str) (by rw [List.length_map, el]) (fun j x hx => ?_) ?_ fun H9 s9 h9 => ?_
            · obtain ⟨d, ed, hd⟩ := dpAll_at ha6 hx
              obtain ⟨y, z, rfl, _, _⟩ := wayOk_is (ok d (List.mem_of_getElem? ed))
              cases hd with
              | @tup p2 zs _ hs2 ha2 =>
                cases ha2 with
                | cons hy hr =>
                  cases hy
                  cases hr with
                  | cons hz hn =>
                    cases hz
                    cases hn
                    exact ⟨p2, _, rfl, by rw [List.getElem?_map, ed]; rfl, k8.tup hp6 hs2⟩
            · rw [words_flat, List.length_map]
              have := words_len dw
              omega
            · rw [words_flat] at h9
              have lw := words_len dw
              refine ⟨D, _, rfl, .inr (SqL.of h9), ?_⟩
              refine ⟨?_, fun l2 ul2 => ?_⟩
              · rw [List.append_nil]
                show (List.map V.str _).length + 1 + 1 + 1 ≤ _
                rw [List.length_map]
                exact Nat.le_trans (show _ ≤ 10000 by omega) (by decide)
              · rw [List.append_nil] at *
                have P9 := s9 p _ upd_same
                have np : p ≠ l2 := fun z => by rw [← z, P9] at ul2; cases ul2
                refine ⟨p, l2, a.cAsk, dx, _, z1 :: "ask" :: z2 :: (dw.map wordsOf).flatten, rfl, (by rw [upd_ne np]; exact P9), T.ask.cl, T.no _ (by simp) _ (by simp), (by show 3 < 900; decide), SqL.of upd_same, ?_, ?_, ?_⟩
                · rw [List.length_cons, List.length_cons, List.length_cons]
                  omega
                · intro y hy
                  rcases List.mem_cons.mp hy with rfl | hy
                  · exact c1
                  rcases List.mem_cons.mp hy with rfl | hy
                  · decide
                  rcases List.mem_cons.mp hy with rfl | hy
                  · exact c2
                  exact words_short ok y hy
                · obtain ⟨w0, hw0⟩ := ways_is ok
                  have P10 : (upd H9 l2 (.lst (V.str z1 :: .str "ask" :: .str z2 :: (dw.map wordsOf).flatten.map V.str))) p = some (.ins a.cAsk dx (putF "ways" (.ref wa) (putF "name" (.str z2) (putF "place" (.str z1) [])))) := by rw [upd_ne np]; exact P9
                  have s10 : Same H9 (upd H9 l2 (.lst (V.str z1 :: .str "ask" :: .str z2 :: (dw.map wordsOf).flatten.map V.str))) := same_new ul2
                  have kB : ∀ {o : HO}, But p (upd H9 l2 (.lst (V.str z1 :: .str "ask" :: .str z2 :: (dw.map wordsOf).flatten.map V.str))) (upd (upd H9 l2 (.lst (V.str z1 :: .str "ask" :: .str z2 :: (dw.map wordsOf).flatten.map V.str))) p o) := fun {o} b u e ne => by rw [upd_ne ne]; exact e
                  refine kN rfl _ _ (.ask z1 z2 w0) (fun b o e ne => ?_) upd_same ?_ ?_
                  · have k9 := s9 _ _ (k8 b o (S6 _ _ e) ne)
                    have nb : b ≠ l2 := fun z => by rw [← z, k9] at ul2; cases ul2
                    rw [upd_ne ne, upd_ne nb]
                    exact k9
                  · rcases ed3 with rfl | rfl
                    · exact .inl (by rw [hw0])
                    · exact .inr (by rw [hw0])
                  · have ha9 : DpAll K (upd H7 p (.ins a.cAsk dx (putF "ways" (.ref wa) (putF "name" (.str z2) (putF "place" (.str z1) []))))) ws dw := dpAll_but hp6 k8 _ _ ha6
                    refine ⟨by rw [lookup_putF, if_neg (by decide), lookup_putF, if_neg (by decide), lookup_putF, if_neg (by decide), lookup_putF, if_pos rfl], by rw [lookup_putF, if_neg (by decide), lookup_putF, if_neg (by decide), lookup_putF, if_pos rfl],
                      ⟨wa, by rw [lookup_putF, if_neg (by decide), lookup_putF, if_pos rfl], ?_⟩, ?_⟩
                    · rw [← hw0]
                      exact .tup (kB.tup P10 (same_tup (s9.trans s10) hwa)) (dpAll_but P10 kB _ _ (dpAll_same (s9.trans s10) _ _ ha9))
                    · rw [lookup_putF, if_pos rfl, hw0, List.map_map]
                      rfl
        · exfalso
          cases d3 with
          | list _ => cases es3
          | tuple _ => cases es3
          | _ => cases wo
    · have e : firstD [("place", d1), ("name", d2)] = w ∧ w ≠ Str.empty := by
        rcases FB with ⟨h, _⟩ | ⟨w2, h, h2, h3⟩
        · rw [fb] at h; cases h
        · rw [fb] at h
          cases h
          refine ⟨h2, fun z => ?_⟩
          rw [z] at h3
          exact absurd (show Str.empty ∈ (["place", "name"] : List Str) from h3) (by decide)
      have due : dueAsk [d1, d2, d3] = w := by
        show (if firstD [("place", d1), ("name", d2)] = Str.empty then _ else firstD [("place", d1), ("name", d2)]) = w
        rw [e.1, if_neg e.2]
      rw [due] at kE
      exact kE e.2 H5 d (S.trans s5) (S.free nd) hd
end
end K2

set_option Elab.async false
set_option linter.all false
set_option maxRecDepth 100000
set_option maxHeartbeats 4000000
namespace Lw
open PySem PySem.Spec PyProof.Rows L2
/-- its words are short, its ways not many -/
def Short (r : Row0) : Prop := (∀ z ∈ wordsR r, z.length ≤ 4) ∧ (match r with | .ask _ _ ws => ws.length ≤ 1000 | _ => True)
theorem strs_of {K : PySem.W.Frag} {H : Hp} : ∀ {vs : List V} {zs : List Str}, DpAll K H vs (zs.map PyData.str) → vs = zs.map V.str
  | _, [], h => by cases h; rfl
  | _, z :: zs, h => by
    cases h with
    | cons h1 h2 =>
      cases h1
      rw [strs_of h2]
      rfl
theorem sum4' : ∀ {ys : List Str}, (∀ y ∈ ys, y.length ≤ 4) → (ys.map (·.length)).sum ≤ 4 * ys.length
  | [], _ => by simp
  | y :: r, h => by
    have ih := sum4' (ys := r) fun z hz => h z (List.mem_cons_of_mem _ hz)
    have h1 := h y List.mem_cons_self
    rw [List.map_cons, List.sum_cons, List.length_cons]
    omega
/-- a note, a gate, an end: words alone -/
theorem plain_or (r : Row0) : (∃ (k p : Str) (rest : List Str), k ≠ "ask" ∧ lineD r = .tuple ((k :: p :: rest).map PyData.str) ∧ wordsR r = p :: k :: rest ∧ rest.length ≤ 3) ∨ ∃ p n ws, r = .ask p n ws := by
  cases r with
  | ask p n ws => exact .inr ⟨p, n, ws, rfl⟩
  | note p w t => exact .inl ⟨"note", p, [w, t], by decide, rfl, rfl, by simp⟩
  | gate p m n e => exact .inl ⟨"mark", p, [m, n, e], by decide, rfl, rfl, by simp⟩
  | end_ p => exact .inl ⟨"end", p, [], by decide, rfl, rfl, by simp⟩
def spText (K : PySem.W.Frag) : Sp := fun vs H Q _ => ∃ (t : Addr) (r : Row0), vs = [.ref t] ∧ Dp K H (.ref t) (lineD r) ∧ Short r ∧ ∀ H', Same H H' → Q (.str (textR r)) H'
end Lw
namespace K2
open PySem L2 Lw
abbrev sText : Stmt := top 26
section
variable {P : Program} {w : World} {K : PySem.W.Frag} {mg : Str → Option Value} {base : Heap}
theorem scText : FnScope ["_law_line_here", "_law_found", "_law_pair"] ["_law_line_here"] (defScope sText) := ⟨rfl, rfl, rfl, by decide +kernel, rfl, by decide +kernel, by decide +kernel⟩
theorem ok_text {f : Addr} {fd : FuncData} (F : Fun K "_law_line_text" "_law_line_text" sText f fd) (tL : mg "list" = none) : FnOk P w K mg base CX0 1 f fd ["_law_line_here"] (spText K) := by
  refine F.ok scText (fun vs H Q E h => ?_) (fun cdv A outer s H vs Q E hr h => ?_)
  · obtain ⟨t, r, rfl, _⟩ := h
    rfl
  · obtain ⟨t, r, rfl, hd, sh, fin⟩ := h
    refine ⟨_, pss_cons (ps_if (pt_cmpR op_ne (pe_ix ix_tup (pv 0) pe_int (fun _ _ => rfl)) pe_str (nomark _))
        (pss_one (ps_ret (pe_join pe_str (pe_op op_cat (pe_lst (pa_cons (pe_ix ix_tup (pv 0) pe_int (fun _ _ => rfl)) (pa_cons (pe_ix ix_tup (pv 0) pe_int (fun _ _ => rfl)) pa_nil))) (pe_callTy call_list_of (by rfl) tL PyProof.Rows.boot_list (pa_cons (pe_slice sl_tup (pv 0) (po_some pe_int) po_none) pa_nil)))))) pss_nil)
      (pss_cons (ps_set (i := 1) scText.nd rfl (Or.inl rfl) (pe_lst (pa_cons (pe_ix ix_tup (pv 0) pe_int (fun _ _ => rfl)) (pa_cons pe_str (pa_cons (pe_ix ix_tup (pv 0) pe_int (fun _ _ => rfl)) pa_nil)))))
      (pss_cons (ps_for PassesOwn.never rfl (pi_tup (pe_ix ix_tup (pv 0) pe_int (fun _ _ => rfl))) (pg_name (i := 2) scText.nd rfl (Or.inl rfl))
        (pss_one (ps_expr (pe_bm PySem.F.plainAttrs_list PySem.F.slot_list_extend PySem.F.type_list_extend mt_extend (pv 1) (pa_cons (pe_callTy call_list_of (by rfl) tL PyProof.Rows.boot_list (pa_cons (pv 2) pa_nil)) pa_nil)))))
      (pss_one (ps_ret (pe_join pe_str (pv 1)))))), ?_⟩
    rcases plain_or r with ⟨k, p, rest, nk, el, ew, few⟩ | ⟨p, n, ws, rfl⟩
    · rw [el] at hd
      cases hd with
      | @tup _ xs _ hs ha =>
        have ex := strs_of ha
        subst ex
        refine ⟨_, rfl, t, _, 0, _, rfl, rfl, hs, atI_nat (j := 0) rfl, rfl, _, rfl, ?_⟩
        rw [show (!decide (V.str k = V.str "ask")) = true from by simpa using nk]
        refine iteT ⟨⟨_, rfl⟩, _, rfl, t, _, 1, _, rfl, rfl, hs, atI_nat (j := 1) rfl, _, rfl, t, _, 0, _, rfl, rfl, hs, atI_nat (j := 0) rfl, (by show 2 ≤ sizeLine; decide), fun l1 u1 => ?_⟩
        have s1 : Same H (upd H l1 (.lst [.str p, .str k])) := same_new u1
        refine ⟨_, rfl, 2, rfl, t, _, rfl, same_tup s1 hs, fun z => ?_, fun s2 us => ?_⟩
        · have e : HT.sIx ((k :: p :: rest).map V.str).length 0 (some 2) = 0 := z.1
          have e2 : HT.sIx ((k :: p :: rest).map V.str).length 0 (some 2) = min 2 ((k :: p :: rest).map V.str).length := rfl
          rw [e2] at e
          simp at e
        rw [cut_drop (by decide)]
        refine ⟨s2, _, rfl, .inr (SqT.of upd_same), fun l2 u2 => ?_⟩
        have s3 : Same (upd H l1 (.lst [.str p, .str k])) (upd (upd H l1 (.lst [.str p, .str k])) s2 (.tup (((k :: p :: rest).map V.str).drop (2 : Int).toNat))) := same_new us
        have s4 := same_new (o := .lst (((k :: p :: rest).map V.str).drop (2 : Int).toNat)) u2
        refine ⟨l1, l2, _, _, rfl, rfl, s4 _ _ (s3 _ _ upd_same), upd_same, Nat.le_trans (show _ ≤ 100 by simp; omega) (by decide), fun l3 u3 => ?_⟩
        have s5 := same_new (o := .lst ([V.str p, .str k] ++ ((k :: p :: rest).map V.str).drop (2 : Int).toNat)) u3
        refine ⟨_, l3, p :: k :: rest, rfl, rfl, .inl (SqL.of upd_same), ?_, ?_⟩
        · have z := sum4' (ys := p :: k :: rest) (fun y hy => sh.1 y (by rw [ew]; exact hy))
          have e1 : (p :: k :: rest).length ≤ 5 := by simp; omega
          show _ + (p :: k :: rest).length * 1 ≤ _
          omega
        · have z := fin _ (s1.trans (s3.trans (s4.trans s5)))
          rw [textR, ew] at z
          exact z
    · cases hd with
      | @tup _ xs _ hs ha =>
        cases ha with
        | cons h0 ha =>
        cases ha with
        | cons h1 ha =>
        cases ha with
        | cons h2 ha =>
        cases ha with
        | cons h3 ha =>
        cases ha
        cases h0
        cases h1
        cases h2
        cases h3 with
        | @tup wt ps _ hw hps =>
        refine ⟨_, rfl, t, _, 0, _, rfl, rfl, hs, atI_nat (j := 0) rfl, rfl, _, rfl, ?_⟩
        rw [show (!decide (V.str "ask" = V.str "ask")) = false from rfl]
        refine iteF ⟨_, rfl, t, _, 1, _, rfl, rfl, hs, atI_nat (j := 1) rfl, _, rfl, t, _, 2, _, rfl, rfl, hs, atI_nat (j := 2) rfl, (by show 3 ≤ sizeLine; decide), fun l u => ?_⟩
        have s1 : Same H (upd H l (.lst [.str p, .str "ask", .str n])) := same_new u
        have wl : ws.length ≤ 1000 := sh.2
        have plen : ps.length = ws.length := by rw [dpAll_len hps, List.length_map]
        have tot : ∀ i, ((ws.take i).map fun w => [w.1, w.2]).flatten.length ≤ 2000 := fun i => by
          have e : ∀ zs : List (Str × Str), (zs.map fun w => [w.1, w.2]).flatten.length = 2 * zs.length := fun zs => by
            induction zs with
            | nil => rfl
            | cons z zs ih => rw [List.map_cons, List.flatten_cons, List.length_append, ih]; simp; omega
          rw [e, List.length_take]
          omega
        refine ⟨_, rfl, t, _, 3, _, rfl, rfl, same_tup s1 hs, atI_nat (j := 3) rfl, wt, rfl, ⟨_, same_tup s1 hw⟩, for_tup (K := K) (a := wt) (xs := ps) (fun i σ1 H1 => ∃ v, σ1 = [some (.ref t), some (.ref l), v] ∧ Same H H1 ∧ H1 l = some (.lst ((p :: "ask" :: n :: ((ws.take i).map fun w => [w.1, w.2]).flatten).map V.str)))
          ⟨_, rfl, s1, by rw [upd_same]; simp⟩ (fun i σ1 H1 _ ⟨_, _, s, _⟩ => same_tup s hw) ?_ ?_⟩
        · rintro i x σ1 H1 hx ⟨v, rfl, s2, hl⟩
          obtain ⟨pd, epd, hpd⟩ := dpAll_at hps hx
          rw [List.getElem?_map] at epd
          obtain ⟨w1, ew, rfl⟩ := Option.map_eq_some_iff.mp epd
          cases hpd with
          | @tup q ys _ hq hys =>
            have ey := strs_of (zs := [w1.1, w1.2]) hys
            subst ey
            refine ⟨_, rfl, .inl ⟨rfl, _, SqL.of hl⟩, _, rfl, q, _, rfl, .inr (same_tup s2 hq), fun m um => ?_⟩
            have ne : l ≠ m := fun z => by rw [← z, hl] at um; cases um
            have tk : ((ws.take (i + 1)).map fun w => [w.1, w.2]).flatten = ((ws.take i).map fun w => [w.1, w.2]).flatten ++ [w1.1, w1.2] := by
              rw [List.take_add_one, ew, List.map_append, List.flatten_append]
              simp
            refine ⟨l, m, _, _, rfl, rfl, by rw [upd_ne ne]; exact hl, upd_same, ?_, ?_⟩
            · have := tot i
              exact Nat.le_trans (show _ ≤ 3000 by rw [List.length_map, List.length_map]; simp only [List.length_cons, List.length_nil]; omega) (by decide)
            · refine ⟨_, rfl, fun b o e => ?_, ?_⟩
              · rw [upd_ne (ne_of_none e u), upd_ne (ne_of_none (s2 _ _ e) um)]
                exact s2 _ _ e
              · rw [upd_same, tk, ← List.map_append]
                simp
        · rintro σ1 H1 ⟨v, rfl, s2, hl⟩
          rw [plen, List.take_length] at hl
          refine ⟨⟨_, rfl⟩, _, rfl, _, l, wordsR (.ask p n ws), rfl, rfl, .inl (SqL.of hl), ?_, fin _ s2⟩
          have z := sum4' sh.1
          have := tot ws.length
          rw [List.take_length] at this
          have e1 : (wordsR (.ask p n ws)).length ≤ 2003 := by
            show (((ws.map fun w => [w.1, w.2]).flatten).length + 1 + 1 + 1) ≤ 2003
            omega
          show _ + (wordsR (.ask p n ws)).length * 1 ≤ _
          omega
end
end K2

set_option Elab.async false
set_option linter.all false
set_option maxRecDepth 100000
set_option maxHeartbeats 4000000
namespace K2
open PySem L2 Lw
abbrev sMade : Stmt := top 28
/-- the arguments of a row's class; what is due of them -/
def argsD : Row0 → List PyData
  | .ask p n ws => [.str p, .str n, .tuple (ws.map wayD)]
  | .note p w t => [.str p, .str w, .str t]
  | .gate p m n e => [.str p, .str m, .str n, .str e]
  | .end_ p => [.str p]
def dueR : Row0 → Str
  | .ask p n ws => dueAsk (argsD (.ask p n ws))
  | .note p w t => dueNote (argsD (.note p w t))
  | .gate p m n e => dueGate (argsD (.gate p m n e))
  | .end_ p => dueEnd (argsD (.end_ p))
def clsR (a : Ad) : Row0 → Addr
  | .ask _ _ _ => a.cAsk
  | .note _ _ _ => a.cNote
  | .gate _ _ _ _ => a.cGate
  | .end_ _ => a.cEnd
def spMake (K : PySem.W.Frag) (a : Ad) : Sp := fun vs H Q _ => ∃ (t : Addr) (r : Row0), vs = [.ref t] ∧ Dp K H (.ref t) (lineD r) ∧ dueR r = Str.empty ∧ fineAll (argsD r) = true ∧
  ∀ (H' : Hp) (x dx : Addr) (fs : List (Str × V)), Same H H' → H x = none → H' x = some (.ins (clsR a r) dx fs) → fieldsOk K H' fs r → Q (.ref x) H'
section
variable {P : Program} {w : World} {K : PySem.W.Frag} {mg : Str → Option Value} {base : Heap} {a : Ad}
theorem scMade : FnScope ["_law_line_here"] ["_law_line_here"] (defScope sMade) := ⟨rfl, rfl, rfl, by decide +kernel, rfl, by decide +kernel, by decide +kernel⟩
theorem ways_inj : ∀ {us ws : List (Str × Str)}, us.map wayD = ws.map wayD → us = ws
  | [], [], _ => rfl
  | [], _ :: _, h => by simp at h
  | _ :: _, [], h => by simp at h
  | (a1, a2) :: us, (b1, b2) :: ws, h => by
    rw [List.map_cons, List.map_cons] at h
    obtain ⟨h1, h2⟩ := List.cons.inj h
    have h1' : PyData.tuple [.str a1, .str a2] = .tuple [.str b1, .str b2] := h1
    simp at h1'
    obtain ⟨rfl, rfl⟩ := h1'
    rw [ways_inj h2]
theorem made_is {r r' : Row0} (m : Made (argsD r) r') : r' = r := by
  cases r with
  | ask p n ws =>
    cases r' with
    | ask p' n' ws' =>
      rcases m with h | h
      · simp [argsD] at h
      · have h2 : [PyData.str p, .str n, .tuple (ws.map wayD)] = [.str p', .str n', .tuple (ws'.map wayD)] := h
        simp only [List.cons.injEq, PyData.str.injEq, PyData.tuple.injEq, and_true] at h2
        obtain ⟨e1, e2, e3⟩ := h2
        rw [e1, e2, ways_inj e3]
    | note p' w' t' => have h : [PyData.str p, .str n, .tuple (ws.map wayD)] = [.str p', .str w', .str t'] := m; simp at h
    | gate p' m' n' e' => have h : [PyData.str p, .str n, .tuple (ws.map wayD)] = [.str p', .str m', .str n', .str e'] := m; simp at h
    | end_ p' => have h : [PyData.str p, .str n, .tuple (ws.map wayD)] = [.str p'] := m; simp at h
  | note p w t =>
    cases r' with
    | ask p' n' ws' => rcases m with h | h <;> simp [argsD] at h
    | note p' w' t' =>
      have h : [PyData.str p, .str w, .str t] = [.str p', .str w', .str t'] := m
      simp at h
      obtain ⟨rfl, rfl, rfl⟩ := h
      rfl
    | gate p' m' n' e' => have h : [PyData.str p, .str w, .str t] = [.str p', .str m', .str n', .str e'] := m; simp at h
    | end_ p' => have h : [PyData.str p, .str w, .str t] = [.str p'] := m; simp at h
  | gate p m0 n e =>
    cases r' with
    | ask p' n' ws' => rcases m with h | h <;> simp [argsD] at h
    | note p' w' t' => have h : [PyData.str p, .str m0, .str n, .str e] = [.str p', .str w', .str t'] := m; simp at h
    | gate p' m' n' e' =>
      have h : [PyData.str p, .str m0, .str n, .str e] = [.str p', .str m', .str n', .str e'] := m
      simp at h
      obtain ⟨rfl, rfl, rfl, rfl⟩ := h
      rfl
    | end_ p' => have h : [PyData.str p, .str m0, .str n, .str e] = [.str p'] := m; simp at h
  | end_ p =>
    cases r' with
    | ask p' n' ws' => rcases m with h | h <;> simp [argsD] at h
    | note p' w' t' => have h : [PyData.str p] = [.str p', .str w', .str t'] := m; simp at h
    | gate p' m' n' e' => have h : [PyData.str p] = [.str p', .str m', .str n', .str e'] := m; simp at h
    | end_ p' =>
      have h : [PyData.str p] = [.str p'] := m
      simp at h
      subst h
      rfl
theorem make_case {H : Hp} {C Cir : Addr} {due : List PyData → Str} {n : Nat} {ta : TA} {σ : L2.St} {xs : List V} {r : Row0} {Q : VK} (hta : ∀ Q, Q xs H → ta σ H Q) (ha : DpAll K H xs (argsD r)) (hf : fineAll (argsD r) = true) (len : xs.length = n) (hd : due (argsD r) = Str.empty)
    (fin : ∀ (H' : Hp) (x dx : Addr) (fs : List (Str × V)), Same H H' → H x = none → H' x = some (.ins C dx fs) → fieldsOk K H' fs r → Q (.ref x) H') : tMake C (spMk K C Cir due n) [] E0 ta σ H Q := by
  refine hta _ fun x dx nx nd ne => ?_
  have s1 : Same H (upd H dx (.own x)) := same_new nd
  have nx' : (upd H dx (.own x)) x = none := by rw [upd_ne ne.symm]; exact nx
  have s2 : Same (upd H dx (.own x)) (upd (upd H dx (.own x)) x (.ins C dx [])) := same_new nx'
  refine ⟨x, dx, xs, argsD r, by rw [List.append_nil], len, dpAll_same (s1.trans s2) _ _ ha, hf, upd_same, fun e H' fs r' kp hi md fo => ⟨rfl, ?_⟩, fun e => absurd hd e⟩
  have er := made_is md
  subst er
  exact fin H' x dx fs (Same.made nx nd kp) nx hi fo
theorem Txt.okMade (T : Txt K mg a) {f : Addr} {fd : FuncData} (F : Fun K "_law_line" "_law_line" sMade f fd) : FnOk P w K mg base CX0 6 f fd ["_law_line_here"] (spMake K a) := by
  refine F.ok scMade (fun vs H Q E h => ?_) (fun cdv A outer s H vs Q E hr h => ?_)
  · obtain ⟨t, r, rfl, _⟩ := h
    rfl
  · obtain ⟨t, r, rfl, hd, due, hf, fin⟩ := h
    refine ⟨_, pss_cons (ps_if (pt_cmpR op_eq (pe_ix ix_tup (pv 0) pe_int (fun _ _ => rfl)) pe_str (nomark _))
        (pss_one (ps_ret (pe_make T.ask.mkd T.okAsk hr rfl T.ask.g T.ask.b .nil passL (pa_cons (pe_ix ix_tup (pv 0) pe_int (fun _ _ => rfl)) (pa_cons (pe_ix ix_tup (pv 0) pe_int (fun _ _ => rfl)) (pa_cons (pe_ix ix_tup (pv 0) pe_int (fun _ _ => rfl)) pa_nil)))))) pss_nil)
      (pss_cons (ps_if (pt_cmpR op_eq (pe_ix ix_tup (pv 0) pe_int (fun _ _ => rfl)) pe_str (nomark _))
        (pss_one (ps_ret (pe_make T.note.mkd T.okNote hr rfl T.note.g T.note.b .nil passL (pa_cons (pe_ix ix_tup (pv 0) pe_int (fun _ _ => rfl)) (pa_cons (pe_ix ix_tup (pv 0) pe_int (fun _ _ => rfl)) (pa_cons (pe_ix ix_tup (pv 0) pe_int (fun _ _ => rfl)) pa_nil)))))) pss_nil)
      (pss_one (ps_ret (pe_ifExp (pt_cmpR op_eq (pe_ix ix_tup (pv 0) pe_int (fun _ _ => rfl)) pe_str (nomark _))
        (pe_make T.gate.mkd T.okGate hr rfl T.gate.g T.gate.b .nil passL (pa_cons (pe_ix ix_tup (pv 0) pe_int (fun _ _ => rfl)) (pa_cons (pe_ix ix_tup (pv 0) pe_int (fun _ _ => rfl)) (pa_cons (pe_ix ix_tup (pv 0) pe_int (fun _ _ => rfl)) (pa_cons (pe_ix ix_tup (pv 0) pe_int (fun _ _ => rfl)) pa_nil)))))
        (pe_make T.end_.mkd T.okEnd hr rfl T.end_.g T.end_.b .nil passL (pa_cons (pe_ix ix_tup (pv 0) pe_int (fun _ _ => rfl)) pa_nil)))))), ?_⟩
    cases r with
    | ask p n ws =>
      cases hd with
      | @tup _ xs _ hs ha =>
      cases ha with
      | cons h0 ha =>
      cases ha with
      | @cons x1 _ _ _ h1 ha =>
      cases ha with
      | @cons x2 _ _ _ h2 ha =>
      cases ha with
      | @cons x3 _ _ _ h3 ha =>
      cases ha
      cases h0
      refine ⟨_, rfl, t, _, 0, _, rfl, rfl, hs, atI_nat (j := 0) rfl, rfl, _, rfl, ?_⟩
      rw [show decide (V.str "ask" = V.str "ask") = true from rfl]
      exact iteT (make_case (r := .ask p n ws) (fun Q q => ⟨_, rfl, t, _, 1, _, rfl, rfl, hs, atI_nat (j := 1) rfl, _, rfl, t, _, 2, _, rfl, rfl, hs, atI_nat (j := 2) rfl, _, rfl, t, _, 3, _, rfl, rfl, hs, atI_nat (j := 3) rfl, q⟩) (.cons h1 (.cons h2 (.cons h3 .nil))) hf rfl due fin)
    | note p w t' =>
      cases hd with
      | @tup _ xs _ hs ha =>
      cases ha with
      | cons h0 ha =>
      cases ha with
      | @cons x1 _ _ _ h1 ha =>
      cases ha with
      | @cons x2 _ _ _ h2 ha =>
      cases ha with
      | @cons x3 _ _ _ h3 ha =>
      cases ha
      cases h0
      refine ⟨_, rfl, t, _, 0, _, rfl, rfl, hs, atI_nat (j := 0) rfl, rfl, _, rfl, ?_⟩
      rw [show decide (V.str "note" = V.str "ask") = false from rfl]
      refine iteF ⟨_, rfl, t, _, 0, _, rfl, rfl, hs, atI_nat (j := 0) rfl, rfl, _, rfl, ?_⟩
      rw [show decide (V.str "note" = V.str "note") = true from rfl]
      exact iteT (make_case (r := .note p w t') (fun Q q => ⟨_, rfl, t, _, 1, _, rfl, rfl, hs, atI_nat (j := 1) rfl, _, rfl, t, _, 2, _, rfl, rfl, hs, atI_nat (j := 2) rfl, _, rfl, t, _, 3, _, rfl, rfl, hs, atI_nat (j := 3) rfl, q⟩) (.cons h1 (.cons h2 (.cons h3 .nil))) hf rfl due fin)
    | gate p m n e =>
      cases hd with
      | @tup _ xs _ hs ha =>
      cases ha with
      | cons h0 ha =>
      cases ha with
      | @cons x1 _ _ _ h1 ha =>
      cases ha with
      | @cons x2 _ _ _ h2 ha =>
      cases ha with
      | @cons x3 _ _ _ h3 ha =>
      cases ha with
      | @cons x4 _ _ _ h4 ha =>
      cases ha
      cases h0
      refine ⟨_, rfl, t, _, 0, _, rfl, rfl, hs, atI_nat (j := 0) rfl, rfl, _, rfl, ?_⟩
      rw [show decide (V.str "mark" = V.str "ask") = false from rfl]
      refine iteF ⟨_, rfl, t, _, 0, _, rfl, rfl, hs, atI_nat (j := 0) rfl, rfl, _, rfl, ?_⟩
      rw [show decide (V.str "mark" = V.str "note") = false from rfl]
      refine iteF ⟨_, rfl, t, _, 0, _, rfl, rfl, hs, atI_nat (j := 0) rfl, rfl, _, rfl, ?_⟩
      rw [show decide (V.str "mark" = V.str "mark") = true from rfl]
      exact iteT (make_case (r := .gate p m n e) (fun Q q => ⟨_, rfl, t, _, 1, _, rfl, rfl, hs, atI_nat (j := 1) rfl, _, rfl, t, _, 2, _, rfl, rfl, hs, atI_nat (j := 2) rfl, _, rfl, t, _, 3, _, rfl, rfl, hs, atI_nat (j := 3) rfl, _, rfl, t, _, 4, _, rfl, rfl, hs, atI_nat (j := 4) rfl, q⟩) (.cons h1 (.cons h2 (.cons h3 (.cons h4 .nil)))) hf rfl due fin)
    | end_ p =>
      cases hd with
      | @tup _ xs _ hs ha =>
      cases ha with
      | cons h0 ha =>
      cases ha with
      | @cons x1 _ _ _ h1 ha =>
      cases ha
      cases h0
      refine ⟨_, rfl, t, _, 0, _, rfl, rfl, hs, atI_nat (j := 0) rfl, rfl, _, rfl, ?_⟩
      rw [show decide (V.str "end" = V.str "ask") = false from rfl]
      refine iteF ⟨_, rfl, t, _, 0, _, rfl, rfl, hs, atI_nat (j := 0) rfl, rfl, _, rfl, ?_⟩
      rw [show decide (V.str "end" = V.str "note") = false from rfl]
      refine iteF ⟨_, rfl, t, _, 0, _, rfl, rfl, hs, atI_nat (j := 0) rfl, rfl, _, rfl, ?_⟩
      rw [show decide (V.str "end" = V.str "mark") = false from rfl]
      exact iteF (make_case (r := .end_ p) (fun Q q => ⟨_, rfl, t, _, 1, _, rfl, rfl, hs, atI_nat (j := 1) rfl, q⟩) (.cons h1 .nil) hf rfl due fin)
end
end K2

set_option Elab.async false
set_option linter.all false
set_option maxRecDepth 100000
set_option maxHeartbeats 4000000
namespace K2
open PySem L2 Lw
/-! ### rows compared, told -/
abbrev sEq : Stmt := inClass (top 9) 4
abbrev sStr : Stmt := inClass (top 9) 5
def rowCs (a : Ad) : List Addr := [a.cAsk, a.cNote, a.cGate, a.cEnd]
/-- what more the top has written of the rows' classes -/
structure RowF (K : PySem.W.Frag) (a : Ad) (fEq fStr : Addr) (dEq dStr : FuncData) : Prop where
  eqF : Fun K "__eq__" "Row.__eq__" sEq fEq dEq
  eqB : Binds K dEq ["self", "other"] []
  eqI : PySem.W.isFn K (.ref fEq) = true
  strF : Fun K "__str__" "Row.__str__" sStr fStr dStr
  strB : Binds K dStr ["self"] []
  cls : ∀ C ∈ rowCs a, Cls K C
  isA : ∀ C ∈ rowCs a, PySem.W.findIn K (.ref C) "__class__" = some (some (.builtin "object.__class__"))
  get : PySem.W.specialIn K (.builtin "object.__class__") "__get__" = some (some (.builtin "getset_descriptor.__get__"))
  tak : PySem.W.takesIn K (.builtin "object.__class__") = some true
  obj : ∀ C ∈ rowCs a, PySem.W.mroIn K C (.type "object") = some true
  row : ∀ C ∈ rowCs a, PySem.W.kitOne K (.ref C) (.ref a.cRow) = some true
  noRow : ∀ T ∈ (["tuple", "str", "int"] : List String), PySem.W.kitOne K (.type T) (.ref a.cRow) = some false
  eqAt : ∀ C ∈ rowCs a, PySem.W.findIn K (.ref C) "__eq__" = some (some (.ref fEq))
  neAt : ∀ C ∈ rowCs a, PySem.W.findIn K (.ref C) "__ne__" = some (some (.builtin "object.__ne__"))
  first : ∀ C ∈ rowCs a, ∀ D ∈ rowCs a, PySem.W.notFirst K C (.ref D) = true
  firstT : ∀ C ∈ rowCs a, ∀ T ∈ (["tuple", "str", "int"] : List String), PySem.W.notFirst K C (.type T) = true
def spEqR (K : PySem.W.Frag) (a : Ad) : Sp := fun vs H Q _ => ∃ (p C dx : Addr) (fs : List (Str × V)) (z : Str) (y : V), vs = [.ref p, y] ∧ H p = some (.ins C dx fs) ∧ C ∈ rowCs a ∧ fs.lookup ("_text" : Str) = some (.str z) ∧
  ((∃ (q D dy : Addr) (gs : List (Str × V)) (z' : Str), y = .ref q ∧ H q = some (.ins D dy gs) ∧ D ∈ rowCs a ∧ gs.lookup ("_text" : Str) = some (.str z') ∧ Q (.bl (decide (z = z'))) H) ∨
    ∃ T, T ∈ (["tuple", "str", "int"] : List String) ∧ TyX K H y (.type T) ∧ Q (.bl false) H)
def spStrR (K : PySem.W.Frag) (a : Ad) : Sp := fun vs H Q _ => ∃ (p C dx : Addr) (fs : List (Str × V)) (z : Str), vs = [.ref p] ∧ H p = some (.ins C dx fs) ∧ C ∈ rowCs a ∧ fs.lookup ("_text" : Str) = some (.str z) ∧ Q (.str z) H
section
variable {P : Program} {w : World} {K : PySem.W.Frag} {mg : Str → Option Value} {base : Heap} {a : Ad} {fEq fStr : Addr} {dEq dStr : FuncData}
theorem RowF.ty (R : RowF K a fEq fStr dEq dStr) {H : Hp} {p C dx : Addr} {fs : List (Str × V)} (hC : C ∈ rowCs a) (h : H p = some (.ins C dx fs)) : TyX K H (.ref p) (.ref C) := .base (.ins h (R.cls C hC) (R.isA C hC) R.get R.tak (R.obj C hC))
theorem scEq : FnScope ["self", "other"] ["self", "other"] (defScope sEq) := ⟨rfl, rfl, rfl, by decide +kernel, rfl, by decide +kernel, by decide +kernel⟩
theorem scStr : FnScope ["self"] ["self"] (defScope sStr) := ⟨rfl, rfl, rfl, by decide +kernel, rfl, by decide +kernel, by decide +kernel⟩
theorem RowF.okEq (R : RowF K a fEq fStr dEq dStr) (T : Txt K mg a) : FnOk P w K mg base CX0 1 fEq dEq ["self", "other"] (spEqR K a) := by
  refine R.eqF.ok scEq (fun vs H Q E h => ?_) (fun cdv A outer s H vs Q E hr h => ?_)
  · obtain ⟨p, C, dx, fs, z, y, rfl, _⟩ := h
    rfl
  · obtain ⟨p, C, dx, fs, z, y, rfl, hp, hC, hz, alt⟩ := h
    have na : NoAttr K C "_text" := T.no C hC _ (by simp)
    refine ⟨_, pss_one (ps_ret (pe_and (pe_callB call_isi (by rfl) T.tIs PyProof.Rows.boot_isinstance (pa_cons (pv 1) (pa_cons (pe_glob (v := .ref a.cRow) (by rfl) T.row.g rfl) pa_nil))) (pe_one (pe_cmpR op_eq (pe_fld (pv 0) rfl) (pe_fld (pv 1) rfl) (nomark _))))), ?_⟩
    rcases alt with ⟨q, D, dy, gs, z', rfl, hq, hD, hz', fin⟩ | ⟨S, hS, ty, fin⟩
    · refine ⟨_, rfl, _, _, _, _, _, rfl, .own a.cRow, R.ty hD hq, R.row D hD, _, rfl, ?_⟩
      refine iteT ⟨_, rfl, p, C, dx, fs, _, rfl, hp, R.cls C hC, na, hz, _, rfl, q, D, dy, gs, _, rfl, hq, R.cls D hD, T.no D hD _ (by simp), hz', rfl, ?_⟩
      have e : decide (V.str z = V.str z') = decide (z = z') := decide_eq_decide.mpr ⟨fun h => by cases h; rfl, fun h => by rw [h]⟩
      rw [e]
      exact fin
    · refine ⟨_, rfl, _, _, _, _, _, rfl, .own a.cRow, ty, R.noRow S hS, _, rfl, ?_⟩
      exact iteF fin
theorem RowF.okStr (R : RowF K a fEq fStr dEq dStr) (T : Txt K mg a) : FnOk P w K mg base CX0 1 fStr dStr ["self"] (spStrR K a) := by
  refine R.strF.ok scStr (fun vs H Q E h => ?_) (fun cdv A outer s H vs Q E hr h => ?_)
  · obtain ⟨p, C, dx, fs, z, rfl, _⟩ := h
    rfl
  · obtain ⟨p, C, dx, fs, z, rfl, hp, hC, hz, fin⟩ := h
    exact ⟨_, pss_one (ps_ret (pe_callTy SkE.call_str_str (by rfl) T.tStr PyProof.Rows.boot_str (pa_cons (pe_fld (pv 0) rfl) pa_nil))), _, rfl, p, C, dx, fs, _, rfl, hp, R.cls C hC, T.no C hC _ (by simp), hz, _, rfl, fin⟩
end
end K2

set_option Elab.async false
set_option linter.all false
set_option maxRecDepth 100000
set_option maxHeartbeats 1000000
namespace Lw
open PySem PySem.Spec PyProof.Rows L2
/-! ### data of texts alone -/
mutual
def txtD : PyData → Bool
  | .str _ => true
  | .list ds => txtAll ds
  | .tuple ds => txtAll ds
  | _ => false
def txtAll : List PyData → Bool
  | [] => true
  | d :: ds => txtD d && txtAll ds
end
mutual
theorem eqv_txt : ∀ {d e : PyData}, txtD d = true → txtD e = true → PyData.eqv d e = true → d = e
  | .str x, .str y, _, _, h => by
    simp [PyData.eqv] at h
    rw [h]
  | .list ds, .list es, h1, h2, h => by
    simp [txtD] at h1 h2
    simp [PyData.eqv] at h
    rw [eqvAll_txt h1 h2 h]
  | .tuple ds, .tuple es, h1, h2, h => by
    simp [txtD] at h1 h2
    simp [PyData.eqv] at h
    rw [eqvAll_txt h1 h2 h]
  | .str _, .list _, _, _, h => by simp [PyData.eqv] at h
  | .str _, .tuple _, _, _, h => by simp [PyData.eqv] at h
  | .list _, .str _, _, _, h => by simp [PyData.eqv] at h
  | .list _, .tuple _, _, _, h => by simp [PyData.eqv] at h
  | .tuple _, .str _, _, _, h => by simp [PyData.eqv] at h
  | .tuple _, .list _, _, _, h => by simp [PyData.eqv] at h
  | .none, _, h, _, _ => by simp [txtD] at h
  | .bool _, _, h, _, _ => by simp [txtD] at h
  | .int _, _, h, _, _ => by simp [txtD] at h
  | .dict _, _, h, _, _ => by simp [txtD] at h
  | .str _, .none, _, h, _ => by simp [txtD] at h
  | .str _, .bool _, _, h, _ => by simp [txtD] at h
  | .str _, .int _, _, h, _ => by simp [txtD] at h
  | .str _, .dict _, _, h, _ => by simp [txtD] at h
  | .list _, .none, _, h, _ => by simp [txtD] at h
  | .list _, .bool _, _, h, _ => by simp [txtD] at h
  | .list _, .int _, _, h, _ => by simp [txtD] at h
  | .list _, .dict _, _, h, _ => by simp [txtD] at h
  | .tuple _, .none, _, h, _ => by simp [txtD] at h
  | .tuple _, .bool _, _, h, _ => by simp [txtD] at h
  | .tuple _, .int _, _, h, _ => by simp [txtD] at h
  | .tuple _, .dict _, _, h, _ => by simp [txtD] at h
theorem eqvAll_txt : ∀ {ds es : List PyData}, txtAll ds = true → txtAll es = true → PyData.eqvAll ds es = true → ds = es
  | [], [], _, _, _ => rfl
  | d :: ds, e :: es, h1, h2, h => by
    simp [txtAll] at h1 h2
    simp [PyData.eqvAll] at h
    rw [eqv_txt h1.1 h2.1 h.1, eqvAll_txt h1.2 h2.2 h.2]
  | [], _ :: _, _, _, h => by simp [PyData.eqvAll] at h
  | _ :: _, [], _, _, h => by simp [PyData.eqvAll] at h
end
theorem txtAll_strs : ∀ zs : List PySem.Str, txtAll (zs.map PyData.str) = true
  | [] => rfl
  | z :: r => by simp [txtAll, txtD, txtAll_strs r]
theorem txtAll_ways : ∀ ws : List (PySem.Str × PySem.Str), txtAll (ws.map wayD) = true
  | [] => rfl
  | z :: r => by
    rw [List.map_cons, txtAll, txtAll_ways r]
    rfl
/-! small data of texts -/
mutual
def showOk : PyData → Bool
  | .str x => PyData.strOk x
  | .list ds => showAll ds
  | .tuple ds => showAll ds
  | _ => false
def showAll : List PyData → Bool
  | [] => true
  | d :: ds => showOk d && showAll ds
end
mutual
theorem showOk_is : ∀ {d : PyData}, showOk d = true → d.canLay0 = true ∧ d.showable = true ∧ d.intsShort 13 = true
  | .str x, h => by
    simp [showOk] at h
    exact ⟨by simp [PyData.canLay0, h], by simp [PyData.showable], by simp [PyData.intsShort]⟩
  | .list ds, h => by
    simp [showOk] at h
    obtain ⟨h1, h2, h3⟩ := showAll_is h
    exact ⟨by simp [PyData.canLay0, h1], by simp [PyData.showable, h2], by simp [PyData.intsShort, h3]⟩
  | .tuple ds, h => by
    simp [showOk] at h
    obtain ⟨h1, h2, h3⟩ := showAll_is h
    exact ⟨by simp [PyData.canLay0, h1], by simp [PyData.showable, h2], by simp [PyData.intsShort, h3]⟩
  | .none, h => by simp [showOk] at h
  | .bool _, h => by simp [showOk] at h
  | .int _, h => by simp [showOk] at h
  | .dict _, h => by simp [showOk] at h
theorem showAll_is : ∀ {ds : List PyData}, showAll ds = true → PyData.canLayAll0 ds = true ∧ PyData.showableAll ds = true ∧ PyData.intsShortAll 13 ds = true
  | [], _ => by simp [PyData.canLayAll0, PyData.showableAll, PyData.intsShortAll]
  | d :: ds, h => by
    simp [showAll] at h
    obtain ⟨h1, h2, h3⟩ := showOk_is h.1
    obtain ⟨h4, h5, h6⟩ := showAll_is h.2
    simp [PyData.canLayAll0, PyData.showableAll, PyData.intsShortAll, h1, h2, h3, h4, h5, h6]
end
theorem show_facts {d : PyData} (h : showOk d = true) (dp : d.depth ≤ 40) (wt : d.weight ≤ 1000) : SeqAt.shaped d = true ∧ d.showable = true ∧ d.hasDict = false ∧ d.shown.length ≤ sizeLine := by
  obtain ⟨h1, h2, h3⟩ := showOk_is h
  refine ⟨by simp [SeqAt.shaped, h1]; omega, h2, PyData.hasDict_of_canLay _ h1, ?_⟩
  exact PyData.shown_fits (B := 13) (by decide) (by decide) (PyData.leavesShort_of_canLay0 13 _ h1 h3) (by omega)
theorem strs_showAll {zs : List PySem.Str} (h : ∀ z ∈ zs, PyData.strOk z = true) : showAll (zs.map PyData.str) = true := by
  induction zs with
  | nil => rfl
  | cons z r ih =>
    rw [List.map_cons, showAll, ih fun y hy => h y (List.mem_cons_of_mem _ hy)]
    simp [showOk, h z List.mem_cons_self]
theorem strs_weight' {zs : List PySem.Str} (h : ∀ z ∈ zs, z.length ≤ 4) : PyData.weightAll (zs.map PyData.str) ≤ 5 * zs.length := by
  induction zs with
  | nil => simp [PyData.weightAll]
  | cons z r ih =>
    have h1 := ih fun y hy => h y (List.mem_cons_of_mem _ hy)
    have h2 : z.cps.size ≤ 4 := h z List.mem_cons_self
    simp [PyData.weightAll, PyData.weight]
    omega
end Lw
namespace K2
open PySem L2 Lw TL
theorem name_facts {z : Str} (h : nameOk z = true) : 1 ≤ z.length ∧ z.length ≤ 4 ∧ z.cps.toList.all isAbc = true := by
  unfold nameOk at h
  simp only [Bool.and_eq_true, decide_eq_true_eq] at h
  obtain ⟨⟨h1, h2⟩, h3⟩ := h
  exact ⟨by omega, by omega, h3⟩
theorem isAbc_lt {c : Nat} (h : isAbc c = true) : 97 ≤ c ∧ c < 123 := by
  unfold isAbc at h
  have h := of_decide_eq_true h
  have all : ∀ c ∈ abc.cps.toList, 97 ≤ c ∧ c < 123 := by decide +kernel
  exact all c h
theorem name_strOk {z : Str} (h : nameOk z = true) : PyData.strOk z = true := by
  obtain ⟨_, _, h3⟩ := name_facts h
  unfold PyData.strOk
  rw [← Array.all_toList, List.all_eq_true]
  intro c hc
  have := (isAbc_lt (List.all_eq_true.mp h3 c hc)).2
  simp only [decide_eq_true_eq]
  omega
theorem name_fine {z : Str} (h : nameOk z = true) : fine (.str z) = true := by
  rw [fine, name_strOk h, Bool.and_true, decide_eq_true_eq]
  have := (name_facts h).2.1
  omega
theorem name_no {z : Str} (h : nameOk z = true) {c : Nat} (hc : c < 97) : c ∉ tl z := fun m => by
  have := (isAbc_lt (List.all_eq_true.mp (name_facts h).2.2 c m)).1
  omega
/-! ### good rows -/
def RowGood : Row0 → Prop
  | .ask p n ws => nameOk p = true ∧ nameOk n = true ∧ ws ≠ [] ∧ ws.length ≤ 3 ∧ (ws.map (·.1)).Nodup ∧ ∀ w ∈ ws, nameOk w.1 = true ∧ nameOk w.2 = true
  | .note p w t => nameOk p = true ∧ nameOk w = true ∧ nameOk t = true
  | .gate p m n e => nameOk p = true ∧ nameOk m = true ∧ nameOk n = true ∧ nameOk e = true
  | .end_ p => nameOk p = true
def waysW (ws : List (Str × Str)) : List Str := (ws.map fun w => [w.1, w.2]).flatten
theorem waysW_mem {ws : List (Str × Str)} (h : ∀ w ∈ ws, nameOk w.1 = true ∧ nameOk w.2 = true) : ∀ z ∈ waysW ws, nameOk z = true := by
  intro z hz
  obtain ⟨l, hl, hz⟩ := List.mem_flatten.mp hz
  obtain ⟨w, hw, rfl⟩ := List.mem_map.mp hl
  have := h w hw
  simp at hz
  rcases hz with rfl | rfl
  · exact this.1
  · exact this.2
theorem good_words {r : Row0} (h : RowGood r) : ∀ z ∈ wordsR r, nameOk z = true := by
  cases r with
  | ask p n ws =>
    obtain ⟨h1, h2, _, _, _, h6⟩ := h
    intro z hz
    rcases List.mem_cons.mp hz with rfl | hz
    · exact h1
    rcases List.mem_cons.mp hz with rfl | hz
    · decide +kernel
    rcases List.mem_cons.mp hz with rfl | hz
    · exact h2
    · exact waysW_mem h6 z hz
  | note p w t =>
    obtain ⟨h1, h2, h3⟩ := h
    intro z hz
    simp [wordsR] at hz
    rcases hz with rfl | rfl | rfl | rfl
    · exact h1
    · decide +kernel
    · exact h2
    · exact h3
  | gate p m n e =>
    obtain ⟨h1, h2, h3, h4⟩ := h
    intro z hz
    simp [wordsR] at hz
    rcases hz with rfl | rfl | rfl | rfl | rfl
    · exact h1
    · decide +kernel
    · exact h2
    · exact h3
    · exact h4
  | end_ p =>
    intro z hz
    simp [wordsR] at hz
    rcases hz with rfl | rfl
    · exact h
    · decide +kernel
theorem good_short {r : Row0} (h : RowGood r) : Short r := by
  refine ⟨fun z hz => (name_facts (good_words h z hz)).2.1, ?_⟩
  cases r with
  | ask p n ws =>
    have := h.2.2.2.1
    show ws.length ≤ 1000
    omega
  | _ => trivial
theorem words_ne (r : Row0) : wordsR r ≠ [] := by cases r <;> simp [wordsR]
theorem good_split {r : Row0} (h : RowGood r) : Txt.split (textR r) " " = wordsR r :=
  split_join (s := 32) (S := []) (by decide +kernel) (by decide +kernel) (words_ne r) fun z hz => name_no (good_words h z hz) (by decide)
theorem waysW_inj : ∀ {us ws : List (Str × Str)}, waysW us = waysW ws → us = ws
  | [], [], _ => rfl
  | [], _ :: _, h => by simp [waysW] at h
  | _ :: _, [], h => by simp [waysW] at h
  | (a, b) :: us, (c, d) :: ws, h => by
    have h' : a :: b :: waysW us = c :: d :: waysW ws := h
    simp only [List.cons.injEq] at h'
    obtain ⟨rfl, rfl, h'⟩ := h'
    rw [waysW_inj h']
theorem k_ne {a b : String} (h : (Str.ofString a).cps.toList ≠ (Str.ofString b).cps.toList) : Str.ofString a ≠ Str.ofString b := fun z => h (by rw [z])
theorem words_inj {r s : Row0} (h : wordsR r = wordsR s) : r = s := by
  have e1 : ("ask" : Str) ≠ "note" := by decide
  have e2 : ("ask" : Str) ≠ "mark" := by decide
  have e3 : ("ask" : Str) ≠ "end" := by decide
  have e4 : ("note" : Str) ≠ "mark" := by decide
  have e5 : ("note" : Str) ≠ "end" := by decide
  have e6 : ("mark" : Str) ≠ "end" := by decide
  cases r with
  | ask p n ws =>
    cases s with
    | ask p' n' ws' =>
      have h' : p :: "ask" :: n :: waysW ws = p' :: "ask" :: n' :: waysW ws' := h
      simp only [List.cons.injEq, true_and] at h'
      obtain ⟨rfl, rfl, h'⟩ := h'
      rw [waysW_inj h']
    | note p' w' t' => exact absurd (List.cons.inj (List.cons.inj h).2).1 e1
    | gate p' m' n' e' => exact absurd (List.cons.inj (List.cons.inj h).2).1 e2
    | end_ p' => exact absurd (List.cons.inj (List.cons.inj h).2).1 e3
  | note p w t =>
    cases s with
    | ask p' n' ws' => exact absurd (List.cons.inj (List.cons.inj h).2).1.symm e1
    | note p' w' t' =>
      have h' : [p, "note", w, t] = [p', "note", w', t'] := h
      simp only [List.cons.injEq, true_and, and_true] at h'
      obtain ⟨rfl, rfl, rfl⟩ := h'
      rfl
    | gate p' m' n' e' => exact absurd (List.cons.inj (List.cons.inj h).2).1 e4
    | end_ p' => exact absurd (List.cons.inj (List.cons.inj h).2).1 e5
  | gate p m n e =>
    cases s with
    | ask p' n' ws' => exact absurd (List.cons.inj (List.cons.inj h).2).1.symm e2
    | note p' w' t' => exact absurd (List.cons.inj (List.cons.inj h).2).1.symm e4
    | gate p' m' n' e' =>
      have h' : [p, "mark", m, n, e] = [p', "mark", m', n', e'] := h
      simp only [List.cons.injEq, true_and, and_true] at h'
      obtain ⟨rfl, rfl, rfl, rfl⟩ := h'
      rfl
    | end_ p' => exact absurd (List.cons.inj (List.cons.inj h).2).1 e6
  | end_ p =>
    cases s with
    | ask p' n' ws' => exact absurd (List.cons.inj (List.cons.inj h).2).1.symm e3
    | note p' w' t' => exact absurd (List.cons.inj (List.cons.inj h).2).1.symm e5
    | gate p' m' n' e' => exact absurd (List.cons.inj (List.cons.inj h).2).1.symm e6
    | end_ p' =>
      have h' : [p, "end"] = [p', "end"] := h
      simp only [List.cons.injEq, and_true] at h'
      rw [h']
theorem text_inj {r s : Row0} (hr : RowGood r) (hs : RowGood s) (h : textR r = textR s) : r = s := words_inj (by rw [← good_split hr, ← good_split hs, h])
theorem line_inj {r s : Row0} (h : lineD r = lineD s) : r = s := by
  have e1 : ("ask" : Str) ≠ "note" := by decide
  have e2 : ("ask" : Str) ≠ "mark" := by decide
  have e3 : ("ask" : Str) ≠ "end" := by decide
  have e4 : ("note" : Str) ≠ "mark" := by decide
  have e5 : ("note" : Str) ≠ "end" := by decide
  have e6 : ("mark" : Str) ≠ "end" := by decide
  cases r <;> cases s <;> simp only [lineD, PyData.tuple.injEq, List.cons.injEq, PyData.str.injEq, and_true, true_and, reduceCtorEq, and_false, false_and] at h
  · obtain ⟨rfl, rfl, h⟩ := h
    rw [ways_inj h]
  all_goals first
    | (obtain ⟨rfl, rfl, rfl, rfl⟩ := h; rfl)
    | (obtain ⟨rfl, rfl, rfl⟩ := h; rfl)
    | (subst h; rfl)
    | exact absurd h.1 e1
    | exact absurd h.1.symm e1
    | exact absurd h.1 e4
    | exact absurd h.1.symm e4
theorem line_txt (r : Row0) : txtD (lineD r) = true := by
  cases r with
  | ask p n ws => simp [lineD, txtD, txtAll, txtAll_ways]
  | _ => simp [lineD, txtD, txtAll]
theorem line_eqv {r s : Row0} : PyData.eqv (lineD r) (lineD s) = true → r = s := fun h => line_inj (eqv_txt (line_txt r) (line_txt s) h)
theorem ways_show {ws : List (Str × Str)} (h : ∀ w ∈ ws, nameOk w.1 = true ∧ nameOk w.2 = true) : showAll (ws.map wayD) = true ∧ PyData.depthAll (ws.map wayD) ≤ 1 ∧ PyData.weightAll (ws.map wayD) ≤ 11 * ws.length ∧ fineAll (ws.map wayD) = true := by
  induction ws with
  | nil => exact ⟨rfl, by simp [PyData.depthAll], by simp [PyData.weightAll], rfl⟩
  | cons w r ih =>
    obtain ⟨h1, h2⟩ := h w List.mem_cons_self
    obtain ⟨i1, i2, i3, i4⟩ := ih fun y hy => h y (List.mem_cons_of_mem _ hy)
    have w1 : w.1.cps.size ≤ 4 := (name_facts h1).2.1
    have w2 : w.2.cps.size ≤ 4 := (name_facts h2).2.1
    refine ⟨?_, ?_, ?_, ?_⟩
    · simp [showAll, wayD, showOk, i1, name_strOk h1, name_strOk h2]
    · simp [PyData.depthAll, wayD, PyData.depth]
      omega
    · simp [PyData.weightAll, wayD, PyData.weight]
      omega
    · have f1 := name_fine h1
      have f2 := name_fine h2
      rw [List.map_cons, fineAll, i4, Bool.and_true]
      show fine (.tuple [.str w.1, .str w.2]) = true
      rw [fine, fineAll, fineAll, fineAll, f1, f2]
      rfl
end K2

set_option Elab.async false
set_option linter.all false
set_option maxRecDepth 100000
set_option maxHeartbeats 1000000
namespace K2
open PySem L2 Lw TL
theorem ways_good {ws : List (Str × Str)} (ne : ws ≠ []) (nd : (ws.map (·.1)).Nodup) (h : ∀ w ∈ ws, nameOk w.1 = true ∧ nameOk w.2 = true) : waysOk (.tuple (ws.map wayD)) = true := by
  have e1 : (ws.map wayD).isEmpty = false := by
    cases ws with
    | nil => exact absurd rfl ne
    | cons _ _ => rfl
  have e2 : (ws.map wayD).all wayOk = true := by
    rw [List.all_map, List.all_eq_true]
    intro w hw
    obtain ⟨h1, h2⟩ := h w hw
    show (nameOk w.1 && nameOk w.2) = true
    rw [h1, h2]
    rfl
  have e3 : (ws.map wayD).map headOf = ws.map (·.1) := by
    rw [List.map_map]
    exact List.map_congr_left fun w _ => rfl
  show waysD (ws.map wayD) = true
  unfold waysD
  rw [e1, e2, e3, decide_eq_true nd]
  rfl
theorem good_due {r : Row0} (h : RowGood r) : dueR r = Str.empty := by
  cases r with
  | ask p n ws =>
    obtain ⟨h1, h2, h3, _, h5, h6⟩ := h
    have w := ways_good h3 h5 h6
    have f : firstD [("place", .str p), ("name", .str n)] = Str.empty := by simp [firstD, nameD, h1, h2]
    show (if firstD [("place", .str p), ("name", .str n)] = Str.empty then (if waysOk (.tuple (ws.map wayD)) = true then Str.empty else "ways") else firstD [("place", .str p), ("name", .str n)]) = Str.empty
    rw [if_pos f, if_pos w]
  | note p w t =>
    obtain ⟨h1, h2, h3⟩ := h
    show firstD [("place", .str p), ("word", .str w), ("then", .str t)] = Str.empty
    simp [firstD, nameD, h1, h2, h3]
  | gate p m n e =>
    obtain ⟨h1, h2, h3, h4⟩ := h
    show firstD [("place", .str p), ("mark", .str m), ("newer", .str n), ("elder", .str e)] = Str.empty
    simp [firstD, nameD, h1, h2, h3, h4]
  | end_ p =>
    show firstD [("place", .str p)] = Str.empty
    have h : nameOk p = true := h
    simp [firstD, nameD, h]
theorem ways_fine {ws : List (Str × Str)} (few : ws.length ≤ 3) (h : ∀ w ∈ ws, nameOk w.1 = true ∧ nameOk w.2 = true) : fine (.tuple (ws.map wayD)) = true := by
  rw [fine, (ways_show h).2.2.2, Bool.and_true, List.length_map]
  exact decide_eq_true (by omega)
theorem good_fine {r : Row0} (h : RowGood r) : fineAll (argsD r) = true := by
  cases r with
  | ask p n ws =>
    obtain ⟨h1, h2, h3, h4, h5, h6⟩ := h
    show fineAll [.str p, .str n, .tuple (ws.map wayD)] = true
    rw [fineAll, fineAll, fineAll, name_fine h1, name_fine h2, ways_fine h4 h6]
    rfl
  | note p w t =>
    obtain ⟨h1, h2, h3⟩ := h
    show fineAll [.str p, .str w, .str t] = true
    rw [fineAll, fineAll, fineAll, name_fine h1, name_fine h2, name_fine h3]
    rfl
  | gate p m n e =>
    obtain ⟨h1, h2, h3, h4⟩ := h
    show fineAll [.str p, .str m, .str n, .str e] = true
    rw [fineAll, fineAll, fineAll, fineAll, name_fine h1, name_fine h2, name_fine h3, name_fine h4]
    rfl
  | end_ p =>
    show fineAll [.str p] = true
    rw [fineAll, name_fine h]
    rfl
theorem args_show {r : Row0} (h : RowGood r) : showAll (argsD r) = true ∧ PyData.depthAll (argsD r) ≤ 2 ∧ PyData.weightAll (argsD r) ≤ 100 := by
  have w4 : ∀ {z : Str}, nameOk z = true → z.cps.size ≤ 4 := fun h => (name_facts h).2.1
  cases r with
  | ask p n ws =>
    obtain ⟨h1, h2, h3, h4, h5, h6⟩ := h
    obtain ⟨i1, i2, i3, _⟩ := ways_show h6
    have := w4 h1
    have := w4 h2
    refine ⟨by simp [argsD, showAll, showOk, name_strOk h1, name_strOk h2, i1], ?_, ?_⟩
    · simp [argsD, PyData.depthAll, PyData.depth]
      omega
    · simp [argsD, PyData.weightAll, PyData.weight]
      omega
  | note p w t =>
    obtain ⟨h1, h2, h3⟩ := h
    have := w4 h1
    have := w4 h2
    have := w4 h3
    refine ⟨by simp [argsD, showAll, showOk, name_strOk h1, name_strOk h2, name_strOk h3], by simp [argsD, PyData.depthAll, PyData.depth], ?_⟩
    simp [argsD, PyData.weightAll, PyData.weight]
    omega
  | gate p m n e =>
    obtain ⟨h1, h2, h3, h4⟩ := h
    have := w4 h1
    have := w4 h2
    have := w4 h3
    have := w4 h4
    refine ⟨by simp [argsD, showAll, showOk, name_strOk h1, name_strOk h2, name_strOk h3, name_strOk h4], by simp [argsD, PyData.depthAll, PyData.depth], ?_⟩
    simp [argsD, PyData.weightAll, PyData.weight]
    omega
  | end_ p =>
    have h : nameOk p = true := h
    have := w4 h
    refine ⟨by simp [argsD, showAll, showOk, name_strOk h], by simp [argsD, PyData.depthAll, PyData.depth], ?_⟩
    simp [argsD, PyData.weightAll, PyData.weight]
    omega
theorem args_facts {r : Row0} (h : RowGood r) : SeqAt.shaped (.tuple (argsD r)) = true ∧ (PyData.tuple (argsD r)).showable = true ∧ (PyData.tuple (argsD r)).hasDict = false ∧ (PyData.tuple (argsD r)).shown.length ≤ sizeLine ∧ (PyData.tuple (argsD r)).depth ≤ 40 := by
  obtain ⟨h1, h2, h3⟩ := args_show h
  have dp : (PyData.tuple (argsD r)).depth ≤ 40 := by simp [PyData.depth]; omega
  obtain ⟨a1, a2, a3, a4⟩ := show_facts (d := .tuple (argsD r)) (by simp [showOk, h1]) dp (by simp [PyData.weight]; omega)
  exact ⟨a1, a2, a3, a4, dp⟩
theorem line_args (r : Row0) : ∃ k : Str, lineD r = .tuple (.str k :: argsD r) := by
  cases r <;> exact ⟨_, rfl⟩
theorem line_facts {r : Row0} (h : RowGood r) : SeqAt.shaped (lineD r) = true ∧ fine (lineD r) = true := by
  obtain ⟨h1, h2, h3⟩ := args_show h
  have hk : ∃ k : Str, lineD r = .tuple (.str k :: argsD r) ∧ nameOk k = true := by
    cases r <;> exact ⟨_, rfl, by decide +kernel⟩
  obtain ⟨k, e, ok⟩ := hk
  have k4 : k.cps.size ≤ 4 := (name_facts ok).2.1
  rw [e]
  constructor
  · exact (show_facts (d := .tuple (.str k :: argsD r)) (by simp [showOk, showAll, name_strOk ok, h1]) (by simp [PyData.depth, PyData.depthAll]; omega) (by simp [PyData.weight, PyData.weightAll]; omega)).1
  · rw [fine, fineAll, name_fine ok, good_fine h]
    have : (argsD r).length ≤ 999 := by cases r <;> simp [argsD]
    simp [this]
/-! ### a row keeps its line -/
abbrev sKept : Stmt := top 29
abbrev sLaw : Stmt := top 30
def spKept (K : PySem.W.Frag) (a : Ad) : Sp := fun vs H Q _ => ∃ (p t dx : Addr) (fs : List (Str × V)) (r : Row0), vs = [.ref p, .ref t] ∧ H p = some (.ins (clsR a r) dx fs) ∧ fieldsOk K H fs r ∧ Dp K H (.ref t) (lineD r) ∧ RowGood r ∧ ∀ H', Same H H' → Q (.bl true) H'
section
variable {P : Program} {w : World} {K : PySem.W.Frag} {mg : Str → Option Value} {base : Heap} {a : Ad} {fEq fStr : Addr} {dEq dStr : FuncData}
theorem cls_mem (r : Row0) : clsR a r ∈ rowCs a := by cases r <;> simp [clsR, rowCs]
theorem scKept : FnScope ["_law_made", "_law_line_here"] ["_law_made", "_law_line_here"] (defScope sKept) := ⟨rfl, rfl, rfl, by decide +kernel, rfl, by decide +kernel, by decide +kernel⟩
theorem cut_one {x : V} {xs : List V} : cutV (x :: xs) (some 1) none = xs := by
  rw [cut_drop (by decide)]
  rfl
theorem sl_some {x y : V} {xs : List V} (z : HT.sIx (x :: y :: xs).length 0 (some 1) = 0) : False := by
  have e2 : HT.sIx (x :: y :: xs).length 0 (some 1) = min 1 (x :: y :: xs).length := rfl
  rw [e2] at z
  simp at z
theorem okKept (R : RowF K a fEq fStr dEq dStr) (T : Txt K mg a) (own : ∀ C ∈ rowCs a, PySem.W.kitOne K (.ref C) (.ref C) = some true) (tRepr : mg "repr" = none) {f : Addr} {fd : FuncData} (F : Fun K "_law_kept" "_law_kept" sKept f fd) :
    FnG P w K mg base CX0 1 f fd ["_law_made", "_law_line_here"] (spKept K a) := by
  refine fun_okG0 F scKept (fun vs H Q E h => ?_) (fun cdv A outer s H vs Q E hr hg h => ?_)
  · obtain ⟨p, t, dx, fs, r, rfl, _⟩ := h
    rfl
  · obtain ⟨p, t, dx, fs, r, rfl, hp, hf, hd, good, fin⟩ := h
    have hu := hr.units
    refine ⟨_, pss_cons (ps_if (pt_cmpR op_eq (pe_ix ix_tup (pv 1) pe_int (fun _ _ => rfl)) pe_str (nomark _))
        (pss_one (ps_ret (pe_and (pe_callB call_isi (by rfl) T.tIs PyProof.Rows.boot_isinstance (pa_cons (pv 0) (pa_cons (pe_glob (v := .ref a.cAsk) (by rfl) T.ask.g rfl) pa_nil)))
          (pe_one (pe_cmpR op_eq (pe_callB (call_repr hg hu) (by rfl) tRepr (by decide +kernel) (pa_cons (pe_tup (pa_cons (pe_fld (pv 0) rfl) (pa_cons (pe_fld (pv 0) rfl) (pa_cons (pe_fld (pv 0) rfl) pa_nil)))) pa_nil))
            (pe_callB (call_repr hg hu) (by rfl) tRepr (by decide +kernel) (pa_cons (pe_slice sl_tup (pv 1) (po_some pe_int) po_none) pa_nil)) (nomark _)))))) pss_nil)
      (pss_cons (ps_if (pt_cmpR op_eq (pe_ix ix_tup (pv 1) pe_int (fun _ _ => rfl)) pe_str (nomark _))
        (pss_one (ps_ret (pe_and (pe_callB call_isi (by rfl) T.tIs PyProof.Rows.boot_isinstance (pa_cons (pv 0) (pa_cons (pe_glob (v := .ref a.cNote) (by rfl) T.note.g rfl) pa_nil)))
          (pe_one (pe_cmpR (op_eqD hu) (pe_tup (pa_cons (pe_fld (pv 0) rfl) (pa_cons (pe_fld (pv 0) rfl) (pa_cons (pe_fld (pv 0) rfl) pa_nil)))) (pe_slice sl_tup (pv 1) (po_some pe_int) po_none) (nomark _)))))) pss_nil)
      (pss_cons (ps_if (pt_cmpR op_eq (pe_ix ix_tup (pv 1) pe_int (fun _ _ => rfl)) pe_str (nomark _))
        (pss_one (ps_ret (pe_and (pe_callB call_isi (by rfl) T.tIs PyProof.Rows.boot_isinstance (pa_cons (pv 0) (pa_cons (pe_glob (v := .ref a.cGate) (by rfl) T.gate.g rfl) pa_nil)))
          (pe_one (pe_cmpR (op_eqD hu) (pe_tup (pa_cons (pe_fld (pv 0) rfl) (pa_cons (pe_fld (pv 0) rfl) (pa_cons (pe_fld (pv 0) rfl) (pa_cons (pe_fld (pv 0) rfl) pa_nil))))) (pe_slice sl_tup (pv 1) (po_some pe_int) po_none) (nomark _)))))) pss_nil)
      (pss_one (ps_ret (pe_and (pe_callB call_isi (by rfl) T.tIs PyProof.Rows.boot_isinstance (pa_cons (pv 0) (pa_cons (pe_glob (v := .ref a.cEnd) (by rfl) T.end_.g rfl) pa_nil)))
          (pe_one (pe_cmpR op_eq (pe_fld (pv 0) rfl) (pe_ix ix_tup (pv 1) pe_int (fun _ _ => rfl)) (nomark _)))))))), ?_⟩
    cases r with
    | ask p0 n ws =>
      obtain ⟨a1, a2, a3, a4, a5⟩ := args_facts good
      have hC : clsR a (.ask p0 n ws) ∈ rowCs a := cls_mem _
      obtain ⟨f1, f2, ⟨wa, f3, hwa⟩, f4⟩ := hf
      cases hd with
      | @tup _ xs _ hs ha =>
      cases ha with
      | @cons x0 rest _ _ h0 hargs =>
      cases h0
      have two : ∃ y ys, rest = y :: ys := by cases hargs with | cons _ _ => exact ⟨_, _, rfl⟩
      obtain ⟨y, ys, rfl⟩ := two
      refine ⟨_, rfl, t, _, 0, _, rfl, rfl, hs, atI_nat (j := 0) rfl, rfl, _, rfl, ?_⟩
      rw [show decide (V.str "ask" = V.str "ask") = true from rfl]
      refine iteT ⟨_, rfl, _, _, _, _, _, rfl, .own a.cAsk, R.ty hC hp, own _ hC, _, rfl, iteT ?_⟩
      refine ⟨_, rfl, p, _, dx, fs, _, rfl, hp, R.cls _ hC, T.no _ hC _ (by simp), f1, _, rfl, p, _, dx, fs, _, rfl, hp, R.cls _ hC, T.no _ hC _ (by simp), f2, _, rfl, p, _, dx, fs, _, rfl, hp, R.cls _ hC, T.no _ hC _ (by simp), f3, (by show 3 ≤ sizeLine; decide), fun q uq => ?_⟩
      have s1 : Same H (upd H q (.tup [.str p0, .str n, .ref wa])) := same_new uq
      refine ⟨_, .tuple (argsD (.ask p0 n ws)), rfl, .tup (SqT.of upd_same) (.cons (.str _) (.cons (.str _) (.cons (dp_same s1 _ _ hwa) .nil))), a2, a3, a5, a4, ?_⟩
      refine ⟨_, rfl, 1, rfl, t, _, rfl, same_tup s1 hs, fun z => (sl_some z.1).elim, fun s2 us => ?_⟩
      rw [cut_one]
      have s12 := s1.trans (same_new (o := .tup (y :: ys)) us)
      refine ⟨_, .tuple (argsD (.ask p0 n ws)), rfl, .tup (SqT.of upd_same) (dpAll_same s12 _ _ hargs), a2, a3, a5, a4, rfl, ?_⟩
      rw [decide_eq_true (rfl : V.str (PyData.tuple (argsD (.ask p0 n ws))).shown = _)]
      exact fin _ s12
    | note p0 w0 t0 =>
      obtain ⟨a1, a2, a3, a4, a5⟩ := args_facts good
      have hC : clsR a (.note p0 w0 t0) ∈ rowCs a := cls_mem _
      obtain ⟨f1, f2, f3, f4⟩ := hf
      cases hd with
      | @tup _ xs _ hs ha =>
      cases ha with
      | @cons x0 rest _ _ h0 hargs =>
      cases h0
      have two : ∃ y ys, rest = y :: ys := by cases hargs with | cons _ _ => exact ⟨_, _, rfl⟩
      obtain ⟨y, ys, rfl⟩ := two
      refine ⟨_, rfl, t, _, 0, _, rfl, rfl, hs, atI_nat (j := 0) rfl, rfl, _, rfl, ?_⟩
      rw [show decide (V.str "note" = V.str "ask") = false from rfl]
      refine iteF ⟨_, rfl, t, _, 0, _, rfl, rfl, hs, atI_nat (j := 0) rfl, rfl, _, rfl, ?_⟩
      rw [show decide (V.str "note" = V.str "note") = true from rfl]
      refine iteT ⟨_, rfl, _, _, _, _, _, rfl, .own a.cNote, R.ty hC hp, own _ hC, _, rfl, iteT ?_⟩
      refine ⟨_, rfl, p, _, dx, fs, _, rfl, hp, R.cls _ hC, T.no _ hC _ (by simp), f1, _, rfl, p, _, dx, fs, _, rfl, hp, R.cls _ hC, T.no _ hC _ (by simp), f2, _, rfl, p, _, dx, fs, _, rfl, hp, R.cls _ hC, T.no _ hC _ (by simp), f3, (by show 3 ≤ sizeLine; decide), fun q uq => ?_⟩
      have s1 : Same H (upd H q (.tup [.str p0, .str w0, .str t0])) := same_new uq
      refine ⟨_, rfl, 1, rfl, t, _, rfl, same_tup s1 hs, fun z => (sl_some z.1).elim, fun s2 us => ?_⟩
      rw [cut_one]
      have k2 := same_new (o := .tup (y :: ys)) us
      refine ⟨.tuple (argsD (.note p0 w0 t0)), .tuple (argsD (.note p0 w0 t0)), .tup (SqT.of (k2 _ _ upd_same)) (.cons (.str _) (.cons (.str _) (.cons (.str _) .nil))), .tup (SqT.of upd_same) (dpAll_same (s1.trans k2) _ _ hargs), a1, a1, ?_⟩
      rw [eqvSelf _ (by rw [fine, good_fine good]; rfl)]
      exact fin _ (s1.trans k2)
    | gate p0 m0 n0 e0 =>
      obtain ⟨a1, a2, a3, a4, a5⟩ := args_facts good
      have hC : clsR a (.gate p0 m0 n0 e0) ∈ rowCs a := cls_mem _
      obtain ⟨f1, f2, f3, f4, f5⟩ := hf
      cases hd with
      | @tup _ xs _ hs ha =>
      cases ha with
      | @cons x0 rest _ _ h0 hargs =>
      cases h0
      have two : ∃ y ys, rest = y :: ys := by cases hargs with | cons _ _ => exact ⟨_, _, rfl⟩
      obtain ⟨y, ys, rfl⟩ := two
      refine ⟨_, rfl, t, _, 0, _, rfl, rfl, hs, atI_nat (j := 0) rfl, rfl, _, rfl, ?_⟩
      rw [show decide (V.str "mark" = V.str "ask") = false from rfl]
      refine iteF ⟨_, rfl, t, _, 0, _, rfl, rfl, hs, atI_nat (j := 0) rfl, rfl, _, rfl, ?_⟩
      rw [show decide (V.str "mark" = V.str "note") = false from rfl]
      refine iteF ⟨_, rfl, t, _, 0, _, rfl, rfl, hs, atI_nat (j := 0) rfl, rfl, _, rfl, ?_⟩
      rw [show decide (V.str "mark" = V.str "mark") = true from rfl]
      refine iteT ⟨_, rfl, _, _, _, _, _, rfl, .own a.cGate, R.ty hC hp, own _ hC, _, rfl, iteT ?_⟩
      refine ⟨_, rfl, p, _, dx, fs, _, rfl, hp, R.cls _ hC, T.no _ hC _ (by simp), f1, _, rfl, p, _, dx, fs, _, rfl, hp, R.cls _ hC, T.no _ hC _ (by simp), f2, _, rfl, p, _, dx, fs, _, rfl, hp, R.cls _ hC, T.no _ hC _ (by simp), f3, _, rfl, p, _, dx, fs, _, rfl, hp, R.cls _ hC, T.no _ hC _ (by simp), f4, (by show 4 ≤ sizeLine; decide), fun q uq => ?_⟩
      have s1 : Same H (upd H q (.tup [.str p0, .str m0, .str n0, .str e0])) := same_new uq
      refine ⟨_, rfl, 1, rfl, t, _, rfl, same_tup s1 hs, fun z => (sl_some z.1).elim, fun s2 us => ?_⟩
      rw [cut_one]
      have k2 := same_new (o := .tup (y :: ys)) us
      refine ⟨.tuple (argsD (.gate p0 m0 n0 e0)), .tuple (argsD (.gate p0 m0 n0 e0)), .tup (SqT.of (k2 _ _ upd_same)) (.cons (.str _) (.cons (.str _) (.cons (.str _) (.cons (.str _) .nil)))), .tup (SqT.of upd_same) (dpAll_same (s1.trans k2) _ _ hargs), a1, a1, ?_⟩
      rw [eqvSelf _ (by rw [fine, good_fine good]; rfl)]
      exact fin _ (s1.trans k2)
    | end_ p0 =>
      have hC : clsR a (.end_ p0) ∈ rowCs a := cls_mem _
      obtain ⟨f1, f2⟩ := hf
      cases hd with
      | @tup _ xs _ hs ha =>
      cases ha with
      | @cons x0 rest _ _ h0 hargs =>
      cases h0
      cases hargs with
      | @cons x1 _ _ _ h1 hnil =>
      cases hnil
      cases h1
      refine ⟨_, rfl, t, _, 0, _, rfl, rfl, hs, atI_nat (j := 0) rfl, rfl, _, rfl, ?_⟩
      rw [show decide (V.str "end" = V.str "ask") = false from rfl]
      refine iteF ⟨_, rfl, t, _, 0, _, rfl, rfl, hs, atI_nat (j := 0) rfl, rfl, _, rfl, ?_⟩
      rw [show decide (V.str "end" = V.str "note") = false from rfl]
      refine iteF ⟨_, rfl, t, _, 0, _, rfl, rfl, hs, atI_nat (j := 0) rfl, rfl, _, rfl, ?_⟩
      rw [show decide (V.str "end" = V.str "mark") = false from rfl]
      refine iteF ⟨_, rfl, _, _, _, _, _, rfl, .own a.cEnd, R.ty hC hp, own _ hC, _, rfl, iteT ?_⟩
      refine ⟨_, rfl, p, _, dx, fs, _, rfl, hp, R.cls _ hC, T.no _ hC _ (by simp), f1, _, rfl, t, _, 1, _, rfl, rfl, hs, atI_nat (j := 1) rfl, rfl, ?_⟩
      rw [decide_eq_true (rfl : V.str p0 = _)]
      exact fin _ (Same.refl H)
end
end K2

set_option Elab.async false
set_option linter.all false
set_option maxRecDepth 100000
set_option maxHeartbeats 1000000
namespace Lw
open PySem PySem.Spec PyProof.Rows L2
theorem nodup_len {α : Type} [DecidableEq α] : ∀ {l m : List α}, l.Nodup → (∀ x ∈ l, x ∈ m) → l.length ≤ m.length
  | [], _, _, _ => Nat.zero_le _
  | x :: r, m, nd, h => by
    have hx := h x List.mem_cons_self
    obtain ⟨n1, n2⟩ := List.nodup_cons.mp nd
    have z := nodup_len (l := r) (m := m.erase x) n2 fun y hy => by
      have ne : y ≠ x := fun e => n1 (e ▸ hy)
      exact (List.mem_erase_of_ne ne).mpr (h y (List.mem_cons_of_mem _ hy))
    have e := List.length_erase_of_mem hx
    have pos : 0 < m.length := List.length_pos_iff.mpr fun e => by rw [e] at hx; cases hx
    rw [List.length_cons]
    omega
/-! data without lists, a list changed beside them -/
mutual
def tupD : PyData → Bool
  | .list _ => false
  | .dict _ => false
  | .tuple ds => tupAll ds
  | _ => true
def tupAll : List PyData → Bool
  | [] => true
  | d :: ds => tupD d && tupAll ds
end
theorem tup_off {K : PySem.W.Frag} {H : Hp} {p a : Addr} {xs ys : List V} {o : HO} (hp : H p = some (.lst ys)) (h : SqT K H a xs) : SqT K (upd H p o) a xs := by
  rcases h with (h | ⟨u, h⟩) | h
  · exact .inl (.inl (by rw [upd_ne (fun z => by rw [z, hp] at h; cases h)]; exact h))
  · exact .inl (.inr ⟨u, by rw [upd_ne (fun z => by rw [z, hp] at h; cases h)]; exact h⟩)
  · exact .inr h
mutual
theorem dp_off {K : PySem.W.Frag} {H : Hp} {p : Addr} {ys : List V} {o : HO} (hp : H p = some (.lst ys)) : ∀ {d : PyData} {v : V}, tupD d = true → Dp K H v d → Dp K (upd H p o) v d
  | .none, _, _, h => by cases h; exact .non
  | .bool _, _, _, h => by cases h; exact .bl _
  | .int _, _, _, h => by cases h; exact .int _
  | .str _, _, _, h => by cases h; exact .str _
  | .tuple ds, _, t, h => by
    simp only [tupD] at t
    cases h with
    | tup h1 h2 => exact .tup (tup_off hp h1) (dpAll_off hp t h2)
  | .list _, _, t, _ => by simp [tupD] at t
  | .dict _, _, t, _ => by simp [tupD] at t
theorem dpAll_off {K : PySem.W.Frag} {H : Hp} {p : Addr} {ys : List V} {o : HO} (hp : H p = some (.lst ys)) : ∀ {ds : List PyData} {vs : List V}, tupAll ds = true → DpAll K H vs ds → DpAll K (upd H p o) vs ds
  | [], _, _, h => by cases h; exact .nil
  | d :: ds, _, t, h => by
    simp only [tupAll, Bool.and_eq_true] at t
    cases h with
    | cons h1 h2 => exact .cons (dp_off hp t.1 h1) (dpAll_off hp t.2 h2)
end
theorem tup_ways : ∀ ws : List (PySem.Str × PySem.Str), tupAll (ws.map wayD) = true
  | [] => rfl
  | w :: r => by
    rw [List.map_cons, tupAll, tup_ways r]
    rfl
theorem tup_line (r : Row0) : tupD (lineD r) = true := by
  cases r with
  | ask p n ws => simp [lineD, tupD, tupAll, tup_ways]
  | _ => simp [lineD, tupD, tupAll]
theorem tup_lines : ∀ rs : List Row0, tupAll (rs.map lineD) = true
  | [] => rfl
  | r :: rs => by
    rw [List.map_cons, tupAll, tup_lines rs, tup_line r]
    rfl
theorem fields_same {K : PySem.W.Frag} {H H' : Hp} {fs : List (PySem.Str × V)} {r : Row0} (h : fieldsOk K H fs r) (s : Same H H') : fieldsOk K H' fs r := by
  cases r with
  | ask p n ws =>
    obtain ⟨h1, h2, ⟨wa, h3, h4⟩, h5⟩ := h
    exact ⟨h1, h2, ⟨wa, h3, dp_same s _ _ h4⟩, h5⟩
  | _ => exact h
theorem fields_off {K : PySem.W.Frag} {H : Hp} {p : Addr} {ys : List V} {o : HO} (hp : H p = some (.lst ys)) {fs : List (PySem.Str × V)} {r : Row0} (h : fieldsOk K H fs r) : fieldsOk K (upd H p o) fs r := by
  cases r with
  | ask p n ws =>
    obtain ⟨h1, h2, ⟨wa, h3, h4⟩, h5⟩ := h
    exact ⟨h1, h2, ⟨wa, h3, dp_off hp (by simp only [tupD]; exact tup_ways ws) h4⟩, h5⟩
  | _ => exact h
theorem text_of {K : PySem.W.Frag} {H : Hp} {fs : List (PySem.Str × V)} {r : Row0} (h : fieldsOk K H fs r) : fs.lookup ("_text" : PySem.Str) = some (.str (textR r)) := by
  cases r with
  | ask p n ws => exact h.2.2.2
  | note p w t => exact h.2.2.2
  | gate p m n e => exact h.2.2.2.2
  | end_ p => exact h.2
end Lw
namespace K2
open PySem L2 Lw TL
theorem sixteen_ok {z : Str} (h : z ∈ Lw.sixteen) : nameOk z = true := by
  have all : ∀ z ∈ Lw.sixteen, nameOk z = true := by decide +kernel
  exact all z h
theorem line_good {s : Str} {later spots : List Str} {r : Row0} (h : LineOk s later spots r) (hs : s ∈ Lw.sixteen) (hl : ∀ z ∈ later, z ∈ Lw.sixteen) (hp : ∀ z ∈ spots, z ∈ Lw.sixteen) : RowGood r := by
  cases r with
  | ask p n ws =>
    obtain ⟨rfl, h1, h2, h3, h4⟩ := h
    have a1 : ∀ z ∈ (["a", "pay", "end"] : List Str), nameOk z = true := by decide +kernel
    have a2 : ∀ z ∈ (["ok", "no", "ask"] : List Str), nameOk z = true := by decide +kernel
    refine ⟨sixteen_ok hs, a1 n h1, h2, ?_, h3, fun w hw => ⟨a2 _ (h4 w hw).1, sixteen_ok (hp _ (h4 w hw).2)⟩⟩
    have z := nodup_len (m := (["ok", "no", "ask"] : List Str)) h3 fun x hx => by
      obtain ⟨w, hw, rfl⟩ := List.mem_map.mp hx
      exact (h4 w hw).1
    rw [List.length_map] at z
    exact z
  | note p w t =>
    obtain ⟨rfl, h1, h2⟩ := h
    have a1 : ∀ z ∈ (["paid", "note", "x"] : List Str), nameOk z = true := by decide +kernel
    exact ⟨sixteen_ok hs, a1 w h1, sixteen_ok (hl _ h2)⟩
  | gate p m n e =>
    obtain ⟨rfl, h1, h2, h3⟩ := h
    have a1 : ∀ z ∈ (["m", "n", "mark"] : List Str), nameOk z = true := by decide +kernel
    exact ⟨sixteen_ok hs, a1 m h1, sixteen_ok (hl _ h2), sixteen_ok (hl _ h3)⟩
  | end_ p =>
    have h : p = s := h
    subst h
    exact sixteen_ok hs
theorem wide_good {most : Int} {rs : List Row0} {ps : List Str} (h : WideOk most rs ps) : (∀ r ∈ rs, RowGood r) ∧ (rs.length : Int) ≤ most := by
  obtain ⟨spots, h1, h2, h3, h4, h5, h6, _⟩ := h
  refine ⟨fun r hr => ?_, by rw [h5]; exact h3⟩
  obtain ⟨j, hj⟩ := List.getElem?_of_mem hr
  obtain ⟨s, hs, ok⟩ := h6 j r hj
  exact line_good ok (h4 s (List.mem_of_getElem? hs)) (fun z hz => h4 z (List.mem_of_mem_drop hz)) h4
/-- objects of these rows -/
def MadeAll (K : PySem.W.Frag) (a : Ad) (H : Hp) (ps : List V) (rs : List Row0) : Prop := ps.length = rs.length ∧ ∀ (j : Nat) (p : V) (r : Row0), ps[j]? = some p → rs[j]? = some r → ∃ (x dx : Addr) (fs : List (Str × V)), p = .ref x ∧ H x = some (.ins (clsR a r) dx fs) ∧ fieldsOk K H fs r
theorem MadeAll.same {K : PySem.W.Frag} {a : Ad} {H H' : Hp} {ps : List V} {rs : List Row0} (h : MadeAll K a H ps rs) (s : Same H H') : MadeAll K a H' ps rs := by
  refine ⟨h.1, fun j p r hp hr => ?_⟩
  obtain ⟨x, dx, fs, e, hx, hf⟩ := h.2 j p r hp hr
  exact ⟨x, dx, fs, e, s _ _ hx, fields_same hf s⟩
theorem MadeAll.add {K : PySem.W.Frag} {a : Ad} {H : Hp} {D : Addr} {ps : List V} {rs : List Row0} {r : Row0} {x dx : Addr} {fs : List (Str × V)} (h : MadeAll K a H ps rs) (hD : H D = some (.lst ps)) (hx : H x = some (.ins (clsR a r) dx fs)) (hf : fieldsOk K H fs r) : MadeAll K a (upd H D (.lst (ps ++ [.ref x]))) (ps ++ [.ref x]) (rs ++ [r]) := by
  refine ⟨by rw [List.length_append, List.length_append, h.1]; rfl, fun j p r' hp hr => ?_⟩
  by_cases lt : j < ps.length
  · rw [List.getElem?_append_left lt] at hp
    rw [List.getElem?_append_left (by rw [← h.1]; exact lt)] at hr
    obtain ⟨x', dx', fs', e, hx', hf'⟩ := h.2 j p r' hp hr
    exact ⟨x', dx', fs', e, by rw [upd_ne (fun z => by rw [z, hD] at hx'; cases hx')]; exact hx', fields_off hD hf'⟩
  · have e1 := h.1
    have bound := (List.getElem?_eq_some_iff.mp hp).1
    rw [List.length_append, List.length_singleton] at bound
    obtain rfl : j = ps.length := by omega
    rw [List.getElem?_append_right (Nat.le_refl _), Nat.sub_self, List.getElem?_cons_zero] at hp
    rw [e1, List.getElem?_append_right (Nat.le_refl _), Nat.sub_self, List.getElem?_cons_zero] at hr
    obtain rfl := Option.some.inj hp
    obtain rfl := Option.some.inj hr
    exact ⟨x, dx, fs, rfl, by rw [upd_ne (fun z => by rw [z, hD] at hx; cases hx)]; exact hx, fields_off hD hf⟩
section
variable {P : Program} {w : World} {K : PySem.W.Frag} {mg : Str → Option Value} {base : Heap} {a : Ad} {fEq fStr : Addr} {dEq dStr : FuncData}
theorem eq_other (R : RowF K a fEq fStr dEq dStr) {H : Hp} {p dx : Addr} {fs : List (Str × V)} {r : Row0} {y : V} {T : String} {Q : VK} (hp : H p = some (.ins (clsR a r) dx fs)) (hf : fieldsOk K H fs r) (hT : T ∈ (["tuple", "str", "int"] : List String)) (ty : TyX K H y (.type T)) (q : Q (.bl false) H) : rOwnEq K fEq (spEqR K a) E0 (.ref p) y H Q :=
  ⟨p, _, dx, fs, .type T, rfl, hp, ty, R.firstT _ (cls_mem r) T hT, R.eqAt _ (cls_mem r), p, _, dx, fs, _, y, rfl, hp, cls_mem r, text_of hf, .inr ⟨T, hT, ty, _, rfl, q⟩⟩
theorem eq_row (R : RowF K a fEq fStr dEq dStr) {H : Hp} {p dx p' dx' : Addr} {fs fs' : List (Str × V)} {r r' : Row0} {Q : VK} (hp : H p = some (.ins (clsR a r) dx fs)) (hf : fieldsOk K H fs r) (hp' : H p' = some (.ins (clsR a r') dx' fs')) (hf' : fieldsOk K H fs' r') (q : Q (.bl (decide (textR r = textR r'))) H) :
    rOwnEq K fEq (spEqR K a) E0 (.ref p) (.ref p') H Q :=
  ⟨p, _, dx, fs, .ref (clsR a r'), rfl, hp, R.ty (cls_mem r') hp', R.first _ (cls_mem r) _ (cls_mem r'), R.eqAt _ (cls_mem r), p, _, dx, fs, _, .ref p', rfl, hp, cls_mem r, text_of hf, .inl ⟨p', _, dx', fs', _, rfl, hp', cls_mem r', text_of hf', _, rfl, q⟩⟩
theorem ne_row (R : RowF K a fEq fStr dEq dStr) {H : Hp} {p dx p' dx' : Addr} {fs fs' : List (Str × V)} {r r' : Row0} {Q : VK} (hp : H p = some (.ins (clsR a r) dx fs)) (hf : fieldsOk K H fs r) (hp' : H p' = some (.ins (clsR a r') dx' fs')) (hf' : fieldsOk K H fs' r') (q : Q (.bl (!decide (textR r = textR r'))) H) :
    rOwnNe K fEq (spEqR K a) E0 (.ref p) (.ref p') H Q :=
  ⟨p, _, dx, fs, .ref (clsR a r'), rfl, hp, R.ty (cls_mem r') hp', R.first _ (cls_mem r) _ (cls_mem r'), R.eqAt _ (cls_mem r), R.neAt _ (cls_mem r), R.obj _ (cls_mem r), p, _, dx, fs, _, .ref p', rfl, hp, cls_mem r, text_of hf, .inl ⟨p', _, dx', fs', _, rfl, hp', cls_mem r', text_of hf', _, rfl, q⟩⟩
theorem str_row {H : Hp} {p dx : Addr} {fs : List (Str × V)} {r : Row0} {Q : VK} (strAt : ∀ C ∈ rowCs a, PySem.W.findIn K (.ref C) "__str__" = some (some (.ref fStr))) (hp : H p = some (.ins (clsR a r) dx fs)) (hf : fieldsOk K H fs r) (q : Q (.str (textR r)) H) : rStrOwn K fStr (spStrR K a) E0 [.ref p] H Q :=
  ⟨p, _, dx, fs, rfl, hp, strAt _ (cls_mem r), p, _, dx, fs, _, rfl, hp, cls_mem r, text_of hf, _, rfl, q⟩
theorem made_isL {p n : Str} {ws : List (Str × Str)} {r' : Row0} (m : Made [.str p, .str n, .list (ws.map wayD)] r') : r' = .ask p n ws := by
  cases r' with
  | ask p' n' ws' =>
    rcases m with h | h
    · have h2 : [PyData.str p, .str n, .list (ws.map wayD)] = [.str p', .str n', .list (ws'.map wayD)] := h
      simp only [List.cons.injEq, PyData.str.injEq, PyData.list.injEq, and_true] at h2
      obtain ⟨e1, e2, e3⟩ := h2
      rw [e1, e2, ways_inj e3]
    · simp at h
  | note p' w' t' => have h : [PyData.str p, .str n, .list (ws.map wayD)] = [.str p', .str w', .str t'] := m; simp at h
  | gate p' m' n' e' => have h : [PyData.str p, .str n, .list (ws.map wayD)] = [.str p', .str m', .str n', .str e'] := m; simp at h
  | end_ p' => have h : [PyData.str p, .str n, .list (ws.map wayD)] = [.str p'] := m; simp at h
/-- an ask of a list of ways -/
theorem make_list {H : Hp} {Cir : Addr} {ta : TA} {σ : L2.St} {xs : List V} {p n : Str} {ws : List (Str × Str)} {Q : VK} (hta : ∀ Q, Q xs H → ta σ H Q) (ha : DpAll K H xs [.str p, .str n, .list (ws.map wayD)]) (good : RowGood (.ask p n ws))
    (fin : ∀ (H' : Hp) (x dx : Addr) (fs : List (Str × V)), Same H H' → H x = none → H' x = some (.ins a.cAsk dx fs) → fieldsOk K H' fs (.ask p n ws) → Q (.ref x) H') : tMake a.cAsk (spMk K a.cAsk Cir dueAsk 3) [] E0 ta σ H Q := by
  have due : dueAsk [.str p, .str n, .list (ws.map wayD)] = Str.empty := by
    have z := good_due good
    exact z
  have fin3 : fineAll [.str p, .str n, .list (ws.map wayD)] = true := by
    obtain ⟨h1, h2, h3, h4, h5, h6⟩ := good
    have z := ways_fine h4 h6
    rw [fine] at z
    rw [fineAll, fineAll, fineAll, name_fine h1, name_fine h2, fine, z]
    rfl
  refine hta _ fun x dx nx nd ne => ?_
  have s1 : Same H (upd H dx (.own x)) := same_new nd
  have nx' : (upd H dx (.own x)) x = none := by rw [upd_ne ne.symm]; exact nx
  have s2 : Same (upd H dx (.own x)) (upd (upd H dx (.own x)) x (.ins a.cAsk dx [])) := same_new nx'
  refine ⟨x, dx, xs, _, by rw [List.append_nil], dpAll_len ha, dpAll_same (s1.trans s2) _ _ ha, fin3, upd_same, fun e H' fs r' kp hi md fo => ⟨rfl, ?_⟩, fun e => absurd due e⟩
  have er := made_isL md
  subst er
  exact fin H' x dx fs (Same.made nx nd kp) nx hi fo
end
end K2

set_option Elab.async false
set_option linter.all false
set_option maxRecDepth 100000
set_option maxHeartbeats 2000000
namespace Lw
open PySem PySem.Spec PyProof.Rows L2
theorem pastDeal {B H' G' N : Hp} {d l pl : Addr} {u : HO} (nB : B pl = none) (m : News (upd B pl u) H' G' N d l) : Same B (hide pl G') ∧ (hide pl G') pl = none ∧ Deal (upd (hide pl G') pl u) H' d l ∧ Same N (hide pl G') := by
  have gL : G' pl = some u := m.kp _ _ upd_same
  have gU : upd G' pl u = G' := by
    funext b
    by_cases q : b = pl
    · rw [q, upd_same, gL]
    · rw [upd_ne q]
  refine ⟨fun b o e => ?_, hide_same, by rw [hide_upd, gU]; exact m.dl, fun b o e => ?_⟩
  · have ne : b ≠ pl := fun z => by rw [z, nB] at e; cases e
    rw [hide_ne ne]
    exact m.kp _ _ (by rw [upd_ne ne]; exact e)
  · have z := m.dis b o e
    have ne : b ≠ pl := fun q => by rw [q, upd_same] at z; cases z
    rw [hide_ne ne]
    exact m.sub _ _ e
end Lw
namespace K2
open PySem L2 Lw TL Hd
structure TxtL (K : PySem.W.Frag) (mg : Str → Option Value) (a : Ad) (fEq fStr : Addr) (dEq dStr : FuncData) : Prop where
  T : Txt K mg a
  R : RowF K a fEq fStr dEq dStr
  own : ∀ C ∈ rowCs a, PySem.W.kitOne K (.ref C) (.ref C) = some true
  strAt : ∀ C ∈ rowCs a, PySem.W.findIn K (.ref C) "__str__" = some (some (.ref fStr))
  strI : PySem.W.isFn K (.ref fStr) = true
  tInt : mg "int" = none
  tAbs : mg "abs" = none
  tRange : mg "range" = none
  tEnum : mg "enumerate" = none
  tZip : mg "zip" = none
  tMax : mg "max" = none
  tMin : mg "min" = none
  tRepr : mg "repr" = none
  deal : Hd.Top K mg "_law_deal" sDeal ["_law_script", "_law_base"]
  draw : Hd.Top K mg "_law_draw" sDraw ["_law_deal_here", "_law_many"]
  pick : Hd.Top K mg "_law_pick" sPick ["_law_deal_here", "_law_some"]
  mixed : Hd.Top K mg "_law_mixed" sMixed ["_law_deal_here", "_law_some"]
  titles : Hd.Top K mg "_law_titles" sTitles ["_law_deal_here", "_law_many"]
  line : Hd.Top K mg "_law_any_line" sLine ["_law_deal_here", "_law_spot", "_law_later", "_law_spots"]
  wide : Hd.Top K mg "_law_wide" sWide ["_law_deal_here", "_law_most"]
  text : Hd.Top K mg "_law_line_text" sText ["_law_line_here"]
  made : Hd.Top K mg "_law_line" sMade ["_law_line_here"]
  kept : Hd.Top K mg "_law_kept" sKept ["_law_made", "_law_line_here"]
  law : Hd.Top K mg "law" sLaw ["_law_script"]
section
variable {P : Program} {w : World} {K : PySem.W.Frag} {mg : Str → Option Value} {base : Heap} {a : Ad} {fEq fStr : Addr} {dEq dStr : FuncData}
theorem TxtL.okWide (L : TxtL K mg a fEq fStr dEq dStr) : FnOk P w K mg base CX0 4 (He.ga K "_law_wide") (fdOf K (He.ga K "_law_wide")) ["_law_deal_here", "_law_most"] (spWide K) := by
  have GD : FnOk P w K mg base CX0 1 (He.ga K "_law_draw") (fdOf K (He.ga K "_law_draw")) ["_law_deal_here", "_law_many"] spDraw := ok_draw L.draw.F L.tInt
  have GP : FnOk P w K mg base CX0 2 (He.ga K "_law_pick") (fdOf K (He.ga K "_law_pick")) ["_law_deal_here", "_law_some"] (spPick K) := ok_pick L.pick.F L.draw.F L.draw.g L.draw.b L.tInt L.T.tLen
  have GM : FnOk P w K mg base CX0 2 (He.ga K "_law_mixed") (fdOf K (He.ga K "_law_mixed")) ["_law_deal_here", "_law_some"] (spMixed K) := ok_mixed L.mixed.F L.draw.F L.draw.g L.draw.b L.tInt L.T.tLen L.T.tList L.tRange
  have GT := ok_titles L.titles.F GM L.mixed.F.kp L.mixed.g L.mixed.b
  have GL := ok_line L.line.F GM L.mixed.F.kp L.mixed.g L.mixed.b GP L.pick.F.kp L.pick.g L.pick.b GD L.draw.F.kp L.draw.g L.draw.b L.T.tTuple
  exact ok_wide L.wide.F GT L.titles.F.kp L.titles.g L.titles.b GL L.line.F.kp L.line.g L.line.b GM L.mixed.F.kp L.mixed.g L.mixed.b GD L.draw.F.kp L.draw.g L.draw.b L.T.tTuple L.tEnum
def spLaw (K : PySem.W.Frag) : Sp := fun vs H Q _ => ∃ (sa : Addr) (ns : List Int), vs = [.ref sa] ∧ SqL K H sa (ns.map V.int) ∧ ns.length ≤ 63 ∧ ∀ H', Q (.bl true) H'
abbrev nLaw : List Str := ["_law_script", "_law_spot", "_law_deal_here", "_law_lines", "_law_turn", "_law_line_here", "_law_made", "_law_one", "_law_other", "_law_more", "_law_is_same", "_law_pairs", "_law_kept_here"]
theorem scLaw : FnScope nLaw ["_law_script"] (defScope sLaw) := ⟨rfl, rfl, rfl, by decide +kernel, rfl, by decide +kernel, by decide +kernel⟩
def firstR : List Row0 := [.end_ "ask", .ask "x" "note" [("ok", "x")]]
theorem first_good : ∀ r ∈ firstR, RowGood r := by
  intro r hr
  simp only [firstR, List.mem_cons, List.not_mem_nil, or_false] at hr
  rcases hr with rfl | rfl
  · show nameOk "ask" = true
    decide +kernel
  · refine ⟨by decide +kernel, by decide +kernel, by simp, by decide, by decide, fun w hw => ?_⟩
    obtain rfl := List.mem_singleton.mp hw
    exact ⟨by decide +kernel, by decide +kernel⟩
theorem line_ref {K : PySem.W.Frag} {H : Hp} {x : V} {r : Row0} (h : Dp K H x (lineD r)) : ∃ t, x = .ref t := by
  cases r <;> cases h <;> exact ⟨_, rfl⟩
theorem line_ty {K : PySem.W.Frag} {H : Hp} {x : V} {r : Row0} (h : Dp K H x (lineD r)) : TyX K H x (.type "tuple") := by
  have z := ty_data h
  cases r <;> exact z
theorem TxtL.okLaw (L : TxtL K mg a fEq fStr dEq dStr) : FnG P w K mg base CX0 7 (He.ga K "law") (fdOf K (He.ga K "law")) ["_law_script"] (spLaw K) := by
  have T := L.T
  have R := L.R
  have okDraw : FnOk P w K mg base CX0 1 (He.ga K "_law_draw") (fdOf K (He.ga K "_law_draw")) ["_law_deal_here", "_law_many"] spDraw := ok_draw L.draw.F L.tInt
  have okDeal : FnOk P w K mg base CX0 1 (He.ga K "_law_deal") (fdOf K (He.ga K "_law_deal")) ["_law_script", "_law_base"] (spDeal K) := ok_deal L.deal.F L.tInt L.tAbs
  have okText : FnOk P w K mg base CX0 1 (He.ga K "_law_line_text") (fdOf K (He.ga K "_law_line_text")) ["_law_line_here"] (spText K) := ok_text L.text.F T.tList
  have okMade : FnOk P w K mg base CX0 6 (He.ga K "_law_line") (fdOf K (He.ga K "_law_line")) ["_law_line_here"] (spMake K a) := T.okMade L.made.F
  have okK : FnG P w K mg base CX0 1 (He.ga K "_law_kept") (fdOf K (He.ga K "_law_kept")) ["_law_made", "_law_line_here"] (spKept K a) := okKept R T L.own L.tRepr L.kept.F
  refine fun_okG0 L.law.F scLaw (fun vs H Q E h => ?_) (fun cdv A outer s H vs Q E hr hg h => ?_)
  · obtain ⟨sa, ns, rfl, _⟩ := h
    rfl
  · obtain ⟨sa, ns, rfl, hS, hlen, fin⟩ := h
    have hr1 : Room 1 _ := hr.mono (by decide)
    have hr2 : Room 2 _ := hr.mono (by decide)
    have hr3 : Room 3 _ := hr.mono (by decide)
    have hr4 : Room 4 _ := hr.mono (by decide)
    have hr5 : Room 5 _ := hr.mono (by decide)
    have hu := hr.units
    have okEq : FnOk P w K mg base CX0 1 fEq dEq ["self", "other"] (spEqR K a) := R.okEq T
    have okStr : FnOk P w K mg base CX0 1 fStr dStr ["self"] (spStrR K a) := R.okStr T
    refine ⟨_, pss_cons (ps_for PassesOwn.never rfl (pi_range1 rfl L.tRange (pa_cons (pe_callB (call_max2 rfl) (by rfl) L.tMax (by decide +kernel) (pa_cons pe_int (pa_cons (pe_callB (call_min2 rfl) (by rfl) L.tMin (by decide +kernel) (pa_cons pe_int (pa_cons (pe_callB call_len_seq (by rfl) T.tLen PySem.boot_len (pa_cons (pv 0) pa_nil)) pa_nil))) pa_nil))) pa_nil)) (pg_name (i := 1) scLaw.nd rfl (Or.inl rfl))
        (pss_cons (ps_set (i := 2) scLaw.nd rfl (Or.inl rfl) (pe_call okDeal hr1 rfl L.deal.g L.deal.F.kp L.deal.b .nil pass0 (pa_cons (pv 0) (pa_cons (pv 1) pa_nil))))
        (pss_cons (ps_set (i := 3) scLaw.nd rfl (Or.inl rfl) (pe_lst (pa_cons (pe_tup (pa_cons pe_str (pa_cons pe_str pa_nil))) (pa_cons (pe_tup (pa_cons pe_str (pa_cons pe_str (pa_cons pe_str (pa_cons (pe_tup (pa_cons (pe_tup (pa_cons pe_str (pa_cons pe_str pa_nil))) pa_nil)) pa_nil))))) pa_nil))))
        (pss_cons (ps_for PassesOwn.never rfl (pi_range1 rfl L.tRange (pa_cons pe_int pa_nil)) (pg_name (i := 4) scLaw.nd rfl (Or.inl rfl))
          (pss_one (ps_expr (pe_bm PySem.F.plainAttrs_list PySem.F.slot_list_extend PySem.F.type_list_extend mt_extend (pv 3) (pa_cons (pe_ix ix_tup (pe_call L.okWide hr4 rfl L.wide.g L.wide.F.kp L.wide.b .nil pass0 (pa_cons (pv 2) (pa_cons pe_int pa_nil))) pe_int (fun _ _ => rfl)) pa_nil)))))
        (pss_cons (ps_setLc (i := 6) (own := [("_law_line_here", 5)]) (g := gName 5) (tt := tYes) (te := tCall (spMake K a) [] E0 (tCons (tVar 5) tNil)) (by rfl) scLaw.nd rfl rfl (sw_true rfl rfl rfl (by decide +kernel)) (pi_list (pv 3))
            (blkOk_by (own := [("_law_line_here", 5)]) (N := nLaw) (sc := defScope sLaw) (by decide +kernel)) (fun _ _ _ _ _ => pg_name (i := 5) scLaw.nd rfl (Or.inl rfl)) (fun _ _ _ _ _ => pts_nil)
            (fun _ _ _ _ _ => pe_call okMade hr rfl L.made.g L.made.F.kp L.made.b .nil pass0 (pa_cons (pv 5) pa_nil)))
        (pss_cons (ps_for PassesOwn.never rfl (pi_zip rfl L.tZip (pa_cons (pv 6) (pa_cons (pv 3) pa_nil))) (pg_tup rfl (pgs_cons (pg_name (i := 7) scLaw.nd rfl (.inl rfl)) (pgs_cons (pg_name (i := 5) scLaw.nd rfl (.inl rfl)) pgs_nil)))
          (pss_cons (ps_if (PW.pt (pw_or (pt_not (pt_val (pe_callB call_isi (by rfl) T.tIs PyProof.Rows.boot_isinstance (pa_cons (pv 7) (pa_cons (pe_glob (v := .ref a.cRow) (by rfl) T.row.g rfl) pa_nil)))))
              (pw_or (pt_not (pt_val (pe_callG okK hr1 hg rfl L.kept.g L.kept.F.kp L.kept.b pass0 (pa_cons (pv 7) (pa_cons (pv 5) pa_nil)))))
              (pw_or1 (pt_cmpR op_ne (pe_callTy (call_strOwn okStr hr3 L.strI R.strB pass0) (by rfl) T.tStr PyProof.Rows.boot_str (pa_cons (pv 7) pa_nil)) (pe_call okText hr1 rfl L.text.g L.text.F.kp L.text.b .nil pass0 (pa_cons (pv 5) pa_nil)) (nomark _)))))) (pss_one (ps_ret pe_bl)) pss_nil)
          (pss_one (ps_if (PW.pt (pw_or (pt_cmpR (op_ownEq okEq hr1 R.eqI R.eqB pass0) (pv 7) (pv 5) (nomark _))
              (pw_or (pt_cmpR (op_ownEq okEq hr1 R.eqI R.eqB pass0) (pv 7) (pe_callTy (call_strOwn okStr hr3 L.strI R.strB pass0) (by rfl) T.tStr PyProof.Rows.boot_str (pa_cons (pv 7) pa_nil)) (nomark _))
              (pw_or (pt_cmpR (op_ownEq okEq hr1 R.eqI R.eqB pass0) (pv 7) pe_int (nomark _))
              (pw_or1 (pt_not (pt_cmpR (op_ownEq okEq hr1 R.eqI R.eqB pass0) (pv 7) (pe_call okMade hr rfl L.made.g L.made.F.kp L.made.b .nil pass0 (pa_cons (pv 5) pa_nil)) (nomark _)))))))) (pss_one (ps_ret pe_bl)) pss_nil))))
        (pss_cons (ps_for PassesOwn.never rfl (pi_zip rfl L.tZip (pa_cons (pv 6) (pa_cons (pv 3) pa_nil))) (pg_tup rfl (pgs_cons (pg_name (i := 7) scLaw.nd rfl (.inl rfl)) (pgs_cons (pg_name (i := 5) scLaw.nd rfl (.inl rfl)) pgs_nil)))
          (pss_one (ps_for PassesOwn.never rfl (pi_zip rfl L.tZip (pa_cons (pv 6) (pa_cons (pv 3) pa_nil))) (pg_tup rfl (pgs_cons (pg_name (i := 8) scLaw.nd rfl (.inl rfl)) (pgs_cons (pg_name (i := 9) scLaw.nd rfl (.inl rfl)) pgs_nil)))
            (pss_cons (ps_set (i := 10) scLaw.nd rfl (Or.inl rfl) (pe_cmpR (op_eqD hu) (pv 5) (pv 9) (nomark _)))
            (pss_one (ps_if (PW.pt (pw_or (pt_cmpR op_ne (pe_cmpR (op_ownEq okEq hr1 R.eqI R.eqB pass0) (pv 7) (pv 8) (nomark _)) (pv 10) (nomark _))
                (pw_or1 (pt_cmpR op_eq (pe_cmpR (op_ownNe okEq hr2 R.eqI R.eqB pass0) (pv 7) (pv 8) (nomark _)) (pv 10) (nomark _))))) (pss_one (ps_ret pe_bl)) pss_nil))))))
        (pss_cons (ps_set (i := 11) scLaw.nd rfl (Or.inl rfl) (pe_slice sl_list (pe_lst (pa_cons (pe_tup (pa_cons pe_str (pa_cons pe_str pa_nil))) (pa_cons (pe_tup (pa_cons pe_str (pa_cons pe_str pa_nil))) pa_nil))) po_none (po_some (pe_op op_add pe_int (pe_call okDraw hr1 rfl L.draw.g L.draw.F.kp L.draw.b .nil pass0 (pa_cons (pv 2) (pa_cons pe_int pa_nil)))))))
        (pss_cons (ps_set (i := 12) scLaw.nd rfl (Or.inl rfl) (pe_callTy call_tuple_of (by rfl) T.tTuple PyProof.Rows.boot_tuple (pa_cons (pv 11) pa_nil)))
        (pss_cons (ps_set (i := 7) scLaw.nd rfl (Or.inl rfl) (pe_make T.ask.mkd T.okAsk hr5 rfl T.ask.g T.ask.b .nil passL (pa_cons pe_str (pa_cons pe_str (pa_cons (pv 11) pa_nil)))))
        (pss_cons (ps_expr (pe_bm PySem.F.plainAttrs_list PySem.F.slot_list_append PySem.F.type_list_append mt_append (pv 11) (pa_cons (pe_tup (pa_cons pe_str (pa_cons pe_str pa_nil))) pa_nil)))
        (pss_one (ps_if (PW.pt (pw_or (pt_cmpR (op_neD hu) (pe_fld (pv 7) rfl) (pv 12) (nomark _))
            (pw_or (pt_cmpR (op_ownNe okEq hr2 R.eqI R.eqB pass0) (pv 7) (pe_make T.ask.mkd T.okAsk hr5 rfl T.ask.g T.ask.b .nil passL (pa_cons pe_str (pa_cons pe_str (pa_cons (pv 12) pa_nil)))) (nomark _))
            (pw_or1 (pt_cmpR op_ne (pe_callB call_len_seq (by rfl) T.tLen PySem.boot_len (pa_cons (pv 11) pa_nil)) (pe_op op_add (pe_callB call_len_seq (by rfl) T.tLen PySem.boot_len (pa_cons (pv 12) pa_nil)) pe_int) (nomark _)))))) (pss_one (ps_ret pe_bl)) pss_nil)))))))))))))
      (pss_one (ps_ret pe_bl)), ?_⟩
    have jb : ∀ m : Int, 0 ≤ m → 2 ≤ (if (if m < 5 then m else 5) > (2 : Int) then (if m < 5 then m else 5) else 2) ∧ (if (if m < 5 then m else 5) > (2 : Int) then (if m < 5 then m else 5) else 2) ≤ 5 := fun m hm => by split <;> split <;> omega
    refine ⟨_, rfl, sa, _, rfl, .inl hS, _, _, rfl, _, _, rfl, _, rfl, ?_⟩
    obtain ⟨j2, j5⟩ := jb ((ns.map V.int).length : Int) (by omega)
    refine ⟨by omega, by omega, for_range (lo := 0) (fun i σ1 H1 => ∃ v1 v2 v3 v4 v5 v6 v7 v8 v9 v10 v11 v12, σ1 = [some (.ref sa), v1, v2, v3, v4, v5, v6, v7, v8, v9, v10, v11, v12] ∧ Same H H1) ⟨_, _, _, _, _, _, _, _, _, _, _, _, rfl, Same.refl H⟩ ?_ ?_⟩
    · rintro i _ H1 hi ⟨v1, v2, v3, v4, v5, v6, v7, v8, v9, v10, v11, v12, rfl, sH⟩
      refine ⟨_, rfl, _, rfl, sa, ns, _, rfl, sH.seq hS, hlen, by omega, by omega, fun H2 d l D2 => ?_⟩
      refine ⟨(by show 2 ≤ sizeLine; decide), fun t1 u1 => ?_⟩
      obtain ⟨H3, G3, N3, e3, n3, l3, k3⟩ := (News.zero D2).tup u1 [.str "end", .str "ask"]
      rw [← e3]
      clear e3
      refine ⟨(by show 2 ≤ sizeLine; decide), fun t2 u2 => ?_⟩
      obtain ⟨H4, G4, N4, e4, n4, l4, k4⟩ := n3.tup u2 [.str "ok", .str "x"]
      rw [← e4]
      clear e4
      refine ⟨(by show 1 ≤ sizeLine; decide), fun t3 u3 => ?_⟩
      obtain ⟨H5, G5, N5, e5, n5, l5, k5⟩ := n4.tup u3 [.ref t2]
      rw [← e5]
      clear e5
      refine ⟨(by show 4 ≤ sizeLine; decide), fun t4 u4 => ?_⟩
      obtain ⟨H6, G6, N6, e6, n6, l6, k6⟩ := n5.tup u4 [.str "ask", .str "x", .str "note", .ref t3]
      rw [← e6]
      clear e6
      refine ⟨(by show 2 ≤ sizeLine; decide), fun ll ul => ?_⟩
      have G6ll : G6 ll = none := n6.dl.same.free ul
      have D7 := n6.dl.put (o := .lst [.ref t1, .ref t4]) ul
      have hd6 : DpAll K N6 [.ref t1, .ref t4] (firstR.map lineD) :=
        .cons (.tup (SqT.of (k6 _ _ (k5 _ _ (k4 _ _ l3)))) (.cons (.str _) (.cons (.str _) .nil))) (.cons (.tup (SqT.of l6) (.cons (.str _) (.cons (.str _) (.cons (.str _) (.cons (.tup (SqT.of (k6 _ _ l5)) (.cons (.tup (SqT.of (k6 _ _ (k5 _ _ l4))) (.cons (.str _) (.cons (.str _) .nil))) .nil)) .nil))))) .nil)
      have hd7 := dpAll_same n6.sub _ _ hd6
      have s6 : Same H1 G6 := n6.kp
      generalize upd H6 ll (.lst [.ref t1, .ref t4]) = H7 at D7
      clear k3 k4 k5 k6 l3 l4 l5 l6 n3 n4 n5 n6 u1 u2 u3 u4 hd6 ul
      dsimp only [gName, tNext]
      refine seq_cut (fun σ1 H8 => ∃ v4, σ1 = [some (.ref sa), some (.int (0 + (i : Nat))), some (.ref d), some (.ref ll), v4, v5, v6, v7, v8, v9, v10, v11, v12] ∧ ∃ (B : Hp) (xs : List V) (rs : List Row0), Same H1 B ∧ B ll = none ∧ Deal (upd B ll (.lst xs)) H8 d l ∧ DpAll K B xs (rs.map lineD) ∧ (∀ r ∈ rs, RowGood r) ∧ xs.length ≤ 34) ?after1 fun after1 => ?go1
      case go1 =>
        refine ⟨4, rfl, by decide, by decide, for_range (lo := 0) (n := 4) (fun j σ1 H8 => ∃ v4, σ1 = [some (.ref sa), some (.int (0 + (i : Nat))), some (.ref d), some (.ref ll), v4, v5, v6, v7, v8, v9, v10, v11, v12] ∧ ∃ (B : Hp) (xs : List V) (rs : List Row0), Same H1 B ∧ B ll = none ∧ Deal (upd B ll (.lst xs)) H8 d l ∧ DpAll K B xs (rs.map lineD) ∧ (∀ r ∈ rs, RowGood r) ∧ xs.length ≤ 2 + 8 * j)
          ⟨_, rfl, G6, _, firstR, s6, G6ll, D7, hd7, first_good, by show 2 ≤ 2; decide⟩ ?_ fun σ1 H8 h => after1 σ1 H8 ?_⟩
        · rintro j _ H8 hj ⟨v4', rfl, B, xs, rs, sB, nB, DB, hx, good, len⟩
          refine ⟨_, rfl, .inl ⟨rfl, _, SqL.of (DB.same _ _ upd_same)⟩, ?_⟩
          refine ⟨_, rfl, upd B ll (.lst xs), d, l, 8, rfl, DB, by decide, by decide, fun G' H9 N q lp tp xs2 rs2 rs2' ps nw hq hlp hx2 perm wide htp => ?_⟩
          obtain ⟨g2, len2⟩ := wide_good wide
          have lx2 : xs2.length ≤ 8 := by
            rw [dpAll_len hx2, List.length_map, perm.length_eq]
            omega
          refine ⟨q, _, 0, _, rfl, rfl, SqT.of (nw.inH _ _ hq), at0, ?_⟩
          refine ⟨ll, lp, xs, xs2, rfl, rfl, nw.dl.same _ _ (nw.kp _ _ upd_same), nw.inH _ _ hlp, Nat.le_trans (show _ ≤ 100 by omega) (by decide), ?_⟩
          obtain ⟨b1, b2, b3, b4⟩ := pastDeal nB nw
          refine ⟨_, rfl, hide ll G', xs ++ xs2, rs ++ rs2', sB.trans b1, b2, Deal.over b3, ?_, fun r hr => ?_, by rw [List.length_append]; omega⟩
          · rw [List.map_append]
            exact dpAll_app (dpAll_same b1 _ _ hx) (dpAll_same b4 _ _ hx2)
          · rcases List.mem_append.mp hr with hr | hr
            · exact good r hr
            · exact g2 r (perm.mem_iff.mp hr)
        · obtain ⟨v4', e, B, xs, rs, sB, nB, DB, hx, good, len⟩ := h
          exact ⟨v4', e, B, xs, rs, sB, nB, DB, hx, good, len⟩
      case after1 =>
        rintro _ H8 ⟨v4', rfl, B, xs, rs, sB, nB, DB, hx, good, len⟩
        have hl : H8 ll = some (.lst xs) := DB.same _ _ upd_same
        have sB8 : Same B H8 := (same_new nB).trans DB.same
        have hx8 : DpAll K H8 xs (rs.map lineD) := dpAll_same sB8 _ _ hx
        have sH8 : Same H H8 := sH.trans (sB.trans sB8)
        clear hx sB8 hd7 D7 s6
        have lxr : xs.length = rs.length := by rw [dpAll_len hx8, List.length_map]
        -- made
        refine ⟨_, rfl, ll, rfl, ⟨_, SqL.of hl⟩, fun D un => lc_list (K := K) (a := ll) (xs := xs) (fun j H' => Same H8 H' ∧ ∃ ps, H' D = some (.lst ps) ∧ MadeAll K a H' ps (rs.take j)) ⟨same_new un, [], upd_same, rfl, fun j p r hp => by simp at hp⟩ (fun j H' _ q => q.1.seq (SqL.of hl)) ?_ ?_⟩
        · rintro j x H9 hxj ⟨s9, ps, hD, hM⟩
          obtain ⟨dd, ed, hdx⟩ := dpAll_at hx8 hxj
          rw [List.getElem?_map] at ed
          obtain ⟨r, hr, rfl⟩ := Option.map_eq_some_iff.mp ed
          obtain ⟨t, rfl⟩ := line_ref hdx
          have gr := good r (List.mem_of_getElem? hr)
          refine ⟨rfl, ?_⟩
          dsimp only [tYes]
          refine iteT ⟨_, rfl, t, r, rfl, dp_same s9 _ _ hdx, good_due gr, good_fine gr, fun H10 x dx fs s10 nx hx10 hf10 => ?_⟩
          have lp : ps.length = j := by
            rw [hM.1, List.length_take]
            have := (List.getElem?_eq_some_iff.mp hr).1
            omega
          have lj := (List.getElem?_eq_some_iff.mp hxj).1
          refine ⟨ps, s10 _ _ hD, Nat.lt_of_le_of_lt (show ps.length ≤ 100 by omega) (by decide), fun b o e => ?_, ps ++ [.ref x], upd_same, ?_⟩
          · rw [upd_ne (ne_of_none e un)]
            exact s10 _ _ (s9 _ _ e)
          · rw [List.take_add_one, hr]
            exact (hM.same s10).add (s10 _ _ hD) hx10 hf10
        · rintro H9 ⟨s9, ps, hD, hM⟩
          rw [lxr, List.take_length] at hM
          have hl9 := s9 _ _ hl
          have hx9 := dpAll_same s9 _ _ hx8
          have D9 := DB.on s9
          have sH9 := sH8.trans s9
          clear hx8 hl DB s9 sH8 un
          have rowAt : ∀ {H' : Hp} {j : Nat} {x y : V}, Same H9 H' → ps[j]? = some x → xs[j]? = some y → ∃ (r : Row0) (p t dx : Addr) (fs : List (Str × V)), rs[j]? = some r ∧ RowGood r ∧ x = .ref p ∧ y = .ref t ∧ H' p = some (.ins (clsR a r) dx fs) ∧ fieldsOk K H' fs r ∧ Dp K H' (.ref t) (lineD r) := by
            intro H' j x y s hxj hyj
            obtain ⟨dd, ed, hdx⟩ := dpAll_at hx9 hyj
            rw [List.getElem?_map] at ed
            obtain ⟨r, hr, rfl⟩ := Option.map_eq_some_iff.mp ed
            obtain ⟨t, rfl⟩ := line_ref hdx
            obtain ⟨p, dx, fs, rfl, hp, hf⟩ := hM.2 j x r hxj hr
            exact ⟨r, p, t, dx, fs, hr, good r (List.mem_of_getElem? hr), rfl, rfl, s _ _ hp, fields_same hf s, dp_same s _ _ hdx⟩
          have lpx : ps.length = xs.length := by rw [hM.1, lxr]
          dsimp only [gName, tNext]
          refine seq_cut (fun σ1 H10 => ∃ v5 v7, σ1 = [some (.ref sa), some (.int (0 + (i : Nat))), some (.ref d), some (.ref ll), v4', v5, some (.ref D), v7, v8, v9, v10, v11, v12] ∧ Same H9 H10) ?after2 fun after2 => ?go2
          case go2 =>
            refine ⟨_, rfl, _, rfl, D, ll, ps, xs, rfl, SqL.of hD, SqL.of hl9, for_zipLe (Nat.le_of_eq lpx) (fun j σ1 H10 => ∃ v5 v7, σ1 = [some (.ref sa), some (.int (0 + (i : Nat))), some (.ref d), some (.ref ll), v4', v5, some (.ref D), v7, v8, v9, v10, v11, v12] ∧ Same H9 H10) ⟨_, _, rfl, Same.refl _⟩ (fun j σ1 H10 ⟨_, _, _, s⟩ => ⟨s.seq (SqL.of hD), s.seq (SqL.of hl9)⟩) ?_ (fun σ1 H10 q => after2 σ1 H10 q)⟩
            rintro j x y T' _ H10 hxj hyj ⟨v5', v7', rfl, s10⟩ uT
            have s11 := s10.trans (same_new (o := .tup [x, y]) uT)
            obtain ⟨r, p, t, dx, fs, hr, gr, rfl, rfl, hp, hf, hd⟩ := rowAt s11 hxj hyj
            refine ⟨_, _, rfl, SqT.of upd_same, rfl, ?_⟩
            refine ⟨_, _, rfl, _, _, rfl, rfl, ?_⟩
            generalize upd H10 T' (.tup [.ref p, .ref t]) = H11 at *
            -- its kind, its line, its text
            refine ⟨_, rfl, _, _, _, _, _, rfl, .own a.cRow, R.ty (cls_mem r) hp, R.row _ (cls_mem r), _, rfl, iteF ?_⟩
            refine ⟨_, rfl, _, rfl, p, t, dx, fs, r, rfl, hp, hf, hd, gr, fun H12 s12 => ⟨_, rfl, iteF ?_⟩⟩
            refine ⟨_, rfl, ?_⟩
            dsimp only [tNil]
            refine str_row L.strAt (s12 _ _ hp) (fields_same hf s12) ⟨_, rfl, t, r, rfl, dp_same s12 _ _ hd, good_short gr, fun H13 s13 => ⟨rfl, _, rfl, iteNS rfl ?_⟩⟩
            have s113 := s12.trans s13
            have hp3 := s113 _ _ hp
            have hf3 := fields_same hf s113
            have hd3 := dp_same s113 _ _ hd
            -- equal to nothing else
            refine ⟨_, rfl, _, rfl, ?_⟩
            refine eq_other R hp3 hf3 (by simp) (line_ty hd3) ⟨_, rfl, iteF ?_⟩
            refine ⟨_, rfl, _, rfl, ?_⟩
            dsimp only [tNil]
            refine str_row L.strAt hp3 hf3 ?_
            refine eq_other R hp3 hf3 (T := "str") (by simp) (ty_data (.str _)) ⟨_, rfl, iteF ?_⟩
            refine ⟨_, rfl, ?_⟩
            dsimp only [tC]
            refine eq_other R hp3 hf3 (T := "int") (by simp) (ty_data (.int _)) ⟨_, rfl, iteF ?_⟩
            refine ⟨_, rfl, _, rfl, t, r, rfl, hd3, good_due gr, good_fine gr, fun H14 x' dx' fs' s14 nx hx' hf' => ?_⟩
            refine eq_row R (s14 _ _ hp3) (fields_same hf3 s14) hx' hf' ?_
            rw [decide_eq_true rfl]
            exact ⟨_, rfl, iteF ⟨_, _, rfl, (s11.trans s113).trans s14⟩⟩
          case after2 =>
            rintro _ H10 ⟨v5', v7', rfl, s10⟩
            refine seq_cut (fun σ1 H11 => ∃ v5 v7 v8 v9 v10, σ1 = [some (.ref sa), some (.int (0 + (i : Nat))), some (.ref d), some (.ref ll), v4', v5, some (.ref D), v7, v8, v9, v10, v11, v12] ∧ Same H9 H11) ?after3 fun after3 => ?go3
            case go3 =>
              refine ⟨_, rfl, _, rfl, D, ll, ps, xs, rfl, SqL.of (s10 _ _ hD), SqL.of (s10 _ _ hl9), for_zipLe (Nat.le_of_eq lpx) (fun j σ1 H11 => ∃ v5 v7 v8 v9 v10, σ1 = [some (.ref sa), some (.int (0 + (i : Nat))), some (.ref d), some (.ref ll), v4', v5, some (.ref D), v7, v8, v9, v10, v11, v12] ∧ Same H9 H11) ⟨_, _, _, _, _, rfl, s10⟩ (fun j σ1 H11 ⟨_, _, _, _, _, _, s⟩ => ⟨s.seq (SqL.of hD), s.seq (SqL.of hl9)⟩) ?_ (fun σ1 H11 q => after3 σ1 H11 q)⟩
              rintro j x y T' _ H11 hxj hyj ⟨w5, w7, w8, w9, w10, rfl, s11⟩ uT
              have s12 := s11.trans (same_new (o := .tup [x, y]) uT)
              obtain ⟨r, p, t, dx, fs, hr, gr, rfl, rfl, hp, hf, hd⟩ := rowAt s12 hxj hyj
              refine ⟨_, _, rfl, SqT.of upd_same, rfl, ?_⟩
              refine ⟨_, _, rfl, _, _, rfl, rfl, ?_⟩
              generalize upd H11 T' (.tup [.ref p, .ref t]) = H12 at *
              refine ⟨_, rfl, _, rfl, D, ll, ps, xs, rfl, SqL.of (s12 _ _ hD), SqL.of (s12 _ _ hl9), for_zipLe (Nat.le_of_eq lpx) (fun j σ1 H13 => ∃ v8 v9 v10, σ1 = [some (.ref sa), some (.int (0 + (i : Nat))), some (.ref d), some (.ref ll), v4', some (.ref t), some (.ref D), some (.ref p), v8, v9, v10, v11, v12] ∧ Same H12 H13) ⟨_, _, _, rfl, Same.refl _⟩ (fun j σ1 H13 ⟨_, _, _, _, s⟩ => ⟨(s12.trans s).seq (SqL.of hD), (s12.trans s).seq (SqL.of hl9)⟩) ?_ (fun σ1 H13 ⟨_, _, _, e, s⟩ => ⟨_, _, _, _, _, e, s12.trans s⟩)⟩
              rintro j2 x y T2 _ H13 hxj2 hyj2 ⟨z8, z9, z10, rfl, s13⟩ uT2
              have s14 := s13.trans (same_new (o := .tup [x, y]) uT2)
              obtain ⟨r2, p2, t2, dx2, fs2, hr2', gr2, rfl, rfl, hp2, hf2, hd2⟩ := rowAt (s12.trans s14) hxj2 hyj2
              have hp1 := s14 _ _ hp
              have hf1 := fields_same hf s14
              have hd1 := dp_same s14 _ _ hd
              refine ⟨_, _, rfl, SqT.of upd_same, rfl, ?_⟩
              refine ⟨_, _, rfl, _, _, rfl, rfl, ?_⟩
              generalize upd H13 T2 (.tup [.ref p2, .ref t2]) = H14 at *
              have hb : decide (textR r = textR r2) = PyData.eqv (lineD r) (lineD r2) := by
                by_cases e : r = r2
                · subst e
                  rw [eqvSelf _ (line_facts gr).2]
                  exact decide_eq_true rfl
                · rw [decide_eq_false fun z => e (text_inj gr gr2 z)]
                  cases q : PyData.eqv (lineD r) (lineD r2) with
                  | true => exact absurd (line_eqv q) e
                  | false => rfl
              refine ⟨_, rfl, _, rfl, lineD r, lineD r2, hd1, hd2, (line_facts gr).1, (line_facts gr2).1, ?_⟩
              refine ⟨_, rfl, _, rfl, ?_⟩
              refine eq_row R hp1 hf1 hp2 hf2 ⟨_, rfl, rfl, _, rfl, ?_⟩
              rw [hb]
              refine iteNS rfl ⟨_, rfl, _, rfl, ?_⟩
              refine ne_row R hp1 hf1 hp2 hf2 ⟨_, rfl, rfl, _, rfl, ?_⟩
              rw [hb, show decide (V.bl (!PyData.eqv (lineD r) (lineD r2)) = V.bl (PyData.eqv (lineD r) (lineD r2))) = false from by cases PyData.eqv (lineD r) (lineD r2) <;> rfl]
              exact iteF ⟨_, _, _, rfl, s14⟩
            case after3 =>
              rintro _ H11 ⟨w5, w7, w8, w9, w10, rfl, s11⟩
              have D11 := D9.on s11
              have sH11 := sH9.trans s11
              refine ⟨(by show 2 ≤ sizeLine; decide), fun p1 u1 => ?_⟩
              obtain ⟨H12, G12, N12, e12, n12, l12, k12⟩ := (News.zero D11).tup u1 [.str "ok", .str "b"]
              rw [← e12]
              refine ⟨(by show 2 ≤ sizeLine; decide), fun p2 u2 => ?_⟩
              obtain ⟨H13, G13, N13, e13, n13, l13, k13⟩ := n12.tup u2 [.str "no", .str "a"]
              rw [← e13]
              refine ⟨(by show 2 ≤ sizeLine; decide), fun p3 u3 => ?_⟩
              obtain ⟨H14, G14, N14, e14, n14, l14, k14⟩ := n13.lst u3 [.ref p1, .ref p2]
              rw [← e14]
              refine ⟨_, rfl, _, d, l, 2, rfl, n14.dl, by decide, by decide, fun H15 rr D15 r0 r1 => ?_⟩
              have sG : Same H H15 := (((sH.trans sB).trans (same_new nB)).trans n14.kp).trans D15.same
              have key : ∃ (xw : List V) (ws : List (Str × Str)), cutV [V.ref p1, .ref p2] none (some (1 + rr)) = xw ∧ DpAll K N14 xw (ws.map wayD) ∧ RowGood (.ask "a" "pay" ws) ∧ xw.length ≤ 2 := by
                have a1 : Dp K N14 (.ref p1) (wayD ("ok", "b")) := .tup (SqT.of (k14 _ _ (k13 _ _ l12))) (.cons (.str _) (.cons (.str _) .nil))
                have a2 : Dp K N14 (.ref p2) (wayD ("no", "a")) := .tup (SqT.of (k14 _ _ l13)) (.cons (.str _) (.cons (.str _) .nil))
                rw [cut_take (by omega) (by show _ ≤ ((2 : Nat) : Int); omega)]
                rcases (show rr = 0 ∨ rr = 1 by omega) with rfl | rfl
                · refine ⟨_, [("ok", "b")], rfl, .cons a1 .nil, ⟨by decide +kernel, by decide +kernel, by simp, by decide, by decide, fun w hw => ?_⟩, by rw [List.length_take]; exact Nat.min_le_right _ _⟩
                  obtain rfl := List.mem_singleton.mp hw
                  exact ⟨by decide +kernel, by decide +kernel⟩
                · refine ⟨_, [("ok", "b"), ("no", "a")], rfl, .cons a1 (.cons a2 .nil), ⟨by decide +kernel, by decide +kernel, by simp, by decide, by decide, fun w hw => ?_⟩, by rw [List.length_take]; exact Nat.min_le_right _ _⟩
                  have all : ∀ w ∈ ([("ok", "b"), ("no", "a")] : List (Str × Str)), nameOk w.1 = true ∧ nameOk w.2 = true := by decide +kernel
                  exact all w hw
              obtain ⟨xw, ws, ecut, hxw, gw, lw⟩ := key
              refine ⟨_, _, rfl, rfl, 1 + rr, rfl, p3, _, rfl, SqL.of (D15.same _ _ (n14.sub _ _ l14)), fun pl upl => ?_⟩
              rw [ecut]
              have hx15 : DpAll K H15 xw (ws.map wayD) := dpAll_same (n14.sub.trans D15.same) _ _ hxw
              have s16 : Same H15 (upd H15 pl (.lst xw)) := same_new upl
              have hpl : (upd H15 pl (.lst xw)) pl = some (.lst xw) := upd_same
              have hx16 := dpAll_same s16 _ _ hx15
              have pl0 : H pl = none := sG.free upl
              have sG16 := sG.trans s16
              clear hx15 e12 e13 e14
              generalize upd H15 pl (.lst xw) = H16 at *
              refine ⟨_, rfl, pl, xw, rfl, .inl ⟨SqL.of hpl, fun kt ukt => ?_⟩⟩
              have s17 : Same H16 (upd H16 kt (.tup xw)) := same_new ukt
              have hkt : (upd H16 kt (.tup xw)) kt = some (.tup xw) := upd_same
              have hx17 := dpAll_same s17 _ _ hx16
              have hpl17 := s17 _ _ hpl
              have sG17 := sG16.trans s17
              generalize upd H16 kt (.tup xw) = H17 at *
              dsimp only [gName, tSeq, tAsg]
              refine make_list (p := "a") (n := "pay") (ws := ws) (xs := [.str "a", .str "pay", .ref pl]) (fun Q q => ⟨_, rfl, q⟩) (.cons (.str _) (.cons (.str _) (.cons (.lst (SqL.of hpl17) hx17) .nil))) gw fun H18 x dx fs s18 nx hx hf => ?_
              have hpl18 := s18 _ _ hpl17
              refine ⟨_, rfl, .inl ⟨rfl, _, SqL.of hpl18⟩, (by show 2 ≤ sizeLine; decide), fun q uq => ?_⟩
              have s19 : Same H18 (upd H18 q (.tup [.str "yes", .str "c"])) := same_new uq
              have hpl19 := s19 _ _ hpl18
              have hx19 := s19 _ _ hx
              have hf19 := fields_same hf s19
              have hkt19 := s19 _ _ (s18 _ _ hkt)
              have hxw19 := dpAll_same (s18.trans s19) _ _ hx17
              have sG19 := (sG17.trans s18).trans s19
              generalize upd H18 q (.tup [.str "yes", .str "c"]) = H19 at *
              refine ⟨pl, _, _, rfl, rfl, hpl19, Nat.lt_of_le_of_lt (show xw.length ≤ 2 from lw) (by decide), ?_⟩
              have nx' : x ≠ pl := fun z => by rw [z, hpl19] at hx19; cases hx19
              have nk' : kt ≠ pl := fun z => by rw [z, hpl19] at hkt19; cases hkt19
              have hx20 : (upd H19 pl (.lst (xw ++ [.ref q]))) x = some (.ins a.cAsk dx fs) := by rw [upd_ne nx']; exact hx19
              have hf20 := fields_off (o := .lst (xw ++ [.ref q])) hpl19 hf19
              have hkt20 : (upd H19 pl (.lst (xw ++ [.ref q]))) kt = some (.tup xw) := by rw [upd_ne nk']; exact hkt19
              have hxw20 := dpAll_off (o := .lst (xw ++ [.ref q])) hpl19 (tup_ways ws) hxw19
              have hpl20 : (upd H19 pl (.lst (xw ++ [.ref q]))) pl = some (.lst (xw ++ [.ref q])) := upd_same
              have sG20 : Same H (upd H19 pl (.lst (xw ++ [.ref q]))) := fun b o e => by
                rw [upd_ne (ne_of_none e pl0)]
                exact sG19 _ _ e
              generalize upd H19 pl (.lst (xw ++ [.ref q])) = H20 at *
              obtain ⟨_, _, ⟨wa, hw1, hw2⟩, _⟩ := id hf20
              obtain ⟨_, _, _, few, _, names⟩ := id gw
              obtain ⟨i1, i2, i3, i4⟩ := ways_show names
              have sh := (show_facts (d := .tuple (ws.map wayD)) (by simp [showOk, i1]) (by simp [PyData.depth]; omega) (by simp [PyData.weight]; omega)).1
              have mem : a.cAsk ∈ rowCs a := by simp [rowCs]
              refine ⟨_, rfl, x, _, dx, fs, _, rfl, hx20, R.cls _ mem, T.no _ mem _ (by simp), hw1, _, rfl, .tuple (ws.map wayD), .tuple (ws.map wayD), hw2, .tup (SqT.of hkt20) hxw20, sh, sh, _, rfl, ?_⟩
              rw [eqvSelf _ (ways_fine few names)]
              refine iteF ⟨_, rfl, ?_⟩
              refine make_case (r := .ask "a" "pay" ws) (xs := [.str "a", .str "pay", .ref kt]) (fun Q q => ⟨_, rfl, q⟩) (.cons (.str _) (.cons (.str _) (.cons (.tup (SqT.of hkt20) hxw20) .nil))) (good_fine gw) rfl (good_due gw) fun H21 x' dx' fs' s21 nx2 hx21 hf21 => ?_
              refine ne_row (r := .ask "a" "pay" ws) (r' := .ask "a" "pay" ws) R (s21 _ _ hx20) (fields_same hf20 s21) hx21 hf21 ⟨_, rfl, ?_⟩
              rw [show decide (textR (.ask "a" "pay" ws) = textR (.ask "a" "pay" ws)) = true from decide_eq_true rfl]
              refine iteF ⟨_, rfl, pl, _, rfl, .inl (SqL.of (s21 _ _ hpl20)), _, rfl, kt, _, rfl, .inr (SqT.of (s21 _ _ hkt20)), _, _, rfl, rfl, rfl, _, rfl, iteNS (by simp) ?_⟩
              exact ⟨_, _, _, _, _, _, _, _, _, _, _, _, rfl, sG20.trans s21⟩
    · rintro σ1 H1 _
      exact fin _
end
end K2

set_option Elab.async false
set_option linter.all false
set_option maxRecDepth 100000
set_option maxHeartbeats 0
/-! The head of k02: what the top leaves, told by names. -/
namespace K2
open PySem PySem.Spec PyProof.Rows L2 Lw Hd
def defs : List (PySem.Str × Stmt) := [("is_name", sIsName), ("_expect_names", sExpect), ("_are_ways", sWays), ("_is_way", sWay), ("_law_deal", sDeal), ("_law_draw", sDraw), ("_law_pick", sPick), ("_law_mixed", sMixed), ("_law_titles", sTitles), ("_law_any_line", sLine), ("_law_wide", sWide), ("_law_line_text", sText), ("_law_line", sMade), ("_law_kept", sKept), ("law", sLaw)]
def fns : List He.DefD := defs.map (fun p => fnTop p.1 p.2) ++ [fnIn "InvalidRow" "__init__" "InvalidRow.__init__" sIr, fnIn "Row" "__init__" "Row.__init__" sRow, fnIn "Ask" "__init__" "Ask.__init__" sAsk, fnIn "Note" "__init__" "Note.__init__" sNote, fnIn "Gate" "__init__" "Gate.__init__" sGate, fnIn "End" "__init__" "End.__init__" sEnd, fnIn "Row" "__eq__" "Row.__eq__" sEq, fnIn "Row" "__str__" "Row.__str__" sStr]
def glos : List PySem.Str := defs.map (·.1) ++ (["LogError", "InvalidRow", "Row", "Ask", "Note", "Gate", "End"] : List PySem.Str)
def frees_ : List PySem.Str := ["str", "int", "abs", "len", "all", "isinstance", "tuple", "list", "set", "range", "zip", "max", "min", "enumerate", "repr"]
def rowsR : List PySem.Str := "Row" :: rowsN
def fas : List He.Fa := .str "_LETTERS" abc :: (glos.map He.Fa.glo ++ (frees_.map He.Fa.free ++ (rowsR.map He.Fa.cls ++ (rowsR.map He.Fa.mkr ++ rowsN.flatMap fun C => Hd.attrsN.map fun n => He.Fa.noat C n))))
def extra (K : PySem.W.Frag) : Bool := errB K "InvalidRow" "word" && (rowsB K && rowI K)
def reach (g : Addr → Option Obj) : List Addr := PySem.cStatics :: He.asD g 5
def obM (g : Addr → Option Obj) : He.AlD × Bool := (He.obsD fas fns (He.frG g (reach g)), extra (He.frG g (reach g)))
def hk : PySem.W.Hook where
  α := He.AlD × Bool
  obs := fun s => obM s.heap.get?
  val := fun _ => (He.valD fns, true)
  says := fun _ h => ∃ K : PySem.W.Frag, K.In h ∧ He.SaysD fas fns K ∧ extra K = true
  of := fun _ _ e => ⟨_, He.frG_in, congrArg Prod.fst e, congrArg Prod.snd e⟩
  keeps := fun _ _ _ ⟨K, hK, c⟩ k => ⟨K, PySem.W.Frag.In.keeps hK k, c⟩
def ob (s : PySem.W.SharedT) : He.AlD × Bool := obM (HandSHeadRun.getT s)
theorem ob_eq (s : PySem.W.SharedT) : ob s = hk.obs s.abs := by
  have e : HandSHeadRun.getT s = s.abs.heap.get? := funext (HandSHeadRun.getT_eq s)
  show obM _ = obM _
  rw [e]
abbrev Rw : PySem.W.OpenRow := PySem.W.OpenLaw.row PySem.Challenge.rw_elderlogs_k02_rows_made
def others : List PySem.Str := ["_wall", "LogError", "InvalidRow", "InvalidText", "_LETTERS", "is_name", "Row", "Ask", "Note", "Gate", "End", "_expect_names", "_are_ways", "_is_way", "_row_of", "_law_deal", "_law_draw", "_law_pick", "_law_mixed", "_law_titles", "_law_any_line", "_law_wide", "_law_line_text", "_law_text", "_law_line", "_law_kept"]
theorem run (w : World) : HandSHeadRun.RunEq Rw (PySem.W.view Rw.prog [30]) hk ob 8000 others w := by
  intro os
  kernel_rfl
theorem in_glo {x : PySem.Str} (h : x ∈ glos) : He.Fa.glo x ∈ fas := List.mem_cons_of_mem _ (List.mem_append_left _ (List.mem_map_of_mem h))
theorem in_free {x : PySem.Str} (h : x ∈ frees_) : He.Fa.free x ∈ fas := List.mem_cons_of_mem _ (List.mem_append_right _ (List.mem_append_left _ (List.mem_map_of_mem h)))
theorem in_cls {x : PySem.Str} (h : x ∈ rowsR) : He.Fa.cls x ∈ fas := List.mem_cons_of_mem _ (List.mem_append_right _ (List.mem_append_right _ (List.mem_append_left _ (List.mem_map_of_mem h))))
theorem in_mkr {x : PySem.Str} (h : x ∈ rowsR) : He.Fa.mkr x ∈ fas := List.mem_cons_of_mem _ (List.mem_append_right _ (List.mem_append_right _ (List.mem_append_right _ (List.mem_append_left _ (List.mem_map_of_mem h)))))
theorem in_noat {x n : PySem.Str} (h : x ∈ rowsN) (hn : n ∈ Hd.attrsN) : He.Fa.noat x n ∈ fas := List.mem_cons_of_mem _ (List.mem_append_right _ (List.mem_append_right _ (List.mem_append_right _ (List.mem_append_right _ (List.mem_flatMap.mpr ⟨x, h, List.mem_map.mpr ⟨n, hn, rfl⟩⟩)))))
section
variable {K : PySem.W.Frag} {h : Heap} {mg : PySem.Str → Option Value}
theorem free_of (X : K.In h) (G : h.Ns mainGlobals mg) (c : He.SaysD fas fns K) (i : Nat) {x : PySem.Str} (e : frees_[i]? = some x) : mg x = none := free_mem X G c (in_free (List.mem_of_getElem? e))
theorem glo_of (X : K.In h) (G : h.Ns mainGlobals mg) (c : He.SaysD fas fns K) (i : Nat) {x : PySem.Str} (e : glos[i]? = some x) : mg x = some (.ref (He.ga K x)) := glo_mem X G c (in_glo (List.mem_of_getElem? e))
theorem top_of (X : K.In h) (G : h.Ns mainGlobals mg) (c : He.SaysD fas fns K) (i : Nat) {x : PySem.Str} {st : Stmt} {ps : List PySem.Str} (e1 : fns[i]? = some (fnTop x st)) (e2 : glos[i]? = some x)
    (hb : ∀ (kV doc pm : Value) (an : Option Addr) (cdv ct : Value) (us : List Value), us.length = ps.length → bindArgs (PySem.W.fnOf x x (defArgs st) (defBody st) (defScope st) .none kV doc pm an cdv ct) ⟨us, []⟩ = pure (ps.zip us)) : Hd.Top K mg x st ps :=
  top_mem X G c (List.mem_of_getElem? e1) (in_glo (List.mem_of_getElem? e2)) hb
theorem old_of {x : PySem.Str} {st : Stmt} {ps : List PySem.Str} (t : Hd.Top K mg x st ps) : K2.Top K mg x st (He.ga K x) (fdOf K (He.ga K x)) ps := ⟨t.F, t.g, t.b⟩
theorem row_of (X : K.In h) (G : h.Ns mainGlobals mg) (c : He.SaysD fas fns K) (i j k : Nat) {x qual : PySem.Str} {st : Stmt} {ps : List PySem.Str} (e1 : fns[i]? = some (fnIn x "__init__" qual st)) (e2 : glos[j]? = some x) (e3 : rowsR[k]? = some x)
    (hb : ∀ (kV doc pm : Value) (an : Option Addr) (cdv ct : Value) (us : List Value), us.length = ps.length → bindArgs (PySem.W.fnOf "__init__" qual (defArgs st) (defBody st) (defScope st) .none kV doc pm an cdv ct) ⟨us, []⟩ = pure (ps.zip us)) :
    RowC K mg x qual st (He.ga K x) (He.ma K (He.ga K x) "__init__") (fdOf K (He.ma K (He.ga K x) "__init__")) ps :=
  ⟨in_mem c i e1, (in_mem c i e1).binds hb, glo_of X G c j e2, Hd.cls_mem c (in_cls (List.mem_of_getElem? e3)), mkr_mem c (in_mkr (List.mem_of_getElem? e3))⟩
noncomputable def adr (K : PySem.W.Frag) : Ad :=
  let g := He.ga K
  let m := fun x => He.ma K (He.ga K x) "__init__"
  let d := fun x => fdOf K (He.ga K x)
  let e := fun x => fdOf K (He.ma K (He.ga K x) "__init__")
  { cLog := g "LogError", cIr := g "InvalidRow", cIe := g "law", cRow := g "Row", cAsk := g "Ask", cNote := g "Note", cGate := g "Gate", cEnd := g "End", fIr := m "InvalidRow", fRow := m "Row", fAsk := m "Ask", fNote := m "Note", fGate := m "Gate", fEnd := m "End", fN := g "is_name", fX := g "_expect_names", fWs := g "_are_ways", fW := g "_is_way", fDeal := g "law", fDraw := g "law", fPick := g "law", fThing := g "law", fTitle := g "law", fHeard := g "law", fPairs := g "law", fDue := g "law", fOdd := g "law", fLaw := g "law", dIr := e "InvalidRow", dRow := e "Row", dAsk := e "Ask", dNote := e "Note", dGate := e "Gate", dEnd := e "End", dN := d "is_name", dX := d "_expect_names", dWs := d "_are_ways", dW := d "_is_way", dDeal := d "law", dDraw := d "law", dPick := d "law", dThing := d "law", dTitle := d "law", dHeard := d "law", dPairs := d "law", dDue := d "law", dOdd := d "law", dLaw := d "law" }
theorem of_rows {q : Addr → Prop} (f : ∀ x ∈ rowsN, q (He.ga K x)) : ∀ C ∈ rowCs (adr K), q C := by
  intro C hC
  have e : rowCs (adr K) = [He.ga K "Ask", He.ga K "Note", He.ga K "Gate", He.ga K "End"] := rfl
  rw [e] at hC
  simp only [List.mem_cons, List.not_mem_nil, or_false] at hC
  rcases hC with rfl | rfl | rfl | rfl
  · exact f "Ask" (by simp [rowsN])
  · exact f "Note" (by simp [rowsN])
  · exact f "Gate" (by simp [rowsN])
  · exact f "End" (by simp [rowsN])
theorem facts {P : Program} {w : World} {f : Addr} (X : K.In h) (G : h.Ns mainGlobals mg) (hfa : mg ("law" : PySem.Str) = some (.ref f)) (c : He.SaysD fas fns K) (ex : extra K = true) :
    ∃ fd : FuncData, (∀ (s : Shared) (v : Value), BindsTo s fd ⟨[v], []⟩ [("_law_script", v)]) ∧ ∀ base : Heap, K.In base → base.Ns mainGlobals mg → FnG P w K mg base CX0 7 f fd ["_law_script"] (spLaw K) := by
  unfold extra at ex
  simp only [Bool.and_eq_true] at ex
  obtain ⟨x1, x2, x3⟩ := ex
  have er := errB_ok x1
  have rw_ := rowsB_ok x2
  obtain ⟨ri1, ri2⟩ := rowI_ok x3
  have T : Txt K mg (adr K) := {
    tStr := free_of X G c 0 rfl, tLen := free_of X G c 3 rfl, tAll := free_of X G c 4 rfl, tIs := free_of X G c 5 rfl, tTuple := free_of X G c 6 rfl, tList := free_of X G c 7 rfl, tSet := free_of X G c 8 rfl
    abc := He.str_ok X G (c.fact 0 (f := .str "_LETTERS" abc) rfl)
    isName := old_of (top_of X G c 0 rfl rfl fun _ _ _ _ _ _ us hl => match us, hl with | [_], _ => rfl)
    expect := old_of (top_of X G c 1 rfl rfl fun _ _ _ _ _ _ us hl => match us, hl with | [_], _ => rfl)
    areWays := old_of (top_of X G c 2 rfl rfl fun _ _ _ _ _ _ us hl => match us, hl with | [_], _ => rfl)
    isWay := old_of (top_of X G c 3 rfl rfl fun _ _ _ _ _ _ us hl => match us, hl with | [_], _ => rfl)
    gLog := glo_of X G c 15 rfl
    gIr := glo_of X G c 16 rfl
    ir := er.ex
    irF := in_mem c 15 (C := "InvalidRow") rfl
    irB := (in_mem c 15 (C := "InvalidRow") (m := "__init__") (qual := "InvalidRow.__init__") (st := sIr) rfl).binds fun _ _ _ _ _ _ us hl => match us, hl with | [_, _], _ => rfl
    irI := er.I
    irT := er.T
    irW := er.W
    irX := er.X
    row := row_of X G c 16 17 0 rfl rfl rfl fun _ _ _ _ _ _ us hl => match us, hl with | [_, _], _ => rfl
    ask := row_of X G c 17 18 1 rfl rfl rfl fun _ _ _ _ _ _ us hl => match us, hl with | [_, _, _, _], _ => rfl
    note := row_of X G c 18 19 2 rfl rfl rfl fun _ _ _ _ _ _ us hl => match us, hl with | [_, _, _, _], _ => rfl
    gate := row_of X G c 19 20 3 rfl rfl rfl fun _ _ _ _ _ _ us hl => match us, hl with | [_, _, _, _, _], _ => rfl
    end_ := row_of X G c 20 21 4 rfl rfl rfl fun _ _ _ _ _ _ us hl => match us, hl with | [_, _], _ => rfl
    rowR := ri1
    rowI := ri2
    no := of_rows (q := fun C => ∀ n ∈ Hd.attrsN, NoAttr K C n) fun x hx n hn => noat_mem c (in_noat hx hn) }
  have eqF := in_mem c 21 (C := "Row") (m := "__eq__") (qual := "Row.__eq__") (st := sEq) rfl
  have strF := in_mem c 22 (C := "Row") (m := "__str__") (qual := "Row.__str__") (st := sStr) rfl
  have R : RowF K (adr K) (He.ma K (He.ga K "Row") "__eq__") (He.ma K (He.ga K "Row") "__str__") (fdOf K (He.ma K (He.ga K "Row") "__eq__")) (fdOf K (He.ma K (He.ga K "Row") "__str__")) := {
    eqF := eqF
    eqB := eqF.binds fun _ _ _ _ _ _ us hl => match us, hl with | [_, _], _ => rfl
    eqI := rw_.eqI
    strF := strF
    strB := strF.binds fun _ _ _ _ _ _ us hl => match us, hl with | [_], _ => rfl
    cls := of_rows (q := fun C => Cls K C) fun x hx => Hd.cls_mem c (in_cls (List.mem_cons_of_mem _ hx))
    isA := of_rows (q := fun C => PySem.W.findIn K (.ref C) "__class__" = _) rw_.isA
    get := rw_.get
    tak := rw_.tak
    obj := of_rows (q := fun C => PySem.W.mroIn K C (.type "object") = _) rw_.obj
    row := of_rows (q := fun C => PySem.W.kitOne K (.ref C) (.ref (He.ga K "Row")) = _) rw_.row
    noRow := rw_.noRow
    eqAt := of_rows (q := fun C => PySem.W.findIn K (.ref C) "__eq__" = _) rw_.eqAt
    neAt := of_rows (q := fun C => PySem.W.findIn K (.ref C) "__ne__" = _) rw_.neAt
    first := of_rows (q := fun C => ∀ D ∈ rowCs (adr K), PySem.W.notFirst K C (.ref D) = true) fun x hx => of_rows (q := fun D => PySem.W.notFirst K (He.ga K x) (.ref D) = true) fun y hy => rw_.first x hx y hy
    firstT := of_rows (q := fun C => ∀ t ∈ (["tuple", "str", "int"] : List String), PySem.W.notFirst K C (.type t) = true) fun x hx t ht => rw_.firstT x hx t ht }
  have L : TxtL K mg (adr K) (He.ma K (He.ga K "Row") "__eq__") (He.ma K (He.ga K "Row") "__str__") (fdOf K (He.ma K (He.ga K "Row") "__eq__")) (fdOf K (He.ma K (He.ga K "Row") "__str__")) := {
    T := T
    R := R
    own := of_rows (q := fun C => PySem.W.kitOne K (.ref C) (.ref C) = some true) fun x hx => by
      have z := rw_.own x hx x hx
      rwa [decide_eq_true rfl] at z
    strAt := of_rows (q := fun C => PySem.W.findIn K (.ref C) "__str__" = _) rw_.strAt
    strI := rw_.strI
    tInt := free_of X G c 1 rfl, tAbs := free_of X G c 2 rfl, tRange := free_of X G c 9 rfl, tEnum := free_of X G c 13 rfl, tZip := free_of X G c 10 rfl, tMax := free_of X G c 11 rfl, tMin := free_of X G c 12 rfl, tRepr := free_of X G c 14 rfl
    deal := top_of X G c 4 rfl rfl fun _ _ _ _ _ _ us hl => match us, hl with | [_, _], _ => rfl
    draw := top_of X G c 5 rfl rfl fun _ _ _ _ _ _ us hl => match us, hl with | [_, _], _ => rfl
    pick := top_of X G c 6 rfl rfl fun _ _ _ _ _ _ us hl => match us, hl with | [_, _], _ => rfl
    mixed := top_of X G c 7 rfl rfl fun _ _ _ _ _ _ us hl => match us, hl with | [_, _], _ => rfl
    titles := top_of X G c 8 rfl rfl fun _ _ _ _ _ _ us hl => match us, hl with | [_, _], _ => rfl
    line := top_of X G c 9 rfl rfl fun _ _ _ _ _ _ us hl => match us, hl with | [_, _, _, _], _ => rfl
    wide := top_of X G c 10 rfl rfl fun _ _ _ _ _ _ us hl => match us, hl with | [_, _], _ => rfl
    text := top_of X G c 11 rfl rfl fun _ _ _ _ _ _ us hl => match us, hl with | [_], _ => rfl
    made := top_of X G c 12 rfl rfl fun _ _ _ _ _ _ us hl => match us, hl with | [_], _ => rfl
    kept := top_of X G c 13 rfl rfl fun _ _ _ _ _ _ us hl => match us, hl with | [_, _], _ => rfl
    law := top_of X G c 14 rfl rfl fun _ _ _ _ _ _ us hl => match us, hl with | [_], _ => rfl }
  have e := hfa.symm.trans L.law.g
  cases e
  refine ⟨fdOf K (He.ga K "law"), fun s v => ?_, fun base _ _ => L.okLaw⟩
  obtain ⟨oc, od, kV, doc, pm, an, cdv, ct, osl, e, _, _⟩ := L.law.F.ex
  rw [e]
  exact .of_eq rfl
end
end K2
open PySem PySem.W PySem.Calls PyProof.Rows
theorem PySem.Challenge.cw_elderlogs_k02_rows_made_holds : PySem.Challenge.rw_elderlogs_k02_rows_made.Holds := by
  w_on; o_law
  refine HandSHeadRun.head_any (r := OpenLaw.row PySem.Challenge.rw_elderlogs_k02_rows_made) (q := view (OpenLaw.row PySem.Challenge.rw_elderlogs_k02_rows_made).prog [30]) (H := K2.hk) (ob := K2.ob) (M := 8000) (loose := K2.others) (d := HandSHeadRun.topDef (OpenLaw.row PySem.Challenge.rw_elderlogs_k02_rows_made).prog 30) (kwd := []) K2.ob_eq
    (by kernel_rfl) (fun s => by kernel_rfl) K2.run (by kernel_rfl) (by kernel_rfl) (by kernel_rfl) (by rfl) (by first | assumption | decide +kernel) (by decide +kernel) ⟨rfl, rfl, rfl, rfl, rfl, by decide +kernel⟩ ?hw ?hc
  case hw => w_witness2
  case hc =>
    refine Lw.walk_ofG (l := PySem.Challenge.rw_elderlogs_k02_rows_made) (n := 63) (k := 7) (x := "_law_script") rfl (by decide) (by kernel_rfl) ⟨rfl, by decide, by decide⟩ ?F
    intro w mg fa h Y G hmg0
    obtain ⟨K, KX, c, ex⟩ := Y
    have hmg : mg ("law" : PySem.Str) = some (.ref fa) := by
      have e : (HandSHeadRun.topDef (OpenLaw.row PySem.Challenge.rw_elderlogs_k02_rows_made).prog 30).name = ("law" : PySem.Str) := by kernel_rfl
      rw [← e]
      exact hmg0
    obtain ⟨fd, hb, hF⟩ := K2.facts (P := (PySem.Challenge.rw_elderlogs_k02_rows_made).prog) (w := w) KX G hmg c ex
    exact ⟨K, fd, K2.spLaw K, KX, hb, fun H a ns hl hS => ⟨a, ns, rfl, hS, hl, fun _ => rfl⟩, hF⟩


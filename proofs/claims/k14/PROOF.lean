import PyProof.Rows.All
import Wide.All
import OpenK.AllK
import Wide.FinOn
import HandS.ForMost
import HandS.ForExc
import HandS.IsInst
import HandS.SetKeys
import HandS.Strs
import HandS.SetBool
import KE.GoesMore
import KE.GoesEnum
import HandS.HeadEnd
import PyProof.ReprRoads
import HandS.Defaults
import HandS.Text
import KE.KStateDown
import HandS.Head0
import HandS.Head1
import HandS.Head2
import HandS.HeadHook1
import HandS.HeadHook2
import HandS.Style
import PySem.Challenge.RW_elderlogs_k14_logs_and_their_texts
set_option Elab.async false
set_option linter.all false
set_option maxRecDepth 100000
set_option maxHeartbeats 4000000
/-! What the laws' own helpers draw from; data. -/
namespace Lw
open PySem L2
/-! ### data -/
theorem ints_data {K : PySem.W.Frag} {H : Hp} : ∀ ns : List Int, DpAll K H (ns.map V.int) (ns.map PyData.int)
  | [] => .nil
  | n :: ns => .cons (.int n) (ints_data ns)
theorem ints_lay : ∀ ns : List Int, PyData.canLayAll0 (ns.map PyData.int) = true
  | [] => by simp [PyData.canLayAll0]
  | n :: ns => by simp [PyData.canLayAll0, PyData.canLay0, ints_lay ns]
theorem ints_depth : ∀ ns : List Int, PyData.depthAll (ns.map PyData.int) = 0
  | [] => by simp [PyData.depthAll]
  | n :: ns => by simp [PyData.depthAll, PyData.depth, ints_depth ns]
theorem ints_shaped (ns : List Int) : SeqAt.shaped (.list (ns.map PyData.int)) = true := by
  simp [SeqAt.shaped, PyData.canLay0, PyData.depth, ints_lay, ints_depth]
theorem nil_shaped : SeqAt.shaped (.list []) = true := by simp [SeqAt.shaped, PyData.canLay0, PyData.depth, PyData.canLayAll0, PyData.depthAll]
theorem eqv_nil (ds : List PyData) : PyData.eqv (.list ds) (.list []) = ds.isEmpty := by
  cases ds <;> simp [PyData.eqv, PyData.eqvAll]

/-! ### a deal: great numbers to draw from, and a mixed one -/
/-- at d the deal, its list ns at l, its mixed number m -/
structure At (H : Hp) (d l : Addr) (ns : List Int) (m : Int) : Prop where
  hd : H d = some (.lst [.ref l, .int m])
  hl : H l = some (.lst (ns.map V.int))
  len : ns.length ≤ 63
  nn : ∀ n ∈ ns, 0 ≤ n
  m0 : 0 ≤ m
  m1 : m < 2147483647
/-- H is G and a deal -/
structure Deal (G H : Hp) (d l : Addr) : Prop where
  same : Same G H
  gd : G d = none
  gl : G l = none
  ne : l ≠ d
  it : ∃ ns m, At H d l ns m
theorem Deal.put {G H : Hp} {d l : Addr} (D : Deal G H d l) {p : Addr} {o : HO} (h : H p = none) : Deal (upd G p o) (upd H p o) d l := by
  obtain ⟨ns, m, h1, h2, r1, r2, r3, r4⟩ := D.it
  have nd : d ≠ p := ne_of_none h1 h
  have nl : l ≠ p := ne_of_none h2 h
  refine ⟨fun b u e => ?_, by rw [upd_ne nd]; exact D.gd, by rw [upd_ne nl]; exact D.gl, D.ne, ns, m, by rw [upd_ne nd]; exact h1, by rw [upd_ne nl]; exact h2, r1, r2, r3, r4⟩
  by_cases q : b = p
  · subst q
    rw [upd_same] at e ⊢
    exact e
  · rw [upd_ne q] at e ⊢
    exact D.same b u e
/-- something new beside it -/
theorem At.put {H : Hp} {d l : Addr} {ns : List Int} {m : Int} (a : At H d l ns m) {p : Addr} {o : HO} (h : H p = none) : At (upd H p o) d l ns m :=
  ⟨by rw [upd_ne (ne_of_none a.hd h)]; exact a.hd, by rw [upd_ne (ne_of_none a.hl h)]; exact a.hl, a.len, a.nn, a.m0, a.m1⟩
theorem Deal.more {G H : Hp} {d l : Addr} (D : Deal G H d l) {p : Addr} {o : HO} (h : H p = none) : Deal G (upd H p o) d l :=
  ⟨fun b u e => by rw [upd_ne (ne_of_none (D.same b u e) h)]; exact D.same b u e, D.gd, D.gl, D.ne, let ⟨ns, m, a⟩ := D.it; ⟨ns, m, a.put h⟩⟩
/-- only the deal's own two lists change -/
theorem Deal.set {G H : Hp} {d l : Addr} (D : Deal G H d l) {H' : Hp} {ns : List Int} {m : Int} (k : ∀ b, b ≠ d → b ≠ l → H' b = H b) (a : At H' d l ns m) : Deal G H' d l :=
  ⟨fun b u e => by
    have nd : b ≠ d := fun z => by rw [z, D.gd] at e; cases e
    have nl : b ≠ l := fun z => by rw [z, D.gl] at e; cases e
    rw [k b nd nl]; exact D.same b u e, D.gd, D.gl, D.ne, ns, m, a⟩
/-- its list is another -/
theorem Deal.list {G H : Hp} {d l : Addr} {ns ns' : List Int} {m : Int} (D : Deal G H d l) (a : At H d l ns m) (h1 : ns'.length ≤ 63) (h2 : ∀ n ∈ ns', 0 ≤ n) : Deal G (upd H l (.lst (ns'.map V.int))) d l ∧ At (upd H l (.lst (ns'.map V.int))) d l ns' m := by
  have a' : At (upd H l (.lst (ns'.map V.int))) d l ns' m := ⟨by rw [upd_ne D.ne.symm]; exact a.hd, upd_same, h1, h2, a.m0, a.m1⟩
  exact ⟨D.set (fun b _ hb => upd_ne hb) a', a'⟩
/-- its mixed number is another -/
theorem Deal.mix {G H : Hp} {d l : Addr} {ns : List Int} {m m' : Int} (D : Deal G H d l) (a : At H d l ns m) (h1 : 0 ≤ m') (h2 : m' < 2147483647) : Deal G (upd H d (.lst [.ref l, .int m'])) d l ∧ At (upd H d (.lst [.ref l, .int m'])) d l ns m' := by
  have a' : At (upd H d (.lst [.ref l, .int m'])) d l ns m' := ⟨upd_same, by rw [upd_ne D.ne]; exact a.hl, a.len, a.nn, h1, h2⟩
  exact ⟨D.set (fun b hb _ => upd_ne hb) a', a'⟩
/-- the promise of a draw below k -/
def spDraw : Sp := fun vs H Q _ => ∃ (G : Hp) (d l : Addr) (k : Int), vs = [.ref d, .int k] ∧ Deal G H d l ∧ 0 < k ∧ k < 1000000 ∧ ∀ (H' : Hp) (r : Int), Deal G H' d l → 0 ≤ r → r < k → Q (.int r) H'

/-- what follows a statement, shown once -/
theorem seq_cut {t rest : TS} {D : Ends} {σ : St} {H : Hp} (Post : St → Hp → Prop) (after : ∀ σ1 H1, Post σ1 H1 → rest D σ1 H1) (go : (∀ σ1 H1, Post σ1 H1 → rest D σ1 H1) → t { D with nx := rest D } σ H) : tSeq t rest D σ H := go after

theorem at0 {a b : V} : atI [a, b] 0 = some a := rfl
theorem at1 {a b : V} : atI [a, b] 1 = some b := rfl
theorem set0 : ixN 2 0 = some 0 := rfl
theorem set1 : ixN 2 1 = some 1 := rfl
theorem split_end {ns : List Int} (h : ns ≠ []) : ∃ r n, ns = r ++ [n] := ⟨ns.dropLast, ns.getLast h, (List.dropLast_concat_getLast h).symm⟩
theorem at_end (r : List Int) (n : Int) : atI ((r ++ [n]).map V.int) (-1) = some (.int n) := by
  rw [List.map_append]
  exact atI_last _ _
theorem get_end (r : List Int) (n : Int) : ((r ++ [n]).map V.int)[((r ++ [n]).map V.int).length - 1]? = some (.int n) := by simp
theorem drop_end (r : List Int) (n : Int) : ((r ++ [n]).map V.int).dropLast = r.map V.int := by simp

/-! ### comprehensions whose turns leave what stood -/
/-- what a turn adds -/
def outOf (out : List (Option V)) : List V := out.filterMap id
theorem outOf_take {out : List (Option V)} {j : Nat} {o : Option V} (h : out[j]? = some o) : outOf (out.take (j + 1)) = outOf (out.take j) ++ o.toList := by
  unfold outOf
  rw [List.take_add_one, h, List.filterMap_append]
  cases o <;> rfl
theorem outOf_len (out : List (Option V)) : (outOf out).length ≤ out.length := List.length_filterMap_le _ _
/-- a turn: the test, then the element -/
structure Turns (H1 : Hp) (i : Nat) (σ : L2.St) (xs : List V) (out : List (Option V)) (tt : TT) (te : TE) : Prop where
  len : out.length = xs.length
  few : xs.length ≤ 100000
  keep : ∀ (j : Nat) (x y : V) (H : Hp) (Q : VK), xs[j]? = some x → out[j]? = some (some y) → Same H1 H → (∀ H', Same H H' → Q y H') → tt (σ.set i (some x)) H fun b H3 => b = true ∧ Same H H3 ∧ te (σ.set i (some x)) H3 Q
  drop : ∀ (j : Nat) (x : V) (H : Hp), xs[j]? = some x → out[j]? = some none → Same H1 H → tt (σ.set i (some x)) H fun b H3 => b = false ∧ Same H H3
/-- a test's reading grows with what is wanted -/
def MonoT (tt : TT) : Prop := ∀ σ H (Q Q' : Bool → Hp → Prop), (∀ b H1, Q b H1 → Q' b H1) → tt σ H Q → tt σ H Q'
theorem mono_yes : MonoT tYes := fun _ _ _ _ f h => f _ _ h
theorem turn_core {H1 H : Hp} {D : Addr} {i : Nat} {σ : L2.St} {xs : List V} {out : List (Option V)} {tt : TT} {te : TE} (T : Turns H1 i (σ.set i none) xs out tt te) (mono : MonoT tt) {j : Nat} {x : V} (hx : xs[j]? = some x)
    (s1 : Same H1 H) (hD : H D = some (.lst (outOf (out.take j)))) (un : H1 D = none) {Nx : Hp → Prop} (fin : ∀ H', Same H1 H' → H' D = some (.lst (outOf (out.take (j + 1)))) → Nx H') :
    gName i x (wipe σ [i]) H fun σ2 H2 => wipe σ2 [i] = wipe σ [i] ∧ tt σ2 H2 fun b H3 => if b = true then te σ2 H3 fun y H4 => ∃ acc, H4 D = some (.lst acc) ∧ acc.length < sizeLine ∧ Nx (upd H4 D (.lst (acc ++ [y]))) else Nx H3 := by
  refine ⟨by simp [wipe], ?_⟩
  show tt ((σ.set i none).set i (some x)) H _
  have hj : j < out.length := by rw [T.len]; exact (List.getElem?_eq_some_iff.mp hx).1
  have ho : out[j]? = some out[j] := List.getElem?_eq_getElem hj
  cases e : out[j] with
  | none =>
    rw [e] at ho
    refine mono _ _ _ _ (fun b H3 ⟨eb, s3⟩ => ?_) (T.drop j x H hx ho s1)
    subst eb
    refine iteF (fin H3 (s1.trans s3) ?_)
    rw [outOf_take ho, Option.toList_none, List.append_nil]
    exact s3 _ _ hD
  | some y =>
    rw [e] at ho
    refine mono _ _ _ _ ?_ (T.keep j x y H (fun y H4 => ∃ acc, H4 D = some (.lst acc) ∧ acc.length < sizeLine ∧ Nx (upd H4 D (.lst (acc ++ [y])))) hx ho s1 ?_)
    · rintro b H3 ⟨eb, s3, q⟩
      subst eb
      exact iteT q
    · intro H4 s4
      refine ⟨_, s4 _ _ hD, ?_, fin _ (fun b o eb => ?_) ?_⟩
      · have := outOf_len (out.take j)
        rw [List.length_take] at this
        have l2 := T.few
        have l3 := T.len
        have : (outOf (out.take j)).length ≤ 100000 := by omega
        exact Nat.lt_of_le_of_lt this (by decide)
      · rw [upd_ne (ne_of_none eb un)]
        exact s4 _ _ (s1 _ _ eb)
      · rw [upd_same, outOf_take ho]
        rfl
theorem same_new {H : Hp} {p : Addr} {o : HO} (un : H p = none) : Same H (upd H p o) := fun b u e => by rw [upd_ne (ne_of_none e un)]; exact e
theorem outOf_zero (out : List (Option V)) : outOf (out.take 0) = [] := by simp [outOf]
/-- over a list -/
theorem lc_of_list {K : PySem.W.Frag} {a : Addr} {H1 : Hp} {D : Addr} {i : Nat} {σ : L2.St} {xs : List V} (out : List (Option V)) {tt : TT} {te : TE} {Qd : Hp → Prop} (hl : SqL K H1 a xs) (un : H1 D = none) (T : Turns H1 i (σ.set i none) xs out tt te) (mono : MonoT tt)
    (fin : ∀ H', Same H1 H' → H' D = some (.lst (outOf out)) → Qd H') :
    ∃ W : Nat → Nat → Hp → Prop, (∃ m, W 0 m (upd H1 D (.lst []))) ∧ ∀ i' m H, W i' m H →
      ((Itl K a).stop i' H ∧ Qd H) ∨ ((Itl K a).go i' H ∧ ∃ Nx : Hp → Prop, (∀ H', Nx H' → ∃ m', m' < m ∧ W (i' + 1) m' H') ∧ ∀ x H', (Itl K a).yld i' H x H' → gName i x (wipe σ [i]) H' fun σ2 H2 => wipe σ2 [i] = wipe σ [i] ∧ tt σ2 H2 fun b H3 =>
        if b = true then te σ2 H3 fun y H4 => ∃ acc, H4 D = some (.lst acc) ∧ acc.length < sizeLine ∧ Nx (upd H4 D (.lst (acc ++ [y]))) else Nx H3) := by
  refine lc_list (K := K) (a := a) (xs := xs) (fun j H => Same H1 H ∧ H D = some (.lst (outOf (out.take j)))) ⟨same_new un, by rw [upd_same, outOf_zero]⟩ (fun j H _ q => q.1.seq hl) (fun j x H hx q => ?_) fun H q => fin H q.1 ?_
  · exact turn_core T mono hx q.1 q.2 un fun H' a b => ⟨a, b⟩
  · have q2 := q.2
    rw [← T.len, List.take_length] at q2
    exact q2
theorem same_tup {K : PySem.W.Frag} {H H' : Hp} {a : Addr} {xs : List V} (e : Same H H') (h : SqT K H a xs) : SqT K H' a xs := by
  rcases h with (h | ⟨o, h⟩) | h
  · exact .inl (.inl (e _ _ h))
  · exact .inl (.inr ⟨o, e _ _ h⟩)
  · exact .inr h
/-- over a tuple -/
theorem lc_of_tup {K : PySem.W.Frag} {a : Addr} {H1 : Hp} {D : Addr} {i : Nat} {σ : L2.St} {xs : List V} (out : List (Option V)) {tt : TT} {te : TE} {Qd : Hp → Prop} (hl : SqT K H1 a xs) (un : H1 D = none) (T : Turns H1 i (σ.set i none) xs out tt te) (mono : MonoT tt)
    (fin : ∀ H', Same H1 H' → H' D = some (.lst (outOf out)) → Qd H') :
    ∃ W : Nat → Nat → Hp → Prop, (∃ m, W 0 m (upd H1 D (.lst []))) ∧ ∀ i' m H, W i' m H →
      ((Itt K a).stop i' H ∧ Qd H) ∨ ((Itt K a).go i' H ∧ ∃ Nx : Hp → Prop, (∀ H', Nx H' → ∃ m', m' < m ∧ W (i' + 1) m' H') ∧ ∀ x H', (Itt K a).yld i' H x H' → gName i x (wipe σ [i]) H' fun σ2 H2 => wipe σ2 [i] = wipe σ [i] ∧ tt σ2 H2 fun b H3 =>
        if b = true then te σ2 H3 fun y H4 => ∃ acc, H4 D = some (.lst acc) ∧ acc.length < sizeLine ∧ Nx (upd H4 D (.lst (acc ++ [y]))) else Nx H3) := by
  refine lc_tup (K := K) (a := a) (xs := xs) (fun j H => Same H1 H ∧ H D = some (.lst (outOf (out.take j)))) ⟨same_new un, by rw [upd_same, outOf_zero]⟩ (fun j H _ q => same_tup q.1 hl) (fun j x H hx q => ?_) fun H q => fin H q.1 ?_
  · exact turn_core T mono hx q.1 q.2 un fun H' a b => ⟨a, b⟩
  · have q2 := q.2
    rw [← T.len, List.take_length] at q2
    exact q2
theorem outOf_some (ys : List V) : outOf (ys.map some) = ys := by simp [outOf]
theorem out_map (f : V → V) : ∀ xs : List V, outOf (xs.map fun x => some (f x)) = xs.map f
  | [] => rfl
  | x :: r => by
    have ih := out_map f r
    unfold outOf at ih ⊢
    rw [List.map_cons, List.map_cons, List.filterMap_cons]
    exact congrArg _ ih
/-- no test -/
theorem turns_map {H1 : Hp} {i : Nat} {σ : L2.St} {xs : List V} (f : V → V) {te : TE} (few : xs.length ≤ 100000)
    (el : ∀ x H (Q : VK), x ∈ xs → Same H1 H → (∀ H', Same H H' → Q (f x) H') → te (σ.set i (some x)) H Q) : Turns H1 i σ xs (xs.map fun x => some (f x)) tYes te where
  len := by simp
  few := few
  keep := fun j x y H Q hx hy s1 q => by
    rw [List.getElem?_map, hx] at hy
    simp only [Option.map_some, Option.some.injEq] at hy
    subst hy
    exact ⟨rfl, Same.refl H, el x H Q (List.mem_of_getElem? hx) s1 q⟩
  drop := fun j x H hx hy _ => by
    rw [List.getElem?_map, hx] at hy
    cases hy

/-! ### readings grow with what is wanted -/
def MonoE (t : TE) : Prop := ∀ σ H (Q Q' : VK), (∀ v H1, Q v H1 → Q' v H1) → t σ H Q → t σ H Q'
def MonoR (r : R2) : Prop := ∀ x y H (Q Q' : VK), (∀ v H1, Q v H1 → Q' v H1) → r x y H Q → r x y H Q'
theorem mono_var {i : Nat} : MonoE (tVar i) := fun _ _ _ _ f ⟨v, e, q⟩ => ⟨v, e, f _ _ q⟩
theorem mono_c {v : V} : MonoE (tC v) := fun _ _ _ _ f q => f _ _ q
theorem mono_op {r : R2} {ta tb : TE} (hr : MonoR r) (ha : MonoE ta) (hb : MonoE tb) : MonoE (tOp r ta tb) := fun σ H Q Q' f q => ha _ _ _ _ (fun x H1 q1 => hb _ _ _ _ (fun y H2 q2 => hr _ _ _ _ _ f q2) q1) q
theorem mono_rI {C : Int → Int → Prop} {g : Int → Int → V} : MonoR (rI C g) := fun _ _ _ _ _ f ⟨i, j, e1, e2, c, q⟩ => ⟨i, j, e1, e2, c, f _ _ q⟩
theorem mono_rI0 {g : Int → Int → V} : MonoR (rI0 g) := fun _ _ _ _ _ f ⟨i, j, e1, e2, q⟩ => ⟨i, j, e1, e2, f _ _ q⟩
theorem mono_rEq : MonoR rEq := fun _ _ _ _ _ f ⟨e, q⟩ => ⟨e, f _ _ q⟩
theorem mono_rNe : MonoR rNe := fun _ _ _ _ _ f ⟨e, q⟩ => ⟨e, f _ _ q⟩
theorem mono_test {t : TE} (h : MonoE t) : MonoT (tTest t) := fun _ _ _ _ f q => h _ _ _ _ (fun _ _ ⟨k, e, q1⟩ => ⟨k, e, f _ _ q1⟩) q
theorem mono_tB {t : TE} (h : MonoE t) : MonoT (tB t) := fun _ _ _ _ f q => h _ _ _ _ (fun _ _ ⟨k, e, q1⟩ => ⟨k, e, f _ _ q1⟩) q

/-! ### a deal's making, a pick -/
def mag (i : Int) : Int := if i < 0 then -i else i
theorem mag_nn (i : Int) : 0 ≤ mag i := by unfold mag; split <;> omega
theorem cut_ints (ns : List Int) (lo hi : Option Int) : ∃ ms : List Int, cutV (ns.map V.int) lo hi = ms.map V.int ∧ ms.length ≤ ns.length := by
  refine ⟨(ns.drop (HT.sIx ns.length 0 lo)).take (HT.sIx ns.length ns.length hi - HT.sIx ns.length 0 lo), ?_, ?_⟩
  · unfold cutV
    rw [List.length_map, List.map_take, List.map_drop]
  · rw [List.length_take, List.length_drop]
    omega
theorem mem_ints {x : V} {ns : List Int} (h : x ∈ ns.map V.int) : ∃ n, n ∈ ns ∧ x = V.int n := by
  obtain ⟨n, hn, e⟩ := List.mem_map.mp h
  exact ⟨n, hn, e.symm⟩
/-- a deal that is made: b a number from 0 on -/
def spDeal (K : PySem.W.Frag) : Sp := fun vs H Q _ => ∃ (a : Addr) (ns : List Int) (b : Int), vs = [.ref a, .int b] ∧ SqL K H a (ns.map V.int) ∧ ns.length ≤ 63 ∧ 0 ≤ b ∧ b < 1000 ∧
  ∀ (H' : Hp) (d l : Addr), Deal H H' d l → Q (.ref d) H'
/-- one of these, a list or a tuple of at least one -/
def spPick (K : PySem.W.Frag) : Sp := fun vs H Q _ => ∃ (G : Hp) (d l a : Addr) (xs : List V), vs = [.ref d, .ref a] ∧ Deal G H d l ∧ SqL K G a xs ∧ xs ≠ [] ∧ xs.length < 1000 ∧ ∀ (H' : Hp) (x : V), Deal G H' d l → x ∈ xs → Q x H'
theorem at_int {xs : List V} {r : Int} (h0 : 0 ≤ r) (h1 : r < xs.length) : ∃ x, x ∈ xs ∧ atI xs r = some x := by
  have h : r.toNat < xs.length := by omega
  refine ⟨xs[r.toNat], List.getElem_mem h, ?_⟩
  have q := atI_nat (List.getElem?_eq_getElem h)
  rwa [Int.toNat_of_nonneg h0] at q
def magV : V → V
  | .int i => .int (mag i)
  | v => v
theorem magV_map (ms : List Int) : (ms.map V.int).map magV = (ms.map mag).map V.int := by
  rw [List.map_map, List.map_map]; rfl
def bigV : V → Option V
  | .int i => if decide ((10 : Int) ^ (18 : Int).toNat ≤ i) = true then some (.int i) else none
  | _ => none
theorem big_out (ms : List Int) : outOf ((ms.map V.int).map bigV) = (ms.filter fun i => decide ((10 : Int) ^ (18 : Int).toNat ≤ i)).map V.int := by
  unfold outOf
  induction ms with
  | nil => rfl
  | cons m r ih =>
    rw [List.map_cons, List.map_cons, List.filterMap_cons, List.filter_cons]
    by_cases h : decide ((10 : Int) ^ (18 : Int).toNat ≤ m) = true
    · have e : bigV (.int m) = some (.int m) := if_pos h
      rw [if_pos h, List.map_cons, e]
      exact congrArg _ ih
    · have e : bigV (.int m) = none := if_neg h
      rw [if_neg h, e]
      exact ih

/-! ### data: what stands stays; its type -/
mutual
theorem dp_same {K : PySem.W.Frag} {H H' : Hp} (e : Same H H') : ∀ (d : PyData) (v : V), Dp K H v d → Dp K H' v d
  | .none, _, h => by cases h; exact .non
  | .bool b, _, h => by cases h; exact .bl b
  | .int i, _, h => by cases h; exact .int i
  | .str x, _, h => by cases h; exact .str x
  | .list ds, _, h => by
    cases h with
    | lst h1 h2 => exact .lst (e.seq h1) (dpAll_same e ds _ h2)
  | .tuple ds, _, h => by
    cases h with
    | tup h1 h2 => exact .tup (same_tup e h1) (dpAll_same e ds _ h2)
  | .dict _, _, h => by cases h
theorem dpAll_same {K : PySem.W.Frag} {H H' : Hp} (e : Same H H') : ∀ (ds : List PyData) (vs : List V), DpAll K H vs ds → DpAll K H' vs ds
  | [], _, h => by cases h; exact .nil
  | d :: ds, _, h => by
    cases h with
    | cons h1 h2 => exact .cons (dp_same e d _ h1) (dpAll_same e ds _ h2)
end
theorem dpAll_len {K : PySem.W.Frag} {H : Hp} : ∀ {vs : List V} {ds : List PyData}, DpAll K H vs ds → vs.length = ds.length
  | _, _, .nil => rfl
  | _, _, .cons _ t => congrArg (· + 1) (dpAll_len t)
theorem dpAll_at {K : PySem.W.Frag} {H : Hp} : ∀ {vs : List V} {ds : List PyData} {i : Nat} {v : V}, DpAll K H vs ds → vs[i]? = some v → ∃ d, ds[i]? = some d ∧ Dp K H v d
  | _, _, _, _, .nil, e => by simp at e
  | _, _, 0, _, .cons h _, e => by
    have e' := Option.some.inj e
    subst e'
    exact ⟨_, rfl, h⟩
  | _, _, i + 1, _, .cons _ t, e => dpAll_at (i := i) t (by simpa using e)
theorem dpAll_mem {K : PySem.W.Frag} {H : Hp} {vs : List V} {ds : List PyData} {v : V} (h : DpAll K H vs ds) (m : v ∈ vs) : ∃ d, d ∈ ds ∧ Dp K H v d := by
  obtain ⟨i, hi⟩ := List.getElem?_of_mem m
  obtain ⟨d, e, q⟩ := dpAll_at h hi
  exact ⟨d, List.mem_of_getElem? e, q⟩
def tyD : PyData → String
  | .none => "NoneType" | .bool _ => "bool" | .int _ => "int" | .str _ => "str" | .list _ => "list" | .tuple _ => "tuple" | .dict _ => "dict"
theorem ty_data {K : PySem.W.Frag} {H : Hp} {v : V} {d : PyData} (h : Dp K H v d) : TyX K H v (.type (tyD d)) := by
  cases h with
  | non => exact .base .non
  | bl b => exact .base (.bl b)
  | int i => exact .base (.int i)
  | str x => exact .base (.str x)
  | lst hs _ =>
    rcases hs with (hs | ⟨o, hs⟩) | ⟨o, _, _, hs, hc, _⟩
    · exact .base (.lst hs)
    · exact .base (.frz hs)
    · exact .kList hs hc
  | tup hs _ =>
    rcases hs with (hs | ⟨o, hs⟩) | ⟨o, _, _, hs, hc, _⟩
    · exact .base (.tup hs)
    · exact .fTuple hs
    · exact .kTuple hs hc
def isStr : PyData → Bool | .str _ => true | _ => false
def isTup : PyData → Bool | .tuple _ => true | _ => false
def isSeq : PyData → Bool | .list _ => true | .tuple _ => true | _ => false
theorem kit_str {K : PySem.W.Frag} {d : PyData} (h : ∀ kvs, d ≠ .dict kvs) : PySem.W.kitOne K (.type (tyD d)) (.type "str") = some (isStr d) := by
  cases d with
  | dict kvs => exact absurd rfl (h kvs)
  | _ => exact kit_ty (by dsimp only [tyD, isStr, isTup]; decide +kernel)
theorem kit_tup {K : PySem.W.Frag} {d : PyData} (h : ∀ kvs, d ≠ .dict kvs) : PySem.W.kitOne K (.type (tyD d)) (.type "tuple") = some (isTup d) := by
  cases d with
  | dict kvs => exact absurd rfl (h kvs)
  | _ => exact kit_ty (by dsimp only [tyD, isStr, isTup]; decide +kernel)
theorem kit_seq {K : PySem.W.Frag} {d : PyData} (h : ∀ kvs, d ≠ .dict kvs) : PySem.W.kitAny K (.type (tyD d)) [.type "list", .type "tuple"] = some (isSeq d) := by
  cases d with
  | dict kvs => exact absurd rfl (h kvs)
  | list _ => exact kitAny_cons (b := true) (kit_ty (by dsimp only [tyD, isStr, isTup]; decide +kernel)) (fun z => nomatch z) (fun _ => rfl)
  | tuple _ => exact kitAny_cons (b := false) (kit_ty (by dsimp only [tyD, isStr, isTup]; decide +kernel)) (fun _ => kitAny_cons (b := true) (kit_ty (by dsimp only [tyD, isStr, isTup]; decide +kernel)) (fun z => nomatch z) (fun _ => rfl)) (fun z => nomatch z)
  | _ => exact kitAny_cons (b := false) (kit_ty (by dsimp only [tyD, isStr, isTup]; decide +kernel)) (fun _ => kitAny_cons (b := false) (kit_ty (by dsimp only [tyD, isStr, isTup]; decide +kernel)) (fun _ => kitAny_nil) (fun z => nomatch z)) (fun z => nomatch z)
theorem no_dict {K : PySem.W.Frag} {H : Hp} {v : V} {d : PyData} (h : Dp K H v d) : ∀ kvs, d ≠ .dict kvs := fun kvs z => by
  subst z
  cases h

mutual
/-- no dict in it, no long text, no long list -/
def fine : PyData → Bool
  | .str x => decide (x.length ≤ 1000) && PyData.strOk x
  | .list ds => decide (ds.length ≤ 1000) && fineAll ds
  | .tuple ds => decide (ds.length ≤ 1000) && fineAll ds
  | .dict _ => false
  | .none => true
  | .bool _ => true
  | .int _ => true
def fineAll : List PyData → Bool
  | [] => true
  | d :: ds => fine d && fineAll ds
end
theorem fineAll_mem : ∀ {ds : List PyData} {d : PyData}, fineAll ds = true → d ∈ ds → fine d = true
  | e :: ds, d, h, m => by
    have h' : (fine e && fineAll ds) = true := by rw [fineAll] at h; exact h
    obtain ⟨h1, h2⟩ := Bool.and_eq_true_iff.mp h'
    rcases List.mem_cons.mp m with q | q
    · rw [q]; exact h1
    · exact fineAll_mem h2 q

theorem fine_str {z : Str} (h : fine (.str z) = true) : z.length ≤ 1000 ∧ PyData.strOk z = true := by
  rw [fine] at h
  obtain ⟨h1, h2⟩ := Bool.and_eq_true_iff.mp h
  exact ⟨of_decide_eq_true h1, h2⟩
theorem strs_lay : ∀ zs : List Str, (∀ z ∈ zs, PyData.strOk z = true) → PyData.canLayAll0 (zs.map PyData.str) = true
  | [], _ => by simp [PyData.canLayAll0]
  | z :: r, h => by
    have h1 := h z List.mem_cons_self
    have h2 := strs_lay r fun y hy => h y (List.mem_cons_of_mem _ hy)
    simp [PyData.canLayAll0, PyData.canLay0, h1, h2]
theorem strs_depth : ∀ zs : List Str, PyData.depthAll (zs.map PyData.str) = 0
  | [] => by simp [PyData.depthAll]
  | z :: r => by simp [PyData.depthAll, PyData.depth, strs_depth r]
theorem strs_shaped {zs : List Str} (h : ∀ z ∈ zs, PyData.strOk z = true) : SeqAt.shaped (.list (zs.map PyData.str)) = true := by
  simp [SeqAt.shaped, PyData.canLay0, PyData.depth, strs_lay zs h, strs_depth]
theorem strs_data {K : PySem.W.Frag} {H : Hp} : ∀ zs : List Str, DpAll K H (zs.map V.str) (zs.map PyData.str)
  | [] => .nil
  | z :: r => .cons (.str z) (strs_data r)

/-! ### a comprehension over a text -/
abbrev signsOf (z : Str) : List V := z.cps.toList.map fun c => V.str ⟨#[c]⟩
theorem lc_of_str {z : Str} {H1 : Hp} {D : Addr} {i : Nat} {σ : L2.St} (out : List (Option V)) {tt : TT} {te : TE} {Qd : Hp → Prop} (un : H1 D = none) (T : Turns H1 i (σ.set i none) (signsOf z) out tt te) (mono : MonoT tt)
    (fin : ∀ H', Same H1 H' → H' D = some (.lst (outOf out)) → Qd H') :
    ∃ W : Nat → Nat → Hp → Prop, (∃ m, W 0 m (upd H1 D (.lst []))) ∧ ∀ i' m H, W i' m H →
      ((Its z).stop i' H ∧ Qd H) ∨ ((Its z).go i' H ∧ ∃ Nx : Hp → Prop, (∀ H', Nx H' → ∃ m', m' < m ∧ W (i' + 1) m' H') ∧ ∀ x H', (Its z).yld i' H x H' → gName i x (wipe σ [i]) H' fun σ2 H2 => wipe σ2 [i] = wipe σ [i] ∧ tt σ2 H2 fun b H3 =>
        if b = true then te σ2 H3 fun y H4 => ∃ acc, H4 D = some (.lst acc) ∧ acc.length < sizeLine ∧ Nx (upd H4 D (.lst (acc ++ [y]))) else Nx H3) := by
  refine ⟨fun j m H => m = z.cps.size - j ∧ j ≤ z.cps.size ∧ Same H1 H ∧ H D = some (.lst (outOf (out.take j))), ⟨z.cps.size, rfl, Nat.zero_le _, same_new un, by rw [upd_same, outOf_zero]⟩, ?_⟩
  rintro j m H ⟨rfl, hj, s1, hD⟩
  have ol : out.length = z.cps.size := by rw [T.len, List.length_map, Array.length_toList]
  by_cases lt : j < z.cps.size
  · refine .inr ⟨lt, fun H' => Same H1 H' ∧ H' D = some (.lst (outOf (out.take (j + 1)))), fun H' q => ⟨z.cps.size - (j + 1), by omega, rfl, lt, q⟩, fun x H' y => ?_⟩
    obtain ⟨rfl, c, hc, rfl⟩ := y
    refine turn_core T mono (j := j) ?_ s1 hD un fun H'' a b => ⟨a, b⟩
    rw [List.getElem?_map, Array.getElem?_toList, hc]
    rfl
  · have e : j = z.cps.size := by omega
    subst e
    refine .inl ⟨Nat.le_refl _, fin H s1 ?_⟩
    rw [← ol, List.take_length] at hD
    exact hD
end Lw

set_option Elab.async false
set_option linter.all false
set_option maxRecDepth 100000
set_option maxHeartbeats 4000000
/-! Sets of keys (ints, texts) made of a list, a tuple, by a comprehension; their length. -/
namespace Sx
open PySem PySem.Spec PyProof.Rows L2

theorem key_beq (a b : Key) : (a == b) = true ↔ a = b := by
  cases a with
  | inl i =>
    cases b with
    | inl j => exact ⟨fun z => congrArg Sum.inl (eq_of_beq (show (i == j) = true from z)), fun z => by cases z; exact beq_self_eq_true i⟩
    | inr y => exact ⟨fun z => absurd (show false = true from z) Bool.false_ne_true, fun z => by cases z⟩
  | inr x =>
    cases b with
    | inl j => exact ⟨fun z => absurd (show false = true from z) Bool.false_ne_true, fun z => by cases z⟩
    | inr y => exact ⟨fun z => congrArg Sum.inr (eq_of_beq (show (x == y) = true from z)), fun z => by cases z; exact beq_self_eq_true x⟩
instance keyLaw : LawfulBEq Key where
  eq_of_beq := fun {a b} h => (key_beq a b).mp h
  rfl := fun {a} => (key_beq a a).mpr rfl

/-! ### each key once, in the order of its first place -/
def put1 (acc : List Key) (k : Key) : List Key := if k ∈ acc then acc else acc ++ [k]
def nub (l : List Key) : List Key := l.foldl put1 []
theorem nub_snoc (l : List Key) (k : Key) : nub (l ++ [k]) = put1 (nub l) k := by
  unfold nub; rw [List.foldl_append]; rfl
theorem mem_put1 {acc : List Key} {k x : Key} : x ∈ put1 acc k ↔ x ∈ acc ∨ x = k := by
  unfold put1
  by_cases h : k ∈ acc
  · rw [if_pos h]
    constructor
    · exact .inl
    · rintro (q | q)
      · exact q
      · rw [q]; exact h
  · rw [if_neg h]; simp
theorem mem_nub : ∀ (n : Nat) (l : List Key), l.length = n → ∀ x, x ∈ nub l ↔ x ∈ l
  | 0, l, h, x => by
    have e : l = [] := List.length_eq_zero_iff.mp h
    subst e; exact Iff.rfl
  | n + 1, l, h, x => by
    have ne : l ≠ [] := by intro e; subst e; simp at h
    obtain ⟨r, k, e⟩ : ∃ r k, l = r ++ [k] := ⟨l.dropLast, l.getLast ne, (List.dropLast_concat_getLast ne).symm⟩
    subst e
    have hr : r.length = n := by simpa using h
    rw [nub_snoc, mem_put1, mem_nub n r hr x]; simp
theorem mem_nub' {l : List Key} {x : Key} : x ∈ nub l ↔ x ∈ l := mem_nub l.length l rfl x
theorem len_put1 {acc : List Key} {k : Key} : (put1 acc k).length = if k ∈ acc then acc.length else acc.length + 1 := by
  unfold put1; split <;> simp
theorem len_nub_le : ∀ (n : Nat) (l : List Key), l.length = n → (nub l).length ≤ l.length
  | 0, l, h => by
    have e : l = [] := List.length_eq_zero_iff.mp h
    subst e; exact Nat.le_refl _
  | n + 1, l, h => by
    have ne : l ≠ [] := by intro e; subst e; simp at h
    obtain ⟨r, k, e⟩ : ∃ r k, l = r ++ [k] := ⟨l.dropLast, l.getLast ne, (List.dropLast_concat_getLast ne).symm⟩
    subst e
    have hr : r.length = n := by simpa using h
    have ih := len_nub_le n r hr
    rw [nub_snoc, len_put1, List.length_append, List.length_singleton]
    split <;> omega
/-- as many as there are: just if each stands once -/
theorem len_nub_iff : ∀ (n : Nat) (l : List Key), l.length = n → ((nub l).length = l.length ↔ l.Nodup)
  | 0, l, h => by
    have e : l = [] := List.length_eq_zero_iff.mp h
    subst e; simp [nub]
  | n + 1, l, h => by
    have ne : l ≠ [] := by intro e; subst e; simp at h
    obtain ⟨r, k, e⟩ : ∃ r k, l = r ++ [k] := ⟨l.dropLast, l.getLast ne, (List.dropLast_concat_getLast ne).symm⟩
    subst e
    have hr : r.length = n := by simpa using h
    have ih := len_nub_iff n r hr
    have le := len_nub_le n r hr
    rw [nub_snoc, len_put1, List.length_append, List.length_singleton, List.nodup_append]
    by_cases hk : k ∈ r
    · rw [if_pos (mem_nub'.mpr hk)]
      constructor
      · intro q; omega
      · rintro ⟨_, _, q⟩
        exact absurd rfl (q k hk k (by simp))
    · rw [if_neg fun z => hk (mem_nub'.mp z)]
      constructor
      · intro q
        refine ⟨ih.mp (by omega), by simp, fun a ha b hb => ?_⟩
        have : b = k := by simpa using hb
        subst this
        intro z; subst z; exact hk ha
      · rintro ⟨q, _, _⟩
        have := ih.mpr q
        omega
theorem nub_nodup_iff {l : List Key} : (nub l).length = l.length ↔ l.Nodup := len_nub_iff l.length l rfl

/-! ### filling -/
abbrev inPre (ks : List Key) (i : Nat) : Key → Bool := fun k => decide (k ∈ ks.take i)
abbrev HasSet (P : Program) (w : World) (h : Heap) (S : Addr) (ks : List Key) : Prop := h.SetOf (mixKind P w) S (fun k => decide (k ∈ ks)) (nub ks).length
theorem hasSet_next {P : Program} {w : World} {h : Heap} {S : Addr} {ks : List Key} {k : Key}
    (x : h.SetOf (mixKind P w) S (fun j => decide (j ∈ ks) || decide (j = k)) (if decide (k ∈ ks) = true then (nub ks).length else (nub ks).length + 1)) : HasSet P w h S (ks ++ [k]) := by
  refine SetOf_congr x (fun j => ?_) ?_
  · simp [Bool.decide_or]
  · rw [nub_snoc, len_put1]
    by_cases h : k ∈ ks
    · rw [if_pos (decide_eq_true h), if_pos (mem_nub'.mpr h)]
    · rw [if_neg (by simpa using h), if_neg fun z => h (mem_nub'.mp z)]
section
variable {P : Program} {w : World} {A : Around} {R : Result → Shared → Prop} {I : Addr} {fp wr : List Addr} {G : Array GenState → Array GenState → Prop} {n : Nat} {Pv : Nat → Value → Prop} {St : Nat → Shared → Prop}
theorem fill_loop (W : WalksS P w A.in1 I fp wr G n Pv St) (S : Addr) (away : S ∉ fp) (ks : List Key) (hlen : ks.length = n)
    (vals : ∀ i v, Pv i v → ∃ k, ks[i]? = some k ∧ RelV (kV k) v) (few : n + 1 < scanBound) :
    ∀ (left i : Nat) (s : Shared), n - i = left → i ≤ n → St i s → HasSet P w s.heap S (ks.take i) →
      (∀ s', Moved (S :: wr) G s s' → HasSet P w s'.heap S ks → R (.ok (.ret .none)) s') →
      codeAny (model P w) A (.builtin "set.update.loop" ⟨[.ref S, .ref I], []⟩) R s := by
  have Sw : S ∉ wr := fun z => away (W.sub _ z)
  have more : ∀ b ∈ wr, b ∈ S :: wr := fun _ hb => List.mem_cons_of_mem _ hb
  intro left
  induction left with
  | zero =>
    intro i s hl hi st hs fin
    have ei : i = n := by omega
    subst ei
    refine codeAny_builtin (A := A) PyProof.Rows.F.entry_set_update_loop ?_
    rw [Around.under_plainId (A := A) PyProof.Rows.F.plain_set_update_loop _]
    show wpAny (model P w) A.in1 (pyNext (.ref I) >>= _) _ _ s
    refine wpAny_bind (W.done s _ _ st fun s1 mv => ?_)
    show wpAny (model P w) A.in1 (ret Value.none) _ _ s1
    refine wpAny_pure (fin s1 (mv.mono more) ?_)
    rw [List.take_of_length_le (by omega)] at hs
    obtain ⟨o, es, ep, t, ho, r⟩ := hs
    exact ⟨o, es, ep, t, mv.heap S _ Sw ho, r⟩
  | succ left ih =>
    intro i s hl hi st hs fin
    have lt : i < n := by omega
    refine codeAny_builtin (A := A) PyProof.Rows.F.entry_set_update_loop ?_
    rw [Around.under_plainId (A := A) PyProof.Rows.F.plain_set_update_loop _]
    show wpAny (model P w) A.in1 (pyNext (.ref I) >>= _) _ _ s
    refine wpAny_bind (W.item i s _ _ lt st fun v s1 hv st1 mv => ?_)
    obtain ⟨k, hk, rv⟩ := vals i v hv
    have hs1 : HasSet P w s1.heap S (ks.take i) := by
      obtain ⟨o, es, ep, t, ho, r⟩ := hs
      exact ⟨o, es, ep, t, mv.heap S _ Sw ho, r⟩
    show wpAny (model P w) A.in1 (holding [v] (setAdd S v) >>= _) _ _ s1
    refine wpAny_bind (wpAny_holding ?_)
    unfold setAdd
    refine wpAny_holding (wpAny_bind ((mixKind P w).pyHash (k := k) (kV_is rv) ?_))
    have room : (nub (ks.take i)).length + 1 < scanBound := by
      have := len_nub_le _ (ks.take i) rfl
      rw [List.length_take] at this
      omega
    refine wpAny_setAddHashed_of (knd := mixKind P w) (s := { s1 with toks := s1.toks + 1 }) (kV_is rv) (key_scan rv) hs1 room fun h2 same hs2 => ?_
    have hs3 : HasSet P w h2 S (ks.take (i + 1)) := by
      rw [List.take_add_one, hk]
      exact hasSet_next hs2
    refine wpAny_pure ⟨plainId_quiet PyProof.Rows.F.plain_set_update_loop _, ih (i + 1) _ (by omega) lt (W.frame _ s1 _ _ st1 (Nat.le_succ _) fun b hb o e => ?_) hs3 fun s2 mv2 hs4 => ?_⟩
    · exact (same.2 b fun z : b = S => away (z ▸ hb)).trans e
    · refine fin s2 (Moved.trans W.gtrans ((mv.mono more).then_heap (Nat.le_succ _) fun b o hb e => ?_) mv2) hs4
      exact (same.2 b fun z : b = S => hb (z ▸ List.mem_cons_self)).trans e
end
end Sx

set_option Elab.async false
set_option linter.all false
set_option maxRecDepth 100000
set_option maxHeartbeats 4000000
namespace Sx
open PySem PySem.Spec PyProof.Rows L2
/-! ### a set comprehension of keys -/
section
variable {X : Cx}
/-- one key more in the set at D -/
theorem add_key {pins : List (Addr × Obj)} {σ : L2.St} {H : Hp} {s : Shared} {E : Value → Shared → Prop} {D : Addr} {S : Key → Bool} {n : Nat} {k : Key} {u : Value} {Q : Value → Shared → Prop}
    (I : Inv X pins σ H s) (at_ : H D = some (SetK X.prog X.w D S n)) (room : n + 1 < scanBound) (ru : RelV (kV k) u)
    (fin : ∀ s', Inv X pins σ (upd H D (SetK X.prog X.w D (fun j => S j || decide (j = k)) (if S k = true then n else n + 1))) s' → Q .none s') :
    wpAny (model X.prog X.w) X.A (call (.builtin "set.add") [.ref D, u]) Q E s := by
  refine PySem.call_set_add (kV_is ru) (key_scan ru) (setK_get I at_) room fun h' same new => ?_
  have there : ∃ o, h'.get? D = some o := let ⟨o, _, _, _, ho, _⟩ := new; ⟨o, ho⟩
  exact fin _ (I.write (e := D) (t' := s.toks + 1) (by rw [at_]; trivial) (.inl rfl) (fun b o hb ho => (same.2 b hb).trans ho) there (setK_new new))
/-- what a turn does with the element's value -/
def TurnK (P : Program) (w : World) (D : Addr) (Nx : Hp → Prop) : VK := fun y H4 => ∃ (k : Key) (S : Key → Bool) (n : Nat), y = kV k ∧ H4 D = some (SetK P w D S n) ∧ n + 1 < scanBound ∧
  Nx (upd H4 D (SetK P w D (fun j => S j || decide (j = k)) (if S k = true then n else n + 1)))
/-- {elt for target in iter if ..} -/
def tSck (P : Program) (w : World) (wi : TI) (g : TG) (tt : TT) (te : TE) (vs : List Nat) : TE := fun σ H Q => wi σ H fun J H1 => ∀ D, H1 D = none →
  ∃ W : Nat → Nat → Hp → Prop, (∃ m, W 0 m (upd H1 D (SetK P w D (fun _ => false) 0))) ∧ ∀ i m H, W i m H →
    (J.stop i H ∧ Q (.ref D) H) ∨
    (J.go i H ∧ ∃ Nx : Hp → Prop, (∀ H', Nx H' → ∃ m', m' < m ∧ W (i + 1) m' H') ∧ ∀ x H', J.yld i H x H' →
      g x (wipe σ vs) H' fun σ2 H2 => wipe σ2 vs = wipe σ vs ∧ tt σ2 H2 fun b H3 => if b = true then te σ2 H3 (TurnK P w D Nx) else Nx H3)
variable {elt tg iter : Expr} {ifs : List Expr} {scope : Scope} {own : List (PySem.Str × Nat)} {pos pos' : Pos} {wi : TI} {g : TG} {tt : TT} {te : TE}
/-- the context of the block -/
abbrev Blk (X : Cx) (scope : Scope) (s : Shared) (H : Hp) (C : Addr) (cl : List (PySem.Str × Addr)) (fp : List Addr) : Cx := X.blk s H scope (compEnvC scope cl C X.env) fp
theorem pe_sck (calm : X.calm = true) (nd : X.N.Nodup) (hi : PI X tg iter wi) (ok : BlkOk X.N X.env.scope scope own)
    (hg : ∀ s H C cl fp, PG (Blk X scope s H C cl fp) tg g) (ht : ∀ s H C cl fp, PTs (Blk X scope s H C cl fp) ifs tt) (he : ∀ s H C cl fp, PE (Blk X scope s H C cl fp) elt te)
    (hs : ∀ x, foldedSetIterable iter X.env x = pure x := by intro _; rfl) :
    PE X (.SetComp elt [⟨tg, iter, ifs, 0⟩] scope pos) (tSck X.prog X.w wi g tt te (own.map (·.2))) := by
  refine ⟨fun pins s σ H Q I h => ?_⟩
  rw [PpSet.eval_SetComp]
  have captured : ∀ y ∈ scope.names, y.2 = .free → ∃ c, X.env.cells.lookup y.1 = some c := fun y hy e => (ok.free y hy e).elim (fun z => I.ok.has _ (.inl z)) fun z => I.ok.has _ (.inr z)
  refine wpAny_comprehension_free (use := none) rfl hs (closure_ok captured) ok.kind (fun y hy e => by rw [ok.uniq y hy, e]) (thn (hi.run pins s σ H _ I h) fun xv s1 q1 => thn q1 fun itv s2 q2 => ?_)
  obtain ⟨it, fp, tn, J, H2, ei, I2, T, st2, f2, q⟩ := q2
  subst ei
  refine PpSet.newSet_ok (newEnv_comp ?_)
  generalize eD : s2.heap.objs.size = D
  have freeD : H2 D = none := I2.hok.fresh (Nat.le_of_eq eD)
  obtain ⟨W, ⟨m0, w0⟩, turn⟩ := q D freeD
  -- the set, empty
  generalize es3 : ({ s2 with heap := s2.heap.push { cls := .type "set", dict := none, data := .set #[] 0 (.fresh 0 0 (!X.w.params.followText "set-order")) } } : Shared) = s3
  generalize eH3 : upd H2 D (SetK X.prog X.w D (fun _ => false) 0) = H3 at w0
  have heap3 : s3.heap = s2.heap.push { cls := .type "set", dict := none, data := .set #[] 0 (.fresh 0 0 (!X.w.params.followText "set-order")) } := by rw [← es3]
  have I3 : Inv X pins σ H3 s3 := by
    rw [← es3, ← eH3]
    refine I2.laid (t' := s2.toks) (fun b o e => Heap.get?_push_of_some _ e) (Nat.le_of_eq eD) (setK_new ?_)
    rw [← eD]
    exact ⟨_, #[], 0, _, Heap.get?_push_size _ rfl, ⟨rfl, rfl, rfl⟩, rfl, (fun e z => by simp at z), (fun k => by simp), (by decide), (by rfl), rfl⟩
  have below : ∀ b ∈ fp, b < s2.heap.objs.size := fun b hb => let ⟨_, e, _⟩ := T.obj _ _ st2 b hb; Heap.lt_size e
  have f3 : ∀ b ∈ fp, FpOk X pins H3 b ∧ b < s3.heap.objs.size := fun b hb => by
    have lt := below b hb
    refine ⟨⟨?_, (f2 b hb).2⟩, ?_⟩
    · rw [← eH3, upd_ne (by rw [← eD]; exact Nat.ne_of_lt lt)]
      exact (f2 b hb).1
    · rw [heap3, Heap.size_push]
      exact Nat.lt_succ_of_lt lt
  have st3 : tn 0 s3.heap := T.keep _ _ _ st2 fun b _ o e => by rw [heap3]; exact Heap.get?_push_of_some _ e
  have I4 := block_start I3 ok nd f3
  show codeAny _ _ (.compStart (.SetComp elt [⟨tg, iter, ifs, 0⟩] scope pos) 0 (.ref it) (.ref D) (compEnvC scope (cellsFrom (s3.heap.objs.size + 1) scope.names (cloFrom X.env.cells scope.names [])) s3.heap.objs.size X.env)) (compPost (model X.prog X.w) X.A X.xe none (EP X pins σ Q) (.ref D) s3.heap.objs.size) { s3 with heap := pushCells (s3.heap.push { cls := .type "dict", data := .dict #[] }) scope.names }
  generalize cellsFrom (s3.heap.objs.size + 1) scope.names (cloFrom X.env.cells scope.names []) = cl at I4 ⊢
  have pg := hg s3 H3 s3.heap.objs.size cl fp
  have pt := ht s3 H3 s3.heap.objs.size cl fp
  have pe := he s3 H3 s3.heap.objs.size cl fp
  unfold Blk at pg pt pe
  generalize ece : compEnvC scope cl s3.heap.objs.size X.env = ce at I4 pg pt pe ⊢
  have atC : ce.locals = s3.heap.objs.size := by rw [← ece]; rfl
  generalize es4 : ({ s3 with heap := pushCells (s3.heap.push { cls := .type "dict", data := .dict #[] }) scope.names } : Shared) = s4 at I4 ⊢
  have st4 : tn 0 s4.heap := T.keep _ _ _ st3 fun b _ o e => by rw [← es4]; exact pushCells_keeps _ _ _ _ (Heap.get?_push_of_some _ e)
  have still : ∀ {σ' : L2.St} {H' : Hp} {s' : Shared}, Inv (X.blk s3 H3 scope ce fp) [] σ' H' s' → (∀ b ∈ fp, H' b = none) → ∀ b ∈ fp, FpOk (X.blk s3 H3 scope ce fp) [] H' b := fun {σ' H' s'} J' un b hb =>
    ⟨un b hb, (J'.ok.exf b hb).1, J'.ok.exfs b hb, .inl hb, fun x c e => (J'.ok.exf b hb).2 x c e, fun p hp => absurd (show p ∈ ([] : List (Addr × Obj)) ++ [] from hp) (by simp)⟩
  refine PpSet.codeAny_compStart_set ?loop (T.self X.A 0 _ _ _ st4 ?loop)
  refine PpSet.compLoopS_any (fun n s' => ∃ i H', Inv (X.blk s3 H3 scope ce fp) [] (wipe σ (own.map (·.2))) H' s' ∧ tn i s'.heap ∧ (∀ b ∈ fp, H' b = none) ∧ W i n H') ?_ m0 ⟨0, H3, I4, st4, fun b hb => (f3 b hb).1.1, w0⟩
  rintro n s5 ⟨i, H5, I5, st5, un5, w5⟩
  rcases turn i n H5 w5 with ⟨stop, fin⟩ | ⟨go, Nx, next, step⟩
  · -- the end: back in the def
    refine thnF (T.done (X.blk s3 H3 scope ce fp) rfl rfl rfl calm i [] s5 _ H5 (fun _ _ => False) I5 (still I5 un5) st5 stop) fun r s6 ⟨er, I6⟩ => ?_
    subst er
    have I7 : Inv X pins σ H5 s6 := I3.call' (ch := fp) I6.os I6.base I6.hok I6.bare fun b hb => ⟨(f3 b hb).1.2.2.2.1, (f3 b hb).1.2.1, (f3 b hb).1.2.2.2.2.1, (f3 b hb).1.2.2.2.2.2⟩
    have unC : H5 s3.heap.objs.size = none := by
      have z : H5 ce.locals = none := I6.free
      rwa [atC] at z
    obtain ⟨m, ns, _⟩ := I6.loc
    have ns : s6.heap.Ns ce.locals m := ns
    rw [atC] at ns
    refine ⟨m, ns, fun h'' sb => ?_⟩
    obtain ⟨f0, f1, _, fr3, fr4, fr5⟩ := I3.fpOk (Nat.le_refl _) unC
    exact ⟨.ref D, H5, I7.turned (t' := s6.toks) (fun b o hb e => (sb.2 b hb).trans e) f0 f1 fr3 fr4 fr5, rfl, fin⟩
  · refine thnF (T.item (X.blk s3 H3 scope ce fp) rfl rfl rfl calm i [] s5 _ H5 (fun _ _ => False) I5 (still I5 un5) st5 go) fun r s6 ⟨u, er, q6⟩ => ?_
    subst er
    refine thnF q6 fun _ s7 ⟨x, H7, I7, r7, y7, st7, un7⟩ => ?_
    have I7' := I7.pinned (still I7 un7) (T.obj _ _ st7)
    refine thnF (pg.run _ s7 _ H7 x u _ I7' r7 (step x H7 y7)) fun _ s8 ⟨σ8, H8, I8, same, q8⟩ => ?_
    refine thnF (pt.run _ s8 σ8 H8 _ I8 q8) fun b s9 ⟨H9, I9, q9⟩ => ?_
    have back : ∀ {s' : Shared} {H' : Hp}, Inv (X.blk s3 H3 scope ce fp) ([] ++ pinsAt fp s7.heap) σ8 H' s' → Nx H' →
        ∃ m, m < n ∧ ∃ i H', Inv (X.blk s3 H3 scope ce fp) [] (wipe σ (own.map (·.2))) H' s' ∧ tn i s'.heap ∧ (∀ b ∈ fp, H' b = none) ∧ W i m H' := fun {s' H'} I' nx => by
      obtain ⟨m', lt, w'⟩ := next H' nx
      have pin : ∀ b ∈ fp, ∀ o, s7.heap.get? b = some o → s'.heap.get? b = some o ∧ H' b = none := fun b hb o e =>
        let z := I'.pin (b, o) (List.mem_append_right _ (List.mem_append_right _ (mem_pinsAt hb e)))
        ⟨z.1, z.2.1⟩
      have len : (wipe σ (own.map (·.2))).length = σ8.length := by rw [← same, wipe_length]
      refine ⟨m', lt, i + 1, H', (I'.unpinned (pins := [])).weak len (fun j v e => ?_), T.keep _ _ _ st7 fun b hb o e => (pin b hb o e).1, fun b hb => ?_, w'⟩
      · rw [← same] at e
        exact (wipe_some e).1
      · obtain ⟨o, e, _⟩ := T.obj _ _ st7 b hb
        exact (pin b hb o e).2
    cases b with
    | false =>
      simp only [Bool.false_eq_true, if_false] at q9 ⊢
      exact back I9 q9
    | true =>
      simp only [if_true] at q9 ⊢
      refine thnF (pe.run _ s9 σ8 H9 _ I9 q9) fun z s10 ⟨y, H10, I10, r10, k, S0, n0, ey, at0, room, nx⟩ => ?_
      subst ey
      exact add_key (X := X.blk s3 H3 scope ce fp) I10 at0 room r10 fun s11 I11 => back I11 nx
end
end Sx

set_option Elab.async false
set_option linter.all false
set_option maxRecDepth 100000
set_option maxHeartbeats 4000000
/-! What is walked is a list or a tuple. -/
namespace Lw
open PySem PySem.Spec PyProof.Rows L2
section
variable {X : Cx} {tg l : Expr} {t1 t2 : TI}
theorem PI.or (h1 : PI X tg l t1) (h2 : PI X tg l t2) : PI X tg l (fun σ H R => t1 σ H R ∨ t2 σ H R) := by
  refine ⟨fun pins s σ H R I h => ?_⟩
  rcases h with h | h
  · exact h1.run pins s σ H R I h
  · exact h2.run pins s σ H R I h
end
def SqA (K : PySem.W.Frag) (H : Hp) (a : Addr) (xs : List V) : Prop := SqL K H a xs ∨ SqT K H a xs
theorem SqA.same {K : PySem.W.Frag} {H H' : Hp} {a : Addr} {xs : List V} (e : Same H H') (h : SqA K H a xs) : SqA K H' a xs := h.elim (fun h => .inl (e.seq h)) fun h => .inr (same_tup e h)
abbrev iSeq (K : PySem.W.Frag) (tl : TE) : TI := fun σ H R => iList K tl σ H R ∨ iTup K tl σ H R
theorem pi_seq {X : Cx} {tg l : Expr} {tl : TE} (h : PE X l tl) : PI X tg l (iSeq X.K tl) := PI.or (pi_list h) (pi_tup h)
/-- how it is walked -/
inductive JA (K : PySem.W.Frag) (H : Hp) (a : Addr) (xs : List V) : L2.It → Prop
  | l (h : SqL K H a xs) : JA K H a xs (Itl K a)
  | t (h : SqT K H a xs) : JA K H a xs (Itt K a)
theorem seq_run {K : PySem.W.Frag} {a : Addr} {xs : List V} {σ : L2.St} {H : Hp} {i0 : Nat} {R : L2.It → Hp → Prop} (e : σ[i0]? = some (some (.ref a))) (hs : SqA K H a xs) (f : ∀ J, JA K H a xs J → R J H) : iList K (tVar i0) σ H R ∨ iTup K (tVar i0) σ H R := by
  rcases hs with hs | hs
  · exact .inl ⟨_, e, a, rfl, ⟨_, hs⟩, f _ (.l hs)⟩
  · exact .inr ⟨_, e, a, rfl, ⟨_, hs⟩, f _ (.t hs)⟩
theorem lc_of_J {K : PySem.W.Frag} {a : Addr} {H1 : Hp} {D : Addr} {i : Nat} {σ : L2.St} {xs : List V} {J : L2.It} (out : List (Option V)) {tt : TT} {te : TE} {Qd : Hp → Prop} (hl : JA K H1 a xs J) (un : H1 D = none) (T : Turns H1 i (σ.set i none) xs out tt te) (mono : MonoT tt)
    (fin : ∀ H', Same H1 H' → H' D = some (.lst (outOf out)) → Qd H') :
    ∃ W : Nat → Nat → Hp → Prop, (∃ m, W 0 m (upd H1 D (.lst []))) ∧ ∀ i' m H, W i' m H →
      (J.stop i' H ∧ Qd H) ∨ (J.go i' H ∧ ∃ Nx : Hp → Prop, (∀ H', Nx H' → ∃ m', m' < m ∧ W (i' + 1) m' H') ∧ ∀ x H', J.yld i' H x H' → gName i x (wipe σ [i]) H' fun σ2 H2 => wipe σ2 [i] = wipe σ [i] ∧ tt σ2 H2 fun b H3 =>
        if b = true then te σ2 H3 fun y H4 => ∃ acc, H4 D = some (.lst acc) ∧ acc.length < sizeLine ∧ Nx (upd H4 D (.lst (acc ++ [y]))) else Nx H3) := by
  cases hl with
  | l h => exact lc_of_list out h un T mono fin
  | t h => exact lc_of_tup out h un T mono fin
theorem for_J {K : PySem.W.Frag} {a : Addr} {xs : List V} {σ : L2.St} {H : Hp} {J : L2.It} {g : TG} {t : TS} {D : Ends} (hs : JA K H a xs J) (Pv : Nat → L2.St → Hp → Prop) (h0 : Pv 0 σ H) (keep : ∀ i σ' H', Pv i σ' H' → Same H H')
    (turn : ∀ i x σ' H', xs[i]? = some x → Pv i σ' H' → g x σ' H' fun σ2 H2 => t { D with nx := Pv (i + 1), ct := Pv (i + 1), bk := D.nx } σ2 H2) (done : ∀ σ' H', Pv xs.length σ' H' → D.nx σ' H') :
    ∃ W : Nat → Nat → L2.St → Hp → Prop, (∃ m, W 0 m σ H) ∧ ∀ i m σ H, W i m σ H →
      (J.stop i H ∧ D.nx σ H) ∨ (J.go i H ∧ ∃ N : L2.St → Hp → Prop, (∀ σ' H', N σ' H' → ∃ m', m' < m ∧ W (i + 1) m' σ' H') ∧ ∀ x H', J.yld i H x H' → g x σ H' fun σ2 H2 => t { D with nx := N, ct := N, bk := D.nx } σ2 H2) := by
  cases hs with
  | l h => exact for_list (K := K) (a := a) (xs := xs) Pv h0 (fun i σ' H' _ p => (keep i σ' H' p).seq h) turn done
  | t h => exact for_tup (K := K) (a := a) (xs := xs) Pv h0 (fun i σ' H' _ p => same_tup (keep i σ' H' p) h) turn done
/-- the turns of a set comprehension -/
structure TurnsK (H1 : Hp) (i : Nat) (σ : L2.St) (xs : List V) (ks : List Key) (te : TE) : Prop where
  len : ks.length = xs.length
  few : xs.length ≤ 1000
  el : ∀ (j : Nat) (x : V) (k : Key) (H : Hp) (Q : VK), xs[j]? = some x → ks[j]? = some k → Same H1 H → (∀ H', Same H H' → Q (kV k) H') → te (σ.set i (some x)) H Q
theorem turnK_core {P : Program} {w : World} {H1 H : Hp} {D : Addr} {i : Nat} {σ : L2.St} {xs : List V} {ks : List Key} {te : TE} (T : TurnsK H1 i (σ.set i none) xs ks te) {j : Nat} {x : V} (hx : xs[j]? = some x)
    (s1 : Same H1 H) (hD : H D = some (SetK P w D (fun k => decide (k ∈ ks.take j)) (Sx.nub (ks.take j)).length)) (un : H1 D = none) {Nx : Hp → Prop} (fin : ∀ H', Same H1 H' → H' D = some (SetK P w D (fun k => decide (k ∈ ks.take (j + 1))) (Sx.nub (ks.take (j + 1))).length) → Nx H') :
    gName i x (wipe σ [i]) H fun σ2 H2 => wipe σ2 [i] = wipe σ [i] ∧ tYes σ2 H2 fun b H3 => if b = true then te σ2 H3 (Sx.TurnK P w D Nx) else Nx H3 := by
  refine ⟨by simp [wipe], ?_⟩
  show if true = true then te ((σ.set i none).set i (some x)) H (Sx.TurnK P w D Nx) else Nx H
  refine iteT ?_
  have hj : j < ks.length := by rw [T.len]; exact (List.getElem?_eq_some_iff.mp hx).1
  have hk : ks[j]? = some ks[j] := List.getElem?_eq_getElem hj
  refine T.el j x ks[j] H _ hx hk s1 fun H4 s4 => ⟨ks[j], _, _, rfl, s4 _ _ hD, ?_, fin _ (fun b o eb => ?_) ?_⟩
  · have := Sx.len_nub_le _ (ks.take j) rfl
    rw [List.length_take] at this
    have l2 := T.few
    have l3 := T.len
    exact Nat.lt_of_le_of_lt (show (Sx.nub (ks.take j)).length + 1 ≤ 1001 by omega) (by decide)
  · rw [upd_ne (ne_of_none eb un)]
    exact s4 _ _ (s1 _ _ eb)
  · have tk : ks.take (j + 1) = ks.take j ++ [ks[j]] := by rw [List.take_add_one, hk]; rfl
    have e1 : (fun k => decide (k ∈ ks.take j) || decide (k = ks[j])) = fun k => decide (k ∈ ks.take (j + 1)) := by
      funext k
      have q : k ∈ ks.take (j + 1) ↔ k ∈ ks.take j ∨ k = ks[j] := by rw [tk, List.mem_append, List.mem_singleton]
      rw [decide_eq_decide.mpr q, Bool.decide_or]
    have e2 : (if decide (ks[j] ∈ ks.take j) = true then (Sx.nub (ks.take j)).length else (Sx.nub (ks.take j)).length + 1) = (Sx.nub (ks.take (j + 1))).length := by
      rw [tk, Sx.nub_snoc, Sx.len_put1]
      by_cases h : ks[j] ∈ ks.take j
      · rw [if_pos (decide_eq_true h), if_pos (Sx.mem_nub'.mpr h)]
      · rw [if_neg (by simpa using h), if_neg fun z => h (Sx.mem_nub'.mp z)]
    rw [upd_same]
    show some (SetK P w D (fun k => decide (k ∈ ks.take j) || decide (k = ks[j])) (if decide (ks[j] ∈ ks.take j) = true then (Sx.nub (ks.take j)).length else (Sx.nub (ks.take j)).length + 1)) = _
    rw [e1, e2]
theorem sck_of_J {P : Program} {w : World} {K : PySem.W.Frag} {a : Addr} {xs : List V} {ks : List Key} {σ : L2.St} {H1 : Hp} {D : Addr} {i : Nat} {te : TE} {Qd : Hp → Prop} {J : L2.It} (hs : JA K H1 a xs J) (un : H1 D = none) (T : TurnsK H1 i (σ.set i none) xs ks te)
    (fin : ∀ H', Same H1 H' → H' D = some (SetK P w D (fun k => decide (k ∈ ks)) (Sx.nub ks).length) → Qd H') :
    ∃ W : Nat → Nat → Hp → Prop, (∃ m, W 0 m (upd H1 D (SetK P w D (fun _ => false) 0))) ∧ ∀ i' m H, W i' m H →
      (J.stop i' H ∧ Qd H) ∨ (J.go i' H ∧ ∃ Nx : Hp → Prop, (∀ H', Nx H' → ∃ m', m' < m ∧ W (i' + 1) m' H') ∧ ∀ x H', J.yld i' H x H' →
        gName i x (wipe σ [i]) H' fun σ2 H2 => wipe σ2 [i] = wipe σ [i] ∧ tYes σ2 H2 fun b H3 => if b = true then te σ2 H3 (Sx.TurnK P w D Nx) else Nx H3) := by
  have all : ∀ {H' : Hp}, H' D = some (SetK P w D (fun k => decide (k ∈ ks.take xs.length)) (Sx.nub (ks.take xs.length)).length) → H' D = some (SetK P w D (fun k => decide (k ∈ ks)) (Sx.nub ks).length) := fun {H'} h => by
    rwa [← T.len, List.take_length] at h
  have zero : (upd H1 D (SetK P w D (fun _ => false) 0)) D = some (SetK P w D (fun k => decide (k ∈ ks.take 0)) (Sx.nub (ks.take 0)).length) := by
    rw [upd_same]
    have e1 : (fun k : Key => decide (k ∈ ks.take 0)) = fun _ => false := by
      funext k
      simp
    rw [e1]
    rfl
  refine ⟨fun j m H' => m = xs.length - j ∧ j ≤ xs.length ∧ Same H1 H' ∧ H' D = some (SetK P w D (fun k => decide (k ∈ ks.take j)) (Sx.nub (ks.take j)).length), ⟨xs.length, by simp, Nat.zero_le _, same_new un, zero⟩, ?_⟩
  rintro j m H' ⟨rfl, hj, s1, hD⟩
  cases hs with
  | l hs =>
    have q : SqL K H' a xs := s1.seq hs
    by_cases lt : j < xs.length
    · refine .inr ⟨⟨xs, xs[j], q, by simp [lt]⟩, fun H' => Same H1 H' ∧ H' D = some (SetK P w D (fun k => decide (k ∈ ks.take (j + 1))) (Sx.nub (ks.take (j + 1))).length), fun H' p' => ⟨xs.length - (j + 1), by omega, rfl, lt, p'⟩, fun x H'' y => ?_⟩
      obtain ⟨e, y⟩ := y
      subst e
      exact turnK_core T (y xs q) s1 hD un fun _ a b => ⟨a, b⟩
    · have e : j = xs.length := by omega
      subst e
      exact .inl ⟨⟨xs, q, Nat.le_refl _⟩, fin H' s1 (all hD)⟩
  | t hs =>
    have q : SqT K H' a xs := same_tup s1 hs
    by_cases lt : j < xs.length
    · refine .inr ⟨⟨xs, xs[j], q, by simp [lt]⟩, fun H' => Same H1 H' ∧ H' D = some (SetK P w D (fun k => decide (k ∈ ks.take (j + 1))) (Sx.nub (ks.take (j + 1))).length), fun H' p' => ⟨xs.length - (j + 1), by omega, rfl, lt, p'⟩, fun x H'' y => ?_⟩
      obtain ⟨e, y⟩ := y
      subst e
      exact turnK_core T (y xs q) s1 hD un fun _ a b => ⟨a, b⟩
    · have e : j = xs.length := by omega
      subst e
      exact .inl ⟨⟨xs, q, Nat.le_refl _⟩, fin H' s1 (all hD)⟩
end Lw

set_option Elab.async false
set_option linter.all false
set_option maxRecDepth 100000
set_option maxHeartbeats 4000000
namespace Lw
open PySem PySem.Spec PyProof.Rows L2
/-- from the deal's heap H on: G' beside the deal, N only new things -/
structure News (G H G' N : Hp) (d l : Addr) : Prop where
  dl : Deal G' H d l
  kp : Same G G'
  sub : Same N G'
  dis : ∀ b o, N b = some o → G b = none
theorem News.zero {G H : Hp} {d l : Addr} (D : Deal G H d l) : News G H G (fun _ => none) d l := ⟨D, Same.refl G, fun b o e => (by cases e), fun b o e => (by cases e)⟩
theorem News.put {G H G' N : Hp} {d l p : Addr} {o : HO} (n : News G H G' N d l) (h : H p = none) : News G (upd H p o) (upd G' p o) (upd N p o) d l := by
  have gp : G' p = none := n.dl.same.free h
  refine ⟨n.dl.put h, fun b u e => ?_, fun b u e => ?_, fun b u e => ?_⟩
  · rw [upd_ne (ne_of_none (n.kp _ _ e) gp)]
    exact n.kp _ _ e
  · by_cases q : b = p
    · subst q
      rw [upd_same] at e ⊢
      exact e
    · rw [upd_ne q] at e ⊢
      exact n.sub _ _ e
  · by_cases q : b = p
    · subst q
      exact n.kp.free gp
    · rw [upd_ne q] at e
      exact n.dis _ _ e
theorem News.here {G H G' N : Hp} {d l p : Addr} {o : HO} (n : News G H G' N d l) (h : H p = none) : upd N p o p = some o := upd_same
theorem News.stay {G H G' N : Hp} {d l p : Addr} {o : HO} (n : News G H G' N d l) (h : H p = none) : Same N (upd N p o) := same_new (n.sub.free (n.dl.same.free h))
theorem News.redeal {G H H2 G' N : Hp} {d l : Addr} (n : News G H G' N d l) (D : Deal G' H2 d l) : News G H2 G' N d l := ⟨D, n.kp, n.sub, n.dis⟩
/-- what is new behind what is new -/
theorem News.more {G H G1 N1 H2 G2 N2 : Hp} {d l : Addr} (n : News G H G1 N1 d l) (m : News G1 H2 G2 N2 d l) : News G H2 G2 (fun b => match N1 b with | some o => some o | none => N2 b) d l := by
  refine ⟨m.dl, n.kp.trans m.kp, fun b o e => ?_, fun b o e => ?_⟩
  · cases h : N1 b with
    | some u =>
      have e' : some u = some o := by simpa [h] using e
      cases e'
      exact m.kp _ _ (n.sub _ _ h)
    | none =>
      have e' : N2 b = some o := by simpa [h] using e
      exact m.sub _ _ e'
  · cases h : N1 b with
    | some u => exact n.dis _ _ h
    | none =>
      have e' : N2 b = some o := by simpa [h] using e
      exact n.kp.free (m.dis _ _ e')
theorem News.left {G H G1 N1 H2 G2 N2 : Hp} {d l : Addr} (n : News G H G1 N1 d l) (m : News G1 H2 G2 N2 d l) : Same N1 (fun b => match N1 b with | some o => some o | none => N2 b) := fun b o e => by simp [e]
theorem News.right {G H G1 N1 H2 G2 N2 : Hp} {d l : Addr} (n : News G H G1 N1 d l) (m : News G1 H2 G2 N2 d l) : Same N2 (fun b => match N1 b with | some o => some o | none => N2 b) := fun b o e => by
  have h : N1 b = none := by
    cases q : N1 b with
    | none => rfl
    | some u =>
      have := m.dis _ _ e
      rw [n.sub _ _ q] at this
      cases this
  simp [h, e]
theorem Deal.over {G H : Hp} {d l D : Addr} {o u : HO} (n : Deal (upd G D u) H d l) : Deal (upd G D o) (upd H D o) d l := by
  have nd : d ≠ D := fun z => by have := n.gd; rw [z, upd_same] at this; cases this
  have nl : l ≠ D := fun z => by have := n.gl; rw [z, upd_same] at this; cases this
  obtain ⟨ns, m, a⟩ := n.it
  refine ⟨fun b v e => ?_, ?_, ?_, n.ne, ns, m, ?_⟩
  · by_cases q : b = D
    · subst q
      rw [upd_same] at e ⊢
      exact e
    · rw [upd_ne q] at e ⊢
      exact n.same _ _ (by rw [upd_ne q]; exact e)
  · have := n.gd
    rwa [upd_ne nd] at this ⊢
  · have := n.gl
    rwa [upd_ne nl] at this ⊢
  · exact ⟨by rw [upd_ne nd]; exact a.hd, by rw [upd_ne nl]; exact a.hl, a.len, a.nn, a.m0, a.m1⟩
theorem News.inH {G H G' N : Hp} {d l : Addr} (n : News G H G' N d l) : Same N H := n.sub.trans n.dl.same
theorem News.tup {G H G' N : Hp} {d l t : Addr} (n : News G H G' N d l) (u : H t = none) (xs : List V) : ∃ H1 G1 N1 : Hp, H1 = upd H t (.tup xs) ∧ News G H1 G1 N1 d l ∧ N1 t = some (.tup xs) ∧ Same N N1 := ⟨_, _, _, rfl, n.put u, upd_same, n.stay u⟩
theorem News.lst {G H G' N : Hp} {d l t : Addr} (n : News G H G' N d l) (u : H t = none) (xs : List V) : ∃ H1 G1 N1 : Hp, H1 = upd H t (.lst xs) ∧ News G H1 G1 N1 d l ∧ N1 t = some (.lst xs) ∧ Same N N1 := ⟨_, _, _, rfl, n.put u, upd_same, n.stay u⟩
/-- a heap without what stands at D -/
def hide (D : Addr) (G : Hp) : Hp := fun b => if b = D then none else G b
theorem hide_ne {D b : Addr} {G : Hp} (h : b ≠ D) : hide D G b = G b := if_neg h
theorem hide_same {D : Addr} {G : Hp} : hide D G D = none := if_pos rfl
theorem hide_upd {D : Addr} {G : Hp} {o : HO} : upd (hide D G) D o = upd G D o := by
  funext b
  by_cases q : b = D
  · subst q
    rw [upd_same, upd_same]
  · rw [upd_ne q, upd_ne q, hide_ne q]
/-- the promise of what hands a thing back -/
def Hands (K : PySem.W.Frag) (G : Hp) (d l : Addr) (Q : VK) : Prop := ∀ (G' H' N : Hp) (x : V) (pd : PyData), News G H' G' N d l → Dp K N x pd → fine pd = true → Q x H'
end Lw

set_option Elab.async false
set_option linter.all false
set_option maxRecDepth 100000
set_option maxHeartbeats 4000000
namespace Lw
open PySem PySem.Spec PyProof.Rows L2
theorem dpAll_app {K : PySem.W.Frag} {H : Hp} : ∀ {xs ys : List V} {ds es : List PyData}, DpAll K H xs ds → DpAll K H ys es → DpAll K H (xs ++ ys) (ds ++ es)
  | _, _, _, _, .nil, h => h
  | _, _, _, _, .cons a r, h => .cons a (dpAll_app r h)
/-- behind i turns of a comprehension (its list at L) that draw and hand new data; of the j-th R says something -/
def HP (K : PySem.W.Frag) (G : Hp) (d l L : Addr) (R : Nat → PyData → Prop) (i : Nat) (H' : Hp) : Prop := ∃ (B N : Hp) (xs : List V) (pds : List PyData), Same G B ∧ B L = none ∧ Deal (upd B L (.lst xs)) H' d l ∧ Same N B ∧ (∀ b o, N b = some o → G b = none) ∧
  DpAll K N xs pds ∧ xs.length = i ∧ ∀ j pd, pds[j]? = some pd → R j pd
theorem HP.zero {K : PySem.W.Frag} {G H : Hp} {d l L : Addr} {R : Nat → PyData → Prop} (D : Deal G H d l) (u : H L = none) : HP K G d l L R 0 (upd H L (.lst [])) :=
  ⟨G, fun _ => none, [], [], Same.refl _, D.same.free u, D.put u, fun b o e => (by cases e), fun b o e => (by cases e), .nil, rfl, fun j pd e => by simp at e⟩
theorem HP.turn {K : PySem.W.Frag} {G H1 : Hp} {d l L : Addr} {R : Nat → PyData → Prop} {i : Nat} {te : TE} {σ : L2.St} (h : HP K G d l L R i H1) (few : i < 100000)
    (el : ∀ Gx, Same G Gx → Deal Gx H1 d l → ∀ Q : VK, (∀ (G' H' N : Hp) (y : V) (pd : PyData), News Gx H' G' N d l → Dp K N y pd → R i pd → Q y H') → te σ H1 Q) :
    te σ H1 fun y H4 => ∃ acc, H4 L = some (.lst acc) ∧ acc.length < sizeLine ∧ HP K G d l L R (i + 1) (upd H4 L (.lst (acc ++ [y]))) := by
  obtain ⟨B, N, xs, pds, sB, nB, DB, sN, dN, hx, len, hR⟩ := h
  have sGx : Same G (upd B L (.lst xs)) := fun b o e => by rw [upd_ne (ne_of_none (sB _ _ e) nB)]; exact sB _ _ e
  refine el _ sGx DB _ fun G' H2 N1 y pd nw hd hr => ?_
  have gL : G' L = some (.lst xs) := nw.kp _ _ upd_same
  have gU : upd G' L (.lst xs) = G' := by
    funext b
    by_cases q : b = L
    · rw [q, upd_same, gL]
    · rw [upd_ne q]
  have bB : ∀ b o, B b = some o → b ≠ L := fun b o e z => by rw [z, nB] at e; cases e
  have toB : Same B (hide L G') := fun b o e => by
    have ne := bB b o e
    rw [hide_ne ne]
    exact nw.kp _ _ (by rw [upd_ne ne]; exact e)
  have n1 : ∀ b o, N1 b = some o → b ≠ L ∧ B b = none := fun b o e => by
    have z := nw.dis b o e
    have ne : b ≠ L := fun q => by rw [q, upd_same] at z; cases z
    rw [upd_ne ne] at z
    exact ⟨ne, z⟩
  have nn : ∀ b o, N1 b = some o → N b = none := fun b o e => sN.free (n1 b o e).2
  refine ⟨xs, nw.dl.same _ _ gL, Nat.lt_of_le_of_lt (show xs.length ≤ 100000 by omega) (by decide), hide L G', fun b => match N b with | some o => some o | none => N1 b, xs ++ [y], pds ++ [pd], sB.trans toB, hide_same, ?_, fun b o e => ?_, fun b o e => ?_, ?_, by rw [List.length_append, len]; rfl, ?_⟩
  · rw [hide_upd]
    exact Deal.over (G := G') (u := .lst xs) (by rw [gU]; exact nw.dl)
  · cases q : N b with
    | some u =>
      have e' : some u = some o := by simpa [q] using e
      cases e'
      exact toB _ _ (sN _ _ q)
    | none =>
      have e' : N1 b = some o := by simpa [q] using e
      rw [hide_ne (n1 b o e').1]
      exact nw.sub _ _ e'
  · cases q : N b with
    | some u => exact dN _ _ q
    | none =>
      have e' : N1 b = some o := by simpa [q] using e
      exact sB.free (n1 b o e').2
  · exact dpAll_app (dpAll_same (fun b o e => by simp [e]) _ _ hx) (.cons (dp_same (fun b o e => by simp [nn b o e, e]) _ _ hd) .nil)
  · intro j q e
    by_cases h : j < pds.length
    · rw [List.getElem?_append_left h] at e
      exact hR j q e
    · rw [List.getElem?_append_right (by omega)] at e
      have hj : j = pds.length := by
        by_cases z : j - pds.length = 0
        · omega
        · have : ([pd] : List PyData)[j - pds.length]? = none := List.getElem?_eq_none (by simp; omega)
          rw [this] at e
          cases e
      subst hj
      simp only [Nat.sub_self, List.getElem?_cons_zero, Option.some.injEq] at e
      rw [← e, ← dpAll_len hx, len]
      exact hr
theorem HP.same {K : PySem.W.Frag} {G H' : Hp} {d l L : Addr} {R : Nat → PyData → Prop} {n : Nat} (h : HP K G d l L R n H') : Same G H' := by
  obtain ⟨B, N, xs, pds, gB, nB, DB, _⟩ := h
  exact fun b o e => DB.same _ _ (by rw [upd_ne (ne_of_none (gB _ _ e) nB)]; exact gB _ _ e)
theorem HP.done {K : PySem.W.Frag} {G H' : Hp} {d l L : Addr} {R : Nat → PyData → Prop} {n : Nat} (h : HP K G d l L R n H') :
    ∃ (G' N : Hp) (xs : List V) (pds : List PyData), News G H' G' N d l ∧ N L = some (.lst xs) ∧ DpAll K N xs pds ∧ xs.length = n ∧ ∀ j pd, pds[j]? = some pd → R j pd := by
  obtain ⟨B, N, xs, pds, gB, nB, DB, sN, dN, hx, len, hR⟩ := h
  have nL : N L = none := sN.free nB
  refine ⟨upd B L (.lst xs), upd N L (.lst xs), xs, pds, ⟨DB, fun b o e => by rw [upd_ne (ne_of_none (gB _ _ e) nB)]; exact gB _ _ e, fun b o e => ?_, fun b o e => ?_⟩, upd_same, dpAll_same (same_new nL) _ _ hx, len, hR⟩
  · by_cases q : b = L
    · subst q
      rw [upd_same] at e ⊢
      exact e
    · rw [upd_ne q] at e ⊢
      exact sN _ _ e
  · by_cases q : b = L
    · subst q
      exact gB.free nB
    · rw [upd_ne q] at e
      exact dN _ _ e
end Lw

set_option Elab.async false
set_option linter.all false
set_option maxRecDepth 100000
set_option maxHeartbeats 4000000
namespace Lw
open PySem PySem.Spec PyProof.Rows L2
theorem HP.more {K : PySem.W.Frag} {G H : Hp} {d l L T : Addr} {R : Nat → PyData → Prop} {i : Nat} {o : HO} (h : HP K G d l L R i H) (u : H T = none) : HP K G d l L R i (upd H T o) := by
  obtain ⟨B, N, xs, pds, sB, nB, DB, r⟩ := h
  exact ⟨B, N, xs, pds, sB, nB, DB.more u, r⟩
/-- something new that stands in the heap by now -/
theorem News.grow {G H H' G' N : Hp} {d l p : Addr} {o : HO} (n : News G H G' N d l) (s : Same H H') (u : H p = none) (e : H' p = some o) : News G H' (upd G' p o) (upd N p o) d l := by
  obtain ⟨ns, m, a⟩ := n.dl.it
  have nd : d ≠ p := ne_of_none a.hd u
  have nl : l ≠ p := ne_of_none a.hl u
  have gp : G' p = none := n.dl.same.free u
  refine ⟨⟨fun b v h => ?_, by rw [upd_ne nd]; exact n.dl.gd, by rw [upd_ne nl]; exact n.dl.gl, n.dl.ne, ns, m, s _ _ a.hd, s _ _ a.hl, a.len, a.nn, a.m0, a.m1⟩, fun b v h => ?_, fun b v h => ?_, fun b v h => ?_⟩
  · by_cases q : b = p
    · subst q
      rw [upd_same] at h
      cases h
      exact e
    · rw [upd_ne q] at h
      exact s _ _ (n.dl.same _ _ h)
  · rw [upd_ne (ne_of_none (n.kp _ _ h) gp)]
    exact n.kp _ _ h
  · by_cases q : b = p
    · subst q
      rw [upd_same] at h ⊢
      exact h
    · rw [upd_ne q] at h ⊢
      exact n.sub _ _ h
  · by_cases q : b = p
    · subst q
      exact n.kp.free gp
    · rw [upd_ne q] at h
      exact n.dis _ _ h
/-- a comprehension over enumerate of a list -/
theorem lc_enum {K : PySem.W.Frag} {a : Addr} {xs : List V} {g : TG} {tt : TT} {te : TE} {vs : List Nat} {σ : L2.St} {H1 : Hp} {D : Addr} {Qd : Hp → Prop} (Pv : Nat → Hp → Prop) (h0 : Pv 0 (upd H1 D (.lst []))) (hl : ∀ i H, Pv i H → SqL K H a xs)
    (hs : ∀ i x T H, xs[i]? = some x → Pv i H → H T = none → g (.ref T) (wipe σ vs) (upd H T (.tup [.int (i : Nat), x])) fun σ2 H2 => wipe σ2 vs = wipe σ vs ∧ tt σ2 H2 fun b H3 =>
      if b = true then te σ2 H3 fun y H4 => ∃ acc, H4 D = some (.lst acc) ∧ acc.length < sizeLine ∧ Pv (i + 1) (upd H4 D (.lst (acc ++ [y]))) else Pv (i + 1) H3) (hd : ∀ H, Pv xs.length H → Qd H) :
    ∃ W : Nat → Nat → Hp → Prop, (∃ m, W 0 m (upd H1 D (.lst []))) ∧ ∀ i m H, W i m H →
      ((Ite K a).stop i H ∧ Qd H) ∨ ((Ite K a).go i H ∧ ∃ Nx : Hp → Prop, (∀ H', Nx H' → ∃ m', m' < m ∧ W (i + 1) m' H') ∧ ∀ x H', (Ite K a).yld i H x H' → g x (wipe σ vs) H' fun σ2 H2 => wipe σ2 vs = wipe σ vs ∧ tt σ2 H2 fun b H3 =>
        if b = true then te σ2 H3 fun y H4 => ∃ acc, H4 D = some (.lst acc) ∧ acc.length < sizeLine ∧ Nx (upd H4 D (.lst (acc ++ [y]))) else Nx H3) := by
  refine ⟨fun i m H => m = xs.length - i ∧ i ≤ xs.length ∧ Pv i H, ⟨xs.length, by simp, Nat.zero_le _, h0⟩, ?_⟩
  rintro i m H ⟨rfl, hi, p⟩
  have q := hl i H p
  by_cases hlt : i < xs.length
  · refine .inr ⟨⟨xs, xs[i], q, by simp [hlt]⟩, Pv (i + 1), fun H' p' => ⟨xs.length - (i + 1), by omega, rfl, hlt, p'⟩, fun x H' y => ?_⟩
    obtain ⟨T, x', rfl, hT, rfl, f⟩ := y
    exact hs i x' T H (f xs q) p hT
  · have e : i = xs.length := by omega
    subst e
    exact .inl ⟨⟨xs, q, Nat.le_refl _⟩, hd H p⟩
theorem dp_perm {K : PySem.W.Frag} {N : Hp} {α : Type} (f : α → PyData) : ∀ {xs ys : List V}, ys.Perm xs → ∀ {rs : List α}, DpAll K N xs (rs.map f) → ∃ rs' : List α, rs'.Perm rs ∧ DpAll K N ys (rs'.map f) := by
  intro xs ys h
  induction h with
  | nil => exact fun {rs} a => ⟨rs, List.Perm.refl _, a⟩
  | cons x _ ih =>
    intro rs a
    cases rs with
    | nil => cases a
    | cons r rs =>
      cases a with
      | cons a1 a2 =>
        obtain ⟨rs', p, b⟩ := ih a2
        exact ⟨r :: rs', p.cons r, .cons a1 b⟩
  | swap x y zs =>
    intro rs a
    match rs, a with
    | r1 :: r2 :: rs, .cons a1 (.cons a2 a3) => exact ⟨r2 :: r1 :: rs, List.Perm.swap _ _ _, .cons a2 (.cons a1 a3)⟩
  | trans _ _ ih1 ih2 =>
    intro rs a
    obtain ⟨rs1, p1, b1⟩ := ih2 a
    obtain ⟨rs2, p2, b2⟩ := ih1 b1
    exact ⟨rs2, p2.trans p1, b2⟩
end Lw

set_option Elab.async false
set_option linter.all false
set_option maxRecDepth 100000
set_option maxHeartbeats 4000000
/-! enumerate(t), t a tuple. -/
namespace Lw
open PySem PySem.Spec PyProof.Rows L2
theorem meets_enum_tup (t : Addr) (items : Array Value) (n : Nat) (dct : Option Addr) (sl : Array (Option Value)) :
    Meets (Builtin.«enumerate.__new__» ⟨[.type "enumerate", .ref t], []⟩) (fun _ R s => s.heap.get? t = some { cls := .type "tuple", dict := dct, data := .seq items n, slots := sl } ∧
      R (.ok (.ret (.ref (s.heap.objs.size + 1)))) { s with heap := (s.heap.push { cls := .type "tuple_iterator", data := .fields #[.ref t, .int 0 0] }).push { cls := .type "enumerate", data := .fields #[.none, .bool false, .ref s.heap.objs.size, rawInt 0, .none, .none] } }) :=
  .of_wp fun prog w A R s told => by
    obtain ⟨hp, g, d, tk, os⟩ := s
    obtain ⟨at_, fin⟩ := told
    have sub := sub_enumerate
    have isT : Heap.IsTuple (Shared.heap ⟨hp, g, d, tk, os⟩) t items := ⟨_, at_, rfl, n, rfl⟩
    have size : (hp.push { cls := .type "tuple_iterator", data := .fields #[.ref t, .int 0 0] }).objs.size = hp.objs.size + 1 := Heap.size_push ..
    have fin' : R (.ok (.ret (.ref (hp.push { cls := .type "tuple_iterator", data := .fields #[.ref t, .int 0 0] }).objs.size))) ⟨(hp.push { cls := .type "tuple_iterator", data := .fields #[.ref t, .int 0 0] }).push { cls := .type "enumerate", data := .fields #[.none, .bool false, .ref hp.objs.size, rawInt 0, .none, .none] }, g, d, tk, os⟩ := by rw [size]; exact fin
    wp_walk using PySem.AutoSeq1.wpAny_loadPart' at_
    refine wpAny_stack_any fun st => wpAny_pure ?_
    split
    · rename_i c _ _ _ _ _
      cases (c == Value.type "enumerate")
      · wp_walk using PySem.AutoSeq1.wpAny_loadPart' at_, wpAny_pyIter_tuple isT
        exact ⟨_, rfl, fin'⟩
      · wp_walk using PySem.AutoSeq1.wpAny_loadPart' at_, wpAny_pyIter_tuple isT
        exact ⟨_, rfl, fin'⟩
    · wp_walk using PySem.AutoSeq1.wpAny_loadPart' at_, wpAny_pyIter_tuple isT
      exact ⟨_, rfl, fin'⟩
theorem call_enum_tup {prog : Program} {w : World} {A : Around} {E : Value → Shared → Prop} {s : Shared} {t : Addr} {items : Array Value} {Q : Value → Shared → Prop} (isT : s.heap.IsTuple t items)
    (fin : ∀ h', IsEnum h' (s.heap.objs.size + 1) s.heap.objs.size 0 .none → h'.IsTupleIter s.heap.objs.size t 0 → (∀ b o, s.heap.get? b = some o → h'.get? b = some o) → Q (.ref (s.heap.objs.size + 1)) { s with heap := h' }) :
    wpAny (model prog w) A (call (.type "enumerate") [.ref t]) Q E s := by
  obtain ⟨⟨c, dct, dt, sl⟩, at_, isC, n, isD⟩ := isT
  obtain rfl : c = .type "tuple" := isC
  obtain rfl : dt = .seq items n := isD
  refine callType_new F.called_enumerate (by decide) (F.typeCall_enumerate_1 _) (F.newCall_enumerate_1 _) (fun obj => F.args_object_init_2 obj _) F.entry_enumerate_new (meets_enum_tup t items n dct sl) ⟨at_, ?_⟩
  have size : (s.heap.push { cls := .type "tuple_iterator", data := .fields #[.ref t, .int 0 0] }).objs.size = s.heap.objs.size + 1 := Heap.size_push ..
  have isE : IsEnum ((s.heap.push { cls := .type "tuple_iterator", data := .fields #[.ref t, .int 0 0] }).push { cls := .type "enumerate", data := .fields #[.none, .bool false, .ref s.heap.objs.size, rawInt 0, .none, .none] }) (s.heap.objs.size + 1) s.heap.objs.size 0 .none := by
    have z := Heap.get?_push_size (s.heap.push { cls := .type "tuple_iterator", data := .fields #[.ref t, .int 0 0] }) (o := { cls := .type "enumerate", data := .fields #[.none, .bool false, .ref s.heap.objs.size, rawInt 0, .none, .none] }) rfl
    rwa [size] at z
  exact ⟨⟨_, isE, rfl⟩, fin _ isE ⟨_, Heap.get?_push_of_some _ (Heap.get?_push_size _ rfl), rfl, rfl⟩ fun b o x => Heap.get?_push_of_some _ (Heap.get?_push_of_some _ x)⟩
/-- the tuple at a, each item in a new pair -/
def ItEt (K : PySem.W.Frag) (a : Addr) : It :=
  ⟨fun i H => ∃ (xs : List V) (x : V), SqT K H a xs ∧ xs[i]? = some x, fun i H v H' => ∃ T x, v = .ref T ∧ H T = none ∧ H' = upd H T (.tup [.int (i : Nat), x]) ∧ ∀ xs, SqT K H a xs → xs[i]? = some x, fun i H => ∃ xs : List V, SqT K H a xs ∧ xs.length = i⟩
theorem turn_enum_tup {P : Program} {w : World} {K : PySem.W.Frag} {elts : List Expr} {kk : Nat} {tpos : Pos} (a e it : Addr) :
    Turn P w K (.Tuple elts kk tpos) (ItEt K a) [e, it] e (fun i h => (∃ old, IsEnum h e it ((i : Nat) : Int) old) ∧ h.IsTupleIter it a i ∧ e ≠ it) where
  mem := by simp
  obj := fun i h st b hb => by
    obtain ⟨⟨old, isE⟩, ⟨o, ho, hc, hd⟩, _⟩ := st
    rcases (show b = e ∨ b = it by simpa using hb) with rfl | rfl
    · exact ⟨_, isE, fun v q => nomatch q⟩
    · exact ⟨o, ho, fun v q => by rw [hd] at q; cases q⟩
  keep := fun i h h' st k => by
    obtain ⟨⟨old, isE⟩, isI, ne⟩ := st
    exact ⟨⟨old, k e (by simp) _ isE⟩, isI.at fun o q => k it (by simp) o q, ne⟩
  item := by
    intro X hP hw hK hc i pins s σ H E I hf st hg
    subst hP hw hK
    obtain ⟨⟨old, isE⟩, isI, ne⟩ := st
    obtain ⟨xs, x, hq, hx⟩ := hg
    obtain ⟨its, rv, p, hz⟩ := I.tuple hq
    have isT : s.heap.IsTuple a its.toArray := p
    obtain ⟨u, hu, ru⟩ := rv.get hx
    have inE : e < s.heap.objs.size := Heap.lt_size isE
    have inI : it < s.heap.objs.size := by obtain ⟨_, q, _⟩ := isI; exact Heap.lt_size q
    have neA : e ≠ a := fun z => by
      obtain ⟨o, q, qc, _⟩ := isT
      rw [← z, show s.heap.get? e = _ from isE] at q
      cases q
      exact absurd qc (by show ¬ Value.type "enumerate" = Value.type "tuple"; decide)
    have neI : a ≠ it := fun z => by
      obtain ⟨o, q, qc, _⟩ := isT
      obtain ⟨o', q', qc', _⟩ := isI
      rw [z, q'] at q
      cases q
      rw [qc'] at qc
      exact absurd qc (by decide)
    have few : i < its.toArray.size := by
      have := (List.getElem?_eq_some_iff.mp hu).1
      simpa using this
    refine wpAny_pyNext_enum_itemD (PySem.Draws.tuple (A := X.A.in1) (I.ok.hd hc) it a neI its.toArray) isE ⟨isI, isT⟩ few ne (by simp [ne, neA]) fun x2 h' tk hp2 out st2 hT hsz hk => ?_
    have e2 : x2 = u := by
      have hu' : its.toArray[i]? = some u := by simpa using hu
      rw [hu'] at hp2
      exact (Option.some.inj hp2).symm
    subst e2
    refine ⟨_, rfl, wpAny_letOwnedTupleGo_enum (s := { s with heap := h', toks := tk + 1 }) out fun h2 isE2 sb => ?_⟩
    have hT2 : h2.get? s.heap.objs.size = some { cls := .type "tuple", data := .seq #[.int i tk, x2] } := (sb.2 _ (Nat.ne_of_gt inE)).trans hT
    have new : ObjOk X.prog X.w (upd H s.heap.objs.size (.tup [.int (i : Nat), x])) h2 s.heap.objs.size (.tup [.int (i : Nat), x]) := ⟨by show 2 ≤ sizeLine; decide, [.int i tk, x2], .cons ⟨_, rfl⟩ (.cons ru .nil), ⟨_, hT2, rfl, _, rfl⟩⟩
    have I1 : Inv X pins σ (upd H s.heap.objs.size (.tup [.int (i : Nat), x])) { s with heap := h2, toks := tk + 1 } :=
      I.turnedNew (ch := [e, it]) (fun b ob hb q => (sb.2 b (fun z => hb (by simp [z]))).trans (hk b ob (fun z => hb (by simp [z])) (fun z => hb (by simp [z])) q)) hf (Nat.le_refl _) new
    refine ⟨.ref s.heap.objs.size, _, I1, rfl, ⟨_, x, rfl, I.hok.fresh (Nat.le_refl _), rfl, fun ys hy => by rw [I.tuple_inj hy hq]; exact hx⟩, ⟨⟨x2, ?_⟩, st2.1.at fun o q => (sb.2 it (Ne.symm ne)).trans q, ne⟩, fun b hb => ?_⟩
    · rw [show ((i + 1 : Nat) : Int) = (i : Int) + 1 by omega]
      exact isE2
    · have hb' : b < s.heap.objs.size := by
        rcases (show b = e ∨ b = it by simpa using hb) with rfl | rfl
        · exact inE
        · exact inI
      rw [upd_ne (Nat.ne_of_lt hb')]
      exact (hf b hb).1
  done := by
    intro X hP hw hK hc i pins s σ H E I hf st hg
    subst hP hw hK
    obtain ⟨⟨old, isE⟩, isI, ne⟩ := st
    obtain ⟨xs, hq, hx⟩ := hg
    obtain ⟨its, rv, p, hz⟩ := I.tuple hq
    have isT : s.heap.IsTuple a its.toArray := p
    obtain ⟨f0, f1, f2, f3, f4, f5⟩ := hf it (by simp)
    have size : its.toArray.size = i := by rw [List.size_toArray, ← rv.length]; exact hx
    have neI : a ≠ it := fun z => by
      obtain ⟨o, q, qc, _⟩ := isT
      obtain ⟨o', q', qc', _⟩ := isI
      rw [z, q'] at q
      cases q
      rw [qc'] at qc
      exact absurd qc (by decide)
    exact wpAny_pyNext_enum_endD (PySem.Draws.tuple (A := X.A.in1) (I.ok.hd hc) it a neI its.toArray) isE ⟨by rw [size]; exact isI, isT⟩ fun h' eb => ⟨rfl, I.turned (t' := s.toks) (fun b o hb q => eb b o hb q) f0 f1 f3 f4 f5⟩
  self := fun A i s Q E st h => by
    obtain ⟨⟨_, isE⟩, _⟩ := st
    exact wpAny_pyIter_enum isE h

end Lw

set_option Elab.async false
set_option linter.all false
set_option maxRecDepth 100000
set_option maxHeartbeats 400000
namespace Lw
open PySem PySem.Spec PyProof.Rows L2
def iEnumT (K : PySem.W.Frag) (ta : TA) : TI := fun σ H R => ta σ H fun vs H1 => ∃ a xs, vs = [.ref a] ∧ SqT K H1 a xs ∧ R (ItEt K a) H1
theorem pi_enumT {X : Cx} {e : Expr} {ta : TA} {p pos tpos : Pos} {elts : List Expr} {kk : Nat} (glob : Gl X "enumerate") (free : X.mg "enumerate" = none) (arg : PA X [e] ta) (hs : starEach [e] X.env = [(false, eval e X.env)] := by rfl) :
    PI X (.Tuple elts kk tpos) (.Call (.Name "enumerate" p) [e] [] pos) (iEnumT X.K ta) := by
  constructor
  intro pins s σ H R I h
  refine Call_ (ld_blt I glob free boot_enumerate (PyProof.Rows.callWith_type1 (thn (arg.run pos pins s σ H _ I h) fun us s1 told => ?_) hs rfl))
  obtain ⟨vs, H1, I1, r1, q1⟩ := told
  obtain ⟨a, xs, rfl, hq, q⟩ := q1
  cases r1 with
  | cons r none =>
    cases none
    cases r
    obtain ⟨its, rv, p', hz⟩ := I1.tuple hq
    refine call_enum_tup p' fun h' isE isI hk => wpAny_pyIter_enum isE ?_
    have I2 : Inv X pins σ H1 { s1 with heap := h' } := I1.kept (t' := s1.toks) hk
    refine ⟨s1.heap.objs.size + 1, [s1.heap.objs.size + 1, s1.heap.objs.size], _, _, H1, rfl, I2, turn_enum_tup a (s1.heap.objs.size + 1) s1.heap.objs.size, ⟨⟨.none, isE⟩, isI, Nat.succ_ne_self _⟩, fun b hb => ?_, q⟩
    have up : s1.heap.objs.size ≤ b := by
      rcases (show b = s1.heap.objs.size + 1 ∨ b = s1.heap.objs.size by simpa using hb) with rfl | rfl
      · exact Nat.le_succ _
      · exact Nat.le_refl _
    exact I1.fpOk up (I1.hok.fresh up)
/-- a list or a tuple -/
abbrev iEnumA (K : PySem.W.Frag) (ta : TA) : TI := fun σ H R => iEnum K ta σ H R ∨ iEnumT K ta σ H R
theorem pi_enumA {X : Cx} {e : Expr} {ta : TA} {p pos tpos : Pos} {elts : List Expr} {kk : Nat} (glob : Gl X "enumerate") (free : X.mg "enumerate" = none) (arg : PA X [e] ta) (hs : starEach [e] X.env = [(false, eval e X.env)] := by rfl) :
    PI X (.Tuple elts kk tpos) (.Call (.Name "enumerate" p) [e] [] pos) (iEnumA X.K ta) := PI.or (pi_enum glob free arg hs) (pi_enumT glob free arg hs)
inductive JE (K : PySem.W.Frag) (H : Hp) (a : Addr) (xs : List V) : L2.It → Prop
  | l (h : SqL K H a xs) : JE K H a xs (Ite K a)
  | t (h : SqT K H a xs) : JE K H a xs (ItEt K a)
theorem for_JE {K : PySem.W.Frag} {a : Addr} {xs : List V} {σ : L2.St} {H : Hp} {J : L2.It} {g : TG} {t : TS} {D : Ends} (hs : JE K H a xs J) (Pv : Nat → L2.St → Hp → Prop) (h0 : Pv 0 σ H) (keep : ∀ i σ' H', Pv i σ' H' → Same H H')
    (turn : ∀ i x σ' H' T, xs[i]? = some x → Pv i σ' H' → H' T = none → g (.ref T) σ' (upd H' T (.tup [.int (i : Nat), x])) fun σ2 H2 => t { D with nx := Pv (i + 1), ct := Pv (i + 1), bk := D.nx } σ2 H2) (done : ∀ σ' H', Pv xs.length σ' H' → D.nx σ' H') :
    ∃ W : Nat → Nat → L2.St → Hp → Prop, (∃ m, W 0 m σ H) ∧ ∀ i m σ H, W i m σ H →
      (J.stop i H ∧ D.nx σ H) ∨ (J.go i H ∧ ∃ N : L2.St → Hp → Prop, (∀ σ' H', N σ' H' → ∃ m', m' < m ∧ W (i + 1) m' σ' H') ∧ ∀ x H', J.yld i H x H' → g x σ H' fun σ2 H2 => t { D with nx := N, ct := N, bk := D.nx } σ2 H2) := by
  refine ⟨fun i m σ' H' => m = xs.length - i ∧ i ≤ xs.length ∧ Pv i σ' H', ⟨xs.length, by simp, Nat.zero_le _, h0⟩, ?_⟩
  rintro i m σ' H' ⟨rfl, le, p⟩
  have same := keep i σ' H' p
  cases hs with
  | l hs =>
    have q : SqL K H' a xs := same.seq hs
    by_cases lt : i < xs.length
    · refine .inr ⟨⟨xs, xs[i], q, by simp [lt]⟩, Pv (i + 1), fun σ2 H2 p2 => ⟨xs.length - (i + 1), by omega, rfl, lt, p2⟩, fun x H2 y => ?_⟩
      obtain ⟨T, x', rfl, hT, rfl, f⟩ := y
      exact turn i x' σ' H' T (f xs q) p hT
    · have e : i = xs.length := by omega
      subst e
      exact .inl ⟨⟨xs, q, Nat.le_refl _⟩, done σ' H' p⟩
  | t hs =>
    have q : SqT K H' a xs := same_tup same hs
    by_cases lt : i < xs.length
    · refine .inr ⟨⟨xs, xs[i], q, by simp [lt]⟩, Pv (i + 1), fun σ2 H2 p2 => ⟨xs.length - (i + 1), by omega, rfl, lt, p2⟩, fun x H2 y => ?_⟩
      obtain ⟨T, x', rfl, hT, rfl, f⟩ := y
      exact turn i x' σ' H' T (f xs q) p hT
    · have e : i = xs.length := by omega
      subst e
      exact .inl ⟨⟨xs, q, rfl⟩, done σ' H' p⟩
theorem enum_run {K : PySem.W.Frag} {a : Addr} {xs : List V} {σ : L2.St} {H : Hp} {i0 : Nat} {R : L2.It → Hp → Prop} (e : σ[i0]? = some (some (.ref a))) (hs : SqA K H a xs) (f : ∀ J, JE K H a xs J → R J H) : iEnumA K (tCons (tVar i0) tNil) σ H R := by
  rcases hs with hs | hs
  · exact .inl ⟨_, e, a, xs, rfl, hs, f _ (.l hs)⟩
  · exact .inr ⟨_, e, a, xs, rfl, hs, f _ (.t hs)⟩
/-- what is never come to -/
def tDead : TS := fun _ _ _ => False
theorem ps_dead {X : Cx} {st : Stmt} : PS X st tDead := ⟨fun _ _ _ _ _ _ h => h.elim⟩
end Lw


set_option Elab.async false
set_option linter.all false
set_option maxRecDepth 100000
set_option maxHeartbeats 4000000
/-! Promises of defs that write things out (repr): nothing else is being written out around them. -/
namespace Lw
open PySem PySem.Spec PyProof.Rows L2
/-- as FnOk, where nothing is being written out around the call -/
structure FnG (P : Program) (w : World) (K : PySem.W.Frag) (mg : PySem.Str → Option Value) (base : Heap) (C : CXT) (k : Nat) (f : Addr) (fd : FuncData) (ps : List PySem.Str) (sp : Sp) : Prop where
  lenG : ∀ vs H Q E, sp vs H Q E → vs.length = ps.length
  runG : ∀ (A : Around) (out : List Env) (s : Shared) (H : Hp) (args : Args) (us : List Value) (vs : List V) (Q : VK) (E : XK), Room k A → A.guards = some [] → Env0 P w K mg base A out s H → BindsTo s fd args (ps.zip us) → Vals vs us → sp vs H Q E →
    codeAny (model P w) A (.call (.ref f) args) (CR C out P w H s Q E) s
section
variable {P : Program} {w : World} {K : PySem.W.Frag} {mg : PySem.Str → Option Value} {base : Heap}
theorem FnG.mono {C : CXT} {j k : Nat} {f : Addr} {fd : FuncData} {ps : List PySem.Str} {sp : Sp} (F : FnG P w K mg base C j f fd ps sp) (h : j ≤ k) : FnG P w K mg base C k f fd ps sp :=
  ⟨F.lenG, fun A out s H args us vs Q E room => F.runG A out s H args us vs Q E (room.mono h)⟩
/-- a def that may be called anywhere -/
theorem FnG.of {C : CXT} {k : Nat} {f : Addr} {fd : FuncData} {ps : List PySem.Str} {sp : Sp} (F : FnOk P w K mg base C k f fd ps sp) : FnG P w K mg base C k f fd ps sp :=
  ⟨F.len, fun A out s H args us vs Q E room _ => F.run A out s H args us vs Q E room⟩
/-- the rule for a def, by its body -/
theorem fun_okG {C : CXT} {x qual : PySem.Str} {st : Stmt} {f : Addr} {fd : FuncData} {N ps : List PySem.Str} {k : Nat} {sp : Sp} (F : Fun K x qual st f fd) (S : FnScope N ps (defScope st)) (len : ∀ vs H Q E, sp vs H Q E → vs.length = ps.length)
    (body : ∀ (cdv : Value) (A : Around) (out : List Env) (s : Shared) (H : Hp) (vs : List V) (Q : VK) (E : XK), Room k (A.deeper (envOfC qual (defScope st) s.heap.objs.size f cdv)) → (A.deeper (envOfC qual (defScope st) s.heap.objs.size f cdv)).guards = some [] → sp vs H Q E →
      ∃ t, PSs (cxOf C P w K mg base N qual (defScope st) f cdv A out s H E) (defBody st) t ∧ t { nx := fun _ H' => Q .non H', rt := Q } (start N vs) H) : FnG P w K mg base C (k + 1) f fd ps sp := by
  obtain ⟨oc, od, kV, doc, pm, an, cdv, ct, osl, rfl, look, hcd⟩ := F.ex
  refine ⟨len, fun A out s H args us vs Q E room hg start0 bind rel want => ?_⟩
  have fewer : vs.length = ps.length := len vs H Q E want
  have inS : K.In s.heap := start0.mod.kin.keeps fun b o e => (start0.bs b o e).1
  have free : s.heap.NoLimit := start0.mod.nolimit.keeps fun b o e => (start0.bs b o e).1
  have kinds : ∀ y ∈ ps.zip us, (defScope st).names.lookup y.1 = some .local ∨ ((defScope st).names.lookup y.1 = some .cell ∧ ((cellsFrom (s.heap.objs.size + 1) (defScope st).names []).lookup y.1).isSome = true) := by
    rintro ⟨name, value⟩ hy
    cases S.par name (List.of_mem_zip hy).1 with
    | inl h => exact .inl h
    | inr h => exact .inr ⟨h, PySem.W.cellsFrom_some _ _ _ (.inl h)⟩
  refine codeAny_call_function room.depth (inS _ _ look) rfl S.co S.gen rfl (PySem.W.codeRec_of inS hcd) (bind _ _ _ _ ?_)
  refine wpAny_newFunctionEnv_cells S.kind kinds fun env isEnv s1 x => ?_
  subst isEnv
  refine ⟨free.keeps x.toInCall.keep, codeAny_func ?_⟩
  have deep : (A.deeper (envOfC qual (defScope st) s.heap.objs.size f cdv)).guards = some [] := hg
  obtain ⟨t, term, read⟩ := body cdv A out s H vs Q E (room.deeper _) deep want
  have I := inv_start (CX := C) (E := E) S room.hd start0 fewer rel x
  refine wpAny_mono (term.run [] s1 (start N vs) H _ I read) (fun flow s2 told => ?_) fun _ _ z => z
  cases flow with
  | ret u =>
    obtain ⟨v, σ2, H2, J, rv, q⟩ := told
    exact ⟨v, H2, J.os, J.bare, J.base, J.hok, rv, q⟩
  | next =>
    obtain ⟨σ2, H2, J, q⟩ := told
    exact ⟨V.non, H2, J.os, J.bare, J.base, J.hok, rfl, q⟩
  | brk => exact told.elim fun _ z => z.elim fun _ z => z.2.elim
  | cont => exact told.elim fun _ z => z.elim fun _ z => z.2.elim
end
/-- its call -/
theorem pe_callG {X : Cx} {C : CXT} {k : Nat} {f : Addr} {fd : FuncData} {ps : List PySem.Str} {sp : Sp} {E : XK} {x : PySem.Str} {p pos : Pos} {e : Expr} {es : List Expr} {t : TA} (F : FnG X.prog X.w X.K X.mg X.base C k f fd ps sp) (room : Room k X.A) (hg : X.A.guards = some [])
    (glob : Gl X x) (hm : X.mg x = some (.ref f)) (kept : PySem.W.keepIn X.K (.ref f) = true) (bind : Binds X.K fd ps []) (out : Passes C X E) (args : PA X (e :: es) t)
    (hdb : (x == ("__debug__" : PySem.Str)) = false := by decide) (he : starEach (e :: es) X.env = (false, eval e X.env) :: starEach es X.env := by rfl) (hpl : (backTo pos (starEach es X.env)).any (·.1) = false := by rfl) :
    PE X (.Call (.Name x p) (e :: es) [] pos) (tCall sp [] E t) := by
  refine ⟨fun pins s σ H Q I h => wpAny_Call_Name_kw (ld_glob I glob hm ?_ hdb)⟩
  refine PySem.W.callWith_K (h₀ := X.base) I.ok.mod.kin kept (thn (args.run pos pins s σ H _ I h) fun us s1 ⟨vs, H1, I1, rel, q⟩ => ⟨I1.kIn, ?_⟩) he hpl
  have q : sp (vs ++ []) H1 Q E := q
  rw [List.append_nil] at q
  have few : (us ++ []).length = ps.length := by rw [List.append_nil, ← rel.length]; exact F.lenG _ _ _ _ q
  have b := bind s1 us I1.kIn few
  rw [List.append_nil] at b
  refine wpAny_call (codeAny_mono (F.runG X.A X.stack s1 H1 ⟨us, []⟩ us vs Q E room hg I1.env0 b rel q) fun r s' z => ?_)
  match r, z with
  | .error u, z => exact out pins σ H1 s1 u s' I1 z
  | .ok (.ret u), z => exact I1.after z
  | .ok .next, z => exact z.elim
  | .ok .brk, z => exact z.elim
  | .ok .cont, z => exact z.elim
/-- repr of data -/
def rRepr (K : PySem.W.Frag) : List V → Hp → VK → Prop := fun xs H Q => ∃ (v : V) (d : PyData), xs = [v] ∧ Dp K H v d ∧ d.showable = true ∧ d.hasDict = false ∧ d.depth ≤ 40 ∧ d.shown.length ≤ sizeLine ∧ Q (.str d.shown) H
theorem call_repr {X : Cx} (hg : X.A.guards = some []) (hu : X.A.units + 64 < cLine) : CallR X (.builtin "repr") (rRepr X.K) := by
  intro pins s σ H xs us Q I r h
  obtain ⟨v, d, rfl, hd, h1, h2, h3, h4, q⟩ := h
  obtain ⟨u, rfl, rx⟩ := vals1 r
  obtain ⟨as, rd⟩ := Dp.reads I d v u hd rx
  cases hd with
  | lst _ _ =>
    cases rx
    exact PySem.repr_of_reads' rd h1 (PySem.PyData.noDict_hsm h2) hg (by omega) (fun b o e => e) (fun h' u tk hk => ⟨.str _, H, I.kept (h' := h') (t' := tk) hk, ⟨_, rfl⟩, q⟩) h4
  | tup _ _ =>
    cases rx
    exact PySem.repr_of_reads' rd h1 (PySem.PyData.noDict_hsm h2) hg (by omega) (fun b o e => e) (fun h' u tk hk => ⟨.str _, H, I.kept (h' := h') (t' := tk) hk, ⟨_, rfl⟩, q⟩) h4
  | non => cases rx; exact PySem.P.repr_of_none ⟨.str _, H, I.tok _, ⟨_, rfl⟩, by simpa only [PyData.shown] using q⟩
  | bl b => cases rx; exact PySem.P.repr_of_bool ⟨.str _, H, I.tok _, ⟨_, rfl⟩, by simpa only [PyData.shown] using q⟩
  | int i => obtain ⟨t, rfl⟩ := rx; exact PySem.P.repr_of_int (by simpa [PyData.showable] using h1) ⟨.str _, H, I.tok _, ⟨_, rfl⟩, by simpa only [PyData.shown] using q⟩
  | str z => obtain ⟨t, rfl⟩ := rx; exact PySem.P.repr_of_str ⟨.str _, H, I.tok _, ⟨_, rfl⟩, by simpa only [PyData.shown] using q⟩ (by simpa only [PyData.shown] using h4)

/-! ### the end: a law whose def writes things out -/
/-- the abstract heap at the law's call: the script alone, or nothing -/
structure Start (P : Program) (w : World) (K : PySem.W.Frag) (h : Heap) (a : Addr) (xs : List V) (H : Hp) : Prop where
  only : Only H
  list : SqL K H a xs
  ok : HOk P w H h
  at_ : ∀ b, H b ≠ none → b = a
  out : H a ≠ none → K.lookup a = none
theorem start_ex {P : Program} {w : World} {K : PySem.W.Frag} {h : Heap} {a : Addr} {us : List Value} {xs : List V} (inH : K.In h) (look : h.get? a = some { cls := .type "list", data := .seq us.toArray }) (rel : Vals xs us) (few : xs.length ≤ sizeLine) :
    ∃ H, Start P w K h a xs H := by
  cases told : K.lookup a with
  | none =>
    let o : Obj := { cls := .type "list", data := .seq us.toArray }
    let H : Hp := fun b => if b = a then some (.frz o (.lst xs)) else none
    have atA : H a = some (.frz o (.lst xs)) := if_pos rfl
    have away : ∀ b, b ≠ a → H b = none := fun b ne => if_neg ne
    have one : ∀ b u, H b = some u → b = a ∧ u = .frz o (.lst xs) := fun b u e => by
      by_cases z : b = a
      · subst z
        rw [atA] at e
        exact ⟨rfl, (Option.some.inj e).symm⟩
      · rw [away b z] at e
        cases e
    refine ⟨H, ⟨fun b => ?_, .inl (.inr ⟨o, atA⟩), fun b u e => ?_, fun b ne => ?_, fun _ => told⟩⟩
    · cases e : H b with
      | none => exact .inl rfl
      | some u => exact .inr ⟨o, xs, by rw [(one b u e).2]⟩
    · obtain ⟨rfl, rfl⟩ := one b u e
      exact ⟨look, few, us, _, rel, look⟩
    · cases e : H b with
      | none => exact absurd e ne
      | some u => exact (one b u e).1
  | some o =>
    have e := inH a o told
    rw [look] at e
    cases e
    refine ⟨fun _ => none, ⟨fun _ => .inl rfl, .inr ⟨_, us.toArray, _, told, rfl, rfl, rfl, by rw [List.size_toArray, ← rel.length]; exact few, by simpa using rel⟩, (fun _ _ e => nomatch e), fun _ ne => absurd rfl ne, fun ne => absurd rfl ne⟩⟩
/-- the heap less what is tracked is the base of a call -/
theorem Start.env {P : Program} {w : World} {K : PySem.W.Frag} {mg mb : PySem.Str → Option Value} {s : Shared} {a : Addr} {us : List Value} {xs : List V} {H : Hp} (S : Start P w K s.heap a xs H) (inH : K.In s.heap) (names : s.heap.Ns mainGlobals mg) (bs : s.heap.Ns builtinsNs mb)
    (boot : ∀ x : PySem.Str, x ≠ "__name__" → mb x = bootBuiltins x) (lim : s.heap.NoLimit) (gens : s.gens = #[]) (look : s.heap.get? a = some { cls := .type "list", data := .seq us.toArray }) :
    K.In (hidT s.heap H) ∧ (hidT s.heap H).Ns mainGlobals mg ∧ Env0 P w K mg (hidT s.heap H) callerA [] s H := by
  have stays : ∀ {b : Addr} {o : Obj}, s.heap.get? b = some o → (∀ (es : Array DictEntry) (n : Nat), o.data = .dict es n → True) → H b = none → (hidT s.heap H).get? b = some o := fun e _ z => hidT_get e z
  have dictFree : ∀ {b : Addr} {o : Obj} {es : Array DictEntry} {n : Nat}, s.heap.get? b = some o → o.data = .dict es n → H b = none := by
    intro b o es n e d
    refine Classical.byContradiction fun z => ?_
    rw [S.at_ b z, look] at e
    obtain rfl := (Option.some.inj e).symm
    cases d
  have space : ∀ {L : Addr} {m : PySem.Str → Option Value}, s.heap.Ns L m → (hidT s.heap H).Ns L m := by
    rintro L m ⟨o, es, n, e, d, rest⟩
    exact ⟨o, es, n, hidT_get e (dictFree e d), d, rest⟩
  have inB : K.In (hidT s.heap H) := fun b o e => hidT_get (inH b o e) (Classical.byContradiction fun z => by
    have eb := S.at_ b z
    subst eb
    rw [S.out z] at e
    cases e)
  obtain ⟨mc, l1, l2⟩ := lim
  exact ⟨inB, space names, rfl, ⟨inB, space names, ⟨mb, space bs, boot⟩, ⟨mc, space l1, l2⟩⟩, fun b o e => of_hidT e, Nat.le_of_eq (hidT_size _ _), trivial, (fun b m => nomatch m), S.ok, .of_eq gens⟩
theorem call_lawG {P : Program} {w : World} {K : PySem.W.Frag} {mg mb : PySem.Str → Option Value} {k : Nat} {fa a : Addr} {fd : FuncData} {x : PySem.Str} {sp : Sp} {s : Shared} {us : List Value} {ns : List Int}
    (inH : K.In s.heap) (names : s.heap.Ns mainGlobals mg) (bs : s.heap.Ns builtinsNs mb) (boot : ∀ x : PySem.Str, x ≠ "__name__" → mb x = bootBuiltins x) (lim : s.heap.NoLimit) (gens : s.gens = #[])
    (look : s.heap.get? a = some { cls := .type "list", data := .seq us.toArray }) (whole : IntsAre us ns) (few : ns.length ≤ sizeLine) (room : Room k callerA)
    (F : ∀ base : Heap, K.In base → base.Ns mainGlobals mg → FnG P w K mg base CX0 k fa fd [x] sp) (bind : ∀ (s : Shared) (u : Value), BindsTo s fd ⟨[u], []⟩ [(x, u)])
    (want : ∀ H : Hp, SqL K H a (ns.map V.int) → sp [.ref a] H (fun v _ => v = .bl true) E0) :
    codeAny (model P w) callerA (.call (.ref fa) ⟨[.ref a], []⟩) (fun r s' => r = .ok (.ret (.bool true)) ∧ OldK s.heap s'.heap ∧ s'.os = s.os ∧ AllBare s'.gens) s := by
  obtain ⟨H, S⟩ := start_ex (P := P) (w := w) inH look (vals_ints whole) (by rw [List.length_map]; exact few)
  obtain ⟨inB, nsB, start⟩ := S.env inH names bs boot lim gens look
  refine codeAny_mono ((F _ inB nsB).runG callerA [] s H ⟨[.ref a], []⟩ [.ref a] [.ref a] _ _ room rfl start (bind s (.ref a)) (.cons rfl .nil) (want H S.list)) fun r s' told => ?_
  match r, told with
  | .error _, told => exact told.elim
  | .ok .next, told => exact told.elim
  | .ok .brk, told => exact told.elim
  | .ok .cont, told => exact told.elim
  | .ok (.ret u), told =>
    obtain ⟨v, H2, os, bare, un, ok2, rel, isTrue⟩ := told
    obtain rfl : v = .bl true := isTrue
    obtain rfl : u = Value.bool true := rel
    refine ⟨rfl, .of_keep fun b o e => ?_, os, bare⟩
    rcases S.only b with z | ⟨ob, xs, z⟩
    · exact un.keep b o e z (fun m => nomatch m) (by simp)
    · have e1 := (S.ok b _ z).1
      have e2 := (ok2 b _ (un.frzs b ob _ z)).1
      rw [e] at e1
      obtain rfl := Option.some.inj e1
      exact e2
theorem walk_ofG {l : PySem.W.OpenLaw} {n k : Nat} {q : Program} {loose : List PySem.Str} {XP : (PySem.Str → Option Value) → Heap → Prop} {YP : World → Heap → Prop} {d : DefRec} {x : PySem.Str} (most : l.most = some n) (few : n ≤ sizeLine) (noDef : d.params.defaults = []) (room : Room k callerA)
    (F : ∀ (w : World) (mg : PySem.Str → Option Value) (fa : Addr) (h : Heap), YP w h → h.Ns mainGlobals mg → mg d.name = some (.ref fa) →
      ∃ (K : PySem.W.Frag) (fd : FuncData) (sp : Sp), K.In h ∧ (∀ (s : Shared) (u : Value), BindsTo s fd ⟨[u], []⟩ [(x, u)]) ∧ (∀ (H : Hp) (a : Addr) (ns : List Int), ns.length ≤ n → SqL K H a (ns.map V.int) → sp [.ref a] H (fun v _ => v = .bl true) E0) ∧
        ∀ base : Heap, K.In base → base.Ns mainGlobals mg → FnG l.prog w K mg base CX0 k fa fd [x] sp) : PySem.W.WalkO q loose XP YP l.row.toRowW d [] (fun f vs => PySem.call f vs) := by
  refine Att.attach_call most noDef fun w s0 s1 mg mb fa o pm cd doc a us ns G Y ho hd hcd name look whole cnt gens => ?_
  obtain ⟨K, fd, sp, inH, bind, want, ok⟩ := F w mg fa _ Y G.T.g name
  exact call_lawG inH G.T.g G.T.b G.T.builtins G.T.nolimit gens look whole (Nat.le_trans cnt few) room ok bind fun H S => want H a ns cnt S
end Lw

set_option Elab.async false
set_option linter.all false
set_option maxRecDepth 100000
set_option maxHeartbeats 1000000
/-! Data: what a comprehension over it hands, how it is shown; own appends beside a deal. -/
namespace Lw
open PySem PySem.Spec PyProof.Rows L2
theorem fineTup {ds : List PyData} (h : fine (.tuple ds) = true) : ds.length ≤ 1000 ∧ fineAll ds = true := by
  rw [fine] at h
  obtain ⟨h1, h2⟩ := Bool.and_eq_true_iff.mp h
  exact ⟨of_decide_eq_true h1, h2⟩
theorem fineList {ds : List PyData} (h : fine (.list ds) = true) : ds.length ≤ 1000 ∧ fineAll ds = true := by
  rw [fine] at h
  obtain ⟨h1, h2⟩ := Bool.and_eq_true_iff.mp h
  exact ⟨of_decide_eq_true h1, h2⟩
/-- a comprehension that asks each thing of a list of data -/
theorem turnsData {K : PySem.W.Frag} {H1 : Hp} {i : Nat} {σ : L2.St} {te : TE} (f : PyData → V) {xs : List V} {ds : List PyData} (ha : DpAll K H1 xs ds) (few : xs.length ≤ 1000)
    (el : ∀ x d H (Q : VK), x ∈ xs → d ∈ ds → Dp K H x d → Same H1 H → (∀ H', Same H H' → Q (f d) H') → te (σ.set i (some x)) H Q) : Turns H1 i σ xs (ds.map fun d => some (f d)) tYes te := by
  refine ⟨by rw [List.length_map, dpAll_len ha], Nat.le_trans few (by decide), fun j x y H Q hx hy s1 q => ?_, fun j x H hx hy _ => ?_⟩
  · obtain ⟨d, ed, hd⟩ := dpAll_at ha hx
    rw [List.getElem?_map, ed] at hy
    obtain rfl : f d = y := by simpa using hy
    exact ⟨rfl, Same.refl H, el x d H Q (List.mem_of_getElem? hx) (List.mem_of_getElem? ed) (dp_same s1 _ _ hd) s1 q⟩
  · rw [List.getElem?_map] at hy
    cases e : ds[j]? with
    | none => rw [e] at hy; cases hy
    | some d => rw [e] at hy; cases hy
theorem outData (f : PyData → V) (ds : List PyData) : outOf (ds.map fun d => some (f d)) = ds.map f := by
  unfold outOf
  induction ds with
  | nil => rfl
  | cons d r ih =>
    rw [List.map_cons, List.map_cons, List.filterMap_cons]
    exact congrArg _ ih
theorem seqOr {K : PySem.W.Frag} {H : Hp} {v : V} {d : PyData} (hd : Dp K H v d) (hz : fine d = true) :
    (∃ (p : Addr) (xs : List V) (ds : List PyData), v = .ref p ∧ SqA K H p xs ∧ DpAll K H xs ds ∧ ds.length ≤ 1000 ∧ fineAll ds = true ∧ isSeq d = true ∧ (d = .list ds ∨ d = .tuple ds)) ∨ isSeq d = false := by
  cases d with
  | list ds =>
    cases hd with
    | lst hs ha => exact .inl ⟨_, _, ds, rfl, .inl hs, ha, (fineList hz).1, (fineList hz).2, rfl, .inl rfl⟩
  | tuple ds =>
    cases hd with
    | tup hs ha => exact .inl ⟨_, _, ds, rfl, .inr hs, ha, (fineTup hz).1, (fineTup hz).2, rfl, .inr rfl⟩
  | _ => exact .inr rfl
theorem fineAll_of {ds : List PyData} (h : ∀ d ∈ ds, fine d = true) : fineAll ds = true := by
  induction ds with
  | nil => rfl
  | cons d r ih =>
    rw [fineAll, h d List.mem_cons_self, ih fun e he => h e (List.mem_cons_of_mem _ he)]
    rfl
/-- a comprehension's turns over texts -/
theorem dpAll_in {K : PySem.W.Frag} {H : Hp} {x : V} {ds : List PyData} {xs : List V} (h : DpAll K H xs ds) {d : PyData} (m : d ∈ ds) : ∃ v, v ∈ xs ∧ Dp K H v d := by
  induction ds generalizing xs with
  | nil => cases m
  | cons e r ih =>
    cases h with
    | cons h1 h2 =>
      rcases List.mem_cons.mp m with rfl | m
      · exact ⟨_, List.mem_cons_self, h1⟩
      · obtain ⟨v, hv, q⟩ := ih h2 m
        exact ⟨v, List.mem_cons_of_mem _ hv, q⟩
theorem HP.step {K : PySem.W.Frag} {G H1 : Hp} {d l L : Addr} {R : Nat → PyData → Prop} {i : Nat} {B N : Hp} {xs : List V} {pds : List PyData} (sB : Same G B) (nB : B L = none) (DB : Deal (upd B L (.lst xs)) H1 d l)
    (rest : Same N B ∧ (∀ b o, N b = some o → G b = none) ∧ DpAll K N xs pds ∧ xs.length = i ∧ ∀ j pd, pds[j]? = some pd → R j pd) (few : i < 100000) {G' H2 N1 : Hp} {y : V} {pd : PyData} (nw : News (upd B L (.lst xs)) H2 G' N1 d l) (hd : Dp K N1 y pd) (hr : R i pd) :
    ∃ acc, H2 L = some (.lst acc) ∧ acc.length < sizeLine ∧ HP K G d l L R (i + 1) (upd H2 L (.lst (acc ++ [y]))) := by
  obtain ⟨sN, dN, hx, len, hR⟩ := rest
  have gL : G' L = some (.lst xs) := nw.kp _ _ upd_same
  have gU : upd G' L (.lst xs) = G' := by
    funext b
    by_cases q : b = L
    · rw [q, upd_same, gL]
    · rw [upd_ne q]
  have bB : ∀ b o, B b = some o → b ≠ L := fun b o e z => by rw [z, nB] at e; cases e
  have toB : Same B (hide L G') := fun b o e => by
    have ne := bB b o e
    rw [hide_ne ne]
    exact nw.kp _ _ (by rw [upd_ne ne]; exact e)
  have n1 : ∀ b o, N1 b = some o → b ≠ L ∧ B b = none := fun b o e => by
    have z := nw.dis b o e
    have ne : b ≠ L := fun q => by rw [q, upd_same] at z; cases z
    rw [upd_ne ne] at z
    exact ⟨ne, z⟩
  have nn : ∀ b o, N1 b = some o → N b = none := fun b o e => sN.free (n1 b o e).2
  refine ⟨xs, nw.dl.same _ _ gL, Nat.lt_of_le_of_lt (show xs.length ≤ 100000 by omega) (by decide), hide L G', fun b => match N b with | some o => some o | none => N1 b, xs ++ [y], pds ++ [pd], sB.trans toB, hide_same, ?_, fun b o e => ?_, fun b o e => ?_, ?_, by rw [List.length_append, len]; rfl, ?_⟩
  · rw [hide_upd]
    exact Deal.over (G := G') (u := .lst xs) (by rw [gU]; exact nw.dl)
  · cases q : N b with
    | some u =>
      have e' : some u = some o := by simpa [q] using e
      cases e'
      exact toB _ _ (sN _ _ q)
    | none =>
      have e' : N1 b = some o := by simpa [q] using e
      rw [hide_ne (n1 b o e').1]
      exact nw.sub _ _ e'
  · cases q : N b with
    | some u => exact dN _ _ q
    | none =>
      have e' : N1 b = some o := by simpa [q] using e
      exact sB.free (n1 b o e').2
  · exact dpAll_app (dpAll_same (fun b o e => by simp [e]) _ _ hx) (.cons (dp_same (fun b o e => by simp [nn b o e, e]) _ _ hd) .nil)
  · intro j q e
    have lp : pds.length = i := by rw [← dpAll_len hx, len]
    by_cases h : j < pds.length
    · rw [List.getElem?_append_left h] at e
      exact hR j q e
    · rw [List.getElem?_append_right (by omega)] at e
      by_cases z : j - pds.length = 0
      · rw [z, List.getElem?_cons_zero] at e
        obtain rfl := Option.some.inj e
        obtain rfl : j = i := by omega
        exact hr
      · rw [List.getElem?_eq_none (by simp; omega)] at e
        cases e
/-- beside a deal: a list at L to which new data are appended -/
theorem HP.open_ {K : PySem.W.Frag} {G H1 : Hp} {d l L : Addr} {R : Nat → PyData → Prop} {i : Nat} (h : HP K G d l L R i H1) (few : i < 100000) :
    ∃ Gx, Same G Gx ∧ Deal Gx H1 d l ∧ (∃ acc, Gx L = some (.lst acc)) ∧ ∀ (G' H' N : Hp) (y : V) (pd : PyData), News Gx H' G' N d l → Dp K N y pd → R i pd → ∃ acc, H' L = some (.lst acc) ∧ acc.length < sizeLine ∧ HP K G d l L R (i + 1) (upd H' L (.lst (acc ++ [y]))) := by
  obtain ⟨B, N0, xs, pds, sB, nB, DB, rest⟩ := h
  refine ⟨upd B L (.lst xs), fun b o e => by rw [upd_ne (ne_of_none (sB _ _ e) nB)]; exact sB _ _ e, DB, ⟨xs, upd_same⟩, fun G' H2 N1 y pd nw hd hr => ?_⟩
  exact HP.step sB nB DB rest few nw hd hr
theorem outStrs (ys : List PySem.Str) : (ys.map V.str).length = ys.length := List.length_map ..

/-! ### how data are shown, compared -/
mutual
theorem eqvSelf : ∀ d : PyData, fine d = true → PyData.eqv d d = true
  | .none, _ => by simp [PyData.eqv]
  | .bool b, _ => by simp [PyData.eqv]
  | .int i, _ => by simp [PyData.eqv]
  | .str x, _ => by simp [PyData.eqv]
  | .list ds, h => by simp [PyData.eqv, eqvSelfAll ds (fineList h).2]
  | .tuple ds, h => by simp [PyData.eqv, eqvSelfAll ds (fineTup h).2]
  | .dict _, h => by simp [fine] at h
theorem eqvSelfAll : ∀ ds : List PyData, fineAll ds = true → PyData.eqvAll ds ds = true
  | [], _ => by simp [PyData.eqvAll]
  | d :: ds, h => by
    rw [fineAll] at h
    obtain ⟨h1, h2⟩ := Bool.and_eq_true_iff.mp h
    simp [PyData.eqvAll, eqvSelf d h1, eqvSelfAll ds h2]
end

/-! ### a comprehension that makes one new thing a turn (its list at D) -/
def MadeL (K : PySem.W.Frag) (H1 : Hp) (D : Addr) (ds : List PyData) (H' : Hp) : Prop := Same H1 H' ∧ ∃ (N : Hp) (acc : List V), Same N H' ∧ N D = none ∧ H' D = some (.lst acc) ∧ DpAll K N acc ds
theorem MadeL.zero {K : PySem.W.Frag} {H1 : Hp} {D : Addr} (u : H1 D = none) : MadeL K H1 D [] (upd H1 D (.lst [])) := ⟨same_new u, fun _ => none, [], fun _ _ e => (by cases e), rfl, upd_same, .nil⟩
theorem MadeL.mono {K : PySem.W.Frag} {H1 H' H2 : Hp} {D : Addr} {ds : List PyData} (h : MadeL K H1 D ds H') (s : Same H' H2) : MadeL K H1 D ds H2 := by
  obtain ⟨s1, N, acc, sN, nD, hD, ha⟩ := h
  exact ⟨s1.trans s, N, acc, sN.trans s, nD, s _ _ hD, ha⟩
theorem MadeL.add {K : PySem.W.Frag} {H1 H H4 : Hp} {D t : Addr} {o : HO} {ds : List PyData} {d : PyData} {y : V} (h : MadeL K H1 D ds H) (u : H1 D = none) (few : ds.length < 100000) (ut : H t = none) (s : Same H H4) (e : H4 t = some o) (hd : Dp K (upd (fun _ => none) t o) y d) :
    ∃ acc, H4 D = some (.lst acc) ∧ acc.length < sizeLine ∧ MadeL K H1 D (ds ++ [d]) (upd H4 D (.lst (acc ++ [y]))) := by
  obtain ⟨s1, N, acc, sN, nD, hD, ha⟩ := h
  have ne : t ≠ D := fun z => by rw [z, hD] at ut; cases ut
  have nt : N t = none := sN.free ut
  have sN4 : Same (upd N t o) (upd H4 D (.lst (acc ++ [y]))) := fun b v eb => by
    by_cases q : b = t
    · subst q
      rw [upd_same] at eb
      cases eb
      rw [upd_ne ne]
      exact e
    · rw [upd_ne q] at eb
      have neD : b ≠ D := fun z => by rw [z, nD] at eb; cases eb
      rw [upd_ne neD]
      exact s _ _ (sN _ _ eb)
  refine ⟨acc, s _ _ hD, Nat.lt_of_le_of_lt (show acc.length ≤ 100000 by rw [dpAll_len ha]; omega) (by decide), fun b v eb => ?_, upd N t o, acc ++ [y], sN4, by rw [upd_ne ne.symm]; exact nD, upd_same, ?_⟩
  · rw [upd_ne (ne_of_none eb u)]
    exact s _ _ (s1 _ _ eb)
  · refine dpAll_app (dpAll_same (same_new nt) _ _ ha) (.cons (dp_same (fun b v eb => ?_) _ _ hd) .nil)
    by_cases q : b = t
    · subst q
      rw [upd_same] at eb ⊢
      exact eb
    · rw [upd_ne q] at eb
      cases eb
end Lw

set_option Elab.async false
set_option linter.all false
set_option maxRecDepth 100000
set_option maxHeartbeats 1000000
/-! What a law's top leaves, told by names: the parts that do not hang on the law. -/
namespace Hd
open PySem PySem.Spec PyProof.Rows L2
theorem fun_of {K : PySem.W.Frag} {x qual : PySem.Str} {st : Stmt} {f : Addr} {fd : FuncData} (F : FunD K x qual (defArgs st) (defBody st) (defScope st) [] [] f fd) : Fun K x qual st f fd := by
  obtain ⟨oc, od, dV, kV, doc, pm, an, cdv, ct, osl, h1, h2, h3, h4, _⟩ := F.ex
  have e : dV = .none := by
    rcases h4 with ⟨_, h⟩ | ⟨h, _⟩
    · exact h
    · exact absurd rfl h
  subst e
  exact ⟨⟨oc, od, kV, doc, pm, an, cdv, ct, osl, h1, h2, h3⟩, F.kp⟩
def fnTop (x : PySem.Str) (st : Stmt) : He.DefD := ⟨(x, none), x, x, defArgs st, defBody st, defScope st, [], []⟩
def fnIn (C m qual : PySem.Str) (st : Stmt) : He.DefD := ⟨(C, some m), m, qual, defArgs st, defBody st, defScope st, [], []⟩
noncomputable def fdOf (K : PySem.W.Frag) (f : Addr) : FuncData := match K.lookup f with
  | some ⟨_, _, .func fd, _⟩ => fd
  | _ => PySem.W.fnOf Str.empty Str.empty (defArgs (.Pass ⟨0, 0, 0, 0⟩)) [] (defScope (.Pass ⟨0, 0, 0, 0⟩)) .none .none .none .none none .none .none
theorem fdOf_eq {K : PySem.W.Frag} {x qual : PySem.Str} {st : Stmt} {f : Addr} {fd : FuncData} (F : Fun K x qual st f fd) : fdOf K f = fd := by
  obtain ⟨oc, od, kV, doc, pm, an, cdv, ct, osl, h1, h2, h3⟩ := F.ex
  unfold fdOf
  rw [h2]
/-- a def of the top -/
structure Top (K : PySem.W.Frag) (mg : PySem.Str → Option Value) (x : PySem.Str) (st : Stmt) (ps : List PySem.Str) : Prop where
  F : Fun K x x st (He.ga K x) (fdOf K (He.ga K x))
  g : mg x = some (.ref (He.ga K x))
  b : Binds K (fdOf K (He.ga K x)) ps []
section
variable {K : PySem.W.Frag} {h : Heap} {mg : PySem.Str → Option Value} {fas : List He.Fa} {fns : List He.DefD}
theorem free_mem (X : K.In h) (G : h.Ns mainGlobals mg) (c : He.SaysD fas fns K) {x : PySem.Str} (m : He.Fa.free x ∈ fas) : mg x = none := by
  obtain ⟨i, e⟩ := List.getElem?_of_mem m
  exact He.free_ok X G (c.fact i e)
theorem glo_mem (X : K.In h) (G : h.Ns mainGlobals mg) (c : He.SaysD fas fns K) {x : PySem.Str} (m : He.Fa.glo x ∈ fas) : mg x = some (.ref (He.ga K x)) := by
  obtain ⟨i, e⟩ := List.getElem?_of_mem m
  exact He.glo_ok X G (c.fact i e)
theorem top_mem (X : K.In h) (G : h.Ns mainGlobals mg) (c : He.SaysD fas fns K) {x : PySem.Str} {st : Stmt} {ps : List PySem.Str} (md : fnTop x st ∈ fns) (mf : He.Fa.glo x ∈ fas)
    (hb : ∀ (kV doc pm : Value) (an : Option Addr) (cdv ct : Value) (us : List Value), us.length = ps.length → bindArgs (PySem.W.fnOf x x (defArgs st) (defBody st) (defScope st) .none kV doc pm an cdv ct) ⟨us, []⟩ = pure (ps.zip us)) : Top K mg x st ps := by
  obtain ⟨i, e⟩ := List.getElem?_of_mem md
  obtain ⟨fd, F⟩ := c.def_ i e
  have F1 : Fun K x x st (He.ga K x) fd := fun_of (st := st) F
  have ed := fdOf_eq F1
  rw [← ed] at F1
  exact ⟨F1, glo_mem X G c mf, F1.binds hb⟩
end
end Hd

set_option Elab.async false
set_option linter.all false
set_option maxRecDepth 100000
set_option maxHeartbeats 4000000
namespace K14
open PySem L2 Lw
def top (i : Nat) : Stmt := PySem.Challenge.pw_elderlogs_k14_logs_and_their_texts.main.body.getD i (.Pass ⟨0, 0, 0, 0⟩)
abbrev sDeal : Stmt := top 14
abbrev sDraw : Stmt := top 15
abbrev sPick : Stmt := top 16
section
variable {P : Program} {w : World} {K : PySem.W.Frag} {mg : Str → Option Value} {base : Heap}
theorem scDraw : FnScope ["_law_deal_here", "_law_many", "_law_left"] ["_law_deal_here", "_law_many"] (defScope sDraw) := ⟨rfl, rfl, rfl, by decide +kernel, rfl, by decide +kernel, by decide +kernel⟩
theorem ok_draw {f : Addr} {fd : FuncData} (F : Fun K "_law_draw" "_law_draw" sDraw f fd) (tI : mg "int" = none) : FnOk P w K mg base CX0 1 f fd ["_law_deal_here", "_law_many"] spDraw := by
  refine F.ok scDraw (fun vs H Q E h => ?_) (fun cdv A outer s H vs Q E hr h => ?_)
  · obtain ⟨G, d, l, k, rfl, _⟩ := h
    rfl
  · obtain ⟨G, d, l, k, rfl, D, k0, k1, fin⟩ := h
    have hu : _ := hr.units
    refine ⟨_, pss_cons (ps_while PassesOwn.never (PW.pt (pw_and (pt_cmpR (op_neD hu) (pe_ix ix_list (pv 0) pe_int (fun _ _ => rfl)) (pe_lst pa_nil) (nomark _))
        (pw_and1 (pt_cmpR op_eq (pe_ix ix_list (pe_ix ix_list (pv 0) pe_int (fun _ _ => rfl)) (pe_un un_neg pe_int) (fun _ _ => rfl)) pe_int (nomark _)))))
        (pss_one (ps_expr (pe_bm0 PySem.F.plainAttrs_list PySem.F.slot_list_pop PySem.F.type_list_pop mt_pop (pe_ix ix_list (pv 0) pe_int (fun _ _ => rfl))))))
      (pss_cons (ps_if (pt_cmpR (op_neD hu) (pe_ix ix_list (pv 0) pe_int (fun _ _ => rfl)) (pe_lst pa_nil) (nomark _))
        (pss_cons (ps_set (i := 2) scDraw.nd rfl (Or.inl rfl) (pe_bm0 PySem.F.plainAttrs_list PySem.F.slot_list_pop PySem.F.type_list_pop mt_pop (pe_ix ix_list (pv 0) pe_int (fun _ _ => rfl))))
          (pss_cons (ps_expr (pe_bm PySem.F.plainAttrs_list PySem.F.slot_list_append PySem.F.type_list_append mt_append (pe_ix ix_list (pv 0) pe_int (fun _ _ => rfl)) (pa_cons (pe_op op_fdiv (pv 2) (pv 1)) pa_nil)))
            (pss_one (ps_ret (pe_op op_mod (pe_callTy call_int1 (by rfl) tI PyProof.Rows.boot_int (pa_cons (pv 2) pa_nil)) (pv 1))))))
        pss_nil)
      (pss_cons (ps_asg (pe_op op_mod (pe_callTy call_int1 (by rfl) tI PyProof.Rows.boot_int (pa_cons (pe_op op_add (pe_op op_mul (pe_ix ix_list (pv 0) pe_int (fun _ _ => rfl)) pe_int) pe_int) pa_nil)) pe_int) (pg_sub (pv 0) pe_int set_list))
        (pss_one (ps_ret (pe_op op_mod (pe_callTy call_int1 (by rfl) tI PyProof.Rows.boot_int (pa_cons (pe_op op_fdiv (pe_ix ix_list (pv 0) pe_int (fun _ _ => rfl)) pe_int) pa_nil)) (pv 1)))))), ?_⟩
    obtain ⟨ns0, m0, a0⟩ := D.it
    refine seq_cut (fun σ1 H1 => σ1 = [some (.ref d), some (.int k), none] ∧ Deal G H1 d l ∧ ∃ ns m, At H1 d l ns m) ?after fun after => ?loop
    case loop =>
      refine ⟨fun c σ H1 => ∃ ns m, c = ns.length ∧ σ = [some (.ref d), some (.int k), none] ∧ Deal G H1 d l ∧ At H1 d l ns m, ⟨_, ns0, m0, rfl, rfl, D, a0⟩, ?_⟩
      rintro _ _ H1 ⟨ns, m, rfl, rfl, D1, a1⟩
      refine ⟨_, rfl, d, _, 0, _, rfl, rfl, SqL.of a1.hd, at0, Nat.zero_le _, fun p hp => ?_⟩
      have D2 := D1.more (o := .lst []) hp
      have a2 := a1.put (o := .lst []) hp
      refine ⟨_, _, .lst (SqL.of a2.hl) (ints_data ns), .lst (SqL.of upd_same) .nil, ints_shaped ns, nil_shaped, _, rfl, ?_⟩
      rw [eqv_nil]
      by_cases e : ns = []
      · subst e
        exact iteF (iteF (after _ _ ⟨rfl, D2, _, _, a2⟩))
      · obtain ⟨r, n, rfl⟩ := split_end e
        have e1 : (!((r ++ [n]).map PyData.int).isEmpty) = true := by simp
        rw [e1]
        refine iteT ⟨_, rfl, d, _, 0, _, rfl, rfl, SqL.of a2.hd, at0, _, rfl, l, _, -1, _, rfl, rfl, SqL.of a2.hl, at_end r n, rfl, _, rfl, ?_⟩
        refine ite2 (fun z => ?_) (fun _ => after _ _ ⟨rfl, D2, _, _, a2⟩)
        obtain ⟨D3, a3⟩ := D2.list a2 (ns' := r) (by have := a2.len; simp at this; omega) (fun x hx => a2.nn x (by simp [hx]))
        refine ⟨fun σ1 H3 => σ1 = [some (.ref d), some (.int k), none] ∧ Deal G H3 d l ∧ At H3 d l r m, fun σ1 H3 ⟨q1, q2, q3⟩ => ⟨r.length, by simp, r, m, rfl, q1, q2, q3⟩, ?_⟩
        refine ⟨_, rfl, d, _, 0, _, rfl, rfl, SqL.of a2.hd, at0, .inl ⟨rfl, _, SqL.of a2.hl⟩, l, _, _, rfl, rfl, a2.hl, get_end r n, ?_⟩
        rw [drop_end]
        exact ⟨rfl, D3, a3⟩
    case after =>
      rintro _ H1 ⟨rfl, D1, ns, m, a1⟩
      refine ⟨_, rfl, d, _, 0, _, rfl, rfl, SqL.of a1.hd, at0, Nat.zero_le _, fun p hp => ?_⟩
      have D2 := D1.more (o := .lst []) hp
      have a2 := a1.put (o := .lst []) hp
      refine ⟨_, _, .lst (SqL.of a2.hl) (ints_data ns), .lst (SqL.of upd_same) .nil, ints_shaped ns, nil_shaped, _, rfl, ?_⟩
      rw [eqv_nil]
      by_cases e : ns = []
      · subst e
        refine iteF ?_
        -- deal[1] = ..
        refine ⟨_, rfl, d, _, 1, _, rfl, rfl, SqL.of a2.hd, at1, _, _, rfl, rfl, .inr ⟨by decide, by decide⟩, _, _, rfl, rfl, .inl ⟨_, rfl, _, _, rfl, rfl, (by show (0 : Int) < 2147483647; decide), ?_⟩⟩
        have b0 : 0 ≤ (m * 48271 + 7) % 2147483647 := Int.emod_nonneg _ (by decide)
        have b1 : (m * 48271 + 7) % 2147483647 < 2147483647 := Int.emod_lt_of_pos _ (by decide)
        obtain ⟨D3, a3⟩ := D2.mix a2 b0 b1
        refine ⟨_, rfl, d, _, 1, 1, rfl, rfl, a2.hd, set1, ?_⟩
        refine ⟨_, rfl, d, _, 1, _, rfl, rfl, SqL.of a3.hd, at1, _, _, rfl, rfl, ⟨by decide, by decide⟩, .inl ⟨_, rfl, _, rfl, _, _, rfl, rfl, k0, ?_⟩⟩
        exact fin _ _ D3 (Int.emod_nonneg _ (by omega)) (Int.emod_lt_of_pos _ k0)
      · obtain ⟨r, n, rfl⟩ := split_end e
        have e1 : (!((r ++ [n]).map PyData.int).isEmpty) = true := by simp
        rw [e1]
        have n0 : 0 ≤ n := a2.nn n (by simp)
        refine iteT ⟨_, rfl, d, _, 0, _, rfl, rfl, SqL.of a2.hd, at0, .inl ⟨rfl, _, SqL.of a2.hl⟩, l, _, _, rfl, rfl, a2.hl, get_end r n, ?_⟩
        rw [drop_end]
        obtain ⟨D3, a3⟩ := D2.list a2 (ns' := r) (by have := a2.len; simp at this; omega) (fun x hx => a2.nn x (by simp [hx]))
        refine ⟨_, rfl, d, _, 0, _, rfl, rfl, SqL.of a3.hd, at0, .inl ⟨rfl, _, SqL.of a3.hl⟩, _, rfl, _, rfl, _, _, rfl, rfl, ⟨k0, by omega⟩, l, _, _, rfl, rfl, a3.hl, (by rw [List.length_map]; have := a3.len; exact Nat.lt_of_le_of_lt this (by decide)), ?_⟩
        obtain ⟨D4, a4⟩ := D3.list a3 (ns' := r ++ [n / k]) (by have := a2.len; simp at this ⊢; omega) (fun x hx => by
          rcases List.mem_append.mp hx with q | q
          · exact a3.nn x q
          · rw [List.mem_singleton.mp q]
            exact Int.ediv_nonneg n0 (by omega))
        rw [upd_upd, List.map_append, List.map_cons, List.map_nil] at D4
        rw [upd_upd]
        refine ⟨_, rfl, .inl ⟨n, rfl, _, rfl, _, _, rfl, rfl, k0, ?_⟩⟩
        exact fin _ _ D4 (Int.emod_nonneg _ (by omega)) (Int.emod_lt_of_pos _ k0)

/-! ### a deal -/
abbrev nDeal : List Str := ["_law_script", "_law_base", "_law_cells", "_law_stirred", "_law_cell"]
theorem scDeal : FnScope nDeal ["_law_script", "_law_base"] (defScope sDeal) := ⟨rfl, rfl, rfl, by decide +kernel, rfl, by decide +kernel, by decide +kernel⟩
theorem ok_deal {f : Addr} {fd : FuncData} (F : Fun K "_law_deal" "_law_deal" sDeal f fd) (tI : mg "int" = none) (tA : mg "abs" = none) : FnOk P w K mg base CX0 1 f fd ["_law_script", "_law_base"] (spDeal K) := by
  refine F.ok scDeal (fun vs H Q E h => ?_) (fun cdv A outer s H vs Q E hr h => ?_)
  · obtain ⟨a, ns, b, rfl, _⟩ := h
    rfl
  · obtain ⟨a, ns, b, rfl, hS, len, b0, b1, fin⟩ := h
    refine ⟨_, pss_cons (ps_setLc (i := 2) (own := [("_law_cell", 4)]) (g := gName 4) (tt := tYes) (by rfl) scDeal.nd rfl rfl (sw_true rfl rfl rfl (by decide +kernel)) (pi_list (pe_slice sl_list (pv 0) (po_some (pv 1)) (po_some pe_int)))
          (blkOk_by (own := [("_law_cell", 4)]) (N := nDeal) (sc := defScope sDeal) (by decide +kernel)) (fun _ _ _ _ _ => pg_name (i := 4) scDeal.nd rfl (Or.inl rfl)) (fun _ _ _ _ _ => pts_nil)
          (fun _ _ _ _ _ => pe_callB call_abs (by rfl) tA PyProof.Rows.boot_abs (pa_cons (pe_callTy call_int1 (by rfl) tI PyProof.Rows.boot_int (pa_cons (pv 4) pa_nil)) pa_nil)))
      (pss_cons (ps_set (i := 3) scDeal.nd rfl (Or.inl rfl) (pe_op op_add pe_int (pe_op op_mul pe_int (pv 1))))
      (pss_cons (ps_for PassesOwn.never rfl (pi_list (pv 2)) (pg_name (i := 4) scDeal.nd rfl (Or.inl rfl))
        (pss_one (ps_set (i := 3) scDeal.nd rfl (Or.inl rfl) (pe_op op_mod (pe_callTy call_int1 (by rfl) tI PyProof.Rows.boot_int (pa_cons (pe_op op_add (pe_op op_add (pe_op op_mul (pv 3) pe_int) (pe_op op_mod (pe_callTy call_int1 (by rfl) tI PyProof.Rows.boot_int (pa_cons (pv 4) pa_nil)) pe_int)) pe_int) pa_nil)) pe_int))))
      (pss_one (ps_ret (pe_lst (pa_cons (pe_revL (pe_lc (own := [("_law_cell", 4)]) (g := gName 4) (tt := _) (by rfl) scDeal.nd (pi_list (pv 2))
          (blkOk_by (own := [("_law_cell", 4)]) (N := nDeal) (sc := defScope sDeal) (by decide +kernel)) (fun _ _ _ _ _ => pg_name (i := 4) scDeal.nd rfl (Or.inl rfl))
          (fun _ _ _ _ _ => pts_one (pt_cmpR op_ge (pv 4) (pe_op op_pow pe_int pe_int) (nomark _))) (fun _ _ _ _ _ => pv 4))) (pa_cons (pv 3) pa_nil))))))), ?_⟩
    -- cells
    refine ⟨_, rfl, _, rfl, _, rfl, _, rfl, a, _, rfl, hS, fun p1 u1 => ?_⟩
    obtain ⟨ms, ecut, lms⟩ := cut_ints ns (some b) (some 64)
    rw [ecut]
    have s1 : Same H (upd H p1 (.lst (ms.map V.int))) := same_new u1
    refine ⟨p1, rfl, ⟨_, SqL.of upd_same⟩, fun c u2 => ?_⟩
    have few : (ms.map V.int).length ≤ 100000 := by rw [List.length_map]; omega
    have u2' : H c = none := s1.free u2
    refine lc_of_list ((ms.map V.int).map fun x => some (magV x)) (SqL.of upd_same) u2 (turns_map magV few fun x H2 Q2 hx _ q => ?_) mono_yes fun H2 s2 h2 => ?_
    · obtain ⟨n, _, rfl⟩ := mem_ints hx
      exact ⟨_, rfl, .inl ⟨n, rfl, n, rfl, q _ (Same.refl _)⟩⟩
    rw [out_map, magV_map] at h2
    have s12 := s1.trans s2
    -- mixed
    refine ⟨_, rfl, _, _, rfl, rfl, .inl ⟨by decide, by decide⟩, _, _, rfl, rfl, ?_⟩
    -- the loop
    dsimp only [gName]
    refine seq_cut (fun σ1 H3 => ∃ m v, σ1 = [some (.ref a), some (.int b), some (.ref c), some (.int m), v] ∧ H3 = H2 ∧ 0 ≤ m ∧ m < 2147483647) ?after fun after => ?loop
    case loop =>
      refine ⟨_, rfl, c, rfl, ⟨_, SqL.of h2⟩, for_list (K := K) (a := c) (xs := (ms.map mag).map V.int) (fun i σ1 H3 => ∃ m v, σ1 = [some (.ref a), some (.int b), some (.ref c), some (.int m), v] ∧ H3 = H2 ∧ 0 ≤ m ∧ m < 2147483647)
        ⟨_, _, rfl, rfl, by omega, by omega⟩ (fun i σ1 H3 _ ⟨m, v, _, e3, _⟩ => by rw [e3]; exact SqL.of h2) ?_ (fun σ1 H3 q => after σ1 H3 q)⟩
      rintro i x σ1 H3 hx ⟨m, v, rfl, rfl, m0, _⟩
      obtain ⟨n, _, rfl⟩ := mem_ints (List.mem_of_getElem? hx)
      refine ⟨_, rfl, _, _, rfl, rfl, .inr ⟨by decide, by decide⟩, _, rfl, .inl ⟨n, rfl, _, _, rfl, rfl, (by show (0 : Int) < 2147483629; decide), _, _, rfl, rfl, _, _, rfl, rfl, .inl ⟨_, rfl, _, _, rfl, rfl, (by show (0 : Int) < 2147483647; decide), ?_⟩⟩⟩
      exact ⟨_, _, rfl, rfl, Int.emod_nonneg _ (by decide), Int.emod_lt_of_pos _ (by decide)⟩
    case after =>
      rintro _ _ ⟨m, v, rfl, rfl, m0, m1⟩
      -- the great ones
      refine ⟨_, rfl, c, rfl, ⟨_, SqL.of h2⟩, fun g u3 => ?_⟩
      have few2 : ((ms.map mag).map V.int).length ≤ 100000 := by rw [List.length_map, List.length_map]; omega
      refine lc_of_list (((ms.map mag).map V.int).map bigV) (SqL.of h2) u3 ⟨by simp, few2, fun j x y H3 Q3 hx hy _ q => ?_, fun j x H3 hx hy _ => ?_⟩ (mono_test (mono_op mono_rI0 mono_var (mono_op mono_rI mono_c mono_c))) fun H3 s3 h3 => ?_
      · obtain ⟨n, _, rfl⟩ := mem_ints (List.mem_of_getElem? hx)
        rw [List.getElem?_map, hx] at hy
        have hy : bigV (.int n) = some y := by simpa using hy
        refine ⟨_, rfl, _, _, rfl, rfl, ⟨by decide, by decide, by decide⟩, _, _, rfl, rfl, _, rfl, ?_⟩
        by_cases z : decide ((10 : Int) ^ (18 : Int).toNat ≤ n) = true
        · rw [show bigV (.int n) = some (.int n) from if_pos z] at hy
          cases hy
          exact ⟨z, Same.refl _, _, rfl, q _ (Same.refl _)⟩
        · rw [show bigV (.int n) = none from if_neg z] at hy
          cases hy
      · obtain ⟨n, _, rfl⟩ := mem_ints (List.mem_of_getElem? hx)
        rw [List.getElem?_map, hx] at hy
        have hy : bigV (.int n) = none := by simpa using hy
        refine ⟨_, rfl, _, _, rfl, rfl, ⟨by decide, by decide, by decide⟩, _, _, rfl, rfl, _, rfl, ?_⟩
        by_cases z : decide ((10 : Int) ^ (18 : Int).toNat ≤ n) = true
        · rw [show bigV (.int n) = some (.int n) from if_pos z] at hy
          cases hy
        · exact ⟨by simpa using z, Same.refl _⟩
      rw [big_out] at h3
      refine ⟨g, _, rfl, SqL.of h3, fun l u4 => ?_⟩
      refine ⟨_, rfl, (by show 2 ≤ sizeLine; decide), fun d u5 => ?_⟩
      have nl : l ≠ d := fun z => by rw [z, upd_same] at u5; cases u5
      have s4 := s12.trans s3
      have u4' : H l = none := s4.free u4
      have u5' : H d = none := by rw [upd_ne nl.symm] at u5; exact s4.free u5
      refine fin _ d l ⟨fun p o e => ?_, u5', u4', nl, ((ms.map mag).filter fun i => decide ((10 : Int) ^ (18 : Int).toNat ≤ i)).reverse, m, upd_same, ?_, ?_, fun n hn => ?_, m0, m1⟩
      · rw [upd_ne (ne_of_none e u5'), upd_ne (ne_of_none e u4')]
        exact s4 _ _ e
      · rw [upd_ne nl, upd_same, List.map_reverse]
      · rw [List.length_reverse]
        have := List.length_filter_le (fun i => decide ((10 : Int) ^ (18 : Int).toNat ≤ i)) (ms.map mag)
        rw [List.length_map] at this
        omega
      · obtain ⟨i, _, rfl⟩ := List.mem_map.mp (List.mem_filter.mp (List.mem_reverse.mp hn)).1
        exact mag_nn i

/-! ### a pick -/
theorem scPick : FnScope ["_law_deal_here", "_law_some"] ["_law_deal_here", "_law_some"] (defScope sPick) := ⟨rfl, rfl, rfl, by decide +kernel, rfl, by decide +kernel, by decide +kernel⟩
theorem ok_pick {f fD : Addr} {fd fdD : FuncData} (F : Fun K "_law_pick" "_law_pick" sPick f fd) (FD : Fun K "_law_draw" "_law_draw" sDraw fD fdD) (tD : mg "_law_draw" = some (.ref fD)) (bD : Binds K fdD ["_law_deal_here", "_law_many"] [])
    (tI : mg "int" = none) (tL : mg "len" = none) : FnOk P w K mg base CX0 2 f fd ["_law_deal_here", "_law_some"] (spPick K) := by
  have GD : FnOk P w K mg base CX0 1 fD fdD ["_law_deal_here", "_law_many"] spDraw := ok_draw FD tI
  refine F.ok scPick (fun vs H Q E h => ?_) (fun cdv A outer s H vs Q E hr h => ?_)
  · obtain ⟨G, d, l, a, xs, rfl, _⟩ := h
    rfl
  · obtain ⟨G, d, l, a, xs, rfl, D, hS, ne, few, fin⟩ := h
    refine ⟨_, pss_one (ps_ret (pe_ix ix_list (pv 1) (pe_call GD hr rfl tD FD.kp bD .nil pass0 (pa_cons (pv 0) (pa_cons (pe_callB call_len (by rfl) tL PySem.boot_len (pa_cons (pv 1) pa_nil)) pa_nil))) (fun _ _ => rfl))), ?_⟩
    have hS1 : SqL K H a xs := D.same.seq hS
    have pos : 0 < xs.length := List.length_pos_iff.mpr ne
    refine ⟨_, rfl, _, rfl, _, rfl, _, _, rfl, .inl ⟨_, hS1, rfl⟩, G, d, l, _, rfl, D, by omega, by omega, fun H' r D' r0 r1 => ?_⟩
    obtain ⟨x, hx, ex⟩ := at_int r0 r1
    exact ⟨a, _, r, x, rfl, rfl, D'.same.seq hS, ex, fin H' x D' hx⟩
end
end K14

set_option Elab.async false
set_option linter.all false
set_option maxRecDepth 100000
set_option maxHeartbeats 4000000
namespace K14
open PySem L2 Lw
abbrev sIsName : Stmt := top 6
/-! ### names -/
def abc : Str := "abcdefghijklmnopqrstuvwxyz"
def isAbc (c : Nat) : Bool := decide (c ∈ abc.cps.toList)
def nameOk (z : Str) : Bool := decide (1 ≤ (z.length : Int)) && decide ((z.length : Int) ≤ 4) && z.cps.toList.all isAbc
def nameD : PyData → Bool
  | .str z => nameOk z
  | _ => false
def spIsName (K : PySem.W.Frag) : Sp := fun vs H Q _ => ∃ (v : V) (d : PyData), vs = [v] ∧ Dp K H v d ∧ fine d = true ∧ ∀ H', Same H H' → Q (.bl (nameD d)) H'
section
variable {P : Program} {w : World} {K : PySem.W.Frag} {mg : Str → Option Value} {base : Heap}
theorem scIsName : FnScope ["value", "letter"] ["value"] (defScope sIsName) := ⟨rfl, rfl, rfl, by decide +kernel, rfl, by decide +kernel, by decide +kernel⟩
theorem ok_isName {f : Addr} {fd : FuncData} {tk : Tok} (F : Fun K "is_name" "is_name" sIsName f fd) (tS : mg "str" = none) (tIs : mg "isinstance" = none) (tL : mg "len" = none) (tAll : mg "all" = none) (tAbc : mg "_LETTERS" = some (.str abc tk)) :
    FnOk P w K mg base CX0 1 f fd ["value"] (spIsName K) := by
  refine F.ok scIsName (fun vs H Q E h => ?_) (fun cdv A outer s H vs Q E hr h => ?_)
  · obtain ⟨v, d, rfl, _⟩ := h
    rfl
  · obtain ⟨v, d, rfl, hd, hz, fin⟩ := h
    refine ⟨_, pss_one (ps_ret (pe_and (pe_callB call_isi (by rfl) tIs PyProof.Rows.boot_isinstance (pa_cons (pv 0) (pa_cons (pe_bltn (v := .ty "str") (by rfl) tS PyProof.Rows.boot_str rfl) pa_nil)))
      (pe_and (pe_chain op_le op_le pe_int (pe_callB call_len (by rfl) tL PySem.boot_len (pa_cons (pv 0) pa_nil)) pe_int)
        (pe_one (pe_callB (cr_all rfl) (by rfl) tAll PyProof.Rows.boot_all (pa_cons (pe_lc (own := [("letter", 1)]) (g := gName 1) (tt := tYes) (by rfl) scIsName.nd (pi_str (pv 0))
          (blkOk_by (own := [("letter", 1)]) (N := ["value", "letter"]) (sc := defScope sIsName) (by decide +kernel)) (fun _ _ _ _ _ => pg_name (i := 1) scIsName.nd rfl (Or.inl rfl)) (fun _ _ _ _ _ => pts_nil)
          (fun _ _ _ _ _ => pe_cmpR op_in_sign (pv 1) (pe_glob (v := .str abc) (by rfl) tAbc ⟨_, rfl⟩) rfl)) pa_nil)))))), ?_⟩
    refine ⟨_, rfl, _, _, _, _, _, rfl, .ty "str", ty_data hd, kit_str (no_dict hd), _, rfl, ?_⟩
    cases d with
    | str z =>
      cases hd
      have len : z.length ≤ 1000 := (fine_str hz).1
      have small : z.length ≤ sizeLine := Nat.le_of_lt (small1000 len)
      refine iteT ⟨_, rfl, _, _, rfl, ⟨small, rfl⟩, _, _, rfl, rfl, _, rfl, ?_⟩
      by_cases h1 : decide (1 ≤ (z.length : Int)) = true
      · rw [h1]
        refine iteT ⟨_, _, rfl, rfl, _, rfl, ?_⟩
        by_cases h2 : decide ((z.length : Int) ≤ 4) = true
        · rw [h2]
          refine iteT ⟨_, rfl, z, rfl, fun D un => ?_⟩
          refine lc_of_str ((signsOf z).map fun x => some (match x with | .str y => .bl (isAbc (y.cps.getD 0 0)) | _ => .non)) un (turns_map (fun x => match x with | .str y => .bl (isAbc (y.cps.getD 0 0)) | _ => .non) (by rw [List.length_map, Array.length_toList]; exact Nat.le_trans len (by decide)) fun x H2 Q2 hx _ q => ?_) mono_yes fun H2 s2 h2 => ?_
          · obtain ⟨c, _, rfl⟩ := List.mem_map.mp hx
            exact ⟨_, rfl, c, abc, rfl, rfl, q _ (Same.refl _)⟩
          · rw [out_map] at h2
            have e : (signsOf z).map (fun x => match x with | .str y => V.bl (isAbc (y.cps.getD 0 0)) | _ => .non) = (z.cps.toList.map isAbc).map V.bl := by
              rw [List.map_map, List.map_map]
              rfl
            rw [e] at h2
            refine ⟨D, _, rfl, SqL.of h2, ?_⟩
            have e2 : (List.map isAbc z.cps.toList).all id = nameD (.str z) := by
              show _ = (decide (1 ≤ (z.length : Int)) && decide ((z.length : Int) ≤ 4) && z.cps.toList.all isAbc)
              rw [h1, ‹decide ((z.length : Int) ≤ 4) = true›, List.all_map]
              rfl
            rw [e2]
            exact fin _ s2
        · have h3 : decide ((z.length : Int) ≤ 4) = false := by simpa using h2
          rw [h3]
          refine iteF ?_
          have e2 : nameD (.str z) = false := by
            show (decide (1 ≤ (z.length : Int)) && decide ((z.length : Int) ≤ 4) && z.cps.toList.all isAbc) = false
            rw [h3, Bool.and_false, Bool.false_and]
          rw [← e2]
          exact fin _ (Same.refl _)
      · have h3 : decide (1 ≤ (z.length : Int)) = false := by simpa using h1
        rw [h3]
        refine iteF ⟨_, rfl, iteF ?_⟩
        have e2 : nameD (.str z) = false := by
          show (decide (1 ≤ (z.length : Int)) && decide ((z.length : Int) ≤ 4) && z.cps.toList.all isAbc) = false
          rw [h3, Bool.false_and, Bool.false_and]
        rw [← e2]
        exact fin _ (Same.refl _)
    | _ => exact iteF (fin H (Same.refl H))
end
end K14

set_option Elab.async false
set_option linter.all false
set_option maxRecDepth 100000
set_option maxHeartbeats 1000000
namespace K14
open PySem L2 Lw
abbrev sLogText : Stmt := top 8
abbrev sReadLog : Stmt := top 9
abbrev sExpLog : Stmt := top 10
abbrev sIsEntry : Stmt := top 11
abbrev sReadEntry : Stmt := top 12
abbrev sAny : Stmt := top 17
abbrev sLaw : Stmt := top 18
structure Txt (K : PySem.W.Frag) (mg : Str → Option Value) : Prop where
  tStr : mg "str" = none
  tInt : mg "int" = none
  tAbs : mg "abs" = none
  tLen : mg "len" = none
  tAll : mg "all" = none
  tIs : mg "isinstance" = none
  tTuple : mg "tuple" = none
  tList : mg "list" = none
  tRange : mg "range" = none
  tEnum : mg "enumerate" = none
  tRepr : mg "repr" = none
  abc : ∃ tk, mg "_LETTERS" = some (.str abc tk)
  isName : Hd.Top K mg "is_name" sIsName ["value"]
  logText : Hd.Top K mg "log_text" sLogText ["log"]
  readLog : Hd.Top K mg "read_log" sReadLog ["text"]
  expLog : Hd.Top K mg "expect_log" sExpLog ["value"]
  isEntry : Hd.Top K mg "_is_entry" sIsEntry ["value"]
  readEntry : Hd.Top K mg "_read_entry" sReadEntry ["part", "at"]
  deal : Hd.Top K mg "_law_deal" sDeal ["_law_script", "_law_base"]
  draw : Hd.Top K mg "_law_draw" sDraw ["_law_deal_here", "_law_many"]
  pick : Hd.Top K mg "_law_pick" sPick ["_law_deal_here", "_law_some"]
  any : Hd.Top K mg "_law_any_entry" sAny ["_law_deal_here"]
  law : Hd.Top K mg "law" sLaw ["_law_script"]
section
variable {P : Program} {w : World} {K : PySem.W.Frag} {mg : Str → Option Value} {base : Heap}
open Hd
theorem Txt.okN (T : Txt K mg) : FnOk P w K mg base CX0 1 (He.ga K "is_name") (fdOf K (He.ga K "is_name")) ["value"] (spIsName K) := by
  obtain ⟨tk, h⟩ := T.abc
  exact ok_isName T.isName.F T.tStr T.tIs T.tLen T.tAll h
theorem Txt.okDraw (T : Txt K mg) : FnOk P w K mg base CX0 1 (He.ga K "_law_draw") (fdOf K (He.ga K "_law_draw")) ["_law_deal_here", "_law_many"] spDraw := ok_draw T.draw.F T.tInt
theorem Txt.okDeal (T : Txt K mg) : FnOk P w K mg base CX0 1 (He.ga K "_law_deal") (fdOf K (He.ga K "_law_deal")) ["_law_script", "_law_base"] (spDeal K) := ok_deal T.deal.F T.tInt T.tAbs
theorem Txt.okPick (T : Txt K mg) : FnOk P w K mg base CX0 2 (He.ga K "_law_pick") (fdOf K (He.ga K "_law_pick")) ["_law_deal_here", "_law_some"] (spPick K) := ok_pick T.pick.F T.draw.F T.draw.g T.draw.b T.tInt T.tLen
/-! ### an entry -/
def entryOk : PyData → Bool
  | .tuple ds => decide ((1 : Int) ≤ (ds.length : Int)) && decide ((ds.length : Int) ≤ 2) && ds.all nameD
  | _ => false
def spEntry (K : PySem.W.Frag) : Sp := fun vs H Q _ => ∃ (v : V) (d : PyData), vs = [v] ∧ Dp K H v d ∧ fine d = true ∧ ∀ H', Same H H' → Q (.bl (entryOk d)) H'
theorem scE : FnScope ["value", "name"] ["value"] (defScope sIsEntry) := ⟨rfl, rfl, rfl, by decide +kernel, rfl, by decide +kernel, by decide +kernel⟩
theorem Txt.okE (T : Txt K mg) : FnOk P w K mg base CX0 2 (He.ga K "_is_entry") (fdOf K (He.ga K "_is_entry")) ["value"] (spEntry K) := by
  refine T.isEntry.F.ok scE (fun vs H Q E h => ?_) (fun cdv A outer s H vs Q E hr h => ?_)
  · obtain ⟨v, d, rfl, _⟩ := h
    rfl
  · obtain ⟨v, d, rfl, hd, hz, fin⟩ := h
    refine ⟨_, pss_one (ps_ret (pe_and (pe_callB call_isi (by rfl) T.tIs PyProof.Rows.boot_isinstance (pa_cons (pv 0) (pa_cons (pe_bltn (v := .ty "tuple") (by rfl) T.tTuple PyProof.Rows.boot_tuple rfl) pa_nil)))
      (pe_and (pe_chain op_le op_le pe_int (pe_callB call_len_seq (by rfl) T.tLen PySem.boot_len (pa_cons (pv 0) pa_nil)) pe_int)
      (pe_one (pe_callB (cr_all rfl) (by rfl) T.tAll PyProof.Rows.boot_all (pa_cons (pe_lc (own := [("name", 1)]) (g := gName 1) (tt := tYes) (by rfl) scE.nd (pi_tup (pv 0))
          (blkOk_by (own := [("name", 1)]) (N := ["value", "name"]) (sc := defScope sIsEntry) (by decide +kernel)) (fun _ _ _ _ _ => pg_name (i := 1) scE.nd rfl (Or.inl rfl)) (fun _ _ _ _ _ => pts_nil)
          (fun _ _ _ _ _ => pe_call T.okN hr rfl T.isName.g T.isName.F.kp T.isName.b .nil pass0 (pa_cons (pv 1) pa_nil))) pa_nil)))))), ?_⟩
    refine ⟨_, rfl, _, _, _, _, _, rfl, .ty "tuple", ty_data hd, kit_tup (no_dict hd), _, rfl, ?_⟩
    cases d with
    | tuple ds =>
      cases hd with
      | @tup p xs _ hs ha =>
        have el := dpAll_len ha
        obtain ⟨few, hf⟩ := fineTup hz
        refine iteT ⟨_, rfl, p, xs, rfl, .inr hs, _, _, rfl, rfl, _, rfl, ?_⟩
        rw [el]
        have ee : entryOk (.tuple ds) = (decide ((1 : Int) ≤ (ds.length : Int)) && decide ((ds.length : Int) ≤ 2) && ds.all nameD) := rfl
        cases e1 : decide ((1 : Int) ≤ (ds.length : Int)) with
        | false =>
          have z := fin H (Same.refl H)
          rw [ee, e1, Bool.false_and, Bool.false_and] at z
          exact iteF ⟨_, rfl, iteF z⟩
        | true =>
          refine iteT ⟨_, _, rfl, rfl, _, rfl, ?_⟩
          cases e2 : decide ((ds.length : Int) ≤ 2) with
          | false =>
            have z := fin H (Same.refl H)
            rw [ee, e1, e2, Bool.true_and, Bool.false_and] at z
            exact iteF z
          | true =>
            refine iteT ⟨_, rfl, p, rfl, ⟨_, hs⟩, fun D un => ?_⟩
            refine lc_of_tup (ds.map fun d => some (.bl (nameD d))) hs un (turnsData (fun d => .bl (nameD d)) ha (by omega) fun x d H2 Q2 _ hm hx _ q => ?_) mono_yes fun H1 s1 h1 => ?_
            · exact ⟨_, rfl, x, d, rfl, hx, fineAll_mem hf hm, q⟩
            · rw [outData] at h1
              have e3 : ds.map (fun d => V.bl (nameD d)) = (ds.map nameD).map V.bl := by rw [List.map_map]; rfl
              rw [e3] at h1
              refine ⟨D, _, rfl, SqL.of h1, ?_⟩
              have e4 : (ds.map nameD).all id = entryOk (.tuple ds) := by
                rw [ee, e1, e2, List.all_map]
                rfl
              rw [e4]
              exact fin _ s1
    | _ => exact iteF (fin H (Same.refl H))
/-! ### logs -/
/-- a good entry -/
structure EntOk (e : List Str) : Prop where
  lo : 1 ≤ e.length
  hi : e.length ≤ 2
  ok : ∀ z ∈ e, nameOk z = true
def entD (e : List Str) : PyData := .tuple (e.map PyData.str)
def entT (e : List Str) : Str := Txt.join " " e
def logT (es : List (List Str)) : Str := Txt.join "; " (es.map entT)
theorem name_facts {z : Str} (h : nameOk z = true) : 1 ≤ z.length ∧ z.length ≤ 4 ∧ z.cps.toList.all isAbc = true := by
  unfold nameOk at h
  simp only [Bool.and_eq_true, decide_eq_true_eq] at h
  obtain ⟨⟨h1, h2⟩, h3⟩ := h
  exact ⟨by omega, by omega, h3⟩
theorem isAbc_lt {c : Nat} (h : isAbc c = true) : 97 ≤ c ∧ c < 123 := by
  unfold isAbc at h
  have h := of_decide_eq_true h
  have all : ∀ c ∈ abc.cps.toList, 97 ≤ c ∧ c < 123 := by decide +kernel
  exact all c h
theorem name_strOk {z : Str} (h : nameOk z = true) : PyData.strOk z = true := by
  obtain ⟨_, _, h3⟩ := name_facts h
  unfold PyData.strOk
  rw [← Array.all_toList, List.all_eq_true]
  intro c hc
  have := (isAbc_lt (List.all_eq_true.mp h3 c hc)).2
  simp only [decide_eq_true_eq]
  omega
theorem name_fine {z : Str} (h : nameOk z = true) : fine (.str z) = true := by
  rw [fine, name_strOk h, Bool.and_true, decide_eq_true_eq]
  have := (name_facts h).2.1
  omega
theorem ent_fine {e : List Str} (h : EntOk e) : fine (entD e) = true := by
  unfold entD
  rw [fine, List.length_map, Bool.and_eq_true_iff]
  refine ⟨decide_eq_true (by have := h.hi; omega), fineAll_of fun d hd => ?_⟩
  obtain ⟨z, hz, rfl⟩ := List.mem_map.mp hd
  exact name_fine (h.ok z hz)
theorem ent_ok {e : List Str} (h : EntOk e) : entryOk (entD e) = true := by
  show (decide ((1 : Int) ≤ ((e.map PyData.str).length : Int)) && decide (((e.map PyData.str).length : Int) ≤ 2) && (e.map PyData.str).all nameD) = true
  rw [List.length_map, List.all_map]
  have h1 := h.lo
  have h2 := h.hi
  simp only [Bool.and_eq_true, decide_eq_true_eq]
  refine ⟨⟨by omega, by omega⟩, List.all_eq_true.mpr fun z hz => ?_⟩
  exact h.ok z hz
def LogOk (es : List (List Str)) : Prop := es.length ≤ 100 ∧ ∀ e ∈ es, EntOk e
theorem log_fine {es : List (List Str)} (h : LogOk es) : fineAll (es.map entD) = true ∧ (es.map entD).length ≤ 1000 := by
  refine ⟨fineAll_of fun d hd => ?_, by rw [List.length_map]; have := h.1; omega⟩
  obtain ⟨e, he, rfl⟩ := List.mem_map.mp hd
  exact ent_fine (h.2 e he)
/-- a log, a list or a tuple -/
structure IsLog (K : PySem.W.Frag) (H : Hp) (v : V) (es : List (List Str)) : Prop where
  ok : LogOk es
  d : ∃ (p : Addr) (xs : List V), v = .ref p ∧ SqA K H p xs ∧ DpAll K H xs (es.map entD)
theorem IsLog.same {H H' : Hp} {v : V} {es : List (List Str)} (h : IsLog K H v es) (s : Same H H') : IsLog K H' v es := by
  obtain ⟨p, xs, e, hs, ha⟩ := h.d
  exact ⟨h.ok, p, xs, e, hs.same s, dpAll_same s _ _ ha⟩
theorem IsLog.dp {H : Hp} {v : V} {es : List (List Str)} (h : IsLog K H v es) : ∃ d, Dp K H v d ∧ (d = .list (es.map entD) ∨ d = .tuple (es.map entD)) := by
  obtain ⟨p, xs, rfl, hs, ha⟩ := h.d
  rcases hs with hs | hs
  · exact ⟨_, .lst hs ha, .inl rfl⟩
  · exact ⟨_, .tup hs ha, .inr rfl⟩
def spExp (K : PySem.W.Frag) : Sp := fun vs H Q _ => ∃ (v : V) (es : List (List Str)), vs = [v] ∧ IsLog K H v es ∧ ∀ H', Same H H' → Q .non H'
theorem scX : FnScope ["value", "at", "entry"] ["value"] (defScope sExpLog) := ⟨rfl, rfl, rfl, by decide +kernel, rfl, by decide +kernel, by decide +kernel⟩
theorem Txt.okX (T : Txt K mg) : FnOk P w K mg base CX0 3 (He.ga K "expect_log") (fdOf K (He.ga K "expect_log")) ["value"] (spExp K) := by
  refine T.expLog.F.ok scX (fun vs H Q E h => ?_) (fun cdv A outer s H vs Q E hr h => ?_)
  · obtain ⟨v, d, rfl, _⟩ := h
    rfl
  · obtain ⟨v, es, rfl, hL, fin⟩ := h
    refine ⟨_, pss_cons (ps_if (pt_not (pt_val (pe_callB call_isiT (by rfl) T.tIs PyProof.Rows.boot_isinstance (pa_cons (pv 0) (pa_cons (pe_tup (pa_cons (pe_bltn (v := .ty "list") (by rfl) T.tList PyProof.Rows.boot_list rfl) (pa_cons (pe_bltn (v := .ty "tuple") (by rfl) T.tTuple PyProof.Rows.boot_tuple rfl) pa_nil))) pa_nil))))) (pss_one ps_dead) pss_nil)
      (pss_one (ps_for PassesOwn.never rfl (pi_enumA (by rfl) T.tEnum (pa_cons (pv 0) pa_nil)) (pg_tup rfl (pgs_cons (pg_name (i := 1) scX.nd rfl (.inl rfl)) (pgs_cons (pg_name (i := 2) scX.nd rfl (.inl rfl)) pgs_nil)))
        (pss_one (ps_if (pt_not (pt_val (pe_call T.okE hr rfl T.isEntry.g T.isEntry.F.kp T.isEntry.b .nil pass0 (pa_cons (pv 2) pa_nil)))) (pss_one ps_dead) pss_nil)))), ?_⟩
    refine ⟨_, rfl, (by show 2 ≤ sizeLine; decide), fun tp hp => ?_⟩
    have s0 : Same H (upd H tp (.tup [.ty "list", .ty "tuple"])) := same_new hp
    have hL0 := hL.same s0
    obtain ⟨d, hd, ed⟩ := hL0.dp
    refine ⟨v, tp, _, _, _, _, rfl, upd_same, .cons (.ty "list") (.cons (.ty "tuple") .nil), ty_data hd, kit_seq (no_dict hd), _, rfl, ?_⟩
    rw [show isSeq d = true from by rcases ed with rfl | rfl <;> rfl]
    obtain ⟨p, xs, rfl, hs, ha⟩ := hL0.d
    refine iteF (enum_run rfl hs fun J hJ => for_JE hJ (fun i σ H' => ∃ x y, σ = [some (.ref p), x, y] ∧ Same (upd H tp (.tup [.ty "list", .ty "tuple"])) H') ⟨_, _, rfl, Same.refl _⟩ (fun i σ' H' ⟨_, _, _, s1⟩ => s1) ?_ ?_)
    · rintro i x σ1 H1 t hx ⟨_, _, rfl, s1⟩ ut
      obtain ⟨dx, edx, hdx⟩ := dpAll_at ha hx
      obtain ⟨e, he, rfl⟩ := List.mem_map.mp (List.mem_of_getElem? edx)
      have s2 : Same H1 (upd H1 t (.tup [.int (i : Nat), x])) := same_new ut
      refine ⟨_, _, rfl, SqT.of upd_same, rfl, ?_⟩
      refine ⟨_, _, rfl, _, _, rfl, rfl, ?_⟩
      refine ⟨_, rfl, _, entD e, rfl, dp_same s2 _ _ (dp_same s1 _ _ hdx), ent_fine (hL.ok.2 e he), fun H2 s3 => ⟨_, rfl, ?_⟩⟩
      rw [ent_ok (hL.ok.2 e he)]
      exact iteF ⟨_, _, rfl, (s1.trans s2).trans s3⟩
    · rintro σ1 H1 ⟨_, _, rfl, s1⟩
      exact fin _ (s0.trans s1)
end
end K14

set_option Elab.async false
set_option linter.all false
set_option maxRecDepth 100000
set_option maxHeartbeats 1000000
namespace K14
open PySem L2 Lw TL
/-! ### texts of logs -/
theorem ent_len {e : List Str} (h : EntOk e) : (e.map (·.length)).sum ≤ 8 ∧ (entT e).length ≤ 10 ∧ 1 ≤ (entT e).length := by
  have lens : ∀ z ∈ e, 1 ≤ z.length ∧ z.length ≤ 4 := fun z hz => ⟨(name_facts (h.ok z hz)).1, (name_facts (h.ok z hz)).2.1⟩
  have h1 := h.lo
  have h2 := h.hi
  have sp : (" " : Str).length = 1 := by decide +kernel
  unfold entT
  rw [join_eq]
  match e, h1, h2, lens with
  | [a], _, _, l =>
    have := l a (by simp)
    rw [PyProof.Rows.len_join_cons]
    simp
    omega
  | [a, b], _, _, l =>
    have := l a (by simp)
    have := l b (by simp)
    rw [PyProof.Rows.len_join_cons]
    simp [sp]
    omega
  | _ :: _ :: _ :: _, _, h2, _ => simp at h2
theorem log_len {es : List (List Str)} (h : ∀ e ∈ es, EntOk e) : ((es.map entT).map (·.length)).sum ≤ 10 * es.length := by
  induction es with
  | nil => simp
  | cons e r ih =>
    have h1 := (ent_len (h e List.mem_cons_self)).2.1
    have h2 := ih fun x hx => h x (List.mem_cons_of_mem _ hx)
    simp only [List.map_cons, List.sum_cons, List.length_cons]
    omega
theorem logT_len {es : List (List Str)} (h : LogOk es) : (logT es).length ≤ 1200 := by
  have h1 := log_len h.2
  have h2 := h.1
  have sp : ("; " : Str).length = 2 := by decide +kernel
  unfold logT
  rw [join_eq]
  cases es with
  | nil => decide +kernel
  | cons e r =>
    rw [List.map_cons, PyProof.Rows.len_join_cons, sp, ← List.map_cons]
    rw [List.length_cons] at h1 h2
    rw [List.length_map]
    omega
/-- no such sign in a name, in an entry's text -/
theorem name_no {z : Str} (h : nameOk z = true) {c : Nat} (hc : c < 97) : c ∉ tl z := fun m => by
  have := (isAbc_lt (List.all_eq_true.mp (name_facts h).2.2 c m)).1
  omega
theorem ent_no {e : List Str} (h : EntOk e) : (59 : Nat) ∉ tl (entT e) := by
  have h1 := h.lo
  have h2 := h.hi
  have sp : tl (" " : Str) = [32] := by decide +kernel
  unfold entT
  rw [join_eq, tl_join, sp]
  have no : ∀ z ∈ e, (59 : Nat) ∉ tl z := fun z hz => name_no (h.ok z hz) (by decide)
  match e, h1, h2, no with
  | [a], _, _, l => exact l a (by simp)
  | [a, b], _, _, l =>
    have q1 := l a (by simp)
    have q2 := l b (by simp)
    simp [joinL, q1, q2]
  | _ :: _ :: _ :: _, _, h2, _ => simp at h2
theorem ent_split {e : List Str} (h : EntOk e) : Txt.split (entT e) " " = e := by
  refine split_join (s := 32) (S := []) (by decide +kernel) (by decide +kernel) (fun z => ?_) fun p hp => name_no (h.ok p hp) (by decide)
  have := h.lo
  rw [z] at this
  simp at this
theorem log_split {es : List (List Str)} (h : LogOk es) (ne : es ≠ []) : Txt.split (logT es) "; " = es.map entT := by
  refine split_join (s := 59) (S := [32]) (by decide +kernel) (by decide +kernel) (fun z => ne (List.map_eq_nil_iff.mp z)) fun p hp => ?_
  obtain ⟨e, he, rfl⟩ := List.mem_map.mp hp
  exact ent_no (h.2 e he)
theorem logT_nil : logT [] = Str.empty := by decide +kernel
theorem logT_ne {es : List (List Str)} (h : LogOk es) (ne : es ≠ []) : logT es ≠ Str.empty := fun z => by
  have q := log_split h ne
  rw [z] at q
  have e : Txt.split Str.empty "; " = [Str.empty] := by decide +kernel
  rw [e] at q
  match es, ne, q with
  | x :: r, _, q =>
    have q1 := (List.cons.inj q).1
    have := (ent_len (h.2 x List.mem_cons_self)).2.2
    rw [← q1] at this
    exact absurd this (by decide)
def strOf : PyData → Str
  | .str z => z
  | _ => Str.empty
def entV : PyData → V
  | .tuple ds => .str (Txt.join " " (ds.map strOf))
  | _ => .non
theorem entV_eq (e : List Str) : entV (entD e) = .str (entT e) := by
  show V.str (Txt.join " " ((e.map PyData.str).map strOf)) = .str (Txt.join " " e)
  rw [List.map_map]
  have : strOf ∘ PyData.str = id := rfl
  rw [this, List.map_id]
theorem dp_strs {K : PySem.W.Frag} {H : Hp} : ∀ {xs : List V} {e : List Str}, DpAll K H xs (e.map PyData.str) → xs = e.map V.str
  | [], [], _ => rfl
  | x :: xs, z :: e, h => by
    cases h with
    | cons h1 h2 =>
      cases h1
      rw [List.map_cons, dp_strs h2]
  | [], _ :: _, h => by cases h
  | _ :: _, [], h => by cases h
abbrev rJoin (K : PySem.W.Frag) : V → List V → Hp → VK → Prop := fun x xs H Q => ∃ a p, ∃ ys : List Str, x = .str a ∧ xs = [.ref p] ∧ (SqL K H p (ys.map V.str) ∨ SqT K H p (ys.map V.str)) ∧ (ys.map (·.length)).sum + ys.length * a.length ≤ 16777216 ∧ Q (.str (Txt.join a ys)) H
def spLogText (K : PySem.W.Frag) : Sp := fun vs H Q _ => ∃ (v : V) (es : List (List Str)), vs = [v] ∧ IsLog K H v es ∧ ∀ H', Same H H' → Q (.str (logT es)) H'
def spReadEntry (K : PySem.W.Frag) : Sp := fun vs H Q _ => ∃ (e : List Str) (i : Int), vs = [.str (entT e), .int i] ∧ EntOk e ∧ ∀ H' t, Same H H' → H t = none → H' t = some (.tup (e.map V.str)) → Q (.ref t) H'
def spReadLog (K : PySem.W.Frag) : Sp := fun vs H Q _ => ∃ es : List (List Str), vs = [.str (logT es)] ∧ LogOk es ∧ ∀ H' v, Same H H' → Dp K H' v (.tuple (es.map entD)) → Q v H'
section
open Hd
variable {P : Program} {w : World} {K : PySem.W.Frag} {mg : Str → Option Value} {base : Heap}
theorem scLT : FnScope ["log", "entry"] ["log"] (defScope sLogText) := ⟨rfl, rfl, rfl, by decide +kernel, rfl, by decide +kernel, by decide +kernel⟩
theorem Txt.okLT (T : Txt K mg) : FnOk P w K mg base CX0 4 (He.ga K "log_text") (fdOf K (He.ga K "log_text")) ["log"] (spLogText K) := by
  refine T.logText.F.ok scLT (fun vs H Q E h => ?_) (fun cdv A outer s H vs Q E hr h => ?_)
  · obtain ⟨v, d, rfl, _⟩ := h
    rfl
  · obtain ⟨v, es, rfl, hL, fin⟩ := h
    refine ⟨_, pss_cons (ps_expr (pe_call T.okX hr rfl T.expLog.g T.expLog.F.kp T.expLog.b .nil pass0 (pa_cons (pv 0) pa_nil)))
      (pss_one (ps_ret (pe_join pe_str (pe_lc (own := [("entry", 1)]) (g := gName 1) (tt := tYes) (te := tM1 (rJoin K) (tC (.str " ")) (tVar 1)) (by rfl) scLT.nd (pi_seq (pv 0))
          (blkOk_by (own := [("entry", 1)]) (N := ["log", "entry"]) (sc := defScope sLogText) (by decide +kernel)) (fun _ _ _ _ _ => pg_name (i := 1) scLT.nd rfl (Or.inl rfl)) (fun _ _ _ _ _ => pts_nil)
          (fun _ _ _ _ _ => pe_join pe_str (pv 1)))))), ?_⟩
    refine ⟨_, rfl, _, es, rfl, hL, fun H1 s1 => ?_⟩
    obtain ⟨p, xs, rfl, hs, ha⟩ := (hL.same s1).d
    have few := (log_fine hL.ok).2
    refine ⟨⟨_, rfl⟩, ?_⟩
    refine seq_run rfl hs fun J hJ D un => lc_of_J ((es.map entD).map fun d => some (entV d)) hJ un (turnsData entV ha (by rw [dpAll_len ha]; exact few) fun x d H2 Q2 _ hm hx _ q => ?_) mono_yes fun H2 s2 h2 => ?_
    · obtain ⟨e, he, rfl⟩ := List.mem_map.mp hm
      refine ⟨⟨_, rfl⟩, _, rfl, ?_⟩
      cases hx with
      | tup ht hy =>
        have ey := dp_strs hy
        subst ey
        refine ⟨_, _, e, rfl, rfl, .inr ht, ?_, ?_⟩
        · have h1 := (ent_len (hL.ok.2 e he)).1
          have h2 := (hL.ok.2 e he).hi
          have sp : (" " : Str).length = 1 := by decide +kernel
          rw [sp]
          omega
        · rw [entV_eq] at q
          exact q _ (Same.refl _)
    · rw [outData, List.map_map] at h2
      have e1 : es.map (entV ∘ entD) = (es.map entT).map V.str := by
        rw [List.map_map]
        exact List.map_congr_left fun e _ => entV_eq e
      rw [e1] at h2
      refine ⟨_, D, es.map entT, rfl, rfl, .inl (SqL.of h2), ?_, fin _ (s1.trans s2)⟩
      have h3 := log_len hL.ok.2
      have h4 := hL.ok.1
      have sp : ("; " : Str).length = 2 := by decide +kernel
      rw [sp, List.length_map]
      omega
theorem scRE : FnScope ["part", "at", "entry"] ["part", "at"] (defScope sReadEntry) := ⟨rfl, rfl, rfl, by decide +kernel, rfl, by decide +kernel, by decide +kernel⟩
theorem Txt.okRE (T : Txt K mg) : FnOk P w K mg base CX0 3 (He.ga K "_read_entry") (fdOf K (He.ga K "_read_entry")) ["part", "at"] (spReadEntry K) := by
  refine T.readEntry.F.ok scRE (fun vs H Q E h => ?_) (fun cdv A outer s H vs Q E hr h => ?_)
  · obtain ⟨e, i, rfl, _⟩ := h
    rfl
  · obtain ⟨e, i, rfl, ho, fin⟩ := h
    refine ⟨_, pss_cons (ps_set (i := 2) scRE.nd rfl (Or.inl rfl) (pe_callTy call_tuple_of (by rfl) T.tTuple PyProof.Rows.boot_tuple (pa_cons (pe_split (pv 0) pe_str) pa_nil)))
      (pss_cons (ps_if (pt_not (pt_val (pe_call T.okE hr rfl T.isEntry.g T.isEntry.F.kp T.isEntry.b .nil pass0 (pa_cons (pv 2) pa_nil)))) (pss_one ps_dead) pss_nil)
      (pss_one (ps_ret (pv 2)))), ?_⟩
    have l1 := (ent_len ho).2.1
    refine ⟨_, rfl, ⟨_, rfl⟩, _, _, rfl, rfl, by decide +kernel, Nat.le_trans (Nat.add_le_add_right l1 2) (by decide), fun p up => ?_⟩
    rw [ent_split ho]
    have s1 : Same H (upd H p (.lst (e.map V.str))) := same_new up
    refine ⟨p, _, rfl, .inl ⟨SqL.of upd_same, fun t ut => ?_⟩⟩
    have s2 := s1.trans (same_new (o := .tup (e.map V.str)) ut)
    refine ⟨_, rfl, _, entD e, rfl, .tup (SqT.of upd_same) (strs_data e), ent_fine ho, fun H3 s3 => ⟨_, rfl, ?_⟩⟩
    rw [ent_ok ho]
    exact iteF ⟨_, rfl, fin _ t (s2.trans s3) (s1.free ut) (s3 _ _ upd_same)⟩
end
end K14

set_option Elab.async false
set_option linter.all false
set_option maxRecDepth 100000
set_option maxHeartbeats 1000000
namespace K14
open PySem L2 Lw TL
section
open Hd
variable {P : Program} {w : World} {K : PySem.W.Frag} {mg : Str → Option Value} {base : Heap}
theorem scRL : FnScope ["text", "at", "part"] ["text"] (defScope sReadLog) := ⟨rfl, rfl, rfl, by decide +kernel, rfl, by decide +kernel, by decide +kernel⟩
theorem Txt.okRL (T : Txt K mg) : FnOk P w K mg base CX0 4 (He.ga K "read_log") (fdOf K (He.ga K "read_log")) ["text"] (spReadLog K) := by
  refine T.readLog.F.ok scRL (fun vs H Q E h => ?_) (fun cdv A outer s H vs Q E hr h => ?_)
  · obtain ⟨es, rfl, _⟩ := h
    rfl
  · obtain ⟨es, rfl, ho, fin⟩ := h
    refine ⟨_, pss_cons (ps_if (pt_cmpR op_eq (pv 0) pe_str (nomark _)) (pss_one (ps_ret (pe_tup pa_nil))) pss_nil)
      (pss_one (ps_ret (pe_callTy call_tuple_of (by rfl) T.tTuple PyProof.Rows.boot_tuple (pa_cons (pe_lc (own := [("at", 1), ("part", 2)]) (g := gTup K 2 (gCons (gName 1) (gCons (gName 2) gNil))) (tt := tYes) (te := tCall (spReadEntry K) [] E0 (tCons (tVar 2) (tCons (tVar 1) tNil))) (by rfl) scRL.nd
          (pi_enum (by rfl) T.tEnum (pa_cons (pe_split (pv 0) pe_str) pa_nil))
          (blkOk_by (own := [("at", 1), ("part", 2)]) (N := ["text", "at", "part"]) (sc := defScope sReadLog) (by decide +kernel)) (fun _ _ _ _ _ => pg_tup rfl (pgs_cons (pg_name (i := 1) scRL.nd rfl (.inl rfl)) (pgs_cons (pg_name (i := 2) scRL.nd rfl (.inl rfl)) pgs_nil))) (fun _ _ _ _ _ => pts_nil)
          (fun _ _ _ _ _ => pe_call T.okRE hr rfl T.readEntry.g T.readEntry.F.kp T.readEntry.b .nil pass0 (pa_cons (pv 2) (pa_cons (pv 1) pa_nil)))) pa_nil)))), ?_⟩
    refine ⟨_, rfl, rfl, _, rfl, ?_⟩
    rw [dec_str]
    by_cases ne : es = []
    · subst ne
      rw [logT_nil]
      refine iteT ⟨(by show 0 ≤ sizeLine; decide), fun q uq => ?_⟩
      exact fin _ _ (same_new uq) (.tup (SqT.of upd_same) .nil)
    · rw [show (logT es == Str.ofString "") = false from by
        have z : logT es ≠ Str.ofString "" := logT_ne ho ne
        simpa using z]
      have l1 := logT_len ho
      refine iteF ⟨_, rfl, ⟨_, rfl⟩, _, _, rfl, rfl, by decide +kernel, Nat.le_trans (Nat.add_le_add_right l1 2) (by decide), fun p up => ?_⟩
      rw [log_split ho ne]
      have s1 : Same H (upd H p (.lst ((es.map entT).map V.str))) := same_new up
      refine ⟨p, _, rfl, SqL.of upd_same, fun D un => lc_enum (K := K) (a := p) (xs := (es.map entT).map V.str) (fun i H' => MadeL K (upd H p (.lst ((es.map entT).map V.str))) D ((es.take i).map entD) H') (MadeL.zero un) (fun i H' hv => hv.1.seq (SqL.of upd_same)) ?_ ?_⟩
      · intro i x t H3 hx hv ut
        rw [List.map_map, List.getElem?_map] at hx
        obtain ⟨e, he, rfl⟩ := Option.map_eq_some_iff.mp hx
        have oe := ho.2 e (List.mem_of_getElem? he)
        refine ⟨t, _, rfl, SqT.of upd_same, rfl, _, _, rfl, _, _, rfl, rfl, ?_⟩
        refine ⟨rfl, ?_⟩
        dsimp only [tYes]
        have hv2 := hv.mono (same_new (o := .tup [.int (i : Nat), .str (entT e)]) ut)
        refine iteT ⟨_, rfl, _, rfl, e, i, rfl, oe, fun H4 q s4 uq eq => ?_⟩
        have z := hv2.add (d := entD e) (y := .ref q) un (by rw [List.length_map, List.length_take]; have := ho.1; omega) uq s4 eq (.tup (SqT.of upd_same) (strs_data e))
        rw [show (es.take (i + 1)).map entD = (es.take i).map entD ++ [entD e] from by rw [List.take_add_one, he, List.map_append]; rfl]
        exact z
      · intro H3 hv
        rw [List.length_map, List.length_map, List.take_length] at hv
        obtain ⟨s3, N, acc, sN, nD, hD, ha⟩ := hv
        refine ⟨D, acc, rfl, .inl ⟨SqL.of hD, fun q uq => ?_⟩⟩
        exact fin _ _ ((s1.trans s3).trans (same_new uq)) (.tup (SqT.of upd_same) (dpAll_same (sN.trans (same_new uq)) _ _ ha))
/-! ### a drawn entry -/
def fifteen : List Str := ["a", "yes", "no", "m", "ask", "mark", "end", "note", "drop", "zzzz", "z", "due", "pay", "ok", "x"]
theorem fifteen_ok {z : Str} (h : z ∈ fifteen) : nameOk z = true := by
  have all : ∀ z ∈ fifteen, nameOk z = true := by decide +kernel
  exact all z h
def spAny (K : PySem.W.Frag) : Sp := fun vs H Q _ => ∃ (G : Hp) (d l : Addr), vs = [.ref d] ∧ Deal G H d l ∧ ∀ (G' H' N : Hp) (x : V) (e : List Str), News G H' G' N d l → Dp K N x (entD e) → EntOk e → Q x H'
theorem scAny : FnScope ["_law_deal_here", "_law_some", "_law_k"] ["_law_deal_here"] (defScope sAny) := ⟨rfl, rfl, rfl, by decide +kernel, rfl, by decide +kernel, by decide +kernel⟩
theorem strs_of {K : PySem.W.Frag} {N : Hp} {xs : List V} {ds : List PyData} (h : DpAll K N xs ds) (R : ∀ (j : Nat) (d : PyData), ds[j]? = some d → ∃ z : Str, d = PyData.str z ∧ nameOk z = true) : ∃ zs : List Str, xs = zs.map V.str ∧ ds = zs.map PyData.str ∧ ∀ z ∈ zs, nameOk z = true := by
  have ez : ∃ zs : List Str, ds = zs.map PyData.str ∧ ∀ z ∈ zs, nameOk z = true := by
    clear h
    induction ds with
    | nil => exact ⟨[], rfl, fun z hz => by cases hz⟩
    | cons d r ih =>
      obtain ⟨z, rfl, hz⟩ := R 0 d rfl
      obtain ⟨zs, rfl, h⟩ := ih fun j d e => R (j + 1) d (by simpa using e)
      exact ⟨z :: zs, rfl, fun y hy => by
        rcases List.mem_cons.mp hy with rfl | q
        · exact hz
        · exact h y q⟩
  obtain ⟨zs, rfl, hz⟩ := ez
  exact ⟨zs, dp_strs h, rfl, hz⟩
theorem Txt.okAny (T : Txt K mg) : FnOk P w K mg base CX0 3 (He.ga K "_law_any_entry") (fdOf K (He.ga K "_law_any_entry")) ["_law_deal_here"] (spAny K) := by
  refine T.any.F.ok scAny (fun vs H Q E h => ?_) (fun cdv A outer s H vs Q E hr h => ?_)
  · obtain ⟨G, d, l, rfl, _⟩ := h
    rfl
  · obtain ⟨G, d, l, rfl, D, fin⟩ := h
    have hr1 : Room 1 _ := hr.mono (by decide)
    refine ⟨_, pss_cons (ps_set (i := 1) scAny.nd rfl (Or.inr rfl) (pe_lst (pa_cons pe_str (pa_cons pe_str (pa_cons pe_str (pa_cons pe_str (pa_cons pe_str (pa_cons pe_str (pa_cons pe_str (pa_cons pe_str (pa_cons pe_str (pa_cons pe_str (pa_cons pe_str (pa_cons pe_str (pa_cons pe_str (pa_cons pe_str (pa_cons pe_str pa_nil)))))))))))))))))
      (pss_one (ps_ret (pe_callTy call_tuple_of (by rfl) T.tTuple PyProof.Rows.boot_tuple (pa_cons (pe_lc (own := [("_law_k", 2)]) (g := gName 2) (tt := tYes) (te := tCall (spPick K) [] E0 (tCons (tVar 0) (tCons (tVar 1) tNil))) (by rfl) scAny.nd
          (pi_range1 (by rfl) T.tRange (pa_cons (pe_op op_add pe_int (pe_callTy call_int1 (by rfl) T.tInt PyProof.Rows.boot_int (pa_cons (pe_cmpR op_gt (pe_call T.okDraw hr1 rfl T.draw.g T.draw.F.kp T.draw.b .nil pass0 (pa_cons (pv 0) (pa_cons pe_int pa_nil))) pe_int (nomark _)) pa_nil))) pa_nil))
          (blkOk_by (own := [("_law_k", 2)]) (N := ["_law_deal_here", "_law_some", "_law_k"]) (sc := defScope sAny) (by decide +kernel)) (fun _ _ _ _ _ => pg_name (i := 2) scAny.nd rfl (Or.inl rfl)) (fun _ _ _ _ _ => pts_nil)
          (fun _ _ _ _ _ => pe_call T.okPick hr rfl T.pick.g T.pick.F.kp T.pick.b .nil pass0 (pa_cons (pv 0) (pa_cons (pv 1) pa_nil)))) pa_nil)))), ?_⟩
    refine ⟨(by show 15 ≤ sizeLine; decide), fun t ut => ?_⟩
    have n1 := (News.zero D).put (o := .lst (fifteen.map V.str)) ut
    refine ⟨_, rfl, _, d, l, 3, rfl, n1.dl, by decide, by decide, fun H2 r D2 r0 r1 => ?_⟩
    have n2 := n1.redeal D2
    refine ⟨_, _, rfl, rfl, .inr ⟨_, rfl, _, _, rfl, rfl, ?_⟩⟩
    have two : ∃ k : Nat, (1 : Int) + (if decide (0 < r) = true then 1 else 0) = (k : Int) ∧ 1 ≤ k ∧ k ≤ 2 := by
      by_cases z : 0 < r
      · exact ⟨2, by simp [z], by decide, by decide⟩
      · exact ⟨1, by simp [z], by decide, by decide⟩
    obtain ⟨k, ek, k1, k2⟩ := two
    show ∃ j : Int, _ = _ ∧ _
    refine ⟨(k : Int), congrArg (fun i => [V.int i]) ek, by omega, by omega, fun L uL => ?_⟩
    refine lc_range (lo := 0) (n := (k : Int).toNat) (fun i H' => HP K _ d l L (fun j pd => ∃ z : Str, pd = .str z ∧ nameOk z = true) i H') (HP.zero n2.dl uL) (fun i H3 hi hv => ?_) fun H3 hv => ?_
    · refine ⟨rfl, ?_⟩
      dsimp only [tYes]
      refine iteT (hv.turn (by omega) fun Gx sx Dx Q2 fin2 => ?_)
      refine ⟨_, rfl, _, rfl, Gx, d, l, t, fifteen.map V.str, rfl, Dx, sx.seq (SqL.of upd_same), by simp [fifteen], (by show 15 < 1000; decide), fun H4 x D4 hx => ?_⟩
      obtain ⟨z, hz, rfl⟩ := List.mem_map.mp hx
      exact fin2 _ _ _ _ (.str z) (News.zero D4) (.str z) ⟨z, rfl, fifteen_ok hz⟩
    · rw [Int.toNat_natCast] at hv
      obtain ⟨G', N, xs, pds, nw, hN, ha, len, hR⟩ := hv.done
      obtain ⟨zs, rfl, rfl, hz⟩ := strs_of ha hR
      rw [List.length_map] at len
      refine ⟨L, _, rfl, .inl ⟨SqL.of (nw.inH _ _ hN), fun q uq => ?_⟩⟩
      have n3 := (n2.more nw).put (o := .tup (zs.map V.str)) uq
      exact fin _ _ _ _ zs n3 (.tup (SqT.of upd_same) (strs_data zs)) ⟨by omega, by omega, hz⟩
end
end K14

set_option Elab.async false
set_option linter.all false
set_option maxRecDepth 100000
set_option maxHeartbeats 1000000
namespace Lw
open PySem PySem.Spec PyProof.Rows L2
theorem fun_okG0 {P : Program} {w : World} {K : PySem.W.Frag} {mg : PySem.Str → Option Value} {base : Heap} {x qual : PySem.Str} {st : Stmt} {f : Addr} {fd : FuncData} {N ps : List PySem.Str} {k : Nat} {sp : Sp} (F : Fun K x qual st f fd) (S : FnScope N ps (defScope st)) (len : ∀ vs H Q E, sp vs H Q E → vs.length = ps.length)
    (body : ∀ (cdv : Value) (A : Around) (out : List Env) (s : Shared) (H : Hp) (vs : List V) (Q : VK) (E : XK), Room k (A.deeper (envOfC qual (defScope st) s.heap.objs.size f cdv)) → (A.deeper (envOfC qual (defScope st) s.heap.objs.size f cdv)).guards = some [] → sp vs H Q E →
      ∃ t, PSs (cxOf CX0 P w K mg base N qual (defScope st) f cdv A out s H E).nox (defBody st) t ∧ t { nx := fun _ H' => Q .non H', rt := Q } (start N vs) H) : FnG P w K mg base CX0 (k + 1) f fd ps sp :=
  fun_okG F S len fun cdv A out s H vs Q E room hg h => by
    obtain ⟨t, term, q⟩ := body cdv A out s H vs Q E room hg h
    exact ⟨t, term.nox, q⟩
theorem Deal.on {G H H' : Hp} {d l : Addr} (D : Deal G H d l) (s : Same H H') : Deal G H' d l :=
  ⟨D.same.trans s, D.gd, D.gl, D.ne, let ⟨ns, m, a⟩ := D.it; ⟨ns, m, s _ _ a.hd, s _ _ a.hl, a.len, a.nn, a.m0, a.m1⟩⟩
theorem News.on {G H H' G' N : Hp} {d l : Addr} (n : News G H G' N d l) (s : Same H H') : News G H' G' N d l := n.redeal (n.dl.on s)
end Lw
namespace K14
open PySem L2 Lw TL Hd
theorem ent_lay {e : List Str} (h : EntOk e) : (entD e).canLay0 = true ∧ (entD e).depth = 1 := by
  have hl := strs_lay e fun z hz => name_strOk (h.ok z hz)
  have hd := strs_depth e
  constructor
  · show PyData.canLay0 (.tuple (e.map PyData.str)) = true
    simpa [PyData.canLay0] using hl
  · show PyData.depth (.tuple (e.map PyData.str)) = 1
    simp [PyData.depth, hd]
theorem log_lay : ∀ {es : List (List Str)}, (∀ e ∈ es, EntOk e) → PyData.canLayAll0 (es.map entD) = true ∧ PyData.depthAll (es.map entD) ≤ 1
  | [], _ => by simp [PyData.canLayAll0, PyData.depthAll]
  | e :: r, h => by
    obtain ⟨h1, h2⟩ := ent_lay (h e List.mem_cons_self)
    obtain ⟨h3, h4⟩ := log_lay (es := r) fun x hx => h x (List.mem_cons_of_mem _ hx)
    simp [PyData.canLayAll0, PyData.depthAll, h1, h2, h3]
    omega
theorem log_shaped {es : List (List Str)} (h : LogOk es) : SeqAt.shaped (.list (es.map entD)) = true ∧ SeqAt.shaped (.tuple (es.map entD)) = true := by
  obtain ⟨h1, h2⟩ := log_lay h.2
  constructor
  · simp [SeqAt.shaped, PyData.canLay0, PyData.depth, h1]
    omega
  · simp [SeqAt.shaped, PyData.canLay0, PyData.depth, h1]
    omega
theorem strs_show : ∀ zs : List Str, PyData.showableAll (zs.map PyData.str) = true ∧ PyData.intsShortAll 13 (zs.map PyData.str) = true
  | [] => by simp [PyData.showableAll, PyData.intsShortAll]
  | z :: r => by
    obtain ⟨h1, h2⟩ := strs_show r
    simp [PyData.showableAll, PyData.intsShortAll, PyData.showable, PyData.intsShort, h1, h2]
theorem log_showA : ∀ es : List (List Str), PyData.showableAll (es.map entD) = true ∧ PyData.intsShortAll 13 (es.map entD) = true
  | [] => by simp [PyData.showableAll, PyData.intsShortAll]
  | e :: r => by
    obtain ⟨h1, h2⟩ := log_showA r
    obtain ⟨h3, h4⟩ := strs_show e
    simp [PyData.showableAll, PyData.intsShortAll, entD, PyData.showable, PyData.intsShort, h3, h4]
    exact ⟨h1, h2⟩
theorem strs_weight : ∀ {e : List Str}, (∀ z ∈ e, z.length ≤ 4) → PyData.weightAll (e.map PyData.str) ≤ 5 * e.length
  | [], _ => by simp [PyData.weightAll]
  | z :: r, h => by
    have h1 := strs_weight (e := r) fun x hx => h x (List.mem_cons_of_mem _ hx)
    have h2 : z.cps.size ≤ 4 := h z List.mem_cons_self
    simp [PyData.weightAll, PyData.weight]
    omega
theorem log_weight : ∀ {es : List (List Str)}, (∀ e ∈ es, EntOk e) → PyData.weightAll (es.map entD) ≤ 11 * es.length
  | [], _ => by simp [PyData.weightAll]
  | e :: r, h => by
    have h1 := log_weight (es := r) fun x hx => h x (List.mem_cons_of_mem _ hx)
    have he := h e List.mem_cons_self
    have h2 := strs_weight (e := e) fun z hz => (name_facts (he.ok z hz)).2.1
    have h3 := he.hi
    simp [PyData.weightAll, entD, PyData.weight]
    omega
theorem log_shown {es : List (List Str)} (h : LogOk es) : (PyData.tuple (es.map entD)).showable = true ∧ (PyData.tuple (es.map entD)).hasDict = false ∧ (PyData.tuple (es.map entD)).depth ≤ 40 ∧ (PyData.tuple (es.map entD)).shown.length ≤ sizeLine := by
  obtain ⟨h1, h2⟩ := log_lay h.2
  obtain ⟨h3, h4⟩ := log_showA es
  have lay : (PyData.tuple (es.map entD)).canLay0 = true := by simp [PyData.canLay0, h1]
  refine ⟨by simp [PyData.showable, h3], PyData.hasDict_of_canLay _ lay, by simp [PyData.depth]; omega, ?_⟩
  refine PyData.shown_fits (B := 13) (by decide) (by decide) (PyData.leavesShort_of_canLay0 13 _ lay (by simp [PyData.intsShort, h4])) ?_
  have h5 := log_weight h.2
  have h6 := h.1
  simp [PyData.weight]
  omega
theorem logs_of {pds : List PyData} (R : ∀ (j : Nat) (d : PyData), pds[j]? = some d → ∃ e, EntOk e ∧ d = entD e) : ∃ es : List (List Str), pds = es.map entD ∧ ∀ e ∈ es, EntOk e := by
  induction pds with
  | nil => exact ⟨[], rfl, fun e he => by cases he⟩
  | cons d r ih =>
    obtain ⟨e, he, rfl⟩ := R 0 d rfl
    obtain ⟨es, rfl, h⟩ := ih fun j d e => R (j + 1) d (by simpa using e)
    exact ⟨e :: es, rfl, fun y hy => by
      rcases List.mem_cons.mp hy with rfl | q
      · exact he
      · exact h y q⟩
def Kept (pd : PyData) : Prop := ∃ es, LogOk es ∧ pd = .tuple [.str (logT es), .tuple (es.map entD)]
def spLaw (K : PySem.W.Frag) : Sp := fun vs H Q _ => ∃ (sa : Addr) (ns : List Int), vs = [.ref sa] ∧ SqL K H sa (ns.map V.int) ∧ ns.length ≤ 63 ∧ ∀ H', Q (.bl true) H'
section
variable {P : Program} {w : World} {K : PySem.W.Frag} {mg : Str → Option Value} {base : Heap}
abbrev nLaw : List Str := ["_law_script", "_law_deal_here", "_law_kept", "_law_turn", "_law_some", "_law_due", "_law_given", "_law_k", "_law_entry"]
theorem scLaw : FnScope nLaw ["_law_script"] (defScope sLaw) := ⟨rfl, rfl, rfl, by decide +kernel, rfl, by decide +kernel, by decide +kernel⟩
theorem Txt.okLaw (T : Txt K mg) : FnG P w K mg base CX0 5 (He.ga K "law") (fdOf K (He.ga K "law")) ["_law_script"] (spLaw K) := by
  refine fun_okG0 T.law.F scLaw (fun vs H Q E h => ?_) (fun cdv A outer s H vs Q E hr hg h => ?_)
  · obtain ⟨sa, ns, rfl, _⟩ := h
    rfl
  · obtain ⟨sa, ns, rfl, hS, hlen, fin⟩ := h
    have hr1 : Room 1 _ := hr.mono (by decide)
    have hr2 : Room 2 _ := hr.mono (by decide)
    have hr3 : Room 3 _ := hr.mono (by decide)
    have hu := hr.units
    refine ⟨_, pss_cons (ps_set (i := 1) scLaw.nd rfl (Or.inr rfl) (pe_call T.okDeal hr1 rfl T.deal.g T.deal.F.kp T.deal.b .nil pass0 (pa_cons (pv 0) (pa_cons pe_int pa_nil))))
      (pss_cons (ps_set (i := 2) scLaw.nd rfl (Or.inl rfl) (pe_lst pa_nil))
      (pss_cons (ps_for PassesOwn.never rfl (pi_range1 rfl T.tRange (pa_cons pe_int pa_nil)) (pg_name (i := 3) scLaw.nd rfl (Or.inl rfl))
        (pss_cons (ps_setLc (i := 4) (own := [("_law_k", 7)]) (g := gName 7) (tt := tYes) (te := tCall (spAny K) [] E0 (tCons (tVar 1) tNil)) (by rfl) scLaw.nd rfl rfl (sw_true rfl rfl rfl (by decide +kernel))
            (pi_range1 (by rfl) T.tRange (pa_cons (pe_call T.okPick hr2 rfl T.pick.g T.pick.F.kp T.pick.b .nil pass0 (pa_cons (pv 1) (pa_cons (pe_lst (pa_cons pe_int (pa_cons pe_int (pa_cons pe_int (pa_cons pe_int (pa_cons pe_int pa_nil)))))) pa_nil))) pa_nil))
            (blkOk_by (own := [("_law_k", 7)]) (N := nLaw) (sc := defScope sLaw) (by decide +kernel)) (fun _ _ _ _ _ => pg_name (i := 7) scLaw.nd rfl (Or.inl rfl)) (fun _ _ _ _ _ => pts_nil)
            (fun _ _ _ _ _ => pe_call T.okAny hr3 rfl T.any.g T.any.F.kp T.any.b .nil pass0 (pa_cons (pv 1) pa_nil)))
        (pss_cons (ps_set (i := 5) scLaw.nd rfl (Or.inl rfl) (pe_join pe_str (pe_lc (own := [("_law_entry", 8)]) (g := gName 8) (tt := tYes) (te := tM1 (rJoin K) (tC (.str " ")) (tVar 8)) (by rfl) scLaw.nd (pi_list (pv 4))
            (blkOk_by (own := [("_law_entry", 8)]) (N := nLaw) (sc := defScope sLaw) (by decide +kernel)) (fun _ _ _ _ _ => pg_name (i := 8) scLaw.nd rfl (Or.inl rfl)) (fun _ _ _ _ _ => pts_nil) (fun _ _ _ _ _ => pe_join pe_str (pv 8)))))
        (pss_cons (ps_set (i := 6) scLaw.nd rfl (Or.inl rfl) (pe_callTy call_list_of (by rfl) T.tList PyProof.Rows.boot_list (pa_cons (pv 4) pa_nil)))
        (pss_cons (ps_if (PW.pt (pw_or (pt_cmpR op_ne (pe_call T.okLT hr rfl T.logText.g T.logText.F.kp T.logText.b .nil pass0 (pa_cons (pv 6) pa_nil)) (pv 5) (nomark _))
            (pw_or (pt_cmpR op_ne (pe_call T.okLT hr rfl T.logText.g T.logText.F.kp T.logText.b .nil pass0 (pa_cons (pe_callTy call_tuple_of (by rfl) T.tTuple PyProof.Rows.boot_tuple (pa_cons (pv 4) pa_nil)) pa_nil)) (pv 5) (nomark _))
            (pw_or1 (pt_cmpR (op_neD hu) (pv 6) (pv 4) (nomark _)))))) (pss_one (ps_ret pe_bl)) pss_nil)
        (pss_cons (ps_if (pt_cmpR op_ne (pe_callB (call_repr hg hu) (by rfl) T.tRepr (by decide +kernel) (pa_cons (pe_call T.okRL hr rfl T.readLog.g T.readLog.F.kp T.readLog.b .nil pass0 (pa_cons (pv 5) pa_nil)) pa_nil))
            (pe_callB (call_repr hg hu) (by rfl) T.tRepr (by decide +kernel) (pa_cons (pe_callTy call_tuple_of (by rfl) T.tTuple PyProof.Rows.boot_tuple (pa_cons (pv 4) pa_nil)) pa_nil)) (nomark _)) (pss_one (ps_ret pe_bl)) pss_nil)
        (pss_one (ps_expr (pe_bm PySem.F.plainAttrs_list PySem.F.slot_list_append PySem.F.type_list_append mt_append (pv 2) (pa_cons (pe_tup (pa_cons (pv 5) (pa_cons (pe_callTy call_tuple_of (by rfl) T.tTuple PyProof.Rows.boot_tuple (pa_cons (pv 4) pa_nil)) pa_nil))) pa_nil))))))))))
      (pss_cons (ps_for PassesOwn.never rfl (pi_list (pv 2)) (pg_tup rfl (pgs_cons (pg_name (i := 5) scLaw.nd rfl (.inl rfl)) (pgs_cons (pg_name (i := 4) scLaw.nd rfl (.inl rfl)) pgs_nil)))
        (pss_one (ps_if (PW.pt (pw_or (pt_cmpR (op_neD hu) (pe_call T.okRL hr rfl T.readLog.g T.readLog.F.kp T.readLog.b .nil pass0 (pa_cons (pv 5) pa_nil)) (pv 4) (nomark _))
            (pw_or1 (pt_cmpR op_ne (pe_call T.okLT hr rfl T.logText.g T.logText.F.kp T.logText.b .nil pass0 (pa_cons (pe_call T.okRL hr rfl T.readLog.g T.readLog.F.kp T.readLog.b .nil pass0 (pa_cons (pv 5) pa_nil)) pa_nil)) (pv 5) (nomark _))))) (pss_one (ps_ret pe_bl)) pss_nil)))
      (pss_one (ps_ret (pe_and (pe_cmpR (op_eqD hu) (pe_call T.okRL hr rfl T.readLog.g T.readLog.F.kp T.readLog.b .nil pass0 (pa_cons pe_str pa_nil)) (pe_tup pa_nil) (nomark _))
        (pe_and (pe_cmpR op_eq (pe_call T.okLT hr rfl T.logText.g T.logText.F.kp T.logText.b .nil pass0 (pa_cons (pe_tup pa_nil) pa_nil)) pe_str (nomark _))
        (pe_one (pe_cmpR (op_eqD hu) (pe_call T.okRL hr rfl T.readLog.g T.readLog.F.kp T.readLog.b .nil pass0 (pa_cons pe_str pa_nil)) (pe_tup (pa_cons (pe_tup (pa_cons pe_str pa_nil)) pa_nil)) (nomark _)))))))))), ?_⟩
    refine ⟨_, rfl, sa, ns, 0, rfl, hS, hlen, by decide, by decide, fun H0 d l D0 => ?_⟩
    refine ⟨(by show 0 ≤ sizeLine; decide), fun kd ukd => ?_⟩
    dsimp only [gName]
    refine seq_cut (fun σ1 H1 => ∃ x3 x4 x5 x6, σ1 = [some (.ref sa), some (.ref d), some (.ref kd), x3, x4, x5, x6, none, none] ∧ HP K H d l kd (fun _ pd => Kept pd) 6 H1) ?after fun after => ?loop
    case loop =>
      refine ⟨6, rfl, by decide, by decide, for_range (n := 6) (fun i σ1 H1 => ∃ x3 x4 x5 x6, σ1 = [some (.ref sa), some (.ref d), some (.ref kd), x3, x4, x5, x6, none, none] ∧ HP K H d l kd (fun _ pd => Kept pd) i H1) ⟨_, _, _, _, rfl, HP.zero D0 ukd⟩ ?_ (fun σ1 H1 q => after σ1 H1 q)⟩
      rintro i _ H1 hi ⟨x3, x4, x5, x6, rfl, hv⟩
      obtain ⟨Gx, sx, Dx, ⟨ac, hac⟩, cont⟩ := hv.open_ (by omega)
      clear hv
      refine ⟨_, rfl, (by show 5 ≤ sizeLine; decide), fun t ut => ?_⟩
      have n1 := (News.zero Dx).put (o := .lst [.int 0, .int 1, .int 2, .int 5, .int 30]) ut
      refine ⟨_, d, l, t, [.int 0, .int 1, .int 2, .int 5, .int 30], rfl, n1.dl, SqL.of upd_same, by simp, (by show 5 < 1000; decide), fun H2 x D2 hx => ?_⟩
      have n2 := n1.redeal D2
      have small : ∃ m : Nat, x = .int (m : Int) ∧ m ≤ 30 := by
        simp only [List.mem_cons, List.not_mem_nil, or_false] at hx
        rcases hx with rfl | rfl | rfl | rfl | rfl
        · exact ⟨0, rfl, by decide⟩
        · exact ⟨1, rfl, by decide⟩
        · exact ⟨2, rfl, by decide⟩
        · exact ⟨5, rfl, by decide⟩
        · exact ⟨30, rfl, by decide⟩
      obtain ⟨m, rfl, m30⟩ := small
      refine ⟨(m : Int), rfl, by omega, by omega, fun L uL => ?_⟩
      refine lc_range (lo := 0) (n := (m : Int).toNat) (fun i H' => HP K _ d l L (fun _ pd => ∃ e, EntOk e ∧ pd = entD e) i H') (HP.zero n2.dl uL) (fun i H3 hi hv => ?_) fun H3 hv => ?_
      · refine ⟨rfl, ?_⟩
        dsimp only [tYes]
        refine iteT (hv.turn (by omega) fun Gy sy Dy Q2 fin2 => ?_)
        exact ⟨_, rfl, Gy, d, l, rfl, Dy, fun G' H' N x e nw he oe => fin2 _ _ _ _ _ nw he ⟨e, oe, rfl⟩⟩
      · rw [Int.toNat_natCast] at hv
        obtain ⟨G3, N3, xs, pds, nw, hN, ha, len, hR⟩ := hv.done
        clear hv
        obtain ⟨es, rfl, oes⟩ := logs_of hR
        have les : es.length = m := by rw [← len, dpAll_len ha, List.length_map]
        have hL : LogOk es := ⟨by omega, oes⟩
        have n3 := n2.more nw
        have hq : SqL K H3 L xs := SqL.of (nw.inH _ _ hN)
        have hd : DpAll K H3 xs (es.map entD) := dpAll_same nw.inH _ _ ha
        have xl : xs.length ≤ 30 := by omega
        -- due
        refine ⟨⟨_, rfl⟩, _, rfl, L, rfl, ⟨_, hq⟩, fun D un => ?_⟩
        refine lc_of_list ((es.map entD).map fun d => some (entV d)) hq un (turnsData entV hd (by omega) fun x d H4 Q2 _ hm hx _ q => ?_) mono_yes fun H4 s4 h4 => ?_
        · obtain ⟨e, he, rfl⟩ := List.mem_map.mp hm
          refine ⟨⟨_, rfl⟩, _, rfl, ?_⟩
          cases hx with
          | tup ht hy =>
            have ey := dp_strs hy
            subst ey
            refine ⟨_, _, e, rfl, rfl, .inr ht, ?_, ?_⟩
            · have h1 := (ent_len (hL.2 e he)).1
              have h2 := (hL.2 e he).hi
              have sp : (" " : Str).length = 1 := by decide +kernel
              rw [sp]
              omega
            · rw [entV_eq] at q
              exact q _ (Same.refl _)
        rw [outData, List.map_map] at h4
        have e1 : es.map (entV ∘ entD) = (es.map entT).map V.str := by
          rw [List.map_map]
          exact List.map_congr_left fun e _ => entV_eq e
        rw [e1] at h4
        refine ⟨_, D, es.map entT, rfl, rfl, .inl (SqL.of h4), ?_, ?_⟩
        · have h3 := log_len hL.2
          have sp : ("; " : Str).length = 2 := by decide +kernel
          rw [sp, List.length_map]
          omega
        -- given
        refine ⟨_, rfl, L, xs, rfl, .inl (s4.seq hq), fun g ug => ?_⟩
        have s5 := s4.trans (same_new (o := .lst xs) ug)
        have il : IsLog K H3 (.ref L) es := ⟨hL, L, xs, rfl, .inl hq, hd⟩
        have gq : SqL K (upd H4 g (.lst xs)) g xs := SqL.of upd_same
        have ig : IsLog K (upd H4 g (.lst xs)) (.ref g) es := ⟨hL, g, xs, rfl, .inl (SqL.of upd_same), dpAll_same s5 _ _ hd⟩
        generalize upd H4 g (.lst xs) = H5 at s5 ig gq
        obtain ⟨sh1, sh2⟩ := log_shaped hL
        refine ⟨_, rfl, .ref g, es, rfl, ig, fun H6 s6 => ⟨_, rfl, rfl, _, rfl, iteNS rfl ?_⟩⟩
        have s56 := s5.trans s6
        refine ⟨_, rfl, L, xs, rfl, .inl ⟨s56.seq hq, fun q1 u1 => ?_⟩⟩
        have s57 := s56.trans (same_new (o := .tup xs) u1)
        refine ⟨.ref q1, es, rfl, ⟨hL, q1, xs, rfl, .inr (SqT.of upd_same), dpAll_same s57 _ _ hd⟩, fun H8 s8 => ⟨_, rfl, rfl, _, rfl, iteNS rfl ?_⟩⟩
        have s58 := s57.trans s8
        have gq8 := ((s6.trans (same_new (o := .tup xs) u1)).trans s8).seq gq
        -- given, some
        refine ⟨_, rfl, _, rfl, .list (es.map entD), .list (es.map entD), .lst gq8 (dpAll_same s58 _ _ hd), .lst (s58.seq hq) (dpAll_same s58 _ _ hd), sh1, sh1, _, rfl, ?_⟩
        rw [eqvSelf _ (by rw [fine, (log_fine hL).1, Bool.and_true]; exact decide_eq_true (log_fine hL).2)]
        refine iteF ?_
        -- repr
        obtain ⟨w1, w2, w3, w4⟩ := log_shown hL
        refine ⟨_, rfl, es, rfl, hL, fun H9 v s9 hv9 => ⟨v, _, rfl, hv9, w1, w2, w3, w4, ?_⟩⟩
        have s59 := s58.trans s9
        refine ⟨_, rfl, L, xs, rfl, .inl ⟨s59.seq hq, fun q2 u2 => ?_⟩⟩
        have s510 := s59.trans (same_new (o := .tup xs) u2)
        refine ⟨_, _, rfl, .tup (SqT.of upd_same) (dpAll_same s510 _ _ hd), w1, w2, w3, w4, rfl, _, rfl, iteNS rfl ?_⟩
        generalize upd H9 q2 (.tup xs) = H10 at s510
        -- kept
        have n10 := n3.on s510
        refine ⟨_, rfl, .inl ⟨rfl, _, SqL.of (n10.dl.same _ _ (n10.kp _ _ hac))⟩, ?_⟩
        refine ⟨_, rfl, _, rfl, L, xs, rfl, .inl ⟨s510.seq hq, fun q3 u3 => ⟨(by show 2 ≤ sizeLine; decide), fun q4 u4 => ?_⟩⟩⟩
        have n11 := n10.put (o := .tup xs) u3
        have n12 := n11.put (o := .tup [.str (logT es), .ref q3]) u4
        have keep := n11.stay (o := .tup [.str (logT es), .ref q3]) u4
        have ha12 := dpAll_same (((n1.right nw).trans (n10.stay (o := .tup xs) u3)).trans keep) _ _ ha
        obtain ⟨acc, hacc, few, hv2⟩ := cont _ _ _ (.ref q4) (.tuple [.str (logT es), .tuple (es.map entD)]) n12 (.tup (SqT.of upd_same) (.cons (.str _) (.cons (.tup (SqT.of (keep _ _ upd_same)) ha12) .nil))) ⟨es, hL, rfl⟩
        exact ⟨kd, _, _, rfl, rfl, hacc, few, _, _, _, _, rfl, hv2⟩
    case after =>
      rintro _ H1 ⟨x3, x4, x5, x6, rfl, hv⟩
      obtain ⟨G', N, xs, pds, nw, hN, ha, len, hR⟩ := hv.done
      clear hv
      refine seq_cut (fun σ2 H2 => True) ?after2 fun after2 => ?loop2
      case loop2 =>
        refine ⟨_, rfl, kd, rfl, ⟨_, SqL.of (nw.inH _ _ hN)⟩, for_list (K := K) (a := kd) (xs := xs) (fun i σ2 H2 => ∃ x3 x4 x5 x6, σ2 = [some (.ref sa), some (.ref d), some (.ref kd), x3, x4, x5, x6, none, none] ∧ Same H1 H2) ⟨_, _, _, _, rfl, Same.refl _⟩
          (fun i σ2 H2 _ ⟨_, _, _, _, _, s⟩ => s.seq (SqL.of (nw.inH _ _ hN))) ?_ (fun σ2 H2 _ => after2 σ2 H2 trivial)⟩
        rintro j x _ H2 hx ⟨y3, y4, y5, y6, rfl, s2⟩
        obtain ⟨dx, edx, hdx⟩ := dpAll_at ha hx
        obtain ⟨es, hL, rfl⟩ := hR j dx edx
        have hdx2 := dp_same (nw.inH.trans s2) _ _ hdx
        cases hdx2 with
        | tup ht hp =>
          cases hp with
          | cons hp1 hp =>
            cases hp1
            cases hp with
            | cons hp2 hp =>
              cases hp
              obtain ⟨sh1, sh2⟩ := log_shaped hL
              refine ⟨_, _, rfl, ht, rfl, ?_⟩
              refine ⟨_, _, rfl, _, _, rfl, rfl, ?_⟩
              refine ⟨_, rfl, es, rfl, hL, fun H3 v s3 hv3 => ⟨_, rfl, _, _, hv3, dp_same s3 _ _ hp2, sh2, sh2, _, rfl, ?_⟩⟩
              rw [eqvSelf _ (by rw [fine, (log_fine hL).1, Bool.and_true]; exact decide_eq_true (log_fine hL).2)]
              refine iteF ⟨_, rfl, es, rfl, hL, fun H4 v4 s4 hv4 => ?_⟩
              have il : IsLog K H4 v4 es := by
                cases hv4 with
                | tup h1 h2 => exact ⟨hL, _, _, rfl, .inr h1, h2⟩
              exact ⟨v4, es, rfl, il, fun H5 s5 => ⟨_, rfl, rfl, _, rfl, iteNS rfl ⟨_, _, _, _, rfl, ((s2.trans s3).trans s4).trans s5⟩⟩⟩
      case after2 =>
        rintro σ2 H2 _
        have no : LogOk [] := ⟨by decide, fun e he => by cases he⟩
        have one : LogOk [["m"]] := ⟨by decide, fun e he => by
          obtain rfl := List.mem_singleton.mp he
          exact ⟨by decide, by decide, fun z hz => by
            obtain rfl := List.mem_singleton.mp hz
            decide +kernel⟩⟩
        refine ⟨[], by rw [logT_nil]; rfl, no, fun H3 v s3 hv3 => ⟨(by show 0 ≤ sizeLine; decide), fun q uq => ?_⟩⟩
        refine ⟨_, .tuple [], dp_same (same_new uq) _ _ hv3, .tup (SqT.of upd_same) .nil, by decide +kernel, by decide +kernel, _, rfl, ?_⟩
        rw [show PyData.eqv (.tuple (([] : List (List Str)).map entD)) (.tuple []) = true from eqvSelf (.tuple []) (by decide +kernel)]
        refine iteT ⟨(by show 0 ≤ sizeLine; decide), fun q2 uq2 => ⟨.ref q2, [], rfl, ⟨no, q2, [], rfl, .inr (SqT.of upd_same), .nil⟩, fun H4 s4 => ⟨rfl, _, rfl, ?_⟩⟩⟩
        rw [show decide (V.str (logT []) = V.str "") = true from by rw [logT_nil]; rfl]
        refine iteT ⟨[["m"]], by decide +kernel, one, fun H5 v5 s5 hv5 => ?_⟩
        refine ⟨(by show 1 ≤ sizeLine; decide), fun t1 u1 => ⟨(by show 1 ≤ sizeLine; decide), fun t2 u2 => ?_⟩⟩
        have k1 : Same H5 (upd H5 t1 (.tup [.str "m"])) := same_new u1
        have k2 : Same (upd H5 t1 (.tup [.str "m"])) (upd (upd H5 t1 (.tup [.str "m"])) t2 (.tup [.ref t1])) := same_new u2
        refine ⟨_, .tuple [.tuple [.str "m"]], dp_same (k1.trans k2) _ _ hv5, .tup (SqT.of upd_same) (.cons (.tup (SqT.of (k2 _ _ upd_same)) (.cons (.str _) .nil)) .nil), by decide +kernel, by decide +kernel, ?_⟩
        rw [show PyData.eqv (.tuple (([["m"]] : List (List Str)).map entD)) (.tuple [.tuple [.str "m"]]) = true from eqvSelf (.tuple [.tuple [.str "m"]]) (by decide +kernel)]
        exact fin _
end
end K14

set_option Elab.async false
set_option linter.all false
set_option maxRecDepth 100000
set_option maxHeartbeats 0
/-! The head of k14: what the top leaves, told by names. -/
namespace K14
open PySem PySem.Spec PyProof.Rows L2 Lw Hd
def fns : List He.DefD := [fnTop "is_name" sIsName, fnTop "log_text" sLogText, fnTop "read_log" sReadLog, fnTop "expect_log" sExpLog, fnTop "_is_entry" sIsEntry, fnTop "_read_entry" sReadEntry, fnTop "_law_deal" sDeal, fnTop "_law_draw" sDraw, fnTop "_law_pick" sPick, fnTop "_law_any_entry" sAny, fnTop "law" sLaw]
def glos : List PySem.Str := ["is_name", "log_text", "read_log", "expect_log", "_is_entry", "_read_entry", "_law_deal", "_law_draw", "_law_pick", "_law_any_entry", "law"]
def frees_ : List PySem.Str := ["str", "int", "abs", "len", "all", "isinstance", "tuple", "list", "range", "enumerate", "repr"]
def fas : List He.Fa := .str "_LETTERS" abc :: (glos.map He.Fa.glo ++ frees_.map He.Fa.free)
def reach (g : Addr → Option Obj) : List Addr := PySem.cStatics :: He.asD g 5
def obM (g : Addr → Option Obj) : He.AlD × Bool := (He.obsD fas fns (He.frG g (reach g)), true)
def hk : PySem.W.Hook where
  α := He.AlD × Bool
  obs := fun s => obM s.heap.get?
  val := fun _ => (He.valD fns, true)
  says := fun _ h => ∃ K : PySem.W.Frag, K.In h ∧ He.SaysD fas fns K
  of := fun _ _ e => ⟨_, He.frG_in, congrArg Prod.fst e⟩
  keeps := fun _ _ _ ⟨K, hK, c⟩ k => ⟨K, PySem.W.Frag.In.keeps hK k, c⟩
def ob (s : PySem.W.SharedT) : He.AlD × Bool := obM (HandSHeadRun.getT s)
theorem ob_eq (s : PySem.W.SharedT) : ob s = hk.obs s.abs := by
  have e : HandSHeadRun.getT s = s.abs.heap.get? := funext (HandSHeadRun.getT_eq s)
  show obM _ = obM _
  rw [e]
abbrev R : PySem.W.OpenRow := PySem.W.OpenLaw.row PySem.Challenge.rw_elderlogs_k14_logs_and_their_texts
def others : List PySem.Str := ["LogError", "InvalidText", "InvalidLog", "_LETTERS", "is_name", "log_text", "read_log", "expect_log", "_is_entry", "_read_entry", "_law_deal", "_law_draw", "_law_pick", "_law_any_entry"]
theorem run (w : World) : HandSHeadRun.RunEq R (PySem.W.view R.prog [18]) hk ob 8000 others w := by
  intro os
  kernel_rfl
theorem in_glo {x : PySem.Str} (h : x ∈ glos) : He.Fa.glo x ∈ fas := List.mem_cons_of_mem _ (List.mem_append_left _ (List.mem_map_of_mem h))
theorem in_free {x : PySem.Str} (h : x ∈ frees_) : He.Fa.free x ∈ fas := List.mem_cons_of_mem _ (List.mem_append_right _ (List.mem_map_of_mem h))
section
variable {K : PySem.W.Frag} {h : Heap} {mg : PySem.Str → Option Value}
theorem free_of (X : K.In h) (G : h.Ns mainGlobals mg) (c : He.SaysD fas fns K) (i : Nat) {x : PySem.Str} (e : frees_[i]? = some x) : mg x = none := free_mem X G c (in_free (List.mem_of_getElem? e))
theorem top_of (X : K.In h) (G : h.Ns mainGlobals mg) (c : He.SaysD fas fns K) (i : Nat) {x : PySem.Str} {st : Stmt} {ps : List PySem.Str} (e1 : fns[i]? = some (fnTop x st)) (e2 : glos[i]? = some x)
    (hb : ∀ (kV doc pm : Value) (an : Option Addr) (cdv ct : Value) (us : List Value), us.length = ps.length → bindArgs (PySem.W.fnOf x x (defArgs st) (defBody st) (defScope st) .none kV doc pm an cdv ct) ⟨us, []⟩ = pure (ps.zip us)) : Top K mg x st ps :=
  top_mem X G c (List.mem_of_getElem? e1) (in_glo (List.mem_of_getElem? e2)) hb
theorem facts {P : Program} {w : World} {f : Addr} (X : K.In h) (G : h.Ns mainGlobals mg) (hfa : mg ("law" : PySem.Str) = some (.ref f)) (c : He.SaysD fas fns K) :
    ∃ fd : FuncData, (∀ (s : Shared) (v : Value), BindsTo s fd ⟨[v], []⟩ [("_law_script", v)]) ∧ ∀ base : Heap, K.In base → base.Ns mainGlobals mg → FnG P w K mg base CX0 5 f fd ["_law_script"] (spLaw K) := by
  have T : Txt K mg := {
    tStr := free_of X G c 0 rfl, tInt := free_of X G c 1 rfl, tAbs := free_of X G c 2 rfl, tLen := free_of X G c 3 rfl, tAll := free_of X G c 4 rfl, tIs := free_of X G c 5 rfl
    tTuple := free_of X G c 6 rfl, tList := free_of X G c 7 rfl, tRange := free_of X G c 8 rfl, tEnum := free_of X G c 9 rfl, tRepr := free_of X G c 10 rfl
    abc := He.str_ok X G (c.fact 0 (f := .str "_LETTERS" abc) rfl)
    isName := top_of X G c 0 rfl rfl fun _ _ _ _ _ _ us hl => match us, hl with | [_], _ => rfl
    logText := top_of X G c 1 rfl rfl fun _ _ _ _ _ _ us hl => match us, hl with | [_], _ => rfl
    readLog := top_of X G c 2 rfl rfl fun _ _ _ _ _ _ us hl => match us, hl with | [_], _ => rfl
    expLog := top_of X G c 3 rfl rfl fun _ _ _ _ _ _ us hl => match us, hl with | [_], _ => rfl
    isEntry := top_of X G c 4 rfl rfl fun _ _ _ _ _ _ us hl => match us, hl with | [_], _ => rfl
    readEntry := top_of X G c 5 rfl rfl fun _ _ _ _ _ _ us hl => match us, hl with | [_, _], _ => rfl
    deal := top_of X G c 6 rfl rfl fun _ _ _ _ _ _ us hl => match us, hl with | [_, _], _ => rfl
    draw := top_of X G c 7 rfl rfl fun _ _ _ _ _ _ us hl => match us, hl with | [_, _], _ => rfl
    pick := top_of X G c 8 rfl rfl fun _ _ _ _ _ _ us hl => match us, hl with | [_, _], _ => rfl
    any := top_of X G c 9 rfl rfl fun _ _ _ _ _ _ us hl => match us, hl with | [_], _ => rfl
    law := top_of X G c 10 rfl rfl fun _ _ _ _ _ _ us hl => match us, hl with | [_], _ => rfl }
  have e := hfa.symm.trans T.law.g
  cases e
  refine ⟨fdOf K (He.ga K "law"), fun s v => ?_, fun base _ _ => T.okLaw⟩
  obtain ⟨oc, od, kV, doc, pm, an, cdv, ct, osl, e, _, _⟩ := T.law.F.ex
  rw [e]
  exact .of_eq rfl
end
end K14
open PySem PySem.W PySem.Calls PyProof.Rows
theorem PySem.Challenge.cw_elderlogs_k14_logs_and_their_texts_holds : PySem.Challenge.rw_elderlogs_k14_logs_and_their_texts.Holds := by
  w_on; o_law
  refine HandSHeadRun.head_any (r := OpenLaw.row PySem.Challenge.rw_elderlogs_k14_logs_and_their_texts) (q := view (OpenLaw.row PySem.Challenge.rw_elderlogs_k14_logs_and_their_texts).prog [18]) (H := K14.hk) (ob := K14.ob) (M := 8000) (loose := K14.others) (d := HandSHeadRun.topDef (OpenLaw.row PySem.Challenge.rw_elderlogs_k14_logs_and_their_texts).prog 18) (kwd := []) K14.ob_eq
    (by kernel_rfl) (fun s => by kernel_rfl) K14.run (by kernel_rfl) (by kernel_rfl) (by kernel_rfl) (by rfl) (by first | assumption | decide +kernel) (by decide +kernel) ⟨rfl, rfl, rfl, rfl, rfl, by decide +kernel⟩ ?hw ?hc
  case hw => w_witness2
  case hc =>
    refine Lw.walk_ofG (l := PySem.Challenge.rw_elderlogs_k14_logs_and_their_texts) (n := 63) (k := 5) (x := "_law_script") rfl (by decide) (by kernel_rfl) ⟨rfl, by decide, by decide⟩ ?F
    intro w mg fa h Y G hmg0
    obtain ⟨K, KX, c⟩ := Y
    have hmg : mg ("law" : PySem.Str) = some (.ref fa) := by
      have e : (HandSHeadRun.topDef (OpenLaw.row PySem.Challenge.rw_elderlogs_k14_logs_and_their_texts).prog 18).name = ("law" : PySem.Str) := by kernel_rfl
      rw [← e]
      exact hmg0
    obtain ⟨fd, hb, hF⟩ := K14.facts (P := (PySem.Challenge.rw_elderlogs_k14_logs_and_their_texts).prog) (w := w) KX G hmg c
    exact ⟨K, fd, K14.spLaw K, KX, hb, fun H a ns hl hS => ⟨a, ns, rfl, hS, hl, fun _ => rfl⟩, hF⟩


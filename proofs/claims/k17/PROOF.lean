import PyProof.Rows.All
import Wide.All
import OpenK.AllK
import Wide.FinOn
import HandS.ForMost
import HandS.ForExc
import HandS.IsInst
import HandS.ClsMeth
import HandS.ExcInit
import HandS.ExcField
import KE.KExcIs
import HandS.ExcIs
import HandS.Style
import PySem.Challenge.RW_elderlogs_k17_logs_played
import HandS.SetKeys
import HandS.Strs
import HandS.SetBool
import PyProof.IsiHeapPairs
import HandS.Text
import HandS.Star
import HandS.RaiseMore
import KE.GoesMore
import KE.GoesEnum
import HandS.HeadEnd
import PyProof.ReprRoads
import HandS.Defaults
import KE.KCallOwn
import HandS.Zip
import KE.KStateDown
import HandS.Head0
import HandS.Head1
import HandS.Head2
import HandS.HeadHook1
import HandS.HeadHook2
import HandS.Set
import HandS.SetTxt0
import HandS.More
import PyProof.Rows.SortStr
import PyProof.Rows.SortShellK
import HandS.DictComp
import HandS.Dict
import HandS.Rev
import PyProof.LetGo
import PyProof.SliceSyntax
import KE.KDictZip
import HandS.OwnIter
import KE.GoesEnumKw
import HandS.CallLocal
import KE.SortData
import HandS.HeadNt
import PyProof.Rows.StrMeet
import HandS.TupAny
import HandS.Small
import HandS.Walk
set_option Elab.async false
set_option linter.all false
set_option maxRecDepth 100000
set_option maxHeartbeats 4000000
/-! What the laws' own helpers draw from; data. -/
namespace Lw
open PySem L2
/-! ### data -/
theorem ints_data {K : PySem.W.Frag} {H : Hp} : ∀ ns : List Int, DpAll K H (ns.map V.int) (ns.map PyData.int)
  | [] => .nil
  | n :: ns => .cons (.int n) (ints_data ns)
theorem ints_lay : ∀ ns : List Int, PyData.canLayAll0 (ns.map PyData.int) = true
  | [] => by simp [PyData.canLayAll0]
  | n :: ns => by simp [PyData.canLayAll0, PyData.canLay0, ints_lay ns]
theorem ints_depth : ∀ ns : List Int, PyData.depthAll (ns.map PyData.int) = 0
  | [] => by simp [PyData.depthAll]
  | n :: ns => by simp [PyData.depthAll, PyData.depth, ints_depth ns]
theorem ints_shaped (ns : List Int) : SeqAt.shaped (.list (ns.map PyData.int)) = true := by
  simp [SeqAt.shaped, PyData.canLay0, PyData.depth, ints_lay, ints_depth]
theorem nil_shaped : SeqAt.shaped (.list []) = true := by simp [SeqAt.shaped, PyData.canLay0, PyData.depth, PyData.canLayAll0, PyData.depthAll]
theorem eqv_nil (ds : List PyData) : PyData.eqv (.list ds) (.list []) = ds.isEmpty := by
  cases ds <;> simp [PyData.eqv, PyData.eqvAll]

/-! ### a deal: great numbers to draw from, and a mixed one -/
/-- at d the deal, its list ns at l, its mixed number m -/
structure At (H : Hp) (d l : Addr) (ns : List Int) (m : Int) : Prop where
  hd : H d = some (.lst [.ref l, .int m])
  hl : H l = some (.lst (ns.map V.int))
  len : ns.length ≤ 63
  nn : ∀ n ∈ ns, 0 ≤ n
  m0 : 0 ≤ m
  m1 : m < 2147483647
/-- H is G and a deal -/
structure Deal (G H : Hp) (d l : Addr) : Prop where
  same : Same G H
  gd : G d = none
  gl : G l = none
  ne : l ≠ d
  it : ∃ ns m, At H d l ns m
theorem Deal.put {G H : Hp} {d l : Addr} (D : Deal G H d l) {p : Addr} {o : HO} (h : H p = none) : Deal (upd G p o) (upd H p o) d l := by
  obtain ⟨ns, m, h1, h2, r1, r2, r3, r4⟩ := D.it
  have nd : d ≠ p := ne_of_none h1 h
  have nl : l ≠ p := ne_of_none h2 h
  refine ⟨fun b u e => ?_, by rw [upd_ne nd]; exact D.gd, by rw [upd_ne nl]; exact D.gl, D.ne, ns, m, by rw [upd_ne nd]; exact h1, by rw [upd_ne nl]; exact h2, r1, r2, r3, r4⟩
  by_cases q : b = p
  · subst q
    rw [upd_same] at e ⊢
    exact e
  · rw [upd_ne q] at e ⊢
    exact D.same b u e
/-- something new beside it -/
theorem At.put {H : Hp} {d l : Addr} {ns : List Int} {m : Int} (a : At H d l ns m) {p : Addr} {o : HO} (h : H p = none) : At (upd H p o) d l ns m :=
  ⟨by rw [upd_ne (ne_of_none a.hd h)]; exact a.hd, by rw [upd_ne (ne_of_none a.hl h)]; exact a.hl, a.len, a.nn, a.m0, a.m1⟩
theorem Deal.more {G H : Hp} {d l : Addr} (D : Deal G H d l) {p : Addr} {o : HO} (h : H p = none) : Deal G (upd H p o) d l :=
  ⟨fun b u e => by rw [upd_ne (ne_of_none (D.same b u e) h)]; exact D.same b u e, D.gd, D.gl, D.ne, let ⟨ns, m, a⟩ := D.it; ⟨ns, m, a.put h⟩⟩
/-- only the deal's own two lists change -/
theorem Deal.set {G H : Hp} {d l : Addr} (D : Deal G H d l) {H' : Hp} {ns : List Int} {m : Int} (k : ∀ b, b ≠ d → b ≠ l → H' b = H b) (a : At H' d l ns m) : Deal G H' d l :=
  ⟨fun b u e => by
    have nd : b ≠ d := fun z => by rw [z, D.gd] at e; cases e
    have nl : b ≠ l := fun z => by rw [z, D.gl] at e; cases e
    rw [k b nd nl]; exact D.same b u e, D.gd, D.gl, D.ne, ns, m, a⟩
/-- its list is another -/
theorem Deal.list {G H : Hp} {d l : Addr} {ns ns' : List Int} {m : Int} (D : Deal G H d l) (a : At H d l ns m) (h1 : ns'.length ≤ 63) (h2 : ∀ n ∈ ns', 0 ≤ n) : Deal G (upd H l (.lst (ns'.map V.int))) d l ∧ At (upd H l (.lst (ns'.map V.int))) d l ns' m := by
  have a' : At (upd H l (.lst (ns'.map V.int))) d l ns' m := ⟨by rw [upd_ne D.ne.symm]; exact a.hd, upd_same, h1, h2, a.m0, a.m1⟩
  exact ⟨D.set (fun b _ hb => upd_ne hb) a', a'⟩
/-- its mixed number is another -/
theorem Deal.mix {G H : Hp} {d l : Addr} {ns : List Int} {m m' : Int} (D : Deal G H d l) (a : At H d l ns m) (h1 : 0 ≤ m') (h2 : m' < 2147483647) : Deal G (upd H d (.lst [.ref l, .int m'])) d l ∧ At (upd H d (.lst [.ref l, .int m'])) d l ns m' := by
  have a' : At (upd H d (.lst [.ref l, .int m'])) d l ns m' := ⟨upd_same, by rw [upd_ne D.ne]; exact a.hl, a.len, a.nn, h1, h2⟩
  exact ⟨D.set (fun b hb _ => upd_ne hb) a', a'⟩
/-- the promise of a draw below k -/
def spDraw : Sp := fun vs H Q _ => ∃ (G : Hp) (d l : Addr) (k : Int), vs = [.ref d, .int k] ∧ Deal G H d l ∧ 0 < k ∧ k < 1000000 ∧ ∀ (H' : Hp) (r : Int), Deal G H' d l → 0 ≤ r → r < k → Q (.int r) H'

/-- what follows a statement, shown once -/
theorem seq_cut {t rest : TS} {D : Ends} {σ : St} {H : Hp} (Post : St → Hp → Prop) (after : ∀ σ1 H1, Post σ1 H1 → rest D σ1 H1) (go : (∀ σ1 H1, Post σ1 H1 → rest D σ1 H1) → t { D with nx := rest D } σ H) : tSeq t rest D σ H := go after

theorem at0 {a b : V} : atI [a, b] 0 = some a := rfl
theorem at1 {a b : V} : atI [a, b] 1 = some b := rfl
theorem set0 : ixN 2 0 = some 0 := rfl
theorem set1 : ixN 2 1 = some 1 := rfl
theorem split_end {ns : List Int} (h : ns ≠ []) : ∃ r n, ns = r ++ [n] := ⟨ns.dropLast, ns.getLast h, (List.dropLast_concat_getLast h).symm⟩
theorem at_end (r : List Int) (n : Int) : atI ((r ++ [n]).map V.int) (-1) = some (.int n) := by
  rw [List.map_append]
  exact atI_last _ _
theorem get_end (r : List Int) (n : Int) : ((r ++ [n]).map V.int)[((r ++ [n]).map V.int).length - 1]? = some (.int n) := by simp
theorem drop_end (r : List Int) (n : Int) : ((r ++ [n]).map V.int).dropLast = r.map V.int := by simp

/-! ### comprehensions whose turns leave what stood -/
/-- what a turn adds -/
def outOf (out : List (Option V)) : List V := out.filterMap id
theorem outOf_take {out : List (Option V)} {j : Nat} {o : Option V} (h : out[j]? = some o) : outOf (out.take (j + 1)) = outOf (out.take j) ++ o.toList := by
  unfold outOf
  rw [List.take_add_one, h, List.filterMap_append]
  cases o <;> rfl
theorem outOf_len (out : List (Option V)) : (outOf out).length ≤ out.length := List.length_filterMap_le _ _
/-- a turn: the test, then the element -/
structure Turns (H1 : Hp) (i : Nat) (σ : L2.St) (xs : List V) (out : List (Option V)) (tt : TT) (te : TE) : Prop where
  len : out.length = xs.length
  few : xs.length ≤ 100000
  keep : ∀ (j : Nat) (x y : V) (H : Hp) (Q : VK), xs[j]? = some x → out[j]? = some (some y) → Same H1 H → (∀ H', Same H H' → Q y H') → tt (σ.set i (some x)) H fun b H3 => b = true ∧ Same H H3 ∧ te (σ.set i (some x)) H3 Q
  drop : ∀ (j : Nat) (x : V) (H : Hp), xs[j]? = some x → out[j]? = some none → Same H1 H → tt (σ.set i (some x)) H fun b H3 => b = false ∧ Same H H3
/-- a test's reading grows with what is wanted -/
def MonoT (tt : TT) : Prop := ∀ σ H (Q Q' : Bool → Hp → Prop), (∀ b H1, Q b H1 → Q' b H1) → tt σ H Q → tt σ H Q'
theorem mono_yes : MonoT tYes := fun _ _ _ _ f h => f _ _ h
theorem turn_core {H1 H : Hp} {D : Addr} {i : Nat} {σ : L2.St} {xs : List V} {out : List (Option V)} {tt : TT} {te : TE} (T : Turns H1 i (σ.set i none) xs out tt te) (mono : MonoT tt) {j : Nat} {x : V} (hx : xs[j]? = some x)
    (s1 : Same H1 H) (hD : H D = some (.lst (outOf (out.take j)))) (un : H1 D = none) {Nx : Hp → Prop} (fin : ∀ H', Same H1 H' → H' D = some (.lst (outOf (out.take (j + 1)))) → Nx H') :
    gName i x (wipe σ [i]) H fun σ2 H2 => wipe σ2 [i] = wipe σ [i] ∧ tt σ2 H2 fun b H3 => if b = true then te σ2 H3 fun y H4 => ∃ acc, H4 D = some (.lst acc) ∧ acc.length < sizeLine ∧ Nx (upd H4 D (.lst (acc ++ [y]))) else Nx H3 := by
  refine ⟨by simp [wipe], ?_⟩
  show tt ((σ.set i none).set i (some x)) H _
  have hj : j < out.length := by rw [T.len]; exact (List.getElem?_eq_some_iff.mp hx).1
  have ho : out[j]? = some out[j] := List.getElem?_eq_getElem hj
  cases e : out[j] with
  | none =>
    rw [e] at ho
    refine mono _ _ _ _ (fun b H3 ⟨eb, s3⟩ => ?_) (T.drop j x H hx ho s1)
    subst eb
    refine iteF (fin H3 (s1.trans s3) ?_)
    rw [outOf_take ho, Option.toList_none, List.append_nil]
    exact s3 _ _ hD
  | some y =>
    rw [e] at ho
    refine mono _ _ _ _ ?_ (T.keep j x y H (fun y H4 => ∃ acc, H4 D = some (.lst acc) ∧ acc.length < sizeLine ∧ Nx (upd H4 D (.lst (acc ++ [y])))) hx ho s1 ?_)
    · rintro b H3 ⟨eb, s3, q⟩
      subst eb
      exact iteT q
    · intro H4 s4
      refine ⟨_, s4 _ _ hD, ?_, fin _ (fun b o eb => ?_) ?_⟩
      · have := outOf_len (out.take j)
        rw [List.length_take] at this
        have l2 := T.few
        have l3 := T.len
        have : (outOf (out.take j)).length ≤ 100000 := by omega
        exact Nat.lt_of_le_of_lt this (by decide)
      · rw [upd_ne (ne_of_none eb un)]
        exact s4 _ _ (s1 _ _ eb)
      · rw [upd_same, outOf_take ho]
        rfl
theorem same_new {H : Hp} {p : Addr} {o : HO} (un : H p = none) : Same H (upd H p o) := fun b u e => by rw [upd_ne (ne_of_none e un)]; exact e
theorem outOf_zero (out : List (Option V)) : outOf (out.take 0) = [] := by simp [outOf]
/-- over a list -/
theorem lc_of_list {K : PySem.W.Frag} {a : Addr} {H1 : Hp} {D : Addr} {i : Nat} {σ : L2.St} {xs : List V} (out : List (Option V)) {tt : TT} {te : TE} {Qd : Hp → Prop} (hl : SqL K H1 a xs) (un : H1 D = none) (T : Turns H1 i (σ.set i none) xs out tt te) (mono : MonoT tt)
    (fin : ∀ H', Same H1 H' → H' D = some (.lst (outOf out)) → Qd H') :
    ∃ W : Nat → Nat → Hp → Prop, (∃ m, W 0 m (upd H1 D (.lst []))) ∧ ∀ i' m H, W i' m H →
      ((Itl K a).stop i' H ∧ Qd H) ∨ ((Itl K a).go i' H ∧ ∃ Nx : Hp → Prop, (∀ H', Nx H' → ∃ m', m' < m ∧ W (i' + 1) m' H') ∧ ∀ x H', (Itl K a).yld i' H x H' → gName i x (wipe σ [i]) H' fun σ2 H2 => wipe σ2 [i] = wipe σ [i] ∧ tt σ2 H2 fun b H3 =>
        if b = true then te σ2 H3 fun y H4 => ∃ acc, H4 D = some (.lst acc) ∧ acc.length < sizeLine ∧ Nx (upd H4 D (.lst (acc ++ [y]))) else Nx H3) := by
  refine lc_list (K := K) (a := a) (xs := xs) (fun j H => Same H1 H ∧ H D = some (.lst (outOf (out.take j)))) ⟨same_new un, by rw [upd_same, outOf_zero]⟩ (fun j H _ q => q.1.seq hl) (fun j x H hx q => ?_) fun H q => fin H q.1 ?_
  · exact turn_core T mono hx q.1 q.2 un fun H' a b => ⟨a, b⟩
  · have q2 := q.2
    rw [← T.len, List.take_length] at q2
    exact q2
theorem same_tup {K : PySem.W.Frag} {H H' : Hp} {a : Addr} {xs : List V} (e : Same H H') (h : SqT K H a xs) : SqT K H' a xs := by
  rcases h with (h | ⟨o, h⟩) | h
  · exact .inl (.inl (e _ _ h))
  · exact .inl (.inr ⟨o, e _ _ h⟩)
  · exact .inr h
/-- over a tuple -/
theorem lc_of_tup {K : PySem.W.Frag} {a : Addr} {H1 : Hp} {D : Addr} {i : Nat} {σ : L2.St} {xs : List V} (out : List (Option V)) {tt : TT} {te : TE} {Qd : Hp → Prop} (hl : SqT K H1 a xs) (un : H1 D = none) (T : Turns H1 i (σ.set i none) xs out tt te) (mono : MonoT tt)
    (fin : ∀ H', Same H1 H' → H' D = some (.lst (outOf out)) → Qd H') :
    ∃ W : Nat → Nat → Hp → Prop, (∃ m, W 0 m (upd H1 D (.lst []))) ∧ ∀ i' m H, W i' m H →
      ((Itt K a).stop i' H ∧ Qd H) ∨ ((Itt K a).go i' H ∧ ∃ Nx : Hp → Prop, (∀ H', Nx H' → ∃ m', m' < m ∧ W (i' + 1) m' H') ∧ ∀ x H', (Itt K a).yld i' H x H' → gName i x (wipe σ [i]) H' fun σ2 H2 => wipe σ2 [i] = wipe σ [i] ∧ tt σ2 H2 fun b H3 =>
        if b = true then te σ2 H3 fun y H4 => ∃ acc, H4 D = some (.lst acc) ∧ acc.length < sizeLine ∧ Nx (upd H4 D (.lst (acc ++ [y]))) else Nx H3) := by
  refine lc_tup (K := K) (a := a) (xs := xs) (fun j H => Same H1 H ∧ H D = some (.lst (outOf (out.take j)))) ⟨same_new un, by rw [upd_same, outOf_zero]⟩ (fun j H _ q => same_tup q.1 hl) (fun j x H hx q => ?_) fun H q => fin H q.1 ?_
  · exact turn_core T mono hx q.1 q.2 un fun H' a b => ⟨a, b⟩
  · have q2 := q.2
    rw [← T.len, List.take_length] at q2
    exact q2
theorem outOf_some (ys : List V) : outOf (ys.map some) = ys := by simp [outOf]
theorem out_map (f : V → V) : ∀ xs : List V, outOf (xs.map fun x => some (f x)) = xs.map f
  | [] => rfl
  | x :: r => by
    have ih := out_map f r
    unfold outOf at ih ⊢
    rw [List.map_cons, List.map_cons, List.filterMap_cons]
    exact congrArg _ ih
/-- no test -/
theorem turns_map {H1 : Hp} {i : Nat} {σ : L2.St} {xs : List V} (f : V → V) {te : TE} (few : xs.length ≤ 100000)
    (el : ∀ x H (Q : VK), x ∈ xs → Same H1 H → (∀ H', Same H H' → Q (f x) H') → te (σ.set i (some x)) H Q) : Turns H1 i σ xs (xs.map fun x => some (f x)) tYes te where
  len := by simp
  few := few
  keep := fun j x y H Q hx hy s1 q => by
    rw [List.getElem?_map, hx] at hy
    simp only [Option.map_some, Option.some.injEq] at hy
    subst hy
    exact ⟨rfl, Same.refl H, el x H Q (List.mem_of_getElem? hx) s1 q⟩
  drop := fun j x H hx hy _ => by
    rw [List.getElem?_map, hx] at hy
    cases hy

/-! ### readings grow with what is wanted -/
def MonoE (t : TE) : Prop := ∀ σ H (Q Q' : VK), (∀ v H1, Q v H1 → Q' v H1) → t σ H Q → t σ H Q'
def MonoR (r : R2) : Prop := ∀ x y H (Q Q' : VK), (∀ v H1, Q v H1 → Q' v H1) → r x y H Q → r x y H Q'
theorem mono_var {i : Nat} : MonoE (tVar i) := fun _ _ _ _ f ⟨v, e, q⟩ => ⟨v, e, f _ _ q⟩
theorem mono_c {v : V} : MonoE (tC v) := fun _ _ _ _ f q => f _ _ q
theorem mono_op {r : R2} {ta tb : TE} (hr : MonoR r) (ha : MonoE ta) (hb : MonoE tb) : MonoE (tOp r ta tb) := fun σ H Q Q' f q => ha _ _ _ _ (fun x H1 q1 => hb _ _ _ _ (fun y H2 q2 => hr _ _ _ _ _ f q2) q1) q
theorem mono_rI {C : Int → Int → Prop} {g : Int → Int → V} : MonoR (rI C g) := fun _ _ _ _ _ f ⟨i, j, e1, e2, c, q⟩ => ⟨i, j, e1, e2, c, f _ _ q⟩
theorem mono_rI0 {g : Int → Int → V} : MonoR (rI0 g) := fun _ _ _ _ _ f ⟨i, j, e1, e2, q⟩ => ⟨i, j, e1, e2, f _ _ q⟩
theorem mono_rEq : MonoR rEq := fun _ _ _ _ _ f ⟨e, q⟩ => ⟨e, f _ _ q⟩
theorem mono_rNe : MonoR rNe := fun _ _ _ _ _ f ⟨e, q⟩ => ⟨e, f _ _ q⟩
theorem mono_test {t : TE} (h : MonoE t) : MonoT (tTest t) := fun _ _ _ _ f q => h _ _ _ _ (fun _ _ ⟨k, e, q1⟩ => ⟨k, e, f _ _ q1⟩) q
theorem mono_tB {t : TE} (h : MonoE t) : MonoT (tB t) := fun _ _ _ _ f q => h _ _ _ _ (fun _ _ ⟨k, e, q1⟩ => ⟨k, e, f _ _ q1⟩) q

/-! ### a deal's making, a pick -/
def mag (i : Int) : Int := if i < 0 then -i else i
theorem mag_nn (i : Int) : 0 ≤ mag i := by unfold mag; split <;> omega
theorem cut_ints (ns : List Int) (lo hi : Option Int) : ∃ ms : List Int, cutV (ns.map V.int) lo hi = ms.map V.int ∧ ms.length ≤ ns.length := by
  refine ⟨(ns.drop (HT.sIx ns.length 0 lo)).take (HT.sIx ns.length ns.length hi - HT.sIx ns.length 0 lo), ?_, ?_⟩
  · unfold cutV
    rw [List.length_map, List.map_take, List.map_drop]
  · rw [List.length_take, List.length_drop]
    omega
theorem mem_ints {x : V} {ns : List Int} (h : x ∈ ns.map V.int) : ∃ n, n ∈ ns ∧ x = V.int n := by
  obtain ⟨n, hn, e⟩ := List.mem_map.mp h
  exact ⟨n, hn, e.symm⟩
/-- a deal that is made: b a number from 0 on -/
def spDeal (K : PySem.W.Frag) : Sp := fun vs H Q _ => ∃ (a : Addr) (ns : List Int) (b : Int), vs = [.ref a, .int b] ∧ SqL K H a (ns.map V.int) ∧ ns.length ≤ 63 ∧ 0 ≤ b ∧ b < 1000 ∧
  ∀ (H' : Hp) (d l : Addr), Deal H H' d l → Q (.ref d) H'
/-- one of these, a list or a tuple of at least one -/
def spPick (K : PySem.W.Frag) : Sp := fun vs H Q _ => ∃ (G : Hp) (d l a : Addr) (xs : List V), vs = [.ref d, .ref a] ∧ Deal G H d l ∧ SqL K G a xs ∧ xs ≠ [] ∧ xs.length < 1000 ∧ ∀ (H' : Hp) (x : V), Deal G H' d l → x ∈ xs → Q x H'
theorem at_int {xs : List V} {r : Int} (h0 : 0 ≤ r) (h1 : r < xs.length) : ∃ x, x ∈ xs ∧ atI xs r = some x := by
  have h : r.toNat < xs.length := by omega
  refine ⟨xs[r.toNat], List.getElem_mem h, ?_⟩
  have q := atI_nat (List.getElem?_eq_getElem h)
  rwa [Int.toNat_of_nonneg h0] at q
def magV : V → V
  | .int i => .int (mag i)
  | v => v
theorem magV_map (ms : List Int) : (ms.map V.int).map magV = (ms.map mag).map V.int := by
  rw [List.map_map, List.map_map]; rfl
def bigV : V → Option V
  | .int i => if decide ((10 : Int) ^ (18 : Int).toNat ≤ i) = true then some (.int i) else none
  | _ => none
theorem big_out (ms : List Int) : outOf ((ms.map V.int).map bigV) = (ms.filter fun i => decide ((10 : Int) ^ (18 : Int).toNat ≤ i)).map V.int := by
  unfold outOf
  induction ms with
  | nil => rfl
  | cons m r ih =>
    rw [List.map_cons, List.map_cons, List.filterMap_cons, List.filter_cons]
    by_cases h : decide ((10 : Int) ^ (18 : Int).toNat ≤ m) = true
    · have e : bigV (.int m) = some (.int m) := if_pos h
      rw [if_pos h, List.map_cons, e]
      exact congrArg _ ih
    · have e : bigV (.int m) = none := if_neg h
      rw [if_neg h, e]
      exact ih

/-! ### data: what stands stays; its type -/
mutual
theorem dp_same {K : PySem.W.Frag} {H H' : Hp} (e : Same H H') : ∀ (d : PyData) (v : V), Dp K H v d → Dp K H' v d
  | .none, _, h => by cases h; exact .non
  | .bool b, _, h => by cases h; exact .bl b
  | .int i, _, h => by cases h; exact .int i
  | .str x, _, h => by cases h; exact .str x
  | .list ds, _, h => by
    cases h with
    | lst h1 h2 => exact .lst (e.seq h1) (dpAll_same e ds _ h2)
  | .tuple ds, _, h => by
    cases h with
    | tup h1 h2 => exact .tup (same_tup e h1) (dpAll_same e ds _ h2)
  | .dict _, _, h => by cases h
theorem dpAll_same {K : PySem.W.Frag} {H H' : Hp} (e : Same H H') : ∀ (ds : List PyData) (vs : List V), DpAll K H vs ds → DpAll K H' vs ds
  | [], _, h => by cases h; exact .nil
  | d :: ds, _, h => by
    cases h with
    | cons h1 h2 => exact .cons (dp_same e d _ h1) (dpAll_same e ds _ h2)
end
theorem dpAll_len {K : PySem.W.Frag} {H : Hp} : ∀ {vs : List V} {ds : List PyData}, DpAll K H vs ds → vs.length = ds.length
  | _, _, .nil => rfl
  | _, _, .cons _ t => congrArg (· + 1) (dpAll_len t)
theorem dpAll_at {K : PySem.W.Frag} {H : Hp} : ∀ {vs : List V} {ds : List PyData} {i : Nat} {v : V}, DpAll K H vs ds → vs[i]? = some v → ∃ d, ds[i]? = some d ∧ Dp K H v d
  | _, _, _, _, .nil, e => by simp at e
  | _, _, 0, _, .cons h _, e => by
    have e' := Option.some.inj e
    subst e'
    exact ⟨_, rfl, h⟩
  | _, _, i + 1, _, .cons _ t, e => dpAll_at (i := i) t (by simpa using e)
theorem dpAll_mem {K : PySem.W.Frag} {H : Hp} {vs : List V} {ds : List PyData} {v : V} (h : DpAll K H vs ds) (m : v ∈ vs) : ∃ d, d ∈ ds ∧ Dp K H v d := by
  obtain ⟨i, hi⟩ := List.getElem?_of_mem m
  obtain ⟨d, e, q⟩ := dpAll_at h hi
  exact ⟨d, List.mem_of_getElem? e, q⟩
def tyD : PyData → String
  | .none => "NoneType" | .bool _ => "bool" | .int _ => "int" | .str _ => "str" | .list _ => "list" | .tuple _ => "tuple" | .dict _ => "dict"
theorem ty_data {K : PySem.W.Frag} {H : Hp} {v : V} {d : PyData} (h : Dp K H v d) : TyX K H v (.type (tyD d)) := by
  cases h with
  | non => exact .base .non
  | bl b => exact .base (.bl b)
  | int i => exact .base (.int i)
  | str x => exact .base (.str x)
  | lst hs _ =>
    rcases hs with (hs | ⟨o, hs⟩) | ⟨o, _, _, hs, hc, _⟩
    · exact .base (.lst hs)
    · exact .base (.frz hs)
    · exact .kList hs hc
  | tup hs _ =>
    rcases hs with (hs | ⟨o, hs⟩) | ⟨o, _, _, hs, hc, _⟩
    · exact .base (.tup hs)
    · exact .fTuple hs
    · exact .kTuple hs hc
def isStr : PyData → Bool | .str _ => true | _ => false
def isTup : PyData → Bool | .tuple _ => true | _ => false
def isSeq : PyData → Bool | .list _ => true | .tuple _ => true | _ => false
theorem kit_str {K : PySem.W.Frag} {d : PyData} (h : ∀ kvs, d ≠ .dict kvs) : PySem.W.kitOne K (.type (tyD d)) (.type "str") = some (isStr d) := by
  cases d with
  | dict kvs => exact absurd rfl (h kvs)
  | _ => exact kit_ty (by dsimp only [tyD, isStr, isTup]; decide +kernel)
theorem kit_tup {K : PySem.W.Frag} {d : PyData} (h : ∀ kvs, d ≠ .dict kvs) : PySem.W.kitOne K (.type (tyD d)) (.type "tuple") = some (isTup d) := by
  cases d with
  | dict kvs => exact absurd rfl (h kvs)
  | _ => exact kit_ty (by dsimp only [tyD, isStr, isTup]; decide +kernel)
theorem kit_seq {K : PySem.W.Frag} {d : PyData} (h : ∀ kvs, d ≠ .dict kvs) : PySem.W.kitAny K (.type (tyD d)) [.type "list", .type "tuple"] = some (isSeq d) := by
  cases d with
  | dict kvs => exact absurd rfl (h kvs)
  | list _ => exact kitAny_cons (b := true) (kit_ty (by dsimp only [tyD, isStr, isTup]; decide +kernel)) (fun z => nomatch z) (fun _ => rfl)
  | tuple _ => exact kitAny_cons (b := false) (kit_ty (by dsimp only [tyD, isStr, isTup]; decide +kernel)) (fun _ => kitAny_cons (b := true) (kit_ty (by dsimp only [tyD, isStr, isTup]; decide +kernel)) (fun z => nomatch z) (fun _ => rfl)) (fun z => nomatch z)
  | _ => exact kitAny_cons (b := false) (kit_ty (by dsimp only [tyD, isStr, isTup]; decide +kernel)) (fun _ => kitAny_cons (b := false) (kit_ty (by dsimp only [tyD, isStr, isTup]; decide +kernel)) (fun _ => kitAny_nil) (fun z => nomatch z)) (fun z => nomatch z)
theorem no_dict {K : PySem.W.Frag} {H : Hp} {v : V} {d : PyData} (h : Dp K H v d) : ∀ kvs, d ≠ .dict kvs := fun kvs z => by
  subst z
  cases h

mutual
/-- no dict in it, no long text, no long list -/
def fine : PyData → Bool
  | .str x => decide (x.length ≤ 1000) && PyData.strOk x
  | .list ds => decide (ds.length ≤ 1000) && fineAll ds
  | .tuple ds => decide (ds.length ≤ 1000) && fineAll ds
  | .dict _ => false
  | .none => true
  | .bool _ => true
  | .int _ => true
def fineAll : List PyData → Bool
  | [] => true
  | d :: ds => fine d && fineAll ds
end
theorem fineAll_mem : ∀ {ds : List PyData} {d : PyData}, fineAll ds = true → d ∈ ds → fine d = true
  | e :: ds, d, h, m => by
    have h' : (fine e && fineAll ds) = true := by rw [fineAll] at h; exact h
    obtain ⟨h1, h2⟩ := Bool.and_eq_true_iff.mp h'
    rcases List.mem_cons.mp m with q | q
    · rw [q]; exact h1
    · exact fineAll_mem h2 q

theorem fine_str {z : Str} (h : fine (.str z) = true) : z.length ≤ 1000 ∧ PyData.strOk z = true := by
  rw [fine] at h
  obtain ⟨h1, h2⟩ := Bool.and_eq_true_iff.mp h
  exact ⟨of_decide_eq_true h1, h2⟩
theorem strs_lay : ∀ zs : List Str, (∀ z ∈ zs, PyData.strOk z = true) → PyData.canLayAll0 (zs.map PyData.str) = true
  | [], _ => by simp [PyData.canLayAll0]
  | z :: r, h => by
    have h1 := h z List.mem_cons_self
    have h2 := strs_lay r fun y hy => h y (List.mem_cons_of_mem _ hy)
    simp [PyData.canLayAll0, PyData.canLay0, h1, h2]
theorem strs_depth : ∀ zs : List Str, PyData.depthAll (zs.map PyData.str) = 0
  | [] => by simp [PyData.depthAll]
  | z :: r => by simp [PyData.depthAll, PyData.depth, strs_depth r]
theorem strs_shaped {zs : List Str} (h : ∀ z ∈ zs, PyData.strOk z = true) : SeqAt.shaped (.list (zs.map PyData.str)) = true := by
  simp [SeqAt.shaped, PyData.canLay0, PyData.depth, strs_lay zs h, strs_depth]
theorem strs_data {K : PySem.W.Frag} {H : Hp} : ∀ zs : List Str, DpAll K H (zs.map V.str) (zs.map PyData.str)
  | [] => .nil
  | z :: r => .cons (.str z) (strs_data r)

/-! ### a comprehension over a text -/
abbrev signsOf (z : Str) : List V := z.cps.toList.map fun c => V.str ⟨#[c]⟩
theorem lc_of_str {z : Str} {H1 : Hp} {D : Addr} {i : Nat} {σ : L2.St} (out : List (Option V)) {tt : TT} {te : TE} {Qd : Hp → Prop} (un : H1 D = none) (T : Turns H1 i (σ.set i none) (signsOf z) out tt te) (mono : MonoT tt)
    (fin : ∀ H', Same H1 H' → H' D = some (.lst (outOf out)) → Qd H') :
    ∃ W : Nat → Nat → Hp → Prop, (∃ m, W 0 m (upd H1 D (.lst []))) ∧ ∀ i' m H, W i' m H →
      ((Its z).stop i' H ∧ Qd H) ∨ ((Its z).go i' H ∧ ∃ Nx : Hp → Prop, (∀ H', Nx H' → ∃ m', m' < m ∧ W (i' + 1) m' H') ∧ ∀ x H', (Its z).yld i' H x H' → gName i x (wipe σ [i]) H' fun σ2 H2 => wipe σ2 [i] = wipe σ [i] ∧ tt σ2 H2 fun b H3 =>
        if b = true then te σ2 H3 fun y H4 => ∃ acc, H4 D = some (.lst acc) ∧ acc.length < sizeLine ∧ Nx (upd H4 D (.lst (acc ++ [y]))) else Nx H3) := by
  refine ⟨fun j m H => m = z.cps.size - j ∧ j ≤ z.cps.size ∧ Same H1 H ∧ H D = some (.lst (outOf (out.take j))), ⟨z.cps.size, rfl, Nat.zero_le _, same_new un, by rw [upd_same, outOf_zero]⟩, ?_⟩
  rintro j m H ⟨rfl, hj, s1, hD⟩
  have ol : out.length = z.cps.size := by rw [T.len, List.length_map, Array.length_toList]
  by_cases lt : j < z.cps.size
  · refine .inr ⟨lt, fun H' => Same H1 H' ∧ H' D = some (.lst (outOf (out.take (j + 1)))), fun H' q => ⟨z.cps.size - (j + 1), by omega, rfl, lt, q⟩, fun x H' y => ?_⟩
    obtain ⟨rfl, c, hc, rfl⟩ := y
    refine turn_core T mono (j := j) ?_ s1 hD un fun H'' a b => ⟨a, b⟩
    rw [List.getElem?_map, Array.getElem?_toList, hc]
    rfl
  · have e : j = z.cps.size := by omega
    subst e
    refine .inl ⟨Nat.le_refl _, fin H s1 ?_⟩
    rw [← ol, List.take_length] at hD
    exact hD
end Lw

set_option Elab.async false
set_option linter.all false
set_option maxRecDepth 100000
set_option maxHeartbeats 1000000
/-! What a law's top leaves, told by names: the parts that do not hang on the law. -/
namespace Hd
open PySem PySem.Spec PyProof.Rows L2
theorem fun_of {K : PySem.W.Frag} {x qual : PySem.Str} {st : Stmt} {f : Addr} {fd : FuncData} (F : FunD K x qual (defArgs st) (defBody st) (defScope st) [] [] f fd) : Fun K x qual st f fd := by
  obtain ⟨oc, od, dV, kV, doc, pm, an, cdv, ct, osl, h1, h2, h3, h4, _⟩ := F.ex
  have e : dV = .none := by
    rcases h4 with ⟨_, h⟩ | ⟨h, _⟩
    · exact h
    · exact absurd rfl h
  subst e
  exact ⟨⟨oc, od, kV, doc, pm, an, cdv, ct, osl, h1, h2, h3⟩, F.kp⟩
def fnTop (x : PySem.Str) (st : Stmt) : He.DefD := ⟨(x, none), x, x, defArgs st, defBody st, defScope st, [], []⟩
def fnIn (C m qual : PySem.Str) (st : Stmt) : He.DefD := ⟨(C, some m), m, qual, defArgs st, defBody st, defScope st, [], []⟩
noncomputable def fdOf (K : PySem.W.Frag) (f : Addr) : FuncData := match K.lookup f with
  | some ⟨_, _, .func fd, _⟩ => fd
  | _ => PySem.W.fnOf Str.empty Str.empty (defArgs (.Pass ⟨0, 0, 0, 0⟩)) [] (defScope (.Pass ⟨0, 0, 0, 0⟩)) .none .none .none .none none .none .none
theorem fdOf_eq {K : PySem.W.Frag} {x qual : PySem.Str} {st : Stmt} {f : Addr} {fd : FuncData} (F : Fun K x qual st f fd) : fdOf K f = fd := by
  obtain ⟨oc, od, kV, doc, pm, an, cdv, ct, osl, h1, h2, h3⟩ := F.ex
  unfold fdOf
  rw [h2]
/-- a def of the top -/
structure Top (K : PySem.W.Frag) (mg : PySem.Str → Option Value) (x : PySem.Str) (st : Stmt) (ps : List PySem.Str) : Prop where
  F : Fun K x x st (He.ga K x) (fdOf K (He.ga K x))
  g : mg x = some (.ref (He.ga K x))
  b : Binds K (fdOf K (He.ga K x)) ps []
section
variable {K : PySem.W.Frag} {h : Heap} {mg : PySem.Str → Option Value} {fas : List He.Fa} {fns : List He.DefD}
theorem free_mem (X : K.In h) (G : h.Ns mainGlobals mg) (c : He.SaysD fas fns K) {x : PySem.Str} (m : He.Fa.free x ∈ fas) : mg x = none := by
  obtain ⟨i, e⟩ := List.getElem?_of_mem m
  exact He.free_ok X G (c.fact i e)
theorem glo_mem (X : K.In h) (G : h.Ns mainGlobals mg) (c : He.SaysD fas fns K) {x : PySem.Str} (m : He.Fa.glo x ∈ fas) : mg x = some (.ref (He.ga K x)) := by
  obtain ⟨i, e⟩ := List.getElem?_of_mem m
  exact He.glo_ok X G (c.fact i e)
theorem top_mem (X : K.In h) (G : h.Ns mainGlobals mg) (c : He.SaysD fas fns K) {x : PySem.Str} {st : Stmt} {ps : List PySem.Str} (md : fnTop x st ∈ fns) (mf : He.Fa.glo x ∈ fas)
    (hb : ∀ (kV doc pm : Value) (an : Option Addr) (cdv ct : Value) (us : List Value), us.length = ps.length → bindArgs (PySem.W.fnOf x x (defArgs st) (defBody st) (defScope st) .none kV doc pm an cdv ct) ⟨us, []⟩ = pure (ps.zip us)) : Top K mg x st ps := by
  obtain ⟨i, e⟩ := List.getElem?_of_mem md
  obtain ⟨fd, F⟩ := c.def_ i e
  have F1 : Fun K x x st (He.ga K x) fd := fun_of (st := st) F
  have ed := fdOf_eq F1
  rw [← ed] at F1
  exact ⟨F1, glo_mem X G c mf, F1.binds hb⟩
end
end Hd

set_option Elab.async false
set_option linter.all false
set_option maxRecDepth 100000
set_option maxHeartbeats 4000000
/-! Two rules: C.f(e, ..) of a class's plain def; C(e, ..) that may raise, in a try. An own error's making. -/
namespace Lw
open PySem PySem.Spec PyProof.Rows L2
section
variable {X : Cx} {CX : CXT} {k : Nat} {f C : Addr} {fd : FuncData} {ps : List Str} {sp : Sp} {dvs : List V} {ds : List Value} {E : XK} {x m : Str} {p pos apos : Pos} {e o : Expr} {es : List Expr} {ta : TE} {t : TA} {mc : Value} {pl : Sem Bool}
/-- C.f(e, ..), C a class, f a def of it -/
def tCFun (C : Addr) (sp : Sp) (E : XK) (ta : TE) (t : TA) : TE := fun σ H Q => ta σ H fun x H1 => x = .ref C ∧ t σ H1 fun vs H2 => sp vs H2 Q E
theorem pe_cfun (he : PE X o ta) (r : ClX.CRead X.K C mc) (c : ClX.CVal X.K C mc m (.ref f) (.ref f)) (F : FnOk X.prog X.w X.K X.mg X.base CX k f fd ps sp) (hr : Room k X.A) (hk : PySem.W.keepIn X.K (.ref f) = true) (hb : Binds X.K fd ps []) (hx : Passes CX X E) (ha : PA X (e :: es) t)
    (hst : starEach (e :: es) X.env = (false, eval e X.env) :: starEach es X.env := by rfl) (hpl : (backTo pos (starEach es X.env)).any (·.1) = false := by rfl)
    (ht : eval (.Call (.Attribute o m apos) (e :: es) [] pos) X.env = (do
      let ov ← eval o X.env
      standAt apos.atName
      let (f, first) ← holding [ov] (getMethod ov m pl)
      callWith pos f first (backTo pos (starEach (e :: es) X.env)) (backToKw pos (keywordEach [] X.env))) := by rfl) :
    PE X (.Call (.Attribute o m apos) (e :: es) [] pos) (tCFun C sp E ta t) := by
  refine ⟨fun pins s σ H Q I h => ?_⟩
  refine PySem.W.methodCall_KW (pl := pl) (thn (he.run pins s σ H _ I h) fun u s1 ⟨x, H1, I1, rx, ex, q⟩ => ?_) ht
  subst ex
  obtain rfl : u = Value.ref C := rx
  refine PySem.W.method_cls I1.kIn r.ga (ClX.getcval_ok I1 r c fun s2 I2 => ?_)
  refine PySem.W.callWith_K (h₀ := X.base) I2.ok.mod.kin hk (thn (ha.run pos pins s2 σ H1 _ I2 q) fun us s3 ⟨vs, H2, I3, r3, q3⟩ => ⟨I3.kIn, ?_⟩) hst hpl
  exact run_fn F hr hb .nil hx I3 r3 (by rw [List.append_nil]; exact q3)
/-- C(e, ..), what it raises wished for at the slots -/
def tMakeS (C : Addr) (sp : Sp) (dvs : List V) (E : L2.St → XK) (t : TA) : TE := fun σ H Q => t σ H fun vs H1 => ∀ x dx, H1 x = none → H1 dx = none → dx ≠ x →
  sp (.ref x :: (vs ++ dvs)) (upd (upd H1 dx (.own x)) x (.ins C dx [])) (fun v H2 => v = .non ∧ Q (.ref x) H2) (E σ)
theorem pe_makeS {E : L2.St → XK} (M : Mk X.K C f) (F : FnOk X.prog X.w X.K X.mg X.base CX k f fd ps sp) (hr : Room (k + 1) X.A) (hg : Gl X x) (hm : X.mg x = some (.ref C)) (hb : Binds X.K fd ps ds) (hd : Vals dvs ds) (hx : ∀ σ, PassesAt CX X σ (E σ))
    (ha : PA X (e :: es) t) (hdb : (x == ("__debug__" : Str)) = false := by decide) (he : starEach (e :: es) X.env = (false, eval e X.env) :: starEach es X.env := by rfl) (hpl : (backTo pos (starEach es X.env)).any (·.1) = false := by rfl) :
    PE X (.Call (.Name x p) (e :: es) [] pos) (tMakeS C sp dvs E t) := by
  refine ⟨fun pins s σ H Q I h => ?_⟩
  refine wpAny_Call_Name_kw (ld_glob I hg hm ?_ hdb)
  refine PySem.W.callWith_K (h₀ := X.base) I.ok.mod.kin M.kp (thn (ha.run pos pins s σ H _ I h) fun us s1 ⟨vs, H1, I1, r, q⟩ => ⟨I1.kIn, ?_⟩) he hpl
  have hq := q (s1.heap.objs.size + 1) s1.heap.objs.size (I1.hok.fresh (Nat.le_succ _)) (I1.hok.fresh (Nat.le_refl _)) (Nat.ne_of_lt (Nat.lt_succ_self _))
  have I2 := Inv.made (C := C) I1
  have r2 : Vals (V.ref (s1.heap.objs.size + 1) :: (vs ++ dvs)) (Value.ref (s1.heap.objs.size + 1) :: (us ++ ds)) := .cons rfl (r.append hd)
  have hl : (Value.ref (s1.heap.objs.size + 1) :: us ++ ds).length = ps.length := by
    have e := r2.length
    rw [F.len _ _ _ _ hq] at e
    exact e.symm
  refine wpAny_call (make_map (f := f) I1.kIn M.makes M.init (beq_iff_eq.mp M.fn) (codeAny_mono (F.run _ X.stack _ _ ⟨Value.ref (s1.heap.objs.size + 1) :: us, []⟩ (Value.ref (s1.heap.objs.size + 1) :: (us ++ ds)) _ _ (E σ) (hr.make C us [])
    (I2.env0.make C us []) (hb _ (Value.ref (s1.heap.objs.size + 1) :: us) I2.kIn hl) r2 hq) fun r s' hq' => ?_))
  cases r with
  | error e => exact hx σ pins _ _ e s' I2 hq'
  | ok fl =>
    cases fl with
    | ret u =>
      obtain ⟨v, H', I3, rv, ev, q3⟩ := I2.after hq'
      subst ev
      exact ⟨rv, ⟨V.ref (s1.heap.objs.size + 1), H', I3, rfl, q3⟩⟩
    | next => exact False.elim hq'
    | brk => exact False.elim hq'
    | cont => exact False.elim hq'
end
/-- the promise of an own error's __init__ that keeps one argument -/
def spErr (C : Addr) (f : Str) : Sp := fun vs H Q _ => ∃ (a : Addr) (x : V), vs = [.ref a, x] ∧ H a = some (exo a C none) ∧ (∀ dx, H dx = none → dx ≠ a → Q .non (upd (upd H dx (exd dx [(f, x)])) a (exo a C (some dx))))
/-- what is asked of the heap behind the making of an own error -/
theorem err_heap {H : Hp} {a d : Addr} {C : Addr} {f : Str} {x : V} (ha : H a = none) (hd : (upd H a (exo a C none)) d = none) (ne : d ≠ a) :
    upd (del (upd (upd (upd H a (exo a C none)) d (exd d [(f, x)])) a (exo a C (some d))) a) d (.xd [(f, x)]) = upd H d (.xd [(f, x)]) := by
  funext b
  by_cases e : b = d
  · subst e
    rw [upd_same, upd_same]
  · rw [upd_ne e, upd_ne e]
    by_cases e2 : b = a
    · subst e2
      rw [del_same, ha]
    · rw [del_ne e2, upd_ne e2, upd_ne e, upd_ne e2]
end Lw

set_option Elab.async false
set_option linter.all false
set_option maxRecDepth 100000
set_option maxHeartbeats 1000000
/-! What the top leaves of own errors and of the rows' classes. -/
namespace Hd
open PySem PySem.Spec PyProof.Rows L2 Lw
def oexB (K : PySem.W.Frag) (C : Addr) : Bool := match K.lookup C with
  | some ⟨.type "type", _, .cls cd, sl⟩ => (match cd.mro, sl.toList with
    | .ref D :: bm, [_, _, _, _, some (.builtin n), _] => (D == C && n == "ValueError.__new__") && (!cd.hasDel && (cd.hasDict && PySem.HandSPX.refsVE bm))
    | _, _ => false)
  | _ => false
theorem oexB_ok {K : PySem.W.Frag} {C : Addr} (q : oexB K C = true) : ∃ nm qn N bs bm sn sub ab col dd k0 k1 k2 k3 k5, K.lookup C = some (excClassObj nm qn C N bs bm true sn sub ab col dd k0 k1 k2 k3 k5 "ValueError.__new__") ∧ PySem.HandSPX.refsVE bm = true := by
  unfold oexB at q
  split at q
  · rename_i dd cd sl ho
    split at q
    · rename_i D bm k0 k1 k2 k3 n k5 hm hs
      simp only [Bool.and_eq_true, beq_iff_eq, Bool.not_eq_true'] at q
      obtain ⟨⟨rfl, rfl⟩, hdel, hdict, ht⟩ := q
      obtain ⟨nm, bs, mro, ns, qn, hd, sn, sub, ab, col, del⟩ := cd
      dsimp only at hm hdel hdict
      subst hm hdel hdict
      obtain ⟨lst⟩ := sl
      dsimp only at hs
      subst hs
      exact ⟨nm, qn, ns, bs, bm, sn, sub, ab, col, dd, k0, k1, k2, k3, k5, ho, ht⟩
    · cases q
  · cases q

/-- an own error whose __init__ keeps one thing under this name -/
structure ErrC (K : PySem.W.Frag) (x f : PySem.Str) : Prop where
  ex : OexC K (He.ga K x)
  I : PySem.W.findIn K (.ref (He.ga K x)) "__init__" = some (some (.ref (He.ma K (He.ga K x) "__init__")))
  T : PySem.W.typeIn K (.ref (He.ma K (He.ga K x) "__init__")) = some (.type "function")
  W : PySem.W.findIn K (.ref (He.ga K x)) f = some none
  X : XfC K (He.ga K x)
def errB (K : PySem.W.Frag) (x f : PySem.Str) : Bool :=
  oexB K (He.ga K x) && (decide (PySem.W.findIn K (.ref (He.ga K x)) "__setattr__" = some (some (.builtin "object.__setattr__"))) && (decide (PySem.W.subIn K (.ref (He.ga K x)) (.type "BaseException") = some true) && (decide (PySem.W.typeIn K (.ref (He.ga K x)) = some (.type "type")) && (PySem.W.keepIn K (.ref (He.ga K x)) &&
  (decide (PySem.W.findIn K (.ref (He.ga K x)) "__init__" = some (some (.ref (He.ma K (He.ga K x) "__init__")))) && (decide (PySem.W.typeIn K (.ref (He.ma K (He.ga K x) "__init__")) = some (.type "function")) && (decide (PySem.W.findIn K (.ref (He.ga K x)) f = some none) && xfB K (He.ga K x))))))))
theorem errB_ok {K : PySem.W.Frag} {x f : PySem.Str} (q : errB K x f = true) : ErrC K x f := by
  unfold errB at q
  simp only [Bool.and_eq_true] at q
  obtain ⟨q1, q2, q3, q4, q5, q6, q7, q8, q9⟩ := q
  exact ⟨⟨oexB_ok q1, of_decide_eq_true q2, of_decide_eq_true q3, of_decide_eq_true q4, q5⟩, of_decide_eq_true q6, of_decide_eq_true q7, of_decide_eq_true q8, xfB_ok q9⟩
/-! ### the rows' classes -/
def rowsN : List PySem.Str := ["Ask", "Note", "Gate", "End"]
def attrsN : List PySem.Str := ["place", "name", "ways", "word", "then", "mark", "newer", "elder", "_text"]
def otherT : List String := ["tuple", "str", "int"]
structure RowsC (K : PySem.W.Frag) : Prop where
  isA : ∀ x ∈ rowsN, PySem.W.findIn K (.ref (He.ga K x)) "__class__" = some (some (.builtin "object.__class__"))
  get : PySem.W.specialIn K (.builtin "object.__class__") "__get__" = some (some (.builtin "getset_descriptor.__get__"))
  tak : PySem.W.takesIn K (.builtin "object.__class__") = some true
  obj : ∀ x ∈ rowsN, PySem.W.mroIn K (He.ga K x) (.type "object") = some true
  row : ∀ x ∈ rowsN, PySem.W.kitOne K (.ref (He.ga K x)) (.ref (He.ga K "Row")) = some true
  own : ∀ x ∈ rowsN, ∀ y ∈ rowsN, PySem.W.kitOne K (.ref (He.ga K x)) (.ref (He.ga K y)) = some (decide (x = y))
  noRow : ∀ t ∈ otherT, PySem.W.kitOne K (.type t) (.ref (He.ga K "Row")) = some false
  eqAt : ∀ x ∈ rowsN, PySem.W.findIn K (.ref (He.ga K x)) "__eq__" = some (some (.ref (He.ma K (He.ga K "Row") "__eq__")))
  neAt : ∀ x ∈ rowsN, PySem.W.findIn K (.ref (He.ga K x)) "__ne__" = some (some (.builtin "object.__ne__"))
  strAt : ∀ x ∈ rowsN, PySem.W.findIn K (.ref (He.ga K x)) "__str__" = some (some (.ref (He.ma K (He.ga K "Row") "__str__")))
  first : ∀ x ∈ rowsN, ∀ y ∈ rowsN, PySem.W.notFirst K (He.ga K x) (.ref (He.ga K y)) = true
  firstT : ∀ x ∈ rowsN, ∀ t ∈ otherT, PySem.W.notFirst K (He.ga K x) (.type t) = true
  eqI : PySem.W.isFn K (.ref (He.ma K (He.ga K "Row") "__eq__")) = true
  strI : PySem.W.isFn K (.ref (He.ma K (He.ga K "Row") "__str__")) = true
def rowsB (K : PySem.W.Frag) : Bool :=
  (decide (PySem.W.specialIn K (.builtin "object.__class__") "__get__" = some (some (.builtin "getset_descriptor.__get__"))) && (decide (PySem.W.takesIn K (.builtin "object.__class__") = some true) && (PySem.W.isFn K (.ref (He.ma K (He.ga K "Row") "__eq__")) && PySem.W.isFn K (.ref (He.ma K (He.ga K "Row") "__str__"))))) &&
  ((otherT.all fun t => decide (PySem.W.kitOne K (.type t) (.ref (He.ga K "Row")) = some false)) &&
  (rowsN.all fun x => decide (PySem.W.findIn K (.ref (He.ga K x)) "__class__" = some (some (.builtin "object.__class__"))) && (decide (PySem.W.mroIn K (He.ga K x) (.type "object") = some true) && (decide (PySem.W.kitOne K (.ref (He.ga K x)) (.ref (He.ga K "Row")) = some true) &&
    (decide (PySem.W.findIn K (.ref (He.ga K x)) "__eq__" = some (some (.ref (He.ma K (He.ga K "Row") "__eq__")))) && (decide (PySem.W.findIn K (.ref (He.ga K x)) "__ne__" = some (some (.builtin "object.__ne__"))) && (decide (PySem.W.findIn K (.ref (He.ga K x)) "__str__" = some (some (.ref (He.ma K (He.ga K "Row") "__str__")))) &&
    ((rowsN.all fun y => decide (PySem.W.kitOne K (.ref (He.ga K x)) (.ref (He.ga K y)) = some (decide (x = y)))) && ((rowsN.all fun y => PySem.W.notFirst K (He.ga K x) (.ref (He.ga K y))) && otherT.all fun t => PySem.W.notFirst K (He.ga K x) (.type t)))))))))) 
theorem rowsB_ok {K : PySem.W.Frag} (q : rowsB K = true) : RowsC K := by
  unfold rowsB at q
  simp only [Bool.and_eq_true, List.all_eq_true] at q
  obtain ⟨⟨a1, a2, a3, a4⟩, b1, c⟩ := q
  exact ⟨fun x hx => of_decide_eq_true (c x hx).1, of_decide_eq_true a1, of_decide_eq_true a2, fun x hx => of_decide_eq_true (c x hx).2.1, fun x hx => of_decide_eq_true (c x hx).2.2.1, fun x hx y hy => of_decide_eq_true ((c x hx).2.2.2.2.2.2.1 y hy), fun t ht => of_decide_eq_true (b1 t ht),
    fun x hx => of_decide_eq_true (c x hx).2.2.2.1, fun x hx => of_decide_eq_true (c x hx).2.2.2.2.1, fun x hx => of_decide_eq_true (c x hx).2.2.2.2.2.1, fun x hx y hy => (c x hx).2.2.2.2.2.2.2.1 y hy, fun x hx t ht => (c x hx).2.2.2.2.2.2.2.2 t ht, a3, a4⟩
def rowI (K : PySem.W.Frag) : Bool := PySem.W.readsIn K (He.ga K "Row") (.type "type") && (decide (PySem.W.specialIn K (.ref (He.ga K "Row")) "__getattribute__" = some (some (.builtin "type.__getattribute__"))) &&
  (match PySem.W.findCls K (.ref (He.ga K "Row")) (.type "type") "__init__" with
    | some (.val v) => decide (v = .ref (He.ma K (He.ga K "Row") "__init__"))
    | _ => false))
theorem rowI_ok {K : PySem.W.Frag} (q : rowI K = true) : ClX.CRead K (He.ga K "Row") (.type "type") ∧ ClX.CVal K (He.ga K "Row") (.type "type") "__init__" (.ref (He.ma K (He.ga K "Row") "__init__")) (.ref (He.ma K (He.ga K "Row") "__init__")) := by
  unfold rowI at q
  simp only [Bool.and_eq_true] at q
  obtain ⟨q1, q2, q3⟩ := q
  refine ⟨⟨q1, of_decide_eq_true q2⟩, ?_, rfl⟩
  cases e : PySem.W.findCls K (.ref (He.ga K "Row")) (.type "type") "__init__" with
  | none => rw [e] at q3; cases q3
  | some z =>
    rw [e] at q3
    cases z with
    | val v => rw [of_decide_eq_true q3]
    | get a b c d => cases q3
section
variable {K : PySem.W.Frag} {h : Heap} {mg : PySem.Str → Option Value} {fas : List He.Fa} {fns : List He.DefD}
theorem in_mem (c : He.SaysD fas fns K) {C m qual : PySem.Str} {st : Stmt} (i : Nat) (md : fns[i]? = some (fnIn C m qual st)) : Fun K m qual st (He.ma K (He.ga K C) m) (fdOf K (He.ma K (He.ga K C) m)) := by
  obtain ⟨fd, F⟩ := c.def_ i md
  have F1 : Fun K m qual st (He.ma K (He.ga K C) m) fd := fun_of (st := st) F
  have ed := fdOf_eq F1
  rw [← ed] at F1
  exact F1
theorem cls_mem (c : He.SaysD fas fns K) {x : PySem.Str} (m : He.Fa.cls x ∈ fas) : Cls K (He.ga K x) := by
  obtain ⟨i, e⟩ := List.getElem?_of_mem m
  exact He.cls_ok (c.fact i e)
theorem mkr_mem (c : He.SaysD fas fns K) {x : PySem.Str} (m : He.Fa.mkr x ∈ fas) : Mk K (He.ga K x) (He.ma K (He.ga K x) "__init__") := by
  obtain ⟨i, e⟩ := List.getElem?_of_mem m
  exact He.mkr_ok (c.fact i e)
theorem noat_mem (c : He.SaysD fas fns K) {x n : PySem.Str} (m : He.Fa.noat x n ∈ fas) : NoAttr K (He.ga K x) n := by
  obtain ⟨i, e⟩ := List.getElem?_of_mem m
  exact He.noat_ok (c.fact i e)
end
end Hd

set_option Elab.async false
set_option linter.all false
set_option maxRecDepth 100000
set_option maxHeartbeats 4000000
namespace K2
open PySem L2 Lw
def top (i : Nat) : Stmt := PySem.Challenge.pw_elderlogs_k17_logs_played.main.body.getD i (.Pass ⟨0, 0, 0, 0⟩)
end K2

set_option Elab.async false
set_option linter.all false
set_option maxRecDepth 100000
set_option maxHeartbeats 0
namespace TL
end TL
namespace SxT
end SxT
namespace K2
open PySem L2 Lw
abbrev sIsName : Stmt := top 10
def abc : Str := "abcdefghijklmnopqrstuvwxyz"
abbrev sIr : Stmt := inClass (top 3) 0
abbrev sRow : Stmt := inClass (top 14) 0
abbrev sAsk : Stmt := inClass (top 15) 0
abbrev sNote : Stmt := inClass (top 16) 0
abbrev sGate : Stmt := inClass (top 17) 0
abbrev sEnd : Stmt := inClass (top 18) 0
abbrev sExpect : Stmt := top 19
abbrev sWays : Stmt := top 20
abbrev sWay : Stmt := top 21
abbrev sEq : Stmt := inClass (top 14) 4
abbrev sStr : Stmt := inClass (top 14) 5
abbrev sLeadsR : Stmt := inClass (top 14) 2
abbrev sLeadsA : Stmt := inClass (top 15) 1
abbrev sLeadsN : Stmt := inClass (top 16) 1
abbrev sLeadsG : Stmt := inClass (top 17) 1
abbrev sUnlike : Stmt := top 11
abbrev sAreRows : Stmt := top 40
abbrev sRing : Stmt := top 41
abbrev sWrong : Stmt := top 39
abbrev sEd : Stmt := inClass (top 37) 0
abbrev sIe : Stmt := inClass (top 4) 0
abbrev edFields : List Str := ["rows", "drops", "first", "names", "marks", "words", "_table", "_text"]
abbrev sEdRow : Stmt := inClass (top 37) 2
abbrev sEdLen : Stmt := inClass (top 37) 6
abbrev sEdEq : Stmt := inClass (top 37) 7
abbrev sEdStr : Stmt := inClass (top 37) 8
abbrev sBehind : Stmt := top 12
abbrev sRowOf : Stmt := top 22
abbrev sRowRead : Stmt := inClass (top 14) 1
abbrev sReadRow : Stmt := top 42
abbrev sParts : Stmt := top 38
abbrev sEdRead : Stmt := inClass (top 37) 1
abbrev sWayOf : Stmt := top 27
abbrev sWithWay : Stmt := top 28
abbrev sLed : Stmt := top 30
abbrev sPassed : Stmt := top 26
abbrev sSettled : Stmt := top 29
abbrev sFirst : Stmt := top 24
abbrev sNext : Stmt := top 25
abbrev sExpLog : Stmt := top 34
abbrev sIsEntry : Stmt := top 35
abbrev sPlayed : Stmt := inClass (top 32) 0
abbrev sReplay : Stmt := top 33
abbrev sPut : Stmt := inClass (top 37) 3
abbrev sRowText : Stmt := top 47
abbrev sToldText : Stmt := top 48
abbrev sToldMade : Stmt := top 49
abbrev sOnw : Stmt := top 50
abbrev sToldDrawn : Stmt := top 51
abbrev sEndOf : Stmt := top 54
abbrev sGone : Stmt := top 53
abbrev sStand : Stmt := top 55
abbrev sChosen : Stmt := top 56
abbrev sNear : Stmt := top 52
abbrev sEntry : Stmt := top 57
abbrev sNextE : Stmt := top 58
abbrev sWritten : Stmt := top 59
abbrev sToldP : Stmt := top 60
abbrev sDeal : Stmt := top 44
abbrev sDraw : Stmt := top 45
abbrev sPick : Stmt := top 46
abbrev sLaw : Stmt := top 61
end K2
namespace K2
open PySem PySem.Spec PyProof.Rows L2 Lw TL SxT Hd
def dTop (x : Str) (st : Stmt) : He5.DefA := ⟨fun K => He.ga K x, x, x, defArgs st, defBody st, defScope st, [], []⟩
def dIn (C m qual : Str) (st : Stmt) : He5.DefA := ⟨fun K => He.ma K (He.ga K C) m, m, qual, defArgs st, defBody st, defScope st, [], []⟩
def dCm (C m qual : Str) (st : Stmt) : He5.DefA := ⟨fun K => He5.wf K (He.ga K C) "classmethod" m, m, qual, defArgs st, defBody st, defScope st, [], []⟩
def dEdI : He5.DefA := ⟨fun K => He.ma K (He.ga K "Edition") "__init__", "__init__", "Edition.__init__", defArgs sEd, defBody sEd, defScope sEd, [.adr (He.dflAt ("Edition", some "__init__") 0)], []⟩
def fnsP : List He5.DefA := dEdI :: dTop "is_name" sIsName :: dTop "_expect_names" sExpect :: dTop "_are_ways" sWays :: dTop "_is_way" sWay :: dTop "_are_rows" sAreRows :: dTop "are_unlike_names" sUnlike :: dTop "_has_ring" sRing :: dTop "_wrong" sWrong :: dTop "_row_of" sRowOf :: dTop "_read_row" sReadRow :: dTop "names_behind" sBehind :: dTop "read_parts" sParts :: dTop "way_of" sWayOf :: dTop "with_way" sWithWay :: dTop "_led" sLed :: dTop "passed" sPassed :: dTop "_settled" sSettled :: dTop "first_stand" sFirst :: dTop "next_stand" sNext :: dTop "expect_log" sExpLog :: dTop "_is_entry" sIsEntry :: dTop "replay" sReplay :: dIn "InvalidRow" "__init__" "InvalidRow.__init__" sIr :: dIn "Row" "__init__" "Row.__init__" sRow :: dIn "Ask" "__init__" "Ask.__init__" sAsk :: dIn "Note" "__init__" "Note.__init__" sNote :: dIn "Gate" "__init__" "Gate.__init__" sGate :: dIn "End" "__init__" "End.__init__" sEnd :: dIn "Row" "__eq__" "Row.__eq__" sEq :: dIn "Row" "__str__" "Row.__str__" sStr :: dIn "End" "leads" "Row.leads" sLeadsR :: dIn "Ask" "leads" "Ask.leads" sLeadsA :: dIn "Note" "leads" "Note.leads" sLeadsN :: dIn "Gate" "leads" "Gate.leads" sLeadsG :: dIn "InvalidEdition" "__init__" "InvalidEdition.__init__" sIe :: dIn "Edition" "row" "Edition.row" sEdRow :: dIn "Edition" "__len__" "Edition.__len__" sEdLen :: dIn "Edition" "__eq__" "Edition.__eq__" sEdEq :: dIn "Edition" "__str__" "Edition.__str__" sEdStr :: dIn "Played" "__init__" "Played.__init__" sPlayed :: dCm "Row" "read" "Row.read" sRowRead :: dCm "Edition" "read" "Edition.read" sEdRead :: []
def glosP : List Str := "is_name" :: "_expect_names" :: "_are_ways" :: "_is_way" :: "_are_rows" :: "are_unlike_names" :: "_has_ring" :: "_wrong" :: "_row_of" :: "_read_row" :: "names_behind" :: "read_parts" :: "way_of" :: "with_way" :: "_led" :: "passed" :: "_settled" :: "first_stand" :: "next_stand" :: "expect_log" :: "_is_entry" :: "replay" :: "LogError" :: "InvalidRow" :: "InvalidEdition" :: "Row" :: "Ask" :: "Note" :: "Gate" :: "End" :: "Edition" :: "Played" :: []
def freesP : List Str := "str" :: "len" :: "all" :: "isinstance" :: "tuple" :: "list" :: "set" :: "any" :: "sorted" :: "zip" :: "enumerate" :: []
def clssP : List Str := "Row" :: "Ask" :: "Note" :: "Gate" :: "End" :: "Edition" :: "Played" :: []
def mkrsP : List Str := "Row" :: "Ask" :: "Note" :: "Gate" :: "End" :: "Edition" :: "Played" :: []
def methsP : List (Str × Str) := ("End", "leads") :: ("Ask", "leads") :: ("Note", "leads") :: ("Gate", "leads") :: ("Edition", "row") :: []
def noatsP : List (Str × List Str) := [("Ask", Hd.attrsN), ("Note", Hd.attrsN), ("Gate", Hd.attrsN), ("End", Hd.attrsN), ("Edition", edFields), ("Played", ["place", "ways", "word", "stuck"])]
def fasP : List He.Fa := .str "_LETTERS" abc :: (glosP.map He.Fa.glo ++ (freesP.map He.Fa.free ++ (clssP.map He.Fa.cls ++ (mkrsP.map He.Fa.mkr ++ (methsP.map (fun m => He.Fa.meth m.1 m.2) ++ noatsP.flatMap fun p => p.2.map fun n => He.Fa.noat p.1 n)))))
theorem in_glo {x : Str} (h : x ∈ glosP) : He.Fa.glo x ∈ fasP := List.mem_cons_of_mem _ (List.mem_append_left _ (List.mem_map_of_mem h))
theorem in_free {x : Str} (h : x ∈ freesP) : He.Fa.free x ∈ fasP := List.mem_cons_of_mem _ (List.mem_append_right _ (List.mem_append_left _ (List.mem_map_of_mem h)))
theorem in_cls {x : Str} (h : x ∈ clssP) : He.Fa.cls x ∈ fasP := List.mem_cons_of_mem _ (List.mem_append_right _ (List.mem_append_right _ (List.mem_append_left _ (List.mem_map_of_mem h))))
theorem in_mkr {x : Str} (h : x ∈ mkrsP) : He.Fa.mkr x ∈ fasP := List.mem_cons_of_mem _ (List.mem_append_right _ (List.mem_append_right _ (List.mem_append_right _ (List.mem_append_left _ (List.mem_map_of_mem h)))))
theorem in_meth {x m : Str} (h : (x, m) ∈ methsP) : He.Fa.meth x m ∈ fasP := List.mem_cons_of_mem _ (List.mem_append_right _ (List.mem_append_right _ (List.mem_append_right _ (List.mem_append_right _ (List.mem_append_left _ (List.mem_map.mpr ⟨(x, m), h, rfl⟩))))))
theorem in_noat {x n : Str} {l : List Str} (h : (x, l) ∈ noatsP) (hn : n ∈ l) : He.Fa.noat x n ∈ fasP := List.mem_cons_of_mem _ (List.mem_append_right _ (List.mem_append_right _ (List.mem_append_right _ (List.mem_append_right _ (List.mem_append_right _ (List.mem_flatMap.mpr ⟨(x, l), h, List.mem_map.mpr ⟨n, hn, rfl⟩⟩))))))
/-- a classmethod -/
def cmB (K : PySem.W.Frag) (C m : Str) : Bool := He5.wrapB K (He.ga K C) "classmethod" "classmethod.__get__" m && PySem.W.fnIn K (He5.wf K (He.ga K C) "classmethod" m)
def tupB (K : PySem.W.Frag) (a : Addr) : Bool := match K.lookup a with
  | some ⟨.type t, _, .seq its _, _⟩ => decide (t = "tuple") && decide (its = #[])
  | _ => false
theorem tupB_ok {K : PySem.W.Frag} {a : Addr} (h : tupB K a = true) : ∃ (o : Obj) (n : Nat), K.lookup a = some o ∧ o.cls = .type "tuple" ∧ o.data = .seq #[] n := by
  unfold tupB at h
  split at h
  · rename_i t dd its n sl e
    simp only [Bool.and_eq_true, decide_eq_true_eq] at h
    obtain ⟨rfl, rfl⟩ := h
    exact ⟨_, n, e, rfl, rfl⟩
  · cases h
def othersE : List String := ["tuple", "str", "list"]
def edB2 (K : PySem.W.Frag) : Bool :=
  PySem.W.isFn K (.ref (He.ma K (He.ga K "Edition") "__eq__")) && (PySem.W.isFn K (.ref (He.ma K (He.ga K "Edition") "__str__")) && (PySem.W.isFn K (.ref (He.ma K (He.ga K "Edition") "__len__")) &&
  (decide (PySem.W.findIn K (.ref (He.ga K "Edition")) "__eq__" = some (some (.ref (He.ma K (He.ga K "Edition") "__eq__")))) && (decide (PySem.W.findIn K (.ref (He.ga K "Edition")) "__ne__" = some (some (.builtin "object.__ne__"))) &&
  (decide (PySem.W.findIn K (.ref (He.ga K "Edition")) "__str__" = some (some (.ref (He.ma K (He.ga K "Edition") "__str__")))) && (decide (PySem.W.findIn K (.ref (He.ga K "Edition")) "__len__" = some (some (.ref (He.ma K (He.ga K "Edition") "__len__")))) &&
  (PySem.W.notFirst K (He.ga K "Edition") (.ref (He.ga K "Edition")) && othersE.all fun t => PySem.W.notFirst K (He.ga K "Edition") (.type t))))))))
/-- what more is written of the edition's class -/
structure EdX (K : PySem.W.Frag) : Prop where
  eqI : PySem.W.isFn K (.ref (He.ma K (He.ga K "Edition") "__eq__")) = true
  strI : PySem.W.isFn K (.ref (He.ma K (He.ga K "Edition") "__str__")) = true
  lenI : PySem.W.isFn K (.ref (He.ma K (He.ga K "Edition") "__len__")) = true
  eqAt : PySem.W.findIn K (.ref (He.ga K "Edition")) "__eq__" = some (some (.ref (He.ma K (He.ga K "Edition") "__eq__")))
  neAt : PySem.W.findIn K (.ref (He.ga K "Edition")) "__ne__" = some (some (.builtin "object.__ne__"))
  strAt : PySem.W.findIn K (.ref (He.ga K "Edition")) "__str__" = some (some (.ref (He.ma K (He.ga K "Edition") "__str__")))
  lenAt : PySem.W.findIn K (.ref (He.ga K "Edition")) "__len__" = some (some (.ref (He.ma K (He.ga K "Edition") "__len__")))
  first : PySem.W.notFirst K (He.ga K "Edition") (.ref (He.ga K "Edition")) = true
  firstT : ∀ t ∈ othersE, PySem.W.notFirst K (He.ga K "Edition") (.type t) = true
theorem edB2_ok {K : PySem.W.Frag} (q : edB2 K = true) : EdX K := by
  unfold edB2 at q
  simp only [Bool.and_eq_true, List.all_eq_true] at q
  obtain ⟨a1, a2, a3, a4, a5, a6, a7, a8, a9⟩ := q
  exact ⟨a1, a2, a3, of_decide_eq_true a4, of_decide_eq_true a5, of_decide_eq_true a6, of_decide_eq_true a7, a8, a9⟩
def edB (K : PySem.W.Frag) : Bool :=
  tupB K (He.dflAt ("Edition", some "__init__") 0 K) && (decide (PySem.W.findIn K (.ref (He.ga K "Edition")) "__class__" = some (some (.builtin "object.__class__"))) && (decide (PySem.W.mroIn K (He.ga K "Edition") (.type "object") = some true) &&
  (decide (PySem.W.kitOne K (.ref (He.ga K "Edition")) (.ref (He.ga K "Edition")) = some true) && ((othersE.all fun t => decide (PySem.W.kitOne K (.type t) (.ref (He.ga K "Edition")) = some false)) &&
  ((PySem.W.readsIn K (He.ga K "Edition") (.type "type") && decide (PySem.W.specialIn K (.ref (He.ga K "Edition")) "__getattribute__" = some (some (.builtin "type.__getattribute__")))) && edB2 K)))))
structure EdC (K : PySem.W.Frag) : Prop where
  tD : tupB K (He.dflAt ("Edition", some "__init__") 0 K) = true
  isA : PySem.W.findIn K (.ref (He.ga K "Edition")) "__class__" = some (some (.builtin "object.__class__"))
  obj : PySem.W.mroIn K (He.ga K "Edition") (.type "object") = some true
  own : PySem.W.kitOne K (.ref (He.ga K "Edition")) (.ref (He.ga K "Edition")) = some true
  no : ∀ t ∈ othersE, PySem.W.kitOne K (.type t) (.ref (He.ga K "Edition")) = some false
  rd : ClX.CRead K (He.ga K "Edition") (.type "type")
  X : EdX K
theorem edB_ok {K : PySem.W.Frag} (q : edB K = true) : EdC K := by
  unfold edB at q
  simp only [Bool.and_eq_true, List.all_eq_true] at q
  obtain ⟨a1, a2, a3, a4, a5, ⟨a6, a7⟩, a8⟩ := q
  exact ⟨a1, of_decide_eq_true a2, of_decide_eq_true a3, of_decide_eq_true a4, fun t ht => of_decide_eq_true (a5 t ht), ⟨a6, of_decide_eq_true a7⟩, edB2_ok a8⟩
def extraP (K : PySem.W.Frag) : Bool := errB K "InvalidRow" "word" && (errB K "InvalidEdition" "word" && (rowsB K && (rowI K && (edB K && (cmB K "Row" "read" && cmB K "Edition" "read")))))
theorem edX_of {K : PySem.W.Frag} (ex : extraP K = true) : EdX K := by
  unfold extraP at ex
  simp only [Bool.and_eq_true] at ex
  exact (edB_ok ex.2.2.2.2.1).X
def fnsL : List He5.DefA := dTop "_law_deal" sDeal :: dTop "_law_draw" sDraw :: dTop "_law_pick" sPick :: dTop "_law_row_text" sRowText :: dTop "_law_text" sToldText :: dTop "_law_made" sToldMade :: dTop "_law_onward" sOnw :: dTop "_law_drawn" sToldDrawn :: dTop "_law_near" sNear :: dTop "_law_gone" sGone :: dTop "_law_end_of" sEndOf :: dTop "_law_stand" sStand :: dTop "_law_chosen" sChosen :: dTop "_law_entry" sEntry :: dTop "_law_next_entries" sNextE :: dTop "_law_written" sWritten :: dTop "_law_told" sToldP :: dTop "law" sLaw :: []
def fasL : List He.Fa := .glo "_law_deal" :: .glo "_law_draw" :: .glo "_law_pick" :: .glo "_law_row_text" :: .glo "_law_text" :: .glo "_law_made" :: .glo "_law_onward" :: .glo "_law_drawn" :: .glo "_law_near" :: .glo "_law_gone" :: .glo "_law_end_of" :: .glo "_law_stand" :: .glo "_law_chosen" :: .glo "_law_entry" :: .glo "_law_next_entries" :: .glo "_law_written" :: .glo "_law_told" :: .glo "law" :: .free "int" :: .free "abs" :: .free "range" :: .free "min" :: .free "dict" :: .free "repr" :: []
def extraL (K : PySem.W.Frag) : Bool := true
abbrev fasA : List He.Fa := fasP ++ fasL
abbrev fnsA : List He5.DefA := fnsP ++ fnsL
def extra (K : PySem.W.Frag) : Bool := extraP K && extraL K
def reach (g : Addr → Option Obj) : List Addr := PySem.cStatics :: He.asD g 6
def obM (g : Addr → Option Obj) : He.AlD × Bool := (He5.obsA fasA fnsA (He.frG g (reach g)), extra (He.frG g (reach g)))
def hk : PySem.W.Hook where
  α := He.AlD × Bool
  obs := fun s => obM s.heap.get?
  val := fun _ => (He5.valA fnsA, true)
  says := fun _ h => ∃ K : PySem.W.Frag, K.In h ∧ He5.SaysA fasA fnsA K ∧ extra K = true
  of := fun _ _ e => ⟨_, He.frG_in, congrArg Prod.fst e, congrArg Prod.snd e⟩
  keeps := fun _ _ _ ⟨K, hK, c⟩ k => ⟨K, PySem.W.Frag.In.keeps hK k, c⟩
def ob (s : PySem.W.SharedT) : He.AlD × Bool := obM (HandSHeadRun.getT s)
theorem ob_eq (s : PySem.W.SharedT) : ob s = hk.obs s.abs := by
  have e : HandSHeadRun.getT s = s.abs.heap.get? := funext (HandSHeadRun.getT_eq s)
  show obM _ = obM _
  rw [e]
abbrev Rw : PySem.W.OpenRow := PySem.W.OpenLaw.row PySem.Challenge.rw_elderlogs_k17_logs_played
def others : List PySem.Str := "_wall" :: "LogError" :: "InvalidRow" :: "InvalidEdition" :: "InvalidText" :: "InvalidLog" :: "NoPlace" :: "_LETTERS" :: "is_name" :: "are_unlike_names" :: "names_behind" :: "Row" :: "Ask" :: "Note" :: "Gate" :: "End" :: "_expect_names" :: "_are_ways" :: "_is_way" :: "_row_of" :: "first_stand" :: "next_stand" :: "passed" :: "way_of" :: "with_way" :: "_settled" :: "_led" :: "Played" :: "replay" :: "expect_log" :: "_is_entry" :: "Edition" :: "read_parts" :: "_wrong" :: "_are_rows" :: "_has_ring" :: "_read_row" :: "_law_deal" :: "_law_draw" :: "_law_pick" :: "_law_row_text" :: "_law_text" :: "_law_made" :: "_law_onward" :: "_law_drawn" :: "_law_near" :: "_law_gone" :: "_law_end_of" :: "_law_stand" :: "_law_chosen" :: "_law_entry" :: "_law_next_entries" :: "_law_written" :: "_law_told" :: []
theorem run (w : World) : HandSHeadRun.RunEq Rw (PySem.W.view Rw.prog [61]) hk ob 8000 others w := by
  intro os
  kernel_rfl
end K2
set_option Elab.async false
set_option linter.all false
set_option maxRecDepth 100000
set_option maxHeartbeats 4000000
namespace Lw
open PySem PySem.Spec PyProof.Rows L2
/-- isinstance(e, c), e the exception that the suite holds, one with a dict of its own -/
def rIsV (K : PySem.W.Frag) (a : Addr) (cls : Value) (d : Option Addr) : List V → Hp → VK → Prop := fun xs H Q => ∃ (D dd : Addr) (fs : List (PySem.Str × V)) (c : V) (cv : Value) (b : Bool),
  cls = .ref D ∧ d = some dd ∧ H dd = some (.xd fs) ∧ ExcC K D ∧ xs = [.ref a, c] ∧ (∀ u, RelV c u → u = cv) ∧ PySem.W.kitOne K (.ref D) cv = some b ∧ Q (.bl b) H
theorem call_isV {X : Cx} {a : Addr} {cls : Value} {d : Option Addr} {oe : Obj} {pn : List (Addr × Obj)} (hz : Zc cls d oe) (hf : ∃ vs, oe.data = .fields vs) : CallR (X.suite a ((a, oe) :: pn)) (.builtin "isinstance") (rIsV X.K a cls d) := by
  intro pins s σ H xs us Q I r h
  obtain ⟨D, dd, fs, c, cv, b, rfl, rfl, hdd, C, rfl, hcv, e, q⟩ := h
  cases r with
  | cons rx rr =>
    cases rr with
    | cons rt rr =>
      cases rr
      cases rx
      have ec := hcv _ rt
      subst ec
      obtain ⟨hget, _⟩ := I.pin (a, oe) (List.mem_append.mpr (.inl List.mem_cons_self))
      obtain ⟨vs, hv⟩ := hf
      have hx : ObjOk X.prog X.w H s.heap dd (.xd fs) := I.hok dd _ hdd
      obtain ⟨mA, hns, _⟩ := hx
      obtain ⟨od, ho, _⟩ := lookIn_ns hns
      have J : PySem.W.InstAt s.heap a oe D (some od) := ⟨hget, hz.1, by unfold PySem.W.notCls; rw [hv] <;> rfl, by rw [hz.2]; exact ho⟩
      have hcl : (PySem.W.clsIn X.K D).isSome = true := by
        obtain ⟨cd, hc, _⟩ := PySem.W.any_some C.hd
        rw [hc]
        rfl
      exact PySem.W.kia_one (PySem.W.kitx_exc hcl C.hg C.hk C.hs C.ha C.hn C.ht C.hm) I.kIn J e (fun z => nomatch z) fun tk => ⟨.bl b, H, I.kept (t' := tk) fun _ _ z => z, rfl, q⟩
end Lw

set_option Elab.async false
set_option linter.all false
set_option maxRecDepth 100000
set_option maxHeartbeats 4000000
namespace K2
open PySem L2 Lw
/-! ### names -/
def isAbc (c : Nat) : Bool := decide (c ∈ abc.cps.toList)
def nameOk (z : Str) : Bool := decide (1 ≤ (z.length : Int)) && decide ((z.length : Int) ≤ 4) && z.cps.toList.all isAbc
def nameD : PyData → Bool
  | .str z => nameOk z
  | _ => false
def spIsName (K : PySem.W.Frag) : Sp := fun vs H Q _ => ∃ (v : V) (d : PyData), vs = [v] ∧ Dp K H v d ∧ fine d = true ∧ ∀ H', Same H H' → Q (.bl (nameD d)) H'
section
variable {P : Program} {w : World} {K : PySem.W.Frag} {mg : Str → Option Value} {base : Heap}
theorem scIsName : FnScope ["value", "letter"] ["value"] (defScope sIsName) := ⟨rfl, rfl, rfl, by decide +kernel, rfl, by decide +kernel, by decide +kernel⟩
theorem ok_isName {f : Addr} {fd : FuncData} {tk : Tok} (F : Fun K "is_name" "is_name" sIsName f fd) (tS : mg "str" = none) (tIs : mg "isinstance" = none) (tL : mg "len" = none) (tAll : mg "all" = none) (tAbc : mg "_LETTERS" = some (.str abc tk)) :
    FnOk P w K mg base CX0 1 f fd ["value"] (spIsName K) := by
  refine F.ok scIsName (fun vs H Q E h => ?_) (fun cdv A outer s H vs Q E hr h => ?_)
  · obtain ⟨v, d, rfl, _⟩ := h
    rfl
  · obtain ⟨v, d, rfl, hd, hz, fin⟩ := h
    refine ⟨_, pss_one (ps_ret (pe_and (pe_callB call_isi (by rfl) tIs PyProof.Rows.boot_isinstance (pa_cons (pv 0) (pa_cons (pe_bltn (v := .ty "str") (by rfl) tS PyProof.Rows.boot_str rfl) pa_nil)))
      (pe_and (pe_chain op_le op_le pe_int (pe_callB call_len (by rfl) tL PySem.boot_len (pa_cons (pv 0) pa_nil)) pe_int)
        (pe_one (pe_callB (cr_all rfl) (by rfl) tAll PyProof.Rows.boot_all (pa_cons (pe_lc (own := [("letter", 1)]) (g := gName 1) (tt := tYes) (by rfl) scIsName.nd (pi_str (pv 0))
          (blkOk_by (own := [("letter", 1)]) (N := ["value", "letter"]) (sc := defScope sIsName) (by decide +kernel)) (fun _ _ _ _ _ => pg_name (i := 1) scIsName.nd rfl (Or.inl rfl)) (fun _ _ _ _ _ => pts_nil)
          (fun _ _ _ _ _ => pe_cmpR op_in_sign (pv 1) (pe_glob (v := .str abc) (by rfl) tAbc ⟨_, rfl⟩) rfl)) pa_nil)))))), ?_⟩
    refine ⟨_, rfl, _, _, _, _, _, rfl, .ty "str", ty_data hd, kit_str (no_dict hd), _, rfl, ?_⟩
    cases d with
    | str z =>
      cases hd
      have len : z.length ≤ 1000 := (fine_str hz).1
      have small : z.length ≤ sizeLine := Nat.le_of_lt (small1000 len)
      refine iteT ⟨_, rfl, _, _, rfl, ⟨small, rfl⟩, _, _, rfl, rfl, _, rfl, ?_⟩
      by_cases h1 : decide (1 ≤ (z.length : Int)) = true
      · rw [h1]
        refine iteT ⟨_, _, rfl, rfl, _, rfl, ?_⟩
        by_cases h2 : decide ((z.length : Int) ≤ 4) = true
        · rw [h2]
          refine iteT ⟨_, rfl, z, rfl, fun D un => ?_⟩
          refine lc_of_str ((signsOf z).map fun x => some (match x with | .str y => .bl (isAbc (y.cps.getD 0 0)) | _ => .non)) un (turns_map (fun x => match x with | .str y => .bl (isAbc (y.cps.getD 0 0)) | _ => .non) (by rw [List.length_map, Array.length_toList]; exact Nat.le_trans len (by decide)) fun x H2 Q2 hx _ q => ?_) mono_yes fun H2 s2 h2 => ?_
          · obtain ⟨c, _, rfl⟩ := List.mem_map.mp hx
            exact ⟨_, rfl, c, abc, rfl, rfl, q _ (Same.refl _)⟩
          · rw [out_map] at h2
            have e : (signsOf z).map (fun x => match x with | .str y => V.bl (isAbc (y.cps.getD 0 0)) | _ => .non) = (z.cps.toList.map isAbc).map V.bl := by
              rw [List.map_map, List.map_map]
              rfl
            rw [e] at h2
            refine ⟨D, _, rfl, SqL.of h2, ?_⟩
            have e2 : (List.map isAbc z.cps.toList).all id = nameD (.str z) := by
              show _ = (decide (1 ≤ (z.length : Int)) && decide ((z.length : Int) ≤ 4) && z.cps.toList.all isAbc)
              rw [h1, ‹decide ((z.length : Int) ≤ 4) = true›, List.all_map]
              rfl
            rw [e2]
            exact fin _ s2
        · have h3 : decide ((z.length : Int) ≤ 4) = false := by simpa using h2
          rw [h3]
          refine iteF ?_
          have e2 : nameD (.str z) = false := by
            show (decide (1 ≤ (z.length : Int)) && decide ((z.length : Int) ≤ 4) && z.cps.toList.all isAbc) = false
            rw [h3, Bool.and_false, Bool.false_and]
          rw [← e2]
          exact fin _ (Same.refl _)
      · have h3 : decide (1 ≤ (z.length : Int)) = false := by simpa using h1
        rw [h3]
        refine iteF ⟨_, rfl, iteF ?_⟩
        have e2 : nameD (.str z) = false := by
          show (decide (1 ≤ (z.length : Int)) && decide ((z.length : Int) ≤ 4) && z.cps.toList.all isAbc) = false
          rw [h3, Bool.false_and, Bool.false_and]
        rw [← e2]
        exact fin _ (Same.refl _)
    | _ => exact iteF (fin H (Same.refl H))
end
end K2

set_option Elab.async false
set_option linter.all false
set_option maxRecDepth 100000
set_option maxHeartbeats 4000000
/-! What the top of law k03's text has written. -/
namespace K2
open PySem L2 Lw
/-- where they stand -/
structure Ad where
  cLog : Addr
  cIr : Addr
  cIe : Addr
  cRow : Addr
  cAsk : Addr
  cNote : Addr
  cGate : Addr
  cEnd : Addr
  fIr : Addr
  fRow : Addr
  fAsk : Addr
  fNote : Addr
  fGate : Addr
  fEnd : Addr
  fN : Addr
  fX : Addr
  fWs : Addr
  fW : Addr
  fDeal : Addr
  fDraw : Addr
  fPick : Addr
  fThing : Addr
  fTitle : Addr
  fHeard : Addr
  fPairs : Addr
  fDue : Addr
  fOdd : Addr
  fLaw : Addr
  dIr : FuncData
  dRow : FuncData
  dAsk : FuncData
  dNote : FuncData
  dGate : FuncData
  dEnd : FuncData
  dN : FuncData
  dX : FuncData
  dWs : FuncData
  dW : FuncData
  dDeal : FuncData
  dDraw : FuncData
  dPick : FuncData
  dThing : FuncData
  dTitle : FuncData
  dHeard : FuncData
  dPairs : FuncData
  dDue : FuncData
  dOdd : FuncData
  dLaw : FuncData
/-- a def of the top -/
structure Top (K : PySem.W.Frag) (mg : Str → Option Value) (x : Str) (st : Stmt) (f : Addr) (fd : FuncData) (ps : List Str) : Prop where
  F : Fun K x x st f fd
  g : mg x = some (.ref f)
  b : Binds K fd ps []
/-- a class of rows: its __init__ -/
structure RowC (K : PySem.W.Frag) (mg : Str → Option Value) (x qual : Str) (st : Stmt) (C f : Addr) (fd : FuncData) (ps : List Str) : Prop where
  F : Fun K "__init__" qual st f fd
  b : Binds K fd ps []
  g : mg x = some (.ref C)
  cl : Cls K C
  mkd : Mk K C f
structure Txt (K : PySem.W.Frag) (mg : Str → Option Value) (a : Ad) : Prop where
  tStr : mg "str" = none
  tLen : mg "len" = none
  tAll : mg "all" = none
  tIs : mg "isinstance" = none
  tTuple : mg "tuple" = none
  tList : mg "list" = none
  tSet : mg "set" = none
  abc : ∃ tk, mg "_LETTERS" = some (.str abc tk)
  isName : Top K mg "is_name" sIsName a.fN a.dN ["value"]
  expect : Top K mg "_expect_names" sExpect a.fX a.dX ["pairs"]
  areWays : Top K mg "_are_ways" sWays a.fWs a.dWs ["value"]
  isWay : Top K mg "_is_way" sWay a.fW a.dW ["value"]
  -- the error
  gLog : mg "LogError" = some (.ref a.cLog)
  gIr : mg "InvalidRow" = some (.ref a.cIr)
  ir : OexC K a.cIr
  irF : Fun K "__init__" "InvalidRow.__init__" sIr a.fIr a.dIr
  irB : Binds K a.dIr ["self", "word"] []
  irI : PySem.W.findIn K (.ref a.cIr) "__init__" = some (some (.ref a.fIr))
  irT : PySem.W.typeIn K (.ref a.fIr) = some (.type "function")
  irW : PySem.W.findIn K (.ref a.cIr) "word" = some none
  irX : XfC K a.cIr
  -- rows
  row : RowC K mg "Row" "Row.__init__" sRow a.cRow a.fRow a.dRow ["self", "words"]
  ask : RowC K mg "Ask" "Ask.__init__" sAsk a.cAsk a.fAsk a.dAsk ["self", "place", "name", "ways"]
  note : RowC K mg "Note" "Note.__init__" sNote a.cNote a.fNote a.dNote ["self", "place", "word", "then"]
  gate : RowC K mg "Gate" "Gate.__init__" sGate a.cGate a.fGate a.dGate ["self", "place", "mark", "newer", "elder"]
  end_ : RowC K mg "End" "End.__init__" sEnd a.cEnd a.fEnd a.dEnd ["self", "place"]
  rowR : ClX.CRead K a.cRow (.type "type")
  rowI : ClX.CVal K a.cRow (.type "type") "__init__" (.ref a.fRow) (.ref a.fRow)
  -- attributes that no class of rows has
  no : ∀ C ∈ [a.cAsk, a.cNote, a.cGate, a.cEnd], ∀ n ∈ (["place", "name", "ways", "word", "then", "mark", "newer", "elder", "_text"] : List Str), NoAttr K C n
section
variable {P : Program} {w : World} {K : PySem.W.Frag} {mg : Str → Option Value} {base : Heap} {a : Ad}
theorem Txt.okN (T : Txt K mg a) : FnOk P w K mg base CX0 1 a.fN a.dN ["value"] (spIsName K) := by
  obtain ⟨tk, h⟩ := T.abc
  exact ok_isName T.isName.F T.tStr T.tIs T.tLen T.tAll h
theorem scIr : FnScope ["self", "word"] ["self", "word"] (defScope sIr) := ⟨rfl, rfl, rfl, by decide +kernel, rfl, by decide +kernel, by decide +kernel⟩
theorem Txt.okIr (T : Txt K mg a) : FnOk P w K mg base CX0 1 a.fIr a.dIr ["self", "word"] (spErr a.cIr "word") := by
  refine T.irF.ok scIr (fun vs H Q E h => ?_) (fun cdv A outer s H vs Q E hr h => ?_)
  · obtain ⟨a, x, rfl, _⟩ := h
    rfl
  · obtain ⟨x, v, rfl, hx, fin⟩ := h
    exact ⟨_, pss_one (ps_ost (pv 0) (pv 1)), _, rfl, _, rfl, x, _, rfl, T.ir, T.irW, .inl ⟨hx, fin⟩⟩
end
end K2

set_option Elab.async false
set_option linter.all false
set_option maxRecDepth 100000
set_option maxHeartbeats 4000000
namespace K2
open PySem L2 Lw
/-! ### a way -/
def wayOk : PyData → Bool
  | .tuple [a, b] => nameD a && nameD b
  | _ => false
def spIsWay (K : PySem.W.Frag) : Sp := fun vs H Q _ => ∃ (v : V) (d : PyData), vs = [v] ∧ Dp K H v d ∧ fine d = true ∧ ∀ H', Same H H' → Q (.bl (wayOk d)) H'
/-- what _expect_names is handed: tuples of a word and a value -/
structure It where
  t : Addr
  w : Str
  v : V
  d : PyData
def firstBad (its : List It) : Option Str := (its.find? fun i => !nameD i.d).map (·.w)
def spExpect (K : PySem.W.Frag) (C : Addr) : Sp := fun vs H Q E => ∃ (a : Addr) (its : List It), vs = [.ref a] ∧ SqL K H a (its.map fun i => .ref i.t) ∧
  (∀ i ∈ its, SqT K H i.t [.str i.w, i.v] ∧ Dp K H i.v i.d ∧ fine i.d = true) ∧ (firstBad its = none → ∀ H', Same H H' → Q .non H') ∧
  (∀ w, firstBad its = some w → ∀ (H' : Hp) (d : Addr), Same H H' → H d = none → H' d = some (.xd [("word", .str w)]) → E (.ref C) (some d) H')
theorem fine_tup {ds : List PyData} (h : fine (.tuple ds) = true) : ds.length ≤ 1000 ∧ fineAll ds = true := by
  rw [fine] at h
  obtain ⟨h1, h2⟩ := Bool.and_eq_true_iff.mp h
  exact ⟨of_decide_eq_true h1, h2⟩
theorem fine_list {ds : List PyData} (h : fine (.list ds) = true) : ds.length ≤ 1000 ∧ fineAll ds = true := by
  rw [fine] at h
  obtain ⟨h1, h2⟩ := Bool.and_eq_true_iff.mp h
  exact ⟨of_decide_eq_true h1, h2⟩
section
variable {P : Program} {w : World} {K : PySem.W.Frag} {mg : Str → Option Value} {base : Heap} {a : Ad}
theorem scWay : FnScope ["value"] ["value"] (defScope sWay) := ⟨rfl, rfl, rfl, by decide +kernel, rfl, by decide +kernel, by decide +kernel⟩
theorem Txt.okW (T : Txt K mg a) : FnOk P w K mg base CX0 2 a.fW a.dW ["value"] (spIsWay K) := by
  refine T.isWay.F.ok scWay (fun vs H Q E h => ?_) (fun cdv A outer s H vs Q E hr h => ?_)
  · obtain ⟨v, d, rfl, _⟩ := h
    rfl
  · obtain ⟨v, d, rfl, hd, hz, fin⟩ := h
    refine ⟨_, pss_one (ps_ret (pe_and (pe_callB call_isi (by rfl) T.tIs PyProof.Rows.boot_isinstance (pa_cons (pv 0) (pa_cons (pe_bltn (v := .ty "tuple") (by rfl) T.tTuple PyProof.Rows.boot_tuple rfl) pa_nil)))
      (pe_and (pe_cmpR op_eq (pe_callB call_len_seq (by rfl) T.tLen PySem.boot_len (pa_cons (pv 0) pa_nil)) pe_int (nomark _))
      (pe_and (pe_call T.okN hr rfl T.isName.g T.isName.F.kp T.isName.b .nil pass0 (pa_cons (pe_ix ix_tup (pv 0) pe_int (fun _ _ => rfl)) pa_nil))
        (pe_one (pe_call T.okN hr rfl T.isName.g T.isName.F.kp T.isName.b .nil pass0 (pa_cons (pe_ix ix_tup (pv 0) pe_int (fun _ _ => rfl)) pa_nil))))))), ?_⟩
    refine ⟨_, rfl, _, _, _, _, _, rfl, .ty "tuple", ty_data hd, kit_tup (no_dict hd), _, rfl, ?_⟩
    cases d with
    | tuple ds =>
      cases hd with
      | @tup p xs _ hs ha =>
        have el := dpAll_len ha
        refine iteT ⟨_, rfl, p, xs, rfl, .inr hs, rfl, _, rfl, ?_⟩
        rw [dec_int]
        by_cases e : xs.length = 2
        · match xs, ds, ha, e, el with
          | [x, y], [dx, dy], .cons hx (.cons hy .nil), _, _ =>
            obtain ⟨_, hf⟩ := fine_tup hz
            refine iteT ⟨_, rfl, p, [x, y], 0, x, rfl, rfl, hs, at0, x, dx, rfl, hx, fineAll_mem hf (by simp), fun H1 s1 => ⟨_, rfl, ?_⟩⟩
            cases e1 : nameD dx with
            | false =>
              refine iteF ?_
              have z := fin H1 s1
              rwa [show wayOk (.tuple [dx, dy]) = false from by rw [wayOk, e1, Bool.false_and]] at z
            | true =>
              refine iteT ⟨_, rfl, p, [x, y], 1, y, rfl, rfl, same_tup s1 hs, at1, y, dy, rfl, dp_same s1 _ _ hy, fineAll_mem hf (by simp), fun H2 s2 => ?_⟩
              have z := fin H2 (s1.trans s2)
              rwa [show wayOk (.tuple [dx, dy]) = nameD dy from by rw [wayOk, e1, Bool.true_and]] at z
        · rw [show ((xs.length : Int) == 2) = false from by simpa using (by omega : (xs.length : Int) ≠ 2)]
          refine iteF ?_
          have z := fin H (Same.refl H)
          rwa [show wayOk (.tuple ds) = false from by
            match ds, el with
            | [], _ => rfl
            | [_], _ => rfl
            | [_, _], el => exact absurd el e
            | _ :: _ :: _ :: _, _ => rfl] at z
    | _ => exact iteF (fin H (Same.refl H))
theorem scX : FnScope ["pairs", "word", "value"] ["pairs"] (defScope sExpect) := ⟨rfl, rfl, rfl, by decide +kernel, rfl, by decide +kernel, by decide +kernel⟩
theorem Txt.okX (T : Txt K mg a) : FnOk P w K mg base (L2.CX P w) 3 a.fX a.dX ["pairs"] (spExpect K a.cIr) := by
  refine T.expect.F.okX scX (fun vs H Q E h => ?_) (fun cdv A outer s H vs Q E hr h => ?_)
  · obtain ⟨v, d, rfl, _⟩ := h
    rfl
  · obtain ⟨l, its, rfl, hl, hi, kN, kE⟩ := h
    have hr1 : Room 1 _ := hr.mono (by decide)
    refine ⟨_, pss_one (ps_for (passes_of rfl) rfl (pi_list (pv 0)) (pg_tup rfl (pgs_cons (pg_name (i := 1) scX.nd rfl (.inl rfl)) (pgs_cons (pg_name (i := 2) scX.nd rfl (.inl rfl)) pgs_nil)))
      (pss_one (ps_if (pt_not (pt_val (pe_call T.okN hr1 rfl T.isName.g T.isName.F.kp T.isName.b .nil pass0 (pa_cons (pv 2) pa_nil))))
        (pss_one (ps_raise rfl (takes_of rfl rfl rfl rfl) (pmk_oex T.ir T.irI T.irT T.okIr hr T.irB .nil pass0 rfl T.gIr (pa_cons (pv 1) pa_nil)))) pss_nil))), ?_⟩
    refine ⟨_, rfl, l, rfl, ⟨_, hl⟩, for_list (K := K) (a := l) (xs := its.map fun i => V.ref i.t) (fun i σ H' => ∃ x y, σ = [some (.ref l), x, y] ∧ Same H H' ∧ firstBad (its.take i) = none) ⟨_, _, rfl, Same.refl H, rfl⟩ (fun i σ H' _ ⟨_, _, _, s1, _⟩ => s1.seq hl) ?_ ?_⟩
    · rintro j x σ H1 hx ⟨_, _, rfl, s1, fb⟩
      rw [List.getElem?_map] at hx
      obtain ⟨i, ei, rfl⟩ := Option.map_eq_some_iff.mp hx
      obtain ⟨ht, hd, hf⟩ := hi i (List.mem_of_getElem? ei)
      refine ⟨_, _, rfl, same_tup s1 ht, rfl, ?_⟩
      refine ⟨_, _, rfl, _, _, rfl, rfl, ?_⟩
      refine ⟨_, rfl, _, i.d, rfl, dp_same s1 _ _ hd, hf, fun H2 s2 => ⟨_, rfl, ?_⟩⟩
      have s12 := s1.trans s2
      have step : firstBad (its.take (j + 1)) = if nameD i.d = true then none else some i.w := by
        unfold firstBad at fb ⊢
        have fb' := Option.map_eq_none_iff.mp fb
        rw [List.take_add_one, ei, List.find?_append, fb', Option.none_or]
        show Option.map _ (List.find? _ [i]) = _
        rw [List.find?_cons]
        cases nameD i.d <;> rfl
      cases e1 : nameD i.d with
      | true =>
        rw [e1, if_pos rfl] at step
        exact iteF ⟨_, _, rfl, s12, step⟩
      | false =>
        rw [e1, if_neg (by decide)] at step
        refine iteT ?_
        have full : firstBad its = some i.w := by
          unfold firstBad at step ⊢
          rw [← List.take_append_drop (j + 1) its, List.find?_append]
          obtain ⟨y, ey, ew⟩ := Option.map_eq_some_iff.mp step
          rw [ey, Option.some_or, Option.map_some, ew]
        refine ⟨_, rfl, (by show 1 ≤ 1000; decide), fun x hx => ⟨x, _, rfl, upd_same, fun d h1 h2 => ⟨rfl, d, _, upd_same, by rw [upd_ne h2]; exact upd_same, ?_, ?_⟩⟩⟩
        · rwa [upd_ne h2] at h1
        · rw [err_heap hx h1 h2]
          have hd' : H2 d = none := by rwa [upd_ne h2] at h1
          exact kE _ full _ d (s12.trans (same_new hd')) (s12.free hd') upd_same
    · rintro σ H1 ⟨_, _, rfl, s1, fb⟩
      rw [List.length_map, List.take_length] at fb
      exact kN fb H1 s1
end
end K2

set_option Elab.async false
set_option linter.all false
set_option maxRecDepth 100000
set_option maxHeartbeats 4000000
/-! Sets of keys (ints, texts) made of a list, a tuple, by a comprehension; their length. -/
namespace Sx
open PySem PySem.Spec PyProof.Rows L2

theorem key_beq (a b : Key) : (a == b) = true ↔ a = b := by
  cases a with
  | inl i =>
    cases b with
    | inl j => exact ⟨fun z => congrArg Sum.inl (eq_of_beq (show (i == j) = true from z)), fun z => by cases z; exact beq_self_eq_true i⟩
    | inr y => exact ⟨fun z => absurd (show false = true from z) Bool.false_ne_true, fun z => by cases z⟩
  | inr x =>
    cases b with
    | inl j => exact ⟨fun z => absurd (show false = true from z) Bool.false_ne_true, fun z => by cases z⟩
    | inr y => exact ⟨fun z => congrArg Sum.inr (eq_of_beq (show (x == y) = true from z)), fun z => by cases z; exact beq_self_eq_true x⟩
instance keyLaw : LawfulBEq Key where
  eq_of_beq := fun {a b} h => (key_beq a b).mp h
  rfl := fun {a} => (key_beq a a).mpr rfl

/-! ### each key once, in the order of its first place -/
def put1 (acc : List Key) (k : Key) : List Key := if k ∈ acc then acc else acc ++ [k]
def nub (l : List Key) : List Key := l.foldl put1 []
theorem nub_snoc (l : List Key) (k : Key) : nub (l ++ [k]) = put1 (nub l) k := by
  unfold nub; rw [List.foldl_append]; rfl
theorem mem_put1 {acc : List Key} {k x : Key} : x ∈ put1 acc k ↔ x ∈ acc ∨ x = k := by
  unfold put1
  by_cases h : k ∈ acc
  · rw [if_pos h]
    constructor
    · exact .inl
    · rintro (q | q)
      · exact q
      · rw [q]; exact h
  · rw [if_neg h]; simp
theorem mem_nub : ∀ (n : Nat) (l : List Key), l.length = n → ∀ x, x ∈ nub l ↔ x ∈ l
  | 0, l, h, x => by
    have e : l = [] := List.length_eq_zero_iff.mp h
    subst e; exact Iff.rfl
  | n + 1, l, h, x => by
    have ne : l ≠ [] := by intro e; subst e; simp at h
    obtain ⟨r, k, e⟩ : ∃ r k, l = r ++ [k] := ⟨l.dropLast, l.getLast ne, (List.dropLast_concat_getLast ne).symm⟩
    subst e
    have hr : r.length = n := by simpa using h
    rw [nub_snoc, mem_put1, mem_nub n r hr x]; simp
theorem mem_nub' {l : List Key} {x : Key} : x ∈ nub l ↔ x ∈ l := mem_nub l.length l rfl x
theorem len_put1 {acc : List Key} {k : Key} : (put1 acc k).length = if k ∈ acc then acc.length else acc.length + 1 := by
  unfold put1; split <;> simp
theorem len_nub_le : ∀ (n : Nat) (l : List Key), l.length = n → (nub l).length ≤ l.length
  | 0, l, h => by
    have e : l = [] := List.length_eq_zero_iff.mp h
    subst e; exact Nat.le_refl _
  | n + 1, l, h => by
    have ne : l ≠ [] := by intro e; subst e; simp at h
    obtain ⟨r, k, e⟩ : ∃ r k, l = r ++ [k] := ⟨l.dropLast, l.getLast ne, (List.dropLast_concat_getLast ne).symm⟩
    subst e
    have hr : r.length = n := by simpa using h
    have ih := len_nub_le n r hr
    rw [nub_snoc, len_put1, List.length_append, List.length_singleton]
    split <;> omega
/-- as many as there are: just if each stands once -/
theorem len_nub_iff : ∀ (n : Nat) (l : List Key), l.length = n → ((nub l).length = l.length ↔ l.Nodup)
  | 0, l, h => by
    have e : l = [] := List.length_eq_zero_iff.mp h
    subst e; simp [nub]
  | n + 1, l, h => by
    have ne : l ≠ [] := by intro e; subst e; simp at h
    obtain ⟨r, k, e⟩ : ∃ r k, l = r ++ [k] := ⟨l.dropLast, l.getLast ne, (List.dropLast_concat_getLast ne).symm⟩
    subst e
    have hr : r.length = n := by simpa using h
    have ih := len_nub_iff n r hr
    have le := len_nub_le n r hr
    rw [nub_snoc, len_put1, List.length_append, List.length_singleton, List.nodup_append]
    by_cases hk : k ∈ r
    · rw [if_pos (mem_nub'.mpr hk)]
      constructor
      · intro q; omega
      · rintro ⟨_, _, q⟩
        exact absurd rfl (q k hk k (by simp))
    · rw [if_neg fun z => hk (mem_nub'.mp z)]
      constructor
      · intro q
        refine ⟨ih.mp (by omega), by simp, fun a ha b hb => ?_⟩
        have : b = k := by simpa using hb
        subst this
        intro z; subst z; exact hk ha
      · rintro ⟨q, _, _⟩
        have := ih.mpr q
        omega
theorem nub_nodup_iff {l : List Key} : (nub l).length = l.length ↔ l.Nodup := len_nub_iff l.length l rfl

/-! ### filling -/
abbrev inPre (ks : List Key) (i : Nat) : Key → Bool := fun k => decide (k ∈ ks.take i)
abbrev HasSet (P : Program) (w : World) (h : Heap) (S : Addr) (ks : List Key) : Prop := h.SetOf (mixKind P w) S (fun k => decide (k ∈ ks)) (nub ks).length
theorem hasSet_next {P : Program} {w : World} {h : Heap} {S : Addr} {ks : List Key} {k : Key}
    (x : h.SetOf (mixKind P w) S (fun j => decide (j ∈ ks) || decide (j = k)) (if decide (k ∈ ks) = true then (nub ks).length else (nub ks).length + 1)) : HasSet P w h S (ks ++ [k]) := by
  refine SetOf_congr x (fun j => ?_) ?_
  · simp [Bool.decide_or]
  · rw [nub_snoc, len_put1]
    by_cases h : k ∈ ks
    · rw [if_pos (decide_eq_true h), if_pos (mem_nub'.mpr h)]
    · rw [if_neg (by simpa using h), if_neg fun z => h (mem_nub'.mp z)]
section
variable {P : Program} {w : World} {A : Around} {R : Result → Shared → Prop} {I : Addr} {fp wr : List Addr} {G : Array GenState → Array GenState → Prop} {n : Nat} {Pv : Nat → Value → Prop} {St : Nat → Shared → Prop}
theorem fill_loop (W : WalksS P w A.in1 I fp wr G n Pv St) (S : Addr) (away : S ∉ fp) (ks : List Key) (hlen : ks.length = n)
    (vals : ∀ i v, Pv i v → ∃ k, ks[i]? = some k ∧ RelV (kV k) v) (few : n + 1 < scanBound) :
    ∀ (left i : Nat) (s : Shared), n - i = left → i ≤ n → St i s → HasSet P w s.heap S (ks.take i) →
      (∀ s', Moved (S :: wr) G s s' → HasSet P w s'.heap S ks → R (.ok (.ret .none)) s') →
      codeAny (model P w) A (.builtin "set.update.loop" ⟨[.ref S, .ref I], []⟩) R s := by
  have Sw : S ∉ wr := fun z => away (W.sub _ z)
  have more : ∀ b ∈ wr, b ∈ S :: wr := fun _ hb => List.mem_cons_of_mem _ hb
  intro left
  induction left with
  | zero =>
    intro i s hl hi st hs fin
    have ei : i = n := by omega
    subst ei
    refine codeAny_builtin (A := A) PyProof.Rows.F.entry_set_update_loop ?_
    rw [Around.under_plainId (A := A) PyProof.Rows.F.plain_set_update_loop _]
    show wpAny (model P w) A.in1 (pyNext (.ref I) >>= _) _ _ s
    refine wpAny_bind (W.done s _ _ st fun s1 mv => ?_)
    show wpAny (model P w) A.in1 (ret Value.none) _ _ s1
    refine wpAny_pure (fin s1 (mv.mono more) ?_)
    rw [List.take_of_length_le (by omega)] at hs
    obtain ⟨o, es, ep, t, ho, r⟩ := hs
    exact ⟨o, es, ep, t, mv.heap S _ Sw ho, r⟩
  | succ left ih =>
    intro i s hl hi st hs fin
    have lt : i < n := by omega
    refine codeAny_builtin (A := A) PyProof.Rows.F.entry_set_update_loop ?_
    rw [Around.under_plainId (A := A) PyProof.Rows.F.plain_set_update_loop _]
    show wpAny (model P w) A.in1 (pyNext (.ref I) >>= _) _ _ s
    refine wpAny_bind (W.item i s _ _ lt st fun v s1 hv st1 mv => ?_)
    obtain ⟨k, hk, rv⟩ := vals i v hv
    have hs1 : HasSet P w s1.heap S (ks.take i) := by
      obtain ⟨o, es, ep, t, ho, r⟩ := hs
      exact ⟨o, es, ep, t, mv.heap S _ Sw ho, r⟩
    show wpAny (model P w) A.in1 (holding [v] (setAdd S v) >>= _) _ _ s1
    refine wpAny_bind (wpAny_holding ?_)
    unfold setAdd
    refine wpAny_holding (wpAny_bind ((mixKind P w).pyHash (k := k) (kV_is rv) ?_))
    have room : (nub (ks.take i)).length + 1 < scanBound := by
      have := len_nub_le _ (ks.take i) rfl
      rw [List.length_take] at this
      omega
    refine wpAny_setAddHashed_of (knd := mixKind P w) (s := { s1 with toks := s1.toks + 1 }) (kV_is rv) (key_scan rv) hs1 room fun h2 same hs2 => ?_
    have hs3 : HasSet P w h2 S (ks.take (i + 1)) := by
      rw [List.take_add_one, hk]
      exact hasSet_next hs2
    refine wpAny_pure ⟨plainId_quiet PyProof.Rows.F.plain_set_update_loop _, ih (i + 1) _ (by omega) lt (W.frame _ s1 _ _ st1 (Nat.le_succ _) fun b hb o e => ?_) hs3 fun s2 mv2 hs4 => ?_⟩
    · exact (same.2 b fun z : b = S => away (z ▸ hb)).trans e
    · refine fin s2 (Moved.trans W.gtrans ((mv.mono more).then_heap (Nat.le_succ _) fun b o hb e => ?_) mv2) hs4
      exact (same.2 b fun z : b = S => hb (z ▸ List.mem_cons_self)).trans e
end
end Sx

set_option Elab.async false
set_option linter.all false
set_option maxRecDepth 100000
set_option maxHeartbeats 4000000
namespace Sx
open PySem PySem.Spec PyProof.Rows L2
/-! ### a set comprehension of keys -/
section
variable {X : Cx}
/-- one key more in the set at D -/
theorem add_key {pins : List (Addr × Obj)} {σ : L2.St} {H : Hp} {s : Shared} {E : Value → Shared → Prop} {D : Addr} {S : Key → Bool} {n : Nat} {k : Key} {u : Value} {Q : Value → Shared → Prop}
    (I : Inv X pins σ H s) (at_ : H D = some (SetK X.prog X.w D S n)) (room : n + 1 < scanBound) (ru : RelV (kV k) u)
    (fin : ∀ s', Inv X pins σ (upd H D (SetK X.prog X.w D (fun j => S j || decide (j = k)) (if S k = true then n else n + 1))) s' → Q .none s') :
    wpAny (model X.prog X.w) X.A (call (.builtin "set.add") [.ref D, u]) Q E s := by
  refine PySem.call_set_add (kV_is ru) (key_scan ru) (setK_get I at_) room fun h' same new => ?_
  have there : ∃ o, h'.get? D = some o := let ⟨o, _, _, _, ho, _⟩ := new; ⟨o, ho⟩
  exact fin _ (I.write (e := D) (t' := s.toks + 1) (by rw [at_]; trivial) (.inl rfl) (fun b o hb ho => (same.2 b hb).trans ho) there (setK_new new))
/-- what a turn does with the element's value -/
def TurnK (P : Program) (w : World) (D : Addr) (Nx : Hp → Prop) : VK := fun y H4 => ∃ (k : Key) (S : Key → Bool) (n : Nat), y = kV k ∧ H4 D = some (SetK P w D S n) ∧ n + 1 < scanBound ∧
  Nx (upd H4 D (SetK P w D (fun j => S j || decide (j = k)) (if S k = true then n else n + 1)))
/-- {elt for target in iter if ..} -/
def tSck (P : Program) (w : World) (wi : TI) (g : TG) (tt : TT) (te : TE) (vs : List Nat) : TE := fun σ H Q => wi σ H fun J H1 => ∀ D, H1 D = none →
  ∃ W : Nat → Nat → Hp → Prop, (∃ m, W 0 m (upd H1 D (SetK P w D (fun _ => false) 0))) ∧ ∀ i m H, W i m H →
    (J.stop i H ∧ Q (.ref D) H) ∨
    (J.go i H ∧ ∃ Nx : Hp → Prop, (∀ H', Nx H' → ∃ m', m' < m ∧ W (i + 1) m' H') ∧ ∀ x H', J.yld i H x H' →
      g x (wipe σ vs) H' fun σ2 H2 => wipe σ2 vs = wipe σ vs ∧ tt σ2 H2 fun b H3 => if b = true then te σ2 H3 (TurnK P w D Nx) else Nx H3)
variable {elt tg iter : Expr} {ifs : List Expr} {scope : Scope} {own : List (PySem.Str × Nat)} {pos pos' : Pos} {wi : TI} {g : TG} {tt : TT} {te : TE}
/-- the context of the block -/
abbrev Blk (X : Cx) (scope : Scope) (s : Shared) (H : Hp) (C : Addr) (cl : List (PySem.Str × Addr)) (fp : List Addr) : Cx := X.blk s H scope (compEnvC scope cl C X.env) fp
theorem pe_sck (calm : X.calm = true) (nd : X.N.Nodup) (hi : PI X tg iter wi) (ok : BlkOk X.N X.env.scope scope own)
    (hg : ∀ s H C cl fp, PG (Blk X scope s H C cl fp) tg g) (ht : ∀ s H C cl fp, PTs (Blk X scope s H C cl fp) ifs tt) (he : ∀ s H C cl fp, PE (Blk X scope s H C cl fp) elt te)
    (hs : ∀ x, foldedSetIterable iter X.env x = pure x := by intro _; rfl) :
    PE X (.SetComp elt [⟨tg, iter, ifs, 0⟩] scope pos) (tSck X.prog X.w wi g tt te (own.map (·.2))) := by
  refine ⟨fun pins s σ H Q I h => ?_⟩
  rw [PpSet.eval_SetComp]
  have captured : ∀ y ∈ scope.names, y.2 = .free → ∃ c, X.env.cells.lookup y.1 = some c := fun y hy e => (ok.free y hy e).elim (fun z => I.ok.has _ (.inl z)) fun z => I.ok.has _ (.inr z)
  refine wpAny_comprehension_free (use := none) rfl hs (closure_ok captured) ok.kind (fun y hy e => by rw [ok.uniq y hy, e]) (thn (hi.run pins s σ H _ I h) fun xv s1 q1 => thn q1 fun itv s2 q2 => ?_)
  obtain ⟨it, fp, tn, J, H2, ei, I2, T, st2, f2, q⟩ := q2
  subst ei
  refine PpSet.newSet_ok (newEnv_comp ?_)
  generalize eD : s2.heap.objs.size = D
  have freeD : H2 D = none := I2.hok.fresh (Nat.le_of_eq eD)
  obtain ⟨W, ⟨m0, w0⟩, turn⟩ := q D freeD
  -- the set, empty
  generalize es3 : ({ s2 with heap := s2.heap.push { cls := .type "set", dict := none, data := .set #[] 0 (.fresh 0 0 (!X.w.params.followText "set-order")) } } : Shared) = s3
  generalize eH3 : upd H2 D (SetK X.prog X.w D (fun _ => false) 0) = H3 at w0
  have heap3 : s3.heap = s2.heap.push { cls := .type "set", dict := none, data := .set #[] 0 (.fresh 0 0 (!X.w.params.followText "set-order")) } := by rw [← es3]
  have I3 : Inv X pins σ H3 s3 := by
    rw [← es3, ← eH3]
    refine I2.laid (t' := s2.toks) (fun b o e => Heap.get?_push_of_some _ e) (Nat.le_of_eq eD) (setK_new ?_)
    rw [← eD]
    exact ⟨_, #[], 0, _, Heap.get?_push_size _ rfl, ⟨rfl, rfl, rfl⟩, rfl, (fun e z => by simp at z), (fun k => by simp), (by decide), (by rfl), rfl⟩
  have below : ∀ b ∈ fp, b < s2.heap.objs.size := fun b hb => let ⟨_, e, _⟩ := T.obj _ _ st2 b hb; Heap.lt_size e
  have f3 : ∀ b ∈ fp, FpOk X pins H3 b ∧ b < s3.heap.objs.size := fun b hb => by
    have lt := below b hb
    refine ⟨⟨?_, (f2 b hb).2⟩, ?_⟩
    · rw [← eH3, upd_ne (by rw [← eD]; exact Nat.ne_of_lt lt)]
      exact (f2 b hb).1
    · rw [heap3, Heap.size_push]
      exact Nat.lt_succ_of_lt lt
  have st3 : tn 0 s3.heap := T.keep _ _ _ st2 fun b _ o e => by rw [heap3]; exact Heap.get?_push_of_some _ e
  have I4 := block_start I3 ok nd f3
  show codeAny _ _ (.compStart (.SetComp elt [⟨tg, iter, ifs, 0⟩] scope pos) 0 (.ref it) (.ref D) (compEnvC scope (cellsFrom (s3.heap.objs.size + 1) scope.names (cloFrom X.env.cells scope.names [])) s3.heap.objs.size X.env)) (compPost (model X.prog X.w) X.A X.xe none (EP X pins σ Q) (.ref D) s3.heap.objs.size) { s3 with heap := pushCells (s3.heap.push { cls := .type "dict", data := .dict #[] }) scope.names }
  generalize cellsFrom (s3.heap.objs.size + 1) scope.names (cloFrom X.env.cells scope.names []) = cl at I4 ⊢
  have pg := hg s3 H3 s3.heap.objs.size cl fp
  have pt := ht s3 H3 s3.heap.objs.size cl fp
  have pe := he s3 H3 s3.heap.objs.size cl fp
  unfold Blk at pg pt pe
  generalize ece : compEnvC scope cl s3.heap.objs.size X.env = ce at I4 pg pt pe ⊢
  have atC : ce.locals = s3.heap.objs.size := by rw [← ece]; rfl
  generalize es4 : ({ s3 with heap := pushCells (s3.heap.push { cls := .type "dict", data := .dict #[] }) scope.names } : Shared) = s4 at I4 ⊢
  have st4 : tn 0 s4.heap := T.keep _ _ _ st3 fun b _ o e => by rw [← es4]; exact pushCells_keeps _ _ _ _ (Heap.get?_push_of_some _ e)
  have still : ∀ {σ' : L2.St} {H' : Hp} {s' : Shared}, Inv (X.blk s3 H3 scope ce fp) [] σ' H' s' → (∀ b ∈ fp, H' b = none) → ∀ b ∈ fp, FpOk (X.blk s3 H3 scope ce fp) [] H' b := fun {σ' H' s'} J' un b hb =>
    ⟨un b hb, (J'.ok.exf b hb).1, J'.ok.exfs b hb, .inl hb, fun x c e => (J'.ok.exf b hb).2 x c e, fun p hp => absurd (show p ∈ ([] : List (Addr × Obj)) ++ [] from hp) (by simp)⟩
  refine PpSet.codeAny_compStart_set ?loop (T.self X.A 0 _ _ _ st4 ?loop)
  refine PpSet.compLoopS_any (fun n s' => ∃ i H', Inv (X.blk s3 H3 scope ce fp) [] (wipe σ (own.map (·.2))) H' s' ∧ tn i s'.heap ∧ (∀ b ∈ fp, H' b = none) ∧ W i n H') ?_ m0 ⟨0, H3, I4, st4, fun b hb => (f3 b hb).1.1, w0⟩
  rintro n s5 ⟨i, H5, I5, st5, un5, w5⟩
  rcases turn i n H5 w5 with ⟨stop, fin⟩ | ⟨go, Nx, next, step⟩
  · -- the end: back in the def
    refine thnF (T.done (X.blk s3 H3 scope ce fp) rfl rfl rfl calm i [] s5 _ H5 (fun _ _ => False) I5 (still I5 un5) st5 stop) fun r s6 ⟨er, I6⟩ => ?_
    subst er
    have I7 : Inv X pins σ H5 s6 := I3.call' (ch := fp) I6.os I6.base I6.hok I6.bare fun b hb => ⟨(f3 b hb).1.2.2.2.1, (f3 b hb).1.2.1, (f3 b hb).1.2.2.2.2.1, (f3 b hb).1.2.2.2.2.2⟩
    have unC : H5 s3.heap.objs.size = none := by
      have z : H5 ce.locals = none := I6.free
      rwa [atC] at z
    obtain ⟨m, ns, _⟩ := I6.loc
    have ns : s6.heap.Ns ce.locals m := ns
    rw [atC] at ns
    refine ⟨m, ns, fun h'' sb => ?_⟩
    obtain ⟨f0, f1, _, fr3, fr4, fr5⟩ := I3.fpOk (Nat.le_refl _) unC
    exact ⟨.ref D, H5, I7.turned (t' := s6.toks) (fun b o hb e => (sb.2 b hb).trans e) f0 f1 fr3 fr4 fr5, rfl, fin⟩
  · refine thnF (T.item (X.blk s3 H3 scope ce fp) rfl rfl rfl calm i [] s5 _ H5 (fun _ _ => False) I5 (still I5 un5) st5 go) fun r s6 ⟨u, er, q6⟩ => ?_
    subst er
    refine thnF q6 fun _ s7 ⟨x, H7, I7, r7, y7, st7, un7⟩ => ?_
    have I7' := I7.pinned (still I7 un7) (T.obj _ _ st7)
    refine thnF (pg.run _ s7 _ H7 x u _ I7' r7 (step x H7 y7)) fun _ s8 ⟨σ8, H8, I8, same, q8⟩ => ?_
    refine thnF (pt.run _ s8 σ8 H8 _ I8 q8) fun b s9 ⟨H9, I9, q9⟩ => ?_
    have back : ∀ {s' : Shared} {H' : Hp}, Inv (X.blk s3 H3 scope ce fp) ([] ++ pinsAt fp s7.heap) σ8 H' s' → Nx H' →
        ∃ m, m < n ∧ ∃ i H', Inv (X.blk s3 H3 scope ce fp) [] (wipe σ (own.map (·.2))) H' s' ∧ tn i s'.heap ∧ (∀ b ∈ fp, H' b = none) ∧ W i m H' := fun {s' H'} I' nx => by
      obtain ⟨m', lt, w'⟩ := next H' nx
      have pin : ∀ b ∈ fp, ∀ o, s7.heap.get? b = some o → s'.heap.get? b = some o ∧ H' b = none := fun b hb o e =>
        let z := I'.pin (b, o) (List.mem_append_right _ (List.mem_append_right _ (mem_pinsAt hb e)))
        ⟨z.1, z.2.1⟩
      have len : (wipe σ (own.map (·.2))).length = σ8.length := by rw [← same, wipe_length]
      refine ⟨m', lt, i + 1, H', (I'.unpinned (pins := [])).weak len (fun j v e => ?_), T.keep _ _ _ st7 fun b hb o e => (pin b hb o e).1, fun b hb => ?_, w'⟩
      · rw [← same] at e
        exact (wipe_some e).1
      · obtain ⟨o, e, _⟩ := T.obj _ _ st7 b hb
        exact (pin b hb o e).2
    cases b with
    | false =>
      simp only [Bool.false_eq_true, if_false] at q9 ⊢
      exact back I9 q9
    | true =>
      simp only [if_true] at q9 ⊢
      refine thnF (pe.run _ s9 σ8 H9 _ I9 q9) fun z s10 ⟨y, H10, I10, r10, k, S0, n0, ey, at0, room, nx⟩ => ?_
      subst ey
      exact add_key (X := X.blk s3 H3 scope ce fp) I10 at0 room r10 fun s11 I11 => back I11 nx
end
end Sx

set_option Elab.async false
set_option linter.all false
set_option maxRecDepth 100000
set_option maxHeartbeats 4000000
/-! What is walked is a list or a tuple. -/
namespace Lw
open PySem PySem.Spec PyProof.Rows L2
section
variable {X : Cx} {tg l : Expr} {t1 t2 : TI}
theorem PI.or (h1 : PI X tg l t1) (h2 : PI X tg l t2) : PI X tg l (fun σ H R => t1 σ H R ∨ t2 σ H R) := by
  refine ⟨fun pins s σ H R I h => ?_⟩
  rcases h with h | h
  · exact h1.run pins s σ H R I h
  · exact h2.run pins s σ H R I h
end
def SqA (K : PySem.W.Frag) (H : Hp) (a : Addr) (xs : List V) : Prop := SqL K H a xs ∨ SqT K H a xs
theorem SqA.same {K : PySem.W.Frag} {H H' : Hp} {a : Addr} {xs : List V} (e : Same H H') (h : SqA K H a xs) : SqA K H' a xs := h.elim (fun h => .inl (e.seq h)) fun h => .inr (same_tup e h)
abbrev iSeq (K : PySem.W.Frag) (tl : TE) : TI := fun σ H R => iList K tl σ H R ∨ iTup K tl σ H R
theorem pi_seq {X : Cx} {tg l : Expr} {tl : TE} (h : PE X l tl) : PI X tg l (iSeq X.K tl) := PI.or (pi_list h) (pi_tup h)
/-- how it is walked -/
inductive JA (K : PySem.W.Frag) (H : Hp) (a : Addr) (xs : List V) : L2.It → Prop
  | l (h : SqL K H a xs) : JA K H a xs (Itl K a)
  | t (h : SqT K H a xs) : JA K H a xs (Itt K a)
theorem seq_run {K : PySem.W.Frag} {a : Addr} {xs : List V} {σ : L2.St} {H : Hp} {i0 : Nat} {R : L2.It → Hp → Prop} (e : σ[i0]? = some (some (.ref a))) (hs : SqA K H a xs) (f : ∀ J, JA K H a xs J → R J H) : iList K (tVar i0) σ H R ∨ iTup K (tVar i0) σ H R := by
  rcases hs with hs | hs
  · exact .inl ⟨_, e, a, rfl, ⟨_, hs⟩, f _ (.l hs)⟩
  · exact .inr ⟨_, e, a, rfl, ⟨_, hs⟩, f _ (.t hs)⟩
theorem lc_of_J {K : PySem.W.Frag} {a : Addr} {H1 : Hp} {D : Addr} {i : Nat} {σ : L2.St} {xs : List V} {J : L2.It} (out : List (Option V)) {tt : TT} {te : TE} {Qd : Hp → Prop} (hl : JA K H1 a xs J) (un : H1 D = none) (T : Turns H1 i (σ.set i none) xs out tt te) (mono : MonoT tt)
    (fin : ∀ H', Same H1 H' → H' D = some (.lst (outOf out)) → Qd H') :
    ∃ W : Nat → Nat → Hp → Prop, (∃ m, W 0 m (upd H1 D (.lst []))) ∧ ∀ i' m H, W i' m H →
      (J.stop i' H ∧ Qd H) ∨ (J.go i' H ∧ ∃ Nx : Hp → Prop, (∀ H', Nx H' → ∃ m', m' < m ∧ W (i' + 1) m' H') ∧ ∀ x H', J.yld i' H x H' → gName i x (wipe σ [i]) H' fun σ2 H2 => wipe σ2 [i] = wipe σ [i] ∧ tt σ2 H2 fun b H3 =>
        if b = true then te σ2 H3 fun y H4 => ∃ acc, H4 D = some (.lst acc) ∧ acc.length < sizeLine ∧ Nx (upd H4 D (.lst (acc ++ [y]))) else Nx H3) := by
  cases hl with
  | l h => exact lc_of_list out h un T mono fin
  | t h => exact lc_of_tup out h un T mono fin
theorem for_J {K : PySem.W.Frag} {a : Addr} {xs : List V} {σ : L2.St} {H : Hp} {J : L2.It} {g : TG} {t : TS} {D : Ends} (hs : JA K H a xs J) (Pv : Nat → L2.St → Hp → Prop) (h0 : Pv 0 σ H) (keep : ∀ i σ' H', Pv i σ' H' → Same H H')
    (turn : ∀ i x σ' H', xs[i]? = some x → Pv i σ' H' → g x σ' H' fun σ2 H2 => t { D with nx := Pv (i + 1), ct := Pv (i + 1), bk := D.nx } σ2 H2) (done : ∀ σ' H', Pv xs.length σ' H' → D.nx σ' H') :
    ∃ W : Nat → Nat → L2.St → Hp → Prop, (∃ m, W 0 m σ H) ∧ ∀ i m σ H, W i m σ H →
      (J.stop i H ∧ D.nx σ H) ∨ (J.go i H ∧ ∃ N : L2.St → Hp → Prop, (∀ σ' H', N σ' H' → ∃ m', m' < m ∧ W (i + 1) m' σ' H') ∧ ∀ x H', J.yld i H x H' → g x σ H' fun σ2 H2 => t { D with nx := N, ct := N, bk := D.nx } σ2 H2) := by
  cases hs with
  | l h => exact for_list (K := K) (a := a) (xs := xs) Pv h0 (fun i σ' H' _ p => (keep i σ' H' p).seq h) turn done
  | t h => exact for_tup (K := K) (a := a) (xs := xs) Pv h0 (fun i σ' H' _ p => same_tup (keep i σ' H' p) h) turn done
/-- the turns of a set comprehension -/
structure TurnsK (H1 : Hp) (i : Nat) (σ : L2.St) (xs : List V) (ks : List Key) (te : TE) : Prop where
  len : ks.length = xs.length
  few : xs.length ≤ 1000
  el : ∀ (j : Nat) (x : V) (k : Key) (H : Hp) (Q : VK), xs[j]? = some x → ks[j]? = some k → Same H1 H → (∀ H', Same H H' → Q (kV k) H') → te (σ.set i (some x)) H Q
theorem turnK_core {P : Program} {w : World} {H1 H : Hp} {D : Addr} {i : Nat} {σ : L2.St} {xs : List V} {ks : List Key} {te : TE} (T : TurnsK H1 i (σ.set i none) xs ks te) {j : Nat} {x : V} (hx : xs[j]? = some x)
    (s1 : Same H1 H) (hD : H D = some (SetK P w D (fun k => decide (k ∈ ks.take j)) (Sx.nub (ks.take j)).length)) (un : H1 D = none) {Nx : Hp → Prop} (fin : ∀ H', Same H1 H' → H' D = some (SetK P w D (fun k => decide (k ∈ ks.take (j + 1))) (Sx.nub (ks.take (j + 1))).length) → Nx H') :
    gName i x (wipe σ [i]) H fun σ2 H2 => wipe σ2 [i] = wipe σ [i] ∧ tYes σ2 H2 fun b H3 => if b = true then te σ2 H3 (Sx.TurnK P w D Nx) else Nx H3 := by
  refine ⟨by simp [wipe], ?_⟩
  show if true = true then te ((σ.set i none).set i (some x)) H (Sx.TurnK P w D Nx) else Nx H
  refine iteT ?_
  have hj : j < ks.length := by rw [T.len]; exact (List.getElem?_eq_some_iff.mp hx).1
  have hk : ks[j]? = some ks[j] := List.getElem?_eq_getElem hj
  refine T.el j x ks[j] H _ hx hk s1 fun H4 s4 => ⟨ks[j], _, _, rfl, s4 _ _ hD, ?_, fin _ (fun b o eb => ?_) ?_⟩
  · have := Sx.len_nub_le _ (ks.take j) rfl
    rw [List.length_take] at this
    have l2 := T.few
    have l3 := T.len
    exact Nat.lt_of_le_of_lt (show (Sx.nub (ks.take j)).length + 1 ≤ 1001 by omega) (by decide)
  · rw [upd_ne (ne_of_none eb un)]
    exact s4 _ _ (s1 _ _ eb)
  · have tk : ks.take (j + 1) = ks.take j ++ [ks[j]] := by rw [List.take_add_one, hk]; rfl
    have e1 : (fun k => decide (k ∈ ks.take j) || decide (k = ks[j])) = fun k => decide (k ∈ ks.take (j + 1)) := by
      funext k
      have q : k ∈ ks.take (j + 1) ↔ k ∈ ks.take j ∨ k = ks[j] := by rw [tk, List.mem_append, List.mem_singleton]
      rw [decide_eq_decide.mpr q, Bool.decide_or]
    have e2 : (if decide (ks[j] ∈ ks.take j) = true then (Sx.nub (ks.take j)).length else (Sx.nub (ks.take j)).length + 1) = (Sx.nub (ks.take (j + 1))).length := by
      rw [tk, Sx.nub_snoc, Sx.len_put1]
      by_cases h : ks[j] ∈ ks.take j
      · rw [if_pos (decide_eq_true h), if_pos (Sx.mem_nub'.mpr h)]
      · rw [if_neg (by simpa using h), if_neg fun z => h (Sx.mem_nub'.mp z)]
    rw [upd_same]
    show some (SetK P w D (fun k => decide (k ∈ ks.take j) || decide (k = ks[j])) (if decide (ks[j] ∈ ks.take j) = true then (Sx.nub (ks.take j)).length else (Sx.nub (ks.take j)).length + 1)) = _
    rw [e1, e2]
theorem sck_of_J {P : Program} {w : World} {K : PySem.W.Frag} {a : Addr} {xs : List V} {ks : List Key} {σ : L2.St} {H1 : Hp} {D : Addr} {i : Nat} {te : TE} {Qd : Hp → Prop} {J : L2.It} (hs : JA K H1 a xs J) (un : H1 D = none) (T : TurnsK H1 i (σ.set i none) xs ks te)
    (fin : ∀ H', Same H1 H' → H' D = some (SetK P w D (fun k => decide (k ∈ ks)) (Sx.nub ks).length) → Qd H') :
    ∃ W : Nat → Nat → Hp → Prop, (∃ m, W 0 m (upd H1 D (SetK P w D (fun _ => false) 0))) ∧ ∀ i' m H, W i' m H →
      (J.stop i' H ∧ Qd H) ∨ (J.go i' H ∧ ∃ Nx : Hp → Prop, (∀ H', Nx H' → ∃ m', m' < m ∧ W (i' + 1) m' H') ∧ ∀ x H', J.yld i' H x H' →
        gName i x (wipe σ [i]) H' fun σ2 H2 => wipe σ2 [i] = wipe σ [i] ∧ tYes σ2 H2 fun b H3 => if b = true then te σ2 H3 (Sx.TurnK P w D Nx) else Nx H3) := by
  have all : ∀ {H' : Hp}, H' D = some (SetK P w D (fun k => decide (k ∈ ks.take xs.length)) (Sx.nub (ks.take xs.length)).length) → H' D = some (SetK P w D (fun k => decide (k ∈ ks)) (Sx.nub ks).length) := fun {H'} h => by
    rwa [← T.len, List.take_length] at h
  have zero : (upd H1 D (SetK P w D (fun _ => false) 0)) D = some (SetK P w D (fun k => decide (k ∈ ks.take 0)) (Sx.nub (ks.take 0)).length) := by
    rw [upd_same]
    have e1 : (fun k : Key => decide (k ∈ ks.take 0)) = fun _ => false := by
      funext k
      simp
    rw [e1]
    rfl
  refine ⟨fun j m H' => m = xs.length - j ∧ j ≤ xs.length ∧ Same H1 H' ∧ H' D = some (SetK P w D (fun k => decide (k ∈ ks.take j)) (Sx.nub (ks.take j)).length), ⟨xs.length, by simp, Nat.zero_le _, same_new un, zero⟩, ?_⟩
  rintro j m H' ⟨rfl, hj, s1, hD⟩
  cases hs with
  | l hs =>
    have q : SqL K H' a xs := s1.seq hs
    by_cases lt : j < xs.length
    · refine .inr ⟨⟨xs, xs[j], q, by simp [lt]⟩, fun H' => Same H1 H' ∧ H' D = some (SetK P w D (fun k => decide (k ∈ ks.take (j + 1))) (Sx.nub (ks.take (j + 1))).length), fun H' p' => ⟨xs.length - (j + 1), by omega, rfl, lt, p'⟩, fun x H'' y => ?_⟩
      obtain ⟨e, y⟩ := y
      subst e
      exact turnK_core T (y xs q) s1 hD un fun _ a b => ⟨a, b⟩
    · have e : j = xs.length := by omega
      subst e
      exact .inl ⟨⟨xs, q, Nat.le_refl _⟩, fin H' s1 (all hD)⟩
  | t hs =>
    have q : SqT K H' a xs := same_tup s1 hs
    by_cases lt : j < xs.length
    · refine .inr ⟨⟨xs, xs[j], q, by simp [lt]⟩, fun H' => Same H1 H' ∧ H' D = some (SetK P w D (fun k => decide (k ∈ ks.take (j + 1))) (Sx.nub (ks.take (j + 1))).length), fun H' p' => ⟨xs.length - (j + 1), by omega, rfl, lt, p'⟩, fun x H'' y => ?_⟩
      obtain ⟨e, y⟩ := y
      subst e
      exact turnK_core T (y xs q) s1 hD un fun _ a b => ⟨a, b⟩
    · have e : j = xs.length := by omega
      subst e
      exact .inl ⟨⟨xs, q, Nat.le_refl _⟩, fin H' s1 (all hD)⟩
end Lw

set_option Elab.async false
set_option linter.all false
set_option maxRecDepth 100000
set_option maxHeartbeats 4000000
namespace Sx
open PySem PySem.Spec PyProof.Rows L2
abbrev eset (led : Bool) : Obj := { cls := .type "set", dict := none, data := .set #[] 0 (.fresh 0 0 led) }
section
variable {P : Program} {w : World} {A : Around} {E : Value → Shared → Prop} {s : Shared}
theorem set_of_list {l : Addr} {items : Array Value} {ks : List Key} {Q : Value → Shared → Prop} (calm : A.handled = none) (hl : s.heap.IsList l items) (rk : Vals (ks.map kV) items.toList) (few : items.size + 1 < scanBound)
    (fin : ∀ (h' : Heap) (tk : Nat), HasSet P w h' s.heap.objs.size ks → (∀ b o, b < s.heap.objs.size → s.heap.get? b = some o → h'.get? b = some o) → Q (.ref s.heap.objs.size) { s with heap := h', toks := tk }) :
    wpAny (model P w) A (call (.type "set") [.ref l]) Q E s := by
  obtain ⟨c0, tl0, mro0⟩ := PySem.F.called_set.mro
  have made0 := PySem.F.called_set.made
  have sub0 := PySem.F.called_set.sub
  refine wpAny_call (codeAny_of_tree ?_)
  show wpAny (model P w) _ (callAny (.type "set") _) _ _ _
  refine wpAny_pure ⟨Code.quiet_builtin _ (by decide +kernel), codeAny_builtin PySem.F.entry_type_call ?_⟩
  rw [Around.under_plain (weight_type_call_type ("set") [Value.ref l] []) rfl]
  have nt0 := PySem.F.called_set.notType
  have cc0 := PySem.F.called_set.canCreate
  have tc0 := PySem.F.typeCall_set_1 (Value.ref l)
  repeat (any_goals (first | assumption | wp_step))
  refine codeAny_mono (code_set_new_1 (.ref l) (E := E) (Q₁ := fun ob s1 => ∃ led : Bool, ob = .ref s.heap.objs.size ∧ s1 = { s with heap := s.heap.push (eset led) }) fun led => ⟨led, rfl, rfl⟩) fun r s1 hr => ?_
  cases r with
  | error e => exact hr
  | ok fl =>
    cases fl with
    | next => exact hr.elim
    | brk => exact hr.elim
    | cont => exact hr.elim
    | ret ob =>
      obtain ⟨led, rfl, rfl⟩ := hr
      have gS : (s.heap.push (eset led)).get? s.heap.objs.size = some (eset led) := Heap.get?_push_size _ rfl
      have tS : Shared.TypeIs { s with heap := s.heap.push (eset led) } (.ref s.heap.objs.size) "set" := ⟨_, gS, rfl⟩
      have li0 := PySem.F.called_set.init.lookup
      have bi0 := PySem.F.called_set.init.bind (Value.ref s.heap.objs.size)
      repeat (any_goals (first | assumption | wp_step))
      refine codeAny_mono (codeAny_call_builtin (R := wants (fun r s2 => r = .none ∧ ∃ h' tk, s2 = { s with heap := h', toks := tk } ∧ HasSet P w h' s.heap.objs.size ks ∧ (∀ b o, b < s.heap.objs.size → s.heap.get? b = some o → h'.get? b = some o)) E)
        PySem.F.called_set.init.plain PySem.F.entry_set_init (check_set_init_1 tS ?_)) fun r2 s2 hr2 => ?_
      · obtain ⟨ol, gl, cl0, nl, dl0⟩ := hl
        obtain ⟨oc, od, ot, osl⟩ := ol
        simp only at cl0 dl0
        subst cl0; subst dl0
        have gl' : (s.heap.push (eset led)).get? l = some { cls := .type "list", dict := od, data := .seq items nl, slots := osl } := Heap.get?_push_of_some _ gl
        have sb1 := PySem.F.sub_list_set
        have sb2 := PySem.F.sub_list_frozenset
        have nd0 : (Value.type "list" == Value.type "dict") = false := by decide
        have hl1 : (s.heap.push (eset led)).IsList l items := ⟨_, gl', rfl, nl, rfl⟩
        unfold Builtin.«set.__init__» noKeywords Builtin.Frozenset.updateFrom
        generalize ePI : pyIter = PI
        wp_walk
        subst ePI
        refine wpAny_pyIter_list hl1 ?_
        refine wpAny_bind (wpAny_runValue ?_)
        have llt : l < s.heap.objs.size := Heap.lt_size gl
        have calm3 : A.in1.in1.in1.handled = none := by simp [calm]
        have apart : l ≠ (s.heap.push (eset led)).objs.size := by
          rw [Heap.size_push]
          exact Nat.ne_of_lt (Nat.lt_succ_of_lt llt)
        have away : s.heap.objs.size ∉ [(s.heap.push (eset led)).objs.size, l] := fun z => by
          rw [Heap.size_push] at z
          rcases List.mem_cons.mp z with z | z
          · exact absurd z (Nat.ne_of_lt (Nat.lt_succ_self _))
          · exact absurd (List.mem_singleton.mp z) (Nat.ne_of_gt llt)
        have vals : ∀ (i : Nat) (v : Value), items[i]? = some v → ∃ k, ks[i]? = some k ∧ RelV (kV k) v := fun i v hv => by
          have hv' : items.toList[i]? = some v := by rw [Array.getElem?_toList]; exact hv
          cases e : ks[i]? with
          | none =>
            have e2 : (ks.map kV)[i]? = none := by rw [List.getElem?_map, e]; rfl
            rw [rk.none_of e2] at hv'; cases hv'
          | some k =>
            have e2 : (ks.map kV)[i]? = some (kV k) := by rw [List.getElem?_map, e]; rfl
            obtain ⟨u, hu, ru⟩ := rk.get e2
            rw [hv'] at hu; cases hu
            exact ⟨k, rfl, ru⟩
        have hlen : ks.length = items.size := by
          have q := rk.length
          rw [List.length_map, Array.length_toList] at q
          exact q
        refine fill_loop ((Walks.list calm3 _ l apart items).toS) s.heap.objs.size away ks hlen vals few (items.size - 0) 0 _ (by omega) (Nat.zero_le _)
          ⟨⟨_, Heap.get?_push_size _ rfl, rfl, rfl⟩, (hl1.push _)⟩ ?first ?last
        case first =>
          have g0 : ((s.heap.push (eset led)).push { cls := .type "list_iterator", data := .fields #[.ref l, .int 0 0] }).get? s.heap.objs.size = some (eset led) := Heap.get?_push_of_some _ gS
          exact PyProof.Rows.SetOf_congr ((PyProof.Rows.setObjOf_fresh (knd := mixKind P w) led).setOf g0 (by unfold scanBound; omega)) (fun k => by simp) rfl
        case last =>
          intro s3 mv hs3
          obtain ⟨h3, g3, d3, t3, os3⟩ := s3
          have eg : g3 = s.gens := mv.gens
          have ed : d3 = s.drawn := mv.drawn
          have eo : os3 = s.os := mv.os
          subst eg; subst ed; subst eo
          show wpAny (model P w) _ _ _ _ _
          refine wpAny_pure ?_
          show wpAny (model P w) _ (ret Value.none) _ _ _
          refine wpAny_pure ⟨rfl, h3, t3, rfl, hs3, fun b o hb e => ?_⟩
          refine mv.heap b o (fun z => ?_) (Heap.get?_push_of_some _ (Heap.get?_push_of_some _ e))
          rcases List.mem_cons.mp z with z | z
          · exact absurd z (Nat.ne_of_lt hb)
          · have z1 := List.mem_singleton.mp z
            rw [Heap.size_push] at z1
            exact absurd z1 (Nat.ne_of_lt (Nat.lt_succ_of_lt hb))
      · cases r2 with
        | error e => exact hr2
        | ok fl2 =>
          cases fl2 with
          | ret r =>
            obtain ⟨rfl, h', tk, rfl, a1, a2⟩ := hr2
            repeat (any_goals (first | assumption | wp_step))
            exact fin _ _ a1 a2
          | _ => exact hr2.elim
theorem set_of_tuple {l : Addr} {items : Array Value} {ks : List Key} {Q : Value → Shared → Prop} (calm : A.handled = none) (hl : s.heap.IsTuple l items) (rk : Vals (ks.map kV) items.toList) (few : items.size + 1 < scanBound)
    (fin : ∀ (h' : Heap) (tk : Nat), HasSet P w h' s.heap.objs.size ks → (∀ b o, b < s.heap.objs.size → s.heap.get? b = some o → h'.get? b = some o) → Q (.ref s.heap.objs.size) { s with heap := h', toks := tk }) :
    wpAny (model P w) A (call (.type "set") [.ref l]) Q E s := by
  obtain ⟨c0, tl0, mro0⟩ := PySem.F.called_set.mro
  have made0 := PySem.F.called_set.made
  have sub0 := PySem.F.called_set.sub
  refine wpAny_call (codeAny_of_tree ?_)
  show wpAny (model P w) _ (callAny (.type "set") _) _ _ _
  refine wpAny_pure ⟨Code.quiet_builtin _ (by decide +kernel), codeAny_builtin PySem.F.entry_type_call ?_⟩
  rw [Around.under_plain (weight_type_call_type ("set") [Value.ref l] []) rfl]
  have nt0 := PySem.F.called_set.notType
  have cc0 := PySem.F.called_set.canCreate
  have tc0 := PySem.F.typeCall_set_1 (Value.ref l)
  repeat (any_goals (first | assumption | wp_step))
  refine codeAny_mono (code_set_new_1 (.ref l) (E := E) (Q₁ := fun ob s1 => ∃ led : Bool, ob = .ref s.heap.objs.size ∧ s1 = { s with heap := s.heap.push (eset led) }) fun led => ⟨led, rfl, rfl⟩) fun r s1 hr => ?_
  cases r with
  | error e => exact hr
  | ok fl =>
    cases fl with
    | next => exact hr.elim
    | brk => exact hr.elim
    | cont => exact hr.elim
    | ret ob =>
      obtain ⟨led, rfl, rfl⟩ := hr
      have gS : (s.heap.push (eset led)).get? s.heap.objs.size = some (eset led) := Heap.get?_push_size _ rfl
      have tS : Shared.TypeIs { s with heap := s.heap.push (eset led) } (.ref s.heap.objs.size) "set" := ⟨_, gS, rfl⟩
      have li0 := PySem.F.called_set.init.lookup
      have bi0 := PySem.F.called_set.init.bind (Value.ref s.heap.objs.size)
      repeat (any_goals (first | assumption | wp_step))
      refine codeAny_mono (codeAny_call_builtin (R := wants (fun r s2 => r = .none ∧ ∃ h' tk, s2 = { s with heap := h', toks := tk } ∧ HasSet P w h' s.heap.objs.size ks ∧ (∀ b o, b < s.heap.objs.size → s.heap.get? b = some o → h'.get? b = some o)) E)
        PySem.F.called_set.init.plain PySem.F.entry_set_init (check_set_init_1 tS ?_)) fun r2 s2 hr2 => ?_
      · obtain ⟨ol, gl, cl0, nl, dl0⟩ := hl
        obtain ⟨oc, od, ot, osl⟩ := ol
        simp only at cl0 dl0
        subst cl0; subst dl0
        have gl' : (s.heap.push (eset led)).get? l = some { cls := .type "tuple", dict := od, data := .seq items nl, slots := osl } := Heap.get?_push_of_some _ gl
        have sb1 := PySem.F.sub_tuple_set
        have sb2 := PySem.F.sub_tuple_frozenset
        have nd0 : (Value.type "tuple" == Value.type "dict") = false := by decide
        have hl1 : (s.heap.push (eset led)).IsTuple l items := ⟨_, gl', rfl, nl, rfl⟩
        unfold Builtin.«set.__init__» noKeywords Builtin.Frozenset.updateFrom
        generalize ePI : pyIter = PI
        wp_walk
        subst ePI
        refine wpAny_pyIter_tuple hl1 ?_
        refine wpAny_bind (wpAny_runValue ?_)
        have llt : l < s.heap.objs.size := Heap.lt_size gl
        have calm3 : A.in1.in1.in1.handled = none := by simp [calm]
        have apart : l ≠ (s.heap.push (eset led)).objs.size := by
          rw [Heap.size_push]
          exact Nat.ne_of_lt (Nat.lt_succ_of_lt llt)
        have away : s.heap.objs.size ∉ [(s.heap.push (eset led)).objs.size, l] := fun z => by
          rw [Heap.size_push] at z
          rcases List.mem_cons.mp z with z | z
          · exact absurd z (Nat.ne_of_lt (Nat.lt_succ_self _))
          · exact absurd (List.mem_singleton.mp z) (Nat.ne_of_gt llt)
        have vals : ∀ (i : Nat) (v : Value), items[i]? = some v → ∃ k, ks[i]? = some k ∧ RelV (kV k) v := fun i v hv => by
          have hv' : items.toList[i]? = some v := by rw [Array.getElem?_toList]; exact hv
          cases e : ks[i]? with
          | none =>
            have e2 : (ks.map kV)[i]? = none := by rw [List.getElem?_map, e]; rfl
            rw [rk.none_of e2] at hv'; cases hv'
          | some k =>
            have e2 : (ks.map kV)[i]? = some (kV k) := by rw [List.getElem?_map, e]; rfl
            obtain ⟨u, hu, ru⟩ := rk.get e2
            rw [hv'] at hu; cases hu
            exact ⟨k, rfl, ru⟩
        have hlen : ks.length = items.size := by
          have q := rk.length
          rw [List.length_map, Array.length_toList] at q
          exact q
        refine fill_loop ((Walks.tuple calm3 _ l apart items).toS) s.heap.objs.size away ks hlen vals few (items.size - 0) 0 _ (by omega) (Nat.zero_le _)
          ⟨⟨_, Heap.get?_push_size _ rfl, rfl, rfl⟩, (hl1.push _)⟩ ?first ?last
        case first =>
          have g0 : ((s.heap.push (eset led)).push { cls := .type "tuple_iterator", data := .fields #[.ref l, .int 0 0] }).get? s.heap.objs.size = some (eset led) := Heap.get?_push_of_some _ gS
          exact PyProof.Rows.SetOf_congr ((PyProof.Rows.setObjOf_fresh (knd := mixKind P w) led).setOf g0 (by unfold scanBound; omega)) (fun k => by simp) rfl
        case last =>
          intro s3 mv hs3
          obtain ⟨h3, g3, d3, t3, os3⟩ := s3
          have eg : g3 = s.gens := mv.gens
          have ed : d3 = s.drawn := mv.drawn
          have eo : os3 = s.os := mv.os
          subst eg; subst ed; subst eo
          show wpAny (model P w) _ _ _ _ _
          refine wpAny_pure ?_
          show wpAny (model P w) _ (ret Value.none) _ _ _
          refine wpAny_pure ⟨rfl, h3, t3, rfl, hs3, fun b o hb e => ?_⟩
          refine mv.heap b o (fun z => ?_) (Heap.get?_push_of_some _ (Heap.get?_push_of_some _ e))
          rcases List.mem_cons.mp z with z | z
          · exact absurd z (Nat.ne_of_lt hb)
          · have z1 := List.mem_singleton.mp z
            rw [Heap.size_push] at z1
            exact absurd z1 (Nat.ne_of_lt (Nat.lt_succ_of_lt hb))
      · cases r2 with
        | error e => exact hr2
        | ok fl2 =>
          cases fl2 with
          | ret r =>
            obtain ⟨rfl, h', tk, rfl, a1, a2⟩ := hr2
            repeat (any_goals (first | assumption | wp_step))
            exact fin _ _ a1 a2
          | _ => exact hr2.elim
end

/-! ### over the layer -/
section
variable {X : Cx}
/-- set(xs), xs a list or a tuple of keys -/
def rSetOf (K : PySem.W.Frag) (P : Program) (w : World) : List V → Hp → VK → Prop := fun xs H Q => ∃ (l : Addr) (ks : List Key), xs = [V.ref l] ∧ (SqL K H l (ks.map kV) ∨ SqT K H l (ks.map kV)) ∧ ks.length ≤ 4000 ∧
  ∀ p, H p = none → Q (.ref p) (upd H p (SetK P w p (fun k => decide (k ∈ ks)) (nub ks).length))
theorem cr_setOf (calm : X.calm = true) : CallR X (.type "set") (rSetOf X.K X.prog X.w) := by
  intro pins s σ H xs us Q I r h
  obtain ⟨l, ks, rfl, hl, few, q⟩ := h
  obtain ⟨u, rfl, rl⟩ := vals1 r
  obtain rfl : u = Value.ref l := rl
  have un : H s.heap.objs.size = none := I.hok.fresh (Nat.le_refl _)
  have done : ∀ (h' : Heap) (tk : Nat), HasSet X.prog X.w h' s.heap.objs.size ks → (∀ b o, b < s.heap.objs.size → s.heap.get? b = some o → h'.get? b = some o) → EP X pins σ Q (.ref s.heap.objs.size) { s with heap := h', toks := tk } := fun h' tk hs kp =>
    ⟨.ref s.heap.objs.size, upd H s.heap.objs.size (SetK X.prog X.w s.heap.objs.size (fun k => decide (k ∈ ks)) (nub ks).length), I.laid (t' := tk) (fun b o e => kp b o (Heap.lt_size e) e) (Nat.le_refl _) (setK_new hs), rfl, q _ un⟩
  rcases hl with hl | hl
  · obtain ⟨its, rv, pl, hz⟩ := I.list hl
    have e1 := rv.length
    rw [List.length_map] at e1
    exact set_of_list (I.ok.hd calm) pl.isList (by simpa using rv) (by rw [List.size_toArray]; unfold scanBound; omega) done
  · obtain ⟨its, rv, pl, hz⟩ := I.tuple hl
    have e1 := rv.length
    rw [List.length_map] at e1
    exact set_of_tuple (I.ok.hd calm) pl (by simpa using rv) (by rw [List.size_toArray]; unfold scanBound; omega) done
/-- len(s), s a set of keys -/
def rLenK (P : Program) (w : World) : List V → Hp → VK → Prop := fun xs H Q => ∃ (a : Addr) (S : Key → Bool) (n : Nat), xs = [V.ref a] ∧ H a = some (SetK P w a S n) ∧ Q (.int (n : Nat)) H
theorem cr_lenK : CallR X (.builtin "len") (rLenK X.prog X.w) := by
  intro pins s σ H xs us Q I r h
  obtain ⟨a, S, n, rfl, ha, q⟩ := h
  obtain ⟨u, rfl, rl⟩ := vals1 r
  obtain rfl : u = Value.ref a := rl
  obtain ⟨o, es, ep, t, ho, hex, hd, _, _, hb, hf, hn⟩ := setK_get I ha
  refine call_len_set ho hex hd hf (by unfold scanBound at hb; omega) ⟨.int (n : Nat), H, I.tok _, ⟨_, by rw [hn]⟩, q⟩
/-- either of two rules for one call -/
theorem CallR.or {f : Value} {r r' : List V → Hp → VK → Prop} (h : CallR X f r) (h' : CallR X f r') : CallR X f (fun xs H Q => r xs H Q ∨ r' xs H Q) := by
  intro pins s σ H xs us Q I rv q
  rcases q with q | q
  · exact h pins s σ H xs us Q I rv q
  · exact h' pins s σ H xs us Q I rv q
end
end Sx

set_option Elab.async false
set_option linter.all false
set_option maxRecDepth 100000
set_option maxHeartbeats 4000000
namespace K2
open PySem L2 Lw
/-! ### ways -/
def headOf : PyData → Str
  | .tuple (.str z :: _) => z
  | _ => Str.empty
def waysD (ds : List PyData) : Bool := !ds.isEmpty && ds.all wayOk && decide ((ds.map headOf).Nodup)
def waysOk : PyData → Bool
  | .list ds => waysD ds
  | .tuple ds => waysD ds
  | _ => false
theorem wayOk_is {d : PyData} (h : wayOk d = true) : ∃ y z, d = .tuple [.str y, .str z] ∧ nameOk y = true ∧ nameOk z = true := by
  match d, h with
  | .tuple [a, b], h =>
    have h' : (nameD a && nameD b) = true := h
    obtain ⟨h1, h2⟩ := Bool.and_eq_true_iff.mp h'
    match a, b, h1, h2 with
    | .str y, .str z, h1, h2 => exact ⟨y, z, rfl, h1, h2⟩
def spWays (K : PySem.W.Frag) : Sp := fun vs H Q _ => ∃ (v : V) (d : PyData), vs = [v] ∧ Dp K H v d ∧ fine d = true ∧ ∀ H', Same H H' → Q (.bl (waysOk d)) H'
theorem nodup_keys : ∀ {l : List Str}, (l.map (Sum.inr : Str → Key)).Nodup ↔ l.Nodup
  | [] => by simp
  | x :: r => by
    have ih := nodup_keys (l := r)
    rw [List.map_cons, List.nodup_cons, List.nodup_cons, ih]
    refine and_congr (not_congr ?_) Iff.rfl
    rw [List.mem_map]
    constructor
    · rintro ⟨y, hy, e⟩
      cases e
      exact hy
    · exact fun h => ⟨x, h, rfl⟩
/-- a comprehension that asks each thing of a list of data -/
theorem turns_data {K : PySem.W.Frag} {H1 : Hp} {i : Nat} {σ : L2.St} {te : TE} (f : PyData → V) : ∀ {xs : List V} {ds : List PyData}, DpAll K H1 xs ds → xs.length ≤ 1000 →
    (∀ x d H (Q : VK), x ∈ xs → d ∈ ds → Dp K H x d → Same H1 H → (∀ H', Same H H' → Q (f d) H') → te (σ.set i (some x)) H Q) → Turns H1 i σ xs (ds.map fun d => some (f d)) tYes te := fun {xs ds} ha few el => by
  refine ⟨by rw [List.length_map, dpAll_len ha], Nat.le_trans few (by decide), fun j x y H Q hx hy s1 q => ?_, fun j x H hx hy _ => ?_⟩
  · obtain ⟨d, ed, hd⟩ := dpAll_at ha hx
    rw [List.getElem?_map, ed] at hy
    obtain rfl : f d = y := by simpa using hy
    exact ⟨rfl, Same.refl H, el x d H Q (List.mem_of_getElem? hx) (List.mem_of_getElem? ed) (dp_same s1 _ _ hd) s1 q⟩
  · rw [List.getElem?_map] at hy
    cases e : ds[j]? with
    | none => rw [e] at hy; cases hy
    | some d => rw [e] at hy; cases hy
theorem outOf_data (f : PyData → V) (ds : List PyData) : outOf (ds.map fun d => some (f d)) = ds.map f := by
  unfold outOf
  induction ds with
  | nil => rfl
  | cons d r ih =>
    rw [List.map_cons, List.map_cons, List.filterMap_cons]
    exact congrArg _ ih
theorem seq_or {K : PySem.W.Frag} {H : Hp} {v : V} {d : PyData} (hd : Dp K H v d) (hz : fine d = true) :
    (∃ (p : Addr) (xs : List V) (ds : List PyData), v = .ref p ∧ SqA K H p xs ∧ DpAll K H xs ds ∧ ds.length ≤ 1000 ∧ fineAll ds = true ∧ isSeq d = true ∧ (d = .list ds ∨ d = .tuple ds)) ∨ isSeq d = false := by
  cases d with
  | list ds =>
    cases hd with
    | lst hs ha => exact .inl ⟨_, _, ds, rfl, .inl hs, ha, (fine_list hz).1, (fine_list hz).2, rfl, .inl rfl⟩
  | tuple ds =>
    cases hd with
    | tup hs ha => exact .inl ⟨_, _, ds, rfl, .inr hs, ha, (fine_tup hz).1, (fine_tup hz).2, rfl, .inr rfl⟩
  | _ => exact .inr rfl
section
variable {P : Program} {w : World} {K : PySem.W.Frag} {mg : Str → Option Value} {base : Heap} {a : Ad}
theorem scWays : FnScope ["value", "way"] ["value"] (defScope sWays) := ⟨rfl, rfl, rfl, by decide +kernel, rfl, by decide +kernel, by decide +kernel⟩
theorem Txt.okWays (T : Txt K mg a) : FnOk P w K mg base CX0 3 a.fWs a.dWs ["value"] (spWays K) := by
  refine T.areWays.F.ok scWays (fun vs H Q E h => ?_) (fun cdv A outer s H vs Q E hr h => ?_)
  · obtain ⟨v, d, rfl, _⟩ := h
    rfl
  · obtain ⟨v, d, rfl, hd, hz, fin⟩ := h
    refine ⟨_, pss_cons (ps_if (PW.pt (pw_or (pt_not (pt_val (pe_callB call_isiT (by rfl) T.tIs PyProof.Rows.boot_isinstance (pa_cons (pv 0) (pa_cons (pe_tup (pa_cons (pe_bltn (v := .ty "list") (by rfl) T.tList PyProof.Rows.boot_list rfl) (pa_cons (pe_bltn (v := .ty "tuple") (by rfl) T.tTuple PyProof.Rows.boot_tuple rfl) pa_nil))) pa_nil)))))
        (pw_or1 (pt_cmpR op_eq (pe_callB call_len_seq (by rfl) T.tLen PySem.boot_len (pa_cons (pv 0) pa_nil)) pe_int (nomark _))))) (pss_one (ps_ret pe_bl)) pss_nil)
      (pss_cons (ps_if (pt_not (pt_val (pe_callB (cr_all rfl) (by rfl) T.tAll PyProof.Rows.boot_all (pa_cons (pe_lc (own := [("way", 1)]) (g := gName 1) (tt := tYes) (by rfl) scWays.nd (pi_seq (pv 0))
          (blkOk_by (own := [("way", 1)]) (N := ["value", "way"]) (sc := defScope sWays) (by decide +kernel)) (fun _ _ _ _ _ => pg_name (i := 1) scWays.nd rfl (Or.inl rfl)) (fun _ _ _ _ _ => pts_nil)
          (fun _ _ _ _ _ => pe_call T.okW hr rfl T.isWay.g T.isWay.F.kp T.isWay.b .nil pass0 (pa_cons (pv 1) pa_nil))) pa_nil)))) (pss_one (ps_ret pe_bl)) pss_nil)
      (pss_one (ps_ret (pe_cmpR op_eq (pe_callB Sx.cr_lenK (by rfl) T.tLen PySem.boot_len (pa_cons (Sx.pe_sck (own := [("way", 1)]) (g := gName 1) (tt := tYes) (te := tOp (rIxT K) (tVar 1) (tC (.int 0))) (by rfl) scWays.nd (pi_seq (pv 0))
          (blkOk_by (own := [("way", 1)]) (N := ["value", "way"]) (sc := defScope sWays) (by decide +kernel)) (fun _ _ _ _ _ => pg_name (i := 1) scWays.nd rfl (Or.inl rfl)) (fun _ _ _ _ _ => pts_nil)
          (fun _ _ _ _ _ => pe_ix ix_tup (pv 1) pe_int (fun _ _ => rfl))) pa_nil)) (pe_callB call_len_seq (by rfl) T.tLen PySem.boot_len (pa_cons (pv 0) pa_nil)) (nomark _))))), ?_⟩
    refine ⟨_, rfl, (by show 2 ≤ sizeLine; decide), fun tp hp => ?_⟩
    have s0 : Same H (upd H tp (.tup [.ty "list", .ty "tuple"])) := same_new hp
    have hd0 := dp_same s0 _ _ hd
    refine ⟨v, tp, _, _, _, _, rfl, upd_same, .cons (.ty "list") (.cons (.ty "tuple") .nil), ty_data hd0, kit_seq (no_dict hd), _, rfl, ?_⟩
    -- a list or a tuple
    rcases seq_or hd hz with ⟨p, xs, ds, rfl, hs, ha, few, hf, es, ed⟩ | es
    · rw [es]
      have el := dpAll_len ha
      have hs0 := hs.same s0
      have ha0 := dpAll_same s0 _ _ ha
      have ew : waysOk d = waysD ds := by rcases ed with rfl | rfl <;> rfl
      rw [ew] at fin
      refine iteF ⟨_, rfl, p, xs, rfl, hs0, rfl, _, rfl, ?_⟩
      rw [dec_int]
      by_cases e : xs.length = 0
      · have ed : ds = [] := List.length_eq_zero_iff.mp (el ▸ e)
        subst ed
        rw [show ((xs.length : Int) == 0) = true from by simpa using e]
        exact iteT (fin _ s0)
      · rw [show ((xs.length : Int) == 0) = false from by simpa using (by omega : (xs.length : Int) ≠ 0)]
        refine iteF ?_
        have few' : xs.length ≤ 1000 := el ▸ few
        refine seq_run rfl hs0 fun J hJ D un => lc_of_J (ds.map fun d => some (.bl (wayOk d))) hJ un (turns_data (fun d => .bl (wayOk d)) ha0 few' fun x d H2 Q2 _ hm hx _ q => ?_) mono_yes fun H1 s1 h1 => ?_
        · exact ⟨_, rfl, x, d, rfl, hx, fineAll_mem hf hm, q⟩
        · rw [outOf_data] at h1
          have e1 : ds.map (fun d => V.bl (wayOk d)) = (ds.map wayOk).map V.bl := by rw [List.map_map]; rfl
          rw [e1] at h1
          refine ⟨D, _, rfl, SqL.of h1, _, rfl, ?_⟩
          have e2 : (ds.map wayOk).all id = ds.all wayOk := by rw [List.all_map]; rfl
          rw [e2]
          have s01 := s0.trans s1
          have ne : ds.isEmpty = false := by
            cases ds with
            | nil => exact absurd el e
            | cons _ _ => rfl
          cases ea : ds.all wayOk with
          | false =>
            refine iteT ?_
            have z := fin _ s01
            rwa [show waysD ds = false from by rw [waysD, ea, Bool.and_false, Bool.false_and]] at z
          | true =>
            refine iteF ?_
            have all : ∀ d ∈ ds, wayOk d = true := List.all_eq_true.mp ea
            have ha1 := dpAll_same s1 _ _ ha0
            refine seq_run rfl (hs0.same s1) fun J hJ D2 un2 => sck_of_J (ks := ds.map fun d => Sum.inr (headOf d)) hJ un2 ⟨by rw [List.length_map, el], few', fun j x k H2 Q2 hx hk s2 q => ?_⟩ fun H2 s2 h2 => ?_
            · obtain ⟨d, ed, hd⟩ := dpAll_at ha1 hx
              rw [List.getElem?_map, ed] at hk
              obtain rfl : Sum.inr (headOf d) = k := by simpa using hk
              obtain ⟨y, z, rfl, _, _⟩ := wayOk_is (all d (List.mem_of_getElem? ed))
              cases hd with
              | @tup p2 zs _ hs2 ha2 =>
                cases ha2 with
                | cons hy hr =>
                  cases hy
                  exact ⟨_, rfl, p2, _, 0, _, rfl, rfl, same_tup s2 hs2, atI_nat (j := 0) rfl, q H2 (Same.refl H2)⟩
            · refine ⟨D2, _, _, rfl, h2, _, rfl, p, xs, rfl, (hs0.same s1).same s2, rfl, ?_⟩
              rw [dec_int]
              have z := fin H2 (s01.trans s2)
              have e3 : waysD ds = (((Sx.nub (ds.map fun d => (Sum.inr (headOf d) : Key))).length : Int) == (xs.length : Int)) := by
                have e4 : (ds.map fun d => (Sum.inr (headOf d) : Key)) = (ds.map headOf).map Sum.inr := by rw [List.map_map]; rfl
                rw [waysD, ne, ea, e4, Bool.eq_iff_iff]
                have e5 := Sx.nub_nodup_iff (l := (ds.map headOf).map (Sum.inr : Str → Key))
                rw [nodup_keys, List.length_map, List.length_map] at e5
                rw [show (!false && true && decide ((ds.map headOf).Nodup)) = decide ((ds.map headOf).Nodup) from rfl, decide_eq_true_iff, ← e5, beq_iff_eq, el]
                omega
              rwa [e3] at z
    · rw [es]
      have ew : waysOk d = false := by
        cases d with
        | list _ => cases es
        | tuple _ => cases es
        | _ => rfl
      have z := fin _ s0
      rw [ew] at z
      exact iteT (iteT z)
end
end K2

set_option Elab.async false
set_option linter.all false
set_option maxRecDepth 100000
set_option maxHeartbeats 4000000
namespace Lw
open PySem PySem.Spec PyProof.Rows L2
/-- from the deal's heap H on: G' beside the deal, N only new things -/
structure News (G H G' N : Hp) (d l : Addr) : Prop where
  dl : Deal G' H d l
  kp : Same G G'
  sub : Same N G'
  dis : ∀ b o, N b = some o → G b = none
theorem News.zero {G H : Hp} {d l : Addr} (D : Deal G H d l) : News G H G (fun _ => none) d l := ⟨D, Same.refl G, fun b o e => (by cases e), fun b o e => (by cases e)⟩
theorem News.put {G H G' N : Hp} {d l p : Addr} {o : HO} (n : News G H G' N d l) (h : H p = none) : News G (upd H p o) (upd G' p o) (upd N p o) d l := by
  have gp : G' p = none := n.dl.same.free h
  refine ⟨n.dl.put h, fun b u e => ?_, fun b u e => ?_, fun b u e => ?_⟩
  · rw [upd_ne (ne_of_none (n.kp _ _ e) gp)]
    exact n.kp _ _ e
  · by_cases q : b = p
    · subst q
      rw [upd_same] at e ⊢
      exact e
    · rw [upd_ne q] at e ⊢
      exact n.sub _ _ e
  · by_cases q : b = p
    · subst q
      exact n.kp.free gp
    · rw [upd_ne q] at e
      exact n.dis _ _ e
theorem News.here {G H G' N : Hp} {d l p : Addr} {o : HO} (n : News G H G' N d l) (h : H p = none) : upd N p o p = some o := upd_same
theorem News.stay {G H G' N : Hp} {d l p : Addr} {o : HO} (n : News G H G' N d l) (h : H p = none) : Same N (upd N p o) := same_new (n.sub.free (n.dl.same.free h))
theorem News.redeal {G H H2 G' N : Hp} {d l : Addr} (n : News G H G' N d l) (D : Deal G' H2 d l) : News G H2 G' N d l := ⟨D, n.kp, n.sub, n.dis⟩
/-- what is new behind what is new -/
theorem News.more {G H G1 N1 H2 G2 N2 : Hp} {d l : Addr} (n : News G H G1 N1 d l) (m : News G1 H2 G2 N2 d l) : News G H2 G2 (fun b => match N1 b with | some o => some o | none => N2 b) d l := by
  refine ⟨m.dl, n.kp.trans m.kp, fun b o e => ?_, fun b o e => ?_⟩
  · cases h : N1 b with
    | some u =>
      have e' : some u = some o := by simpa [h] using e
      cases e'
      exact m.kp _ _ (n.sub _ _ h)
    | none =>
      have e' : N2 b = some o := by simpa [h] using e
      exact m.sub _ _ e'
  · cases h : N1 b with
    | some u => exact n.dis _ _ h
    | none =>
      have e' : N2 b = some o := by simpa [h] using e
      exact n.kp.free (m.dis _ _ e')
theorem News.left {G H G1 N1 H2 G2 N2 : Hp} {d l : Addr} (n : News G H G1 N1 d l) (m : News G1 H2 G2 N2 d l) : Same N1 (fun b => match N1 b with | some o => some o | none => N2 b) := fun b o e => by simp [e]
theorem News.right {G H G1 N1 H2 G2 N2 : Hp} {d l : Addr} (n : News G H G1 N1 d l) (m : News G1 H2 G2 N2 d l) : Same N2 (fun b => match N1 b with | some o => some o | none => N2 b) := fun b o e => by
  have h : N1 b = none := by
    cases q : N1 b with
    | none => rfl
    | some u =>
      have := m.dis _ _ e
      rw [n.sub _ _ q] at this
      cases this
  simp [h, e]
theorem Deal.over {G H : Hp} {d l D : Addr} {o u : HO} (n : Deal (upd G D u) H d l) : Deal (upd G D o) (upd H D o) d l := by
  have nd : d ≠ D := fun z => by have := n.gd; rw [z, upd_same] at this; cases this
  have nl : l ≠ D := fun z => by have := n.gl; rw [z, upd_same] at this; cases this
  obtain ⟨ns, m, a⟩ := n.it
  refine ⟨fun b v e => ?_, ?_, ?_, n.ne, ns, m, ?_⟩
  · by_cases q : b = D
    · subst q
      rw [upd_same] at e ⊢
      exact e
    · rw [upd_ne q] at e ⊢
      exact n.same _ _ (by rw [upd_ne q]; exact e)
  · have := n.gd
    rwa [upd_ne nd] at this ⊢
  · have := n.gl
    rwa [upd_ne nl] at this ⊢
  · exact ⟨by rw [upd_ne nd]; exact a.hd, by rw [upd_ne nl]; exact a.hl, a.len, a.nn, a.m0, a.m1⟩
theorem News.inH {G H G' N : Hp} {d l : Addr} (n : News G H G' N d l) : Same N H := n.sub.trans n.dl.same
theorem News.tup {G H G' N : Hp} {d l t : Addr} (n : News G H G' N d l) (u : H t = none) (xs : List V) : ∃ H1 G1 N1 : Hp, H1 = upd H t (.tup xs) ∧ News G H1 G1 N1 d l ∧ N1 t = some (.tup xs) ∧ Same N N1 := ⟨_, _, _, rfl, n.put u, upd_same, n.stay u⟩
theorem News.lst {G H G' N : Hp} {d l t : Addr} (n : News G H G' N d l) (u : H t = none) (xs : List V) : ∃ H1 G1 N1 : Hp, H1 = upd H t (.lst xs) ∧ News G H1 G1 N1 d l ∧ N1 t = some (.lst xs) ∧ Same N N1 := ⟨_, _, _, rfl, n.put u, upd_same, n.stay u⟩
/-- a heap without what stands at D -/
def hide (D : Addr) (G : Hp) : Hp := fun b => if b = D then none else G b
theorem hide_ne {D b : Addr} {G : Hp} (h : b ≠ D) : hide D G b = G b := if_neg h
theorem hide_same {D : Addr} {G : Hp} : hide D G D = none := if_pos rfl
theorem hide_upd {D : Addr} {G : Hp} {o : HO} : upd (hide D G) D o = upd G D o := by
  funext b
  by_cases q : b = D
  · subst q
    rw [upd_same, upd_same]
  · rw [upd_ne q, upd_ne q, hide_ne q]
/-- the promise of what hands a thing back -/
def Hands (K : PySem.W.Frag) (G : Hp) (d l : Addr) (Q : VK) : Prop := ∀ (G' H' N : Hp) (x : V) (pd : PyData), News G H' G' N d l → Dp K N x pd → fine pd = true → Q x H'
end Lw

set_option Elab.async false
set_option linter.all false
set_option maxRecDepth 100000
set_option maxHeartbeats 4000000
namespace Lw
open PySem PySem.Spec PyProof.Rows L2
theorem dpAll_app {K : PySem.W.Frag} {H : Hp} : ∀ {xs ys : List V} {ds es : List PyData}, DpAll K H xs ds → DpAll K H ys es → DpAll K H (xs ++ ys) (ds ++ es)
  | _, _, _, _, .nil, h => h
  | _, _, _, _, .cons a r, h => .cons a (dpAll_app r h)
/-- behind i turns of a comprehension (its list at L) that draw and hand new data; of the j-th R says something -/
def HP (K : PySem.W.Frag) (G : Hp) (d l L : Addr) (R : Nat → PyData → Prop) (i : Nat) (H' : Hp) : Prop := ∃ (B N : Hp) (xs : List V) (pds : List PyData), Same G B ∧ B L = none ∧ Deal (upd B L (.lst xs)) H' d l ∧ Same N B ∧ (∀ b o, N b = some o → G b = none) ∧
  DpAll K N xs pds ∧ xs.length = i ∧ ∀ j pd, pds[j]? = some pd → R j pd
theorem HP.zero {K : PySem.W.Frag} {G H : Hp} {d l L : Addr} {R : Nat → PyData → Prop} (D : Deal G H d l) (u : H L = none) : HP K G d l L R 0 (upd H L (.lst [])) :=
  ⟨G, fun _ => none, [], [], Same.refl _, D.same.free u, D.put u, fun b o e => (by cases e), fun b o e => (by cases e), .nil, rfl, fun j pd e => by simp at e⟩
theorem HP.turn {K : PySem.W.Frag} {G H1 : Hp} {d l L : Addr} {R : Nat → PyData → Prop} {i : Nat} {te : TE} {σ : L2.St} (h : HP K G d l L R i H1) (few : i < 100000)
    (el : ∀ Gx, Same G Gx → Deal Gx H1 d l → ∀ Q : VK, (∀ (G' H' N : Hp) (y : V) (pd : PyData), News Gx H' G' N d l → Dp K N y pd → R i pd → Q y H') → te σ H1 Q) :
    te σ H1 fun y H4 => ∃ acc, H4 L = some (.lst acc) ∧ acc.length < sizeLine ∧ HP K G d l L R (i + 1) (upd H4 L (.lst (acc ++ [y]))) := by
  obtain ⟨B, N, xs, pds, sB, nB, DB, sN, dN, hx, len, hR⟩ := h
  have sGx : Same G (upd B L (.lst xs)) := fun b o e => by rw [upd_ne (ne_of_none (sB _ _ e) nB)]; exact sB _ _ e
  refine el _ sGx DB _ fun G' H2 N1 y pd nw hd hr => ?_
  have gL : G' L = some (.lst xs) := nw.kp _ _ upd_same
  have gU : upd G' L (.lst xs) = G' := by
    funext b
    by_cases q : b = L
    · rw [q, upd_same, gL]
    · rw [upd_ne q]
  have bB : ∀ b o, B b = some o → b ≠ L := fun b o e z => by rw [z, nB] at e; cases e
  have toB : Same B (hide L G') := fun b o e => by
    have ne := bB b o e
    rw [hide_ne ne]
    exact nw.kp _ _ (by rw [upd_ne ne]; exact e)
  have n1 : ∀ b o, N1 b = some o → b ≠ L ∧ B b = none := fun b o e => by
    have z := nw.dis b o e
    have ne : b ≠ L := fun q => by rw [q, upd_same] at z; cases z
    rw [upd_ne ne] at z
    exact ⟨ne, z⟩
  have nn : ∀ b o, N1 b = some o → N b = none := fun b o e => sN.free (n1 b o e).2
  refine ⟨xs, nw.dl.same _ _ gL, Nat.lt_of_le_of_lt (show xs.length ≤ 100000 by omega) (by decide), hide L G', fun b => match N b with | some o => some o | none => N1 b, xs ++ [y], pds ++ [pd], sB.trans toB, hide_same, ?_, fun b o e => ?_, fun b o e => ?_, ?_, by rw [List.length_append, len]; rfl, ?_⟩
  · rw [hide_upd]
    exact Deal.over (G := G') (u := .lst xs) (by rw [gU]; exact nw.dl)
  · cases q : N b with
    | some u =>
      have e' : some u = some o := by simpa [q] using e
      cases e'
      exact toB _ _ (sN _ _ q)
    | none =>
      have e' : N1 b = some o := by simpa [q] using e
      rw [hide_ne (n1 b o e').1]
      exact nw.sub _ _ e'
  · cases q : N b with
    | some u => exact dN _ _ q
    | none =>
      have e' : N1 b = some o := by simpa [q] using e
      exact sB.free (n1 b o e').2
  · exact dpAll_app (dpAll_same (fun b o e => by simp [e]) _ _ hx) (.cons (dp_same (fun b o e => by simp [nn b o e, e]) _ _ hd) .nil)
  · intro j q e
    by_cases h : j < pds.length
    · rw [List.getElem?_append_left h] at e
      exact hR j q e
    · rw [List.getElem?_append_right (by omega)] at e
      have hj : j = pds.length := by
        by_cases z : j - pds.length = 0
        · omega
        · have : ([pd] : List PyData)[j - pds.length]? = none := List.getElem?_eq_none (by simp; omega)
          rw [this] at e
          cases e
      subst hj
      simp only [Nat.sub_self, List.getElem?_cons_zero, Option.some.injEq] at e
      rw [← e, ← dpAll_len hx, len]
      exact hr
theorem HP.same {K : PySem.W.Frag} {G H' : Hp} {d l L : Addr} {R : Nat → PyData → Prop} {n : Nat} (h : HP K G d l L R n H') : Same G H' := by
  obtain ⟨B, N, xs, pds, gB, nB, DB, _⟩ := h
  exact fun b o e => DB.same _ _ (by rw [upd_ne (ne_of_none (gB _ _ e) nB)]; exact gB _ _ e)
theorem HP.done {K : PySem.W.Frag} {G H' : Hp} {d l L : Addr} {R : Nat → PyData → Prop} {n : Nat} (h : HP K G d l L R n H') :
    ∃ (G' N : Hp) (xs : List V) (pds : List PyData), News G H' G' N d l ∧ N L = some (.lst xs) ∧ DpAll K N xs pds ∧ xs.length = n ∧ ∀ j pd, pds[j]? = some pd → R j pd := by
  obtain ⟨B, N, xs, pds, gB, nB, DB, sN, dN, hx, len, hR⟩ := h
  have nL : N L = none := sN.free nB
  refine ⟨upd B L (.lst xs), upd N L (.lst xs), xs, pds, ⟨DB, fun b o e => by rw [upd_ne (ne_of_none (gB _ _ e) nB)]; exact gB _ _ e, fun b o e => ?_, fun b o e => ?_⟩, upd_same, dpAll_same (same_new nL) _ _ hx, len, hR⟩
  · by_cases q : b = L
    · subst q
      rw [upd_same] at e ⊢
      exact e
    · rw [upd_ne q] at e ⊢
      exact sN _ _ e
  · by_cases q : b = L
    · subst q
      exact gB.free nB
    · rw [upd_ne q] at e
      exact dN _ _ e
end Lw

set_option Elab.async false
set_option linter.all false
set_option maxRecDepth 100000
set_option maxHeartbeats 4000000
namespace Lw
open PySem PySem.Spec PyProof.Rows L2
/-- all but what stands at p, an instance -/
def But (p : Addr) (H H' : Hp) : Prop := ∀ b o, H b = some o → b ≠ p → H' b = some o
theorem But.seq {K : PySem.W.Frag} {H H' : Hp} {p a C dx : Addr} {fs : List (Str × V)} {xs : List V} (hp : H p = some (.ins C dx fs)) (k : But p H H') (h : SqL K H a xs) : SqL K H' a xs := by
  rcases h with (h | ⟨o, h⟩) | h
  · exact .inl (.inl (k _ _ h fun z => by rw [z, hp] at h; cases h))
  · exact .inl (.inr ⟨o, k _ _ h fun z => by rw [z, hp] at h; cases h⟩)
  · exact .inr h
theorem But.tup {K : PySem.W.Frag} {H H' : Hp} {p a C dx : Addr} {fs : List (Str × V)} {xs : List V} (hp : H p = some (.ins C dx fs)) (k : But p H H') (h : SqT K H a xs) : SqT K H' a xs := by
  rcases h with (h | ⟨o, h⟩) | h
  · exact .inl (.inl (k _ _ h fun z => by rw [z, hp] at h; cases h))
  · exact .inl (.inr ⟨o, k _ _ h fun z => by rw [z, hp] at h; cases h⟩)
  · exact .inr h
theorem But.sqA {K : PySem.W.Frag} {H H' : Hp} {p a C dx : Addr} {fs : List (Str × V)} {xs : List V} (hp : H p = some (.ins C dx fs)) (k : But p H H') (h : SqA K H a xs) : SqA K H' a xs := h.elim (fun h => .inl (k.seq hp h)) fun h => .inr (k.tup hp h)
/-- [y for t in ts for y in t], ts a list or a tuple of tuples -/
theorem lc2_flat {K : PySem.W.Frag} {a : Addr} {H1 : Hp} {D : Addr} {s0 s1 s2 s3 v4 v5 : Option V} {xs : List V} {J : L2.It} {Qd : Hp → Prop} (hJ : JA K H1 a xs J) (un : H1 D = none) (yss : List (List V)) (len : yss.length = xs.length)
    (each : ∀ (j : Nat) (x : V), xs[j]? = some x → ∃ (p : Addr) (ys : List V), x = .ref p ∧ yss[j]? = some ys ∧ SqT K H1 p ys) (few : yss.flatten.length ≤ 100000) (fin : ∀ H', Same H1 H' → H' D = some (.lst yss.flatten) → Qd H') :
    ∃ W : Nat → Nat → Hp → Prop, (∃ m, W 0 m (upd H1 D (.lst []))) ∧ ∀ i m H, W i m H →
      (J.stop i H ∧ Qd H) ∨ (J.go i H ∧ ∃ Nx : Hp → Prop, (∀ H', Nx H' → ∃ m', m' < m ∧ W (i + 1) m' H') ∧ ∀ x H', J.yld i H x H' → gName 4 x (wipe [s0, s1, s2, s3, v4, v5] [4, 5]) H' fun σ2 H2 => wipe σ2 [4, 5] = wipe [s0, s1, s2, s3, v4, v5] [4, 5] ∧ tYes σ2 H2 fun b H3 =>
        if b = true then iTup K (tVar 4) σ2 H3 fun J1 H4 => ∃ W1 : Nat → Nat → Hp → Prop, (∃ m, W1 0 m H4) ∧ ∀ j k H, W1 j k H →
          (J1.stop j H ∧ Nx H) ∨ (J1.go j H ∧ ∃ Nx1 : Hp → Prop, (∀ H', Nx1 H' → ∃ k', k' < k ∧ W1 (j + 1) k' H') ∧ ∀ x H', J1.yld j H x H' → gName 5 x (wipe σ2 [5]) H' fun σ3 H5 => wipe σ3 [5] = wipe σ2 [5] ∧ tYes σ3 H5 fun b H6 =>
            if b = true then tVar 5 σ3 H6 fun y H7 => ∃ acc, H7 D = some (.lst acc) ∧ acc.length < sizeLine ∧ Nx1 (upd H7 D (.lst (acc ++ [y]))) else Nx1 H6)
        else Nx H3) := by
  have turn : ∀ (j : Nat) (x : V) (H : Hp), xs[j]? = some x → Same H1 H → H D = some (.lst (yss.take j).flatten) →
      gName 4 x (wipe [s0, s1, s2, s3, v4, v5] [4, 5]) H fun σ2 H2 => wipe σ2 [4, 5] = wipe [s0, s1, s2, s3, v4, v5] [4, 5] ∧ tYes σ2 H2 fun b H3 =>
        if b = true then iTup K (tVar 4) σ2 H3 fun J1 H4 => ∃ W1 : Nat → Nat → Hp → Prop, (∃ m, W1 0 m H4) ∧ ∀ j' k H, W1 j' k H →
          (J1.stop j' H ∧ (Same H1 H ∧ H D = some (.lst (yss.take (j + 1)).flatten))) ∨ (J1.go j' H ∧ ∃ Nx1 : Hp → Prop, (∀ H', Nx1 H' → ∃ k', k' < k ∧ W1 (j' + 1) k' H') ∧ ∀ x H', J1.yld j' H x H' → gName 5 x (wipe σ2 [5]) H' fun σ3 H5 => wipe σ3 [5] = wipe σ2 [5] ∧ tYes σ3 H5 fun b H6 =>
            if b = true then tVar 5 σ3 H6 fun y H7 => ∃ acc, H7 D = some (.lst acc) ∧ acc.length < sizeLine ∧ Nx1 (upd H7 D (.lst (acc ++ [y]))) else Nx1 H6)
        else (Same H1 H3 ∧ H3 D = some (.lst (yss.take (j + 1)).flatten)) := by
    intro j x H hx s1' hD
    obtain ⟨p, ys, rfl, hy, ht⟩ := each j x hx
    have htk : (yss.take (j + 1)).flatten = (yss.take j).flatten ++ ys := by
      rw [List.take_add_one, hy, List.flatten_append]
      simp
    have bound : (yss.take j).flatten.length + ys.length ≤ 100000 := by
      have e : yss.flatten = (yss.take (j + 1)).flatten ++ (yss.drop (j + 1)).flatten := by rw [← List.flatten_append, List.take_append_drop]
      have := congrArg List.length e
      rw [List.length_append, htk, List.length_append] at this
      omega
    have ht' : SqT K H p ys := same_tup s1' ht
    refine ⟨rfl, ?_⟩
    dsimp only [tYes]
    refine iteT ⟨_, rfl, p, rfl, ⟨_, ht'⟩, fun j' k H' => k = ys.length - j' ∧ j' ≤ ys.length ∧ Same H1 H' ∧ H' D = some (.lst ((yss.take j).flatten ++ ys.take j')), ⟨ys.length, by simp, Nat.zero_le _, s1', by simpa using hD⟩, ?_⟩
    rintro j' k H' ⟨rfl, hj, s2', hD'⟩
    have q : SqT K H' p ys := same_tup s2' ht
    by_cases lt : j' < ys.length
    · refine .inr ⟨⟨ys, ys[j'], q, by simp [lt]⟩, fun H'' => Same H1 H'' ∧ H'' D = some (.lst ((yss.take j).flatten ++ ys.take (j' + 1))), fun H'' z => ⟨ys.length - (j' + 1), by omega, rfl, lt, z⟩, fun y H'' yy => ?_⟩
      obtain ⟨e, yy⟩ := yy
      subst e
      have ey := yy ys q
      refine ⟨rfl, ?_⟩
      dsimp only [tYes]
      refine iteT ⟨_, rfl, _, hD', ?_, fun b o eb => ?_, ?_⟩
      · rw [List.length_append, List.length_take]
        exact Nat.lt_of_le_of_lt (show _ ≤ 100000 by omega) (by decide)
      · rw [upd_ne (ne_of_none eb un)]
        exact s2' _ _ eb
      · rw [upd_same, List.take_add_one, ey, List.append_assoc]
        rfl
    · have e : j' = ys.length := by omega
      subst e
      rw [List.take_length] at hD'
      exact .inl ⟨⟨ys, q, Nat.le_refl _⟩, s2', by rw [htk]; exact hD'⟩
  refine ⟨fun j m H' => m = xs.length - j ∧ j ≤ xs.length ∧ Same H1 H' ∧ H' D = some (.lst (yss.take j).flatten), ⟨xs.length, by simp, Nat.zero_le _, same_new un, by rw [upd_same]; simp⟩, ?_⟩
  rintro j m H' ⟨rfl, hj, s1', hD⟩
  have done : j = xs.length → Qd H' := fun e => fin H' s1' (by rwa [e, ← len, List.take_length] at hD)
  cases hJ with
  | l hs =>
    have q : SqL K H' a xs := s1'.seq hs
    by_cases lt : j < xs.length
    · refine .inr ⟨⟨xs, xs[j], q, by simp [lt]⟩, fun H' => Same H1 H' ∧ H' D = some (.lst (yss.take (j + 1)).flatten), fun H' p' => ⟨xs.length - (j + 1), by omega, rfl, lt, p'⟩, fun x H'' y => ?_⟩
      obtain ⟨e, y⟩ := y
      subst e
      exact turn j x _ (y xs q) s1' hD
    · have e : j = xs.length := by omega
      subst e
      exact .inl ⟨⟨xs, q, Nat.le_refl _⟩, done rfl⟩
  | t hs =>
    have q : SqT K H' a xs := same_tup s1' hs
    by_cases lt : j < xs.length
    · refine .inr ⟨⟨xs, xs[j], q, by simp [lt]⟩, fun H' => Same H1 H' ∧ H' D = some (.lst (yss.take (j + 1)).flatten), fun H' p' => ⟨xs.length - (j + 1), by omega, rfl, lt, p'⟩, fun x H'' y => ?_⟩
      obtain ⟨e, y⟩ := y
      subst e
      exact turn j x _ (y xs q) s1' hD
    · have e : j = xs.length := by omega
      subst e
      exact .inl ⟨⟨xs, q, Nat.le_refl _⟩, done rfl⟩
end Lw

set_option Elab.async false
set_option linter.all false
set_option maxRecDepth 100000
set_option maxHeartbeats 4000000
namespace Lw
open PySem PySem.Spec PyProof.Rows L2
/-! ### a row as the laws draw it -/
inductive Row0 where
  | ask (p n : Str) (ws : List (Str × Str))
  | note (p w t : Str)
  | gate (p m n e : Str)
  | end_ (p : Str)
def wayD (w : Str × Str) : PyData := .tuple [.str w.1, .str w.2]
def lineD : Row0 → PyData
  | .ask p n ws => .tuple [.str "ask", .str p, .str n, .tuple (ws.map wayD)]
  | .note p w t => .tuple [.str "note", .str p, .str w, .str t]
  | .gate p m n e => .tuple [.str "mark", .str p, .str m, .str n, .str e]
  | .end_ p => .tuple [.str "end", .str p]
/-- its words, its text -/
def wordsR : Row0 → List Str
  | .ask p n ws => p :: "ask" :: n :: (ws.map fun w => [w.1, w.2]).flatten
  | .note p w t => [p, "note", w, t]
  | .gate p m n e => [p, "mark", m, n, e]
  | .end_ p => [p, "end"]
def textR (r : Row0) : Str := Txt.join " " (wordsR r)
/-- the attributes of its object -/
def fieldsOk (K : PySem.W.Frag) (H : Hp) (fs : List (Str × V)) : Row0 → Prop
  | .ask p n ws => fs.lookup ("place" : Str) = some (.str p) ∧ fs.lookup ("name" : Str) = some (.str n) ∧ (∃ wa, fs.lookup ("ways" : Str) = some (.ref wa) ∧ Dp K H (.ref wa) (.tuple (ws.map wayD))) ∧ fs.lookup ("_text" : Str) = some (.str (textR (.ask p n ws)))
  | .note p w t => fs.lookup ("place" : Str) = some (.str p) ∧ fs.lookup ("word" : Str) = some (.str w) ∧ fs.lookup ("then" : Str) = some (.str t) ∧ fs.lookup ("_text" : Str) = some (.str (textR (.note p w t)))
  | .gate p m n e => fs.lookup ("place" : Str) = some (.str p) ∧ fs.lookup ("mark" : Str) = some (.str m) ∧ fs.lookup ("newer" : Str) = some (.str n) ∧ fs.lookup ("elder" : Str) = some (.str e) ∧ fs.lookup ("_text" : Str) = some (.str (textR (.gate p m n e)))
  | .end_ p => fs.lookup ("place" : Str) = some (.str p) ∧ fs.lookup ("_text" : Str) = some (.str (textR (.end_ p)))
/-- the row that these arguments make -/
def Made : List PyData → Row0 → Prop
  | ds, .ask p n ws => ds = [.str p, .str n, .list (ws.map wayD)] ∨ ds = [.str p, .str n, .tuple (ws.map wayD)]
  | ds, .note p w t => ds = [.str p, .str w, .str t]
  | ds, .gate p m n e => ds = [.str p, .str m, .str n, .str e]
  | ds, .end_ p => ds = [.str p]
mutual
theorem dp_but {K : PySem.W.Frag} {H H' : Hp} {p C dx : Addr} {fs : List (Str × V)} (hp : H p = some (.ins C dx fs)) (e : But p H H') : ∀ (d : PyData) (v : V), Dp K H v d → Dp K H' v d
  | .none, _, h => by cases h; exact .non
  | .bool b, _, h => by cases h; exact .bl b
  | .int i, _, h => by cases h; exact .int i
  | .str x, _, h => by cases h; exact .str x
  | .list ds, _, h => by
    cases h with
    | lst h1 h2 => exact .lst (e.seq hp h1) (dpAll_but hp e ds _ h2)
  | .tuple ds, _, h => by
    cases h with
    | tup h1 h2 => exact .tup (e.tup hp h1) (dpAll_but hp e ds _ h2)
  | .dict _, _, h => by cases h
theorem dpAll_but {K : PySem.W.Frag} {H H' : Hp} {p C dx : Addr} {fs : List (Str × V)} (hp : H p = some (.ins C dx fs)) (e : But p H H') : ∀ (ds : List PyData) (vs : List V), DpAll K H vs ds → DpAll K H' vs ds
  | [], _, h => by cases h; exact .nil
  | d :: ds, _, h => by
    cases h with
    | cons h1 h2 => exact .cons (dp_but hp e d _ h1) (dpAll_but hp e ds _ h2)
end
end Lw

set_option Elab.async false
set_option linter.all false
set_option maxRecDepth 100000
set_option maxHeartbeats 4000000
namespace K2
open PySem L2 Lw
/-! ### rows that are made -/
def spRow (K : PySem.W.Frag) : Sp := fun vs H Q _ => ∃ (p l C dx : Addr) (fs : List (Str × V)) (ys : List Str), vs = [.ref p, .ref l] ∧ H p = some (.ins C dx fs) ∧ Cls K C ∧ NoAttr K C "_text" ∧ fs.length < 900 ∧ SqL K H l (ys.map V.str) ∧
  ys.length ≤ 10000 ∧ (∀ y ∈ ys, y.length ≤ 4) ∧ Q .non (upd H p (.ins C dx (putF "_text" (.str (Txt.join " " ys)) fs)))
/-- the first of these that is no name -/
def firstD : List (Str × PyData) → Str
  | [] => Str.empty
  | (w, d) :: r => if nameD d = true then firstD r else w
/-- no method's name is an attribute -/
def Bare (fs : List (Str × V)) : Prop := fs.lookup ("leads" : Str) = none ∧ fs.lookup ("rerouted" : Str) = none
/-- C(..)'s __init__: due tells the word of the first wrong argument, or nothing; a good one's attributes -/
def spMk (K : PySem.W.Frag) (C Cir : Addr) (due : List PyData → Str) (n : Nat) : Sp := fun vs H Q E => ∃ (p dx : Addr) (xs : List V) (ds : List PyData), vs = .ref p :: xs ∧ xs.length = n ∧ DpAll K H xs ds ∧ fineAll ds = true ∧ H p = some (.ins C dx []) ∧
  (due ds = Str.empty → ∀ (H' : Hp) (fs : List (Str × V)) (r : Row0), (∀ b o, H b = some o → b ≠ p → H' b = some o) → H' p = some (.ins C dx fs) → Made ds r → fieldsOk K H' fs r → Bare fs → Q .non H') ∧
  (due ds ≠ Str.empty → ∀ (H' : Hp) (d : Addr), Same H H' → H d = none → H' d = some (.xd [("word", .str (due ds))]) → E (.ref Cir) (some d) H')
theorem sum4 : ∀ {ys : List Str}, (∀ y ∈ ys, y.length ≤ 4) → (ys.map (·.length)).sum ≤ 4 * ys.length
  | [], _ => by simp
  | y :: r, h => by
    have ih := sum4 (ys := r) fun z hz => h z (List.mem_cons_of_mem _ hz)
    have h1 := h y List.mem_cons_self
    rw [List.map_cons, List.sum_cons, List.length_cons]
    omega
theorem nameD_is {d : PyData} (h : nameD d = true) : ∃ z, d = .str z ∧ z.length ≤ 4 := by
  cases d with
  | str z =>
    refine ⟨z, rfl, ?_⟩
    have h' : (decide (1 ≤ (z.length : Int)) && decide ((z.length : Int) ≤ 4) && z.cps.toList.all isAbc) = true := h
    obtain ⟨h1, _⟩ := Bool.and_eq_true_iff.mp h'
    obtain ⟨_, h2⟩ := Bool.and_eq_true_iff.mp h1
    have := of_decide_eq_true h2
    omega
  | _ => cases h
section
variable {P : Program} {w : World} {K : PySem.W.Frag} {mg : Str → Option Value} {base : Heap} {a : Ad}
theorem scRow : FnScope ["self", "words"] ["self", "words"] (defScope sRow) := ⟨rfl, rfl, rfl, by decide +kernel, rfl, by decide +kernel, by decide +kernel⟩
theorem Txt.okRow (T : Txt K mg a) : FnOk P w K mg base CX0 1 a.fRow a.dRow ["self", "words"] (spRow K) := by
  refine T.row.F.ok scRow (fun vs H Q E h => ?_) (fun cdv A outer s H vs Q E hr h => ?_)
  · obtain ⟨_, _, _, _, _, _, rfl, _⟩ := h
    rfl
  · obtain ⟨p, l, C, dx, fs, ys, rfl, hp, cl, na, few, hl, hn, hy, fin⟩ := h
    refine ⟨_, pss_one (ps_fld (pv 0) (pe_join pe_str (pv 1)) rfl), ?_⟩
    refine ⟨⟨_, rfl⟩, _, rfl, _, l, ys, rfl, rfl, .inl hl, ?_, _, rfl, p, C, dx, fs, rfl, hp, cl, na, by omega, fin⟩
    have := sum4 hy
    show _ + ys.length * 1 ≤ _
    omega
/-- what the display leaves is what _expect_names asks -/
theorem firstBad_none {its : List It} (h : firstBad its = none) : ∀ i ∈ its, nameD i.d = true := by
  unfold firstBad at h
  have := List.find?_eq_none.mp (Option.map_eq_none_iff.mp h)
  exact fun i hi => by simpa using this i hi
theorem firstBad_is : ∀ its : List It, firstBad its = none ∧ firstD (its.map fun i => (i.w, i.d)) = Str.empty ∨ ∃ w, firstBad its = some w ∧ firstD (its.map fun i => (i.w, i.d)) = w ∧ w ∈ its.map (·.w)
  | [] => .inl ⟨rfl, rfl⟩
  | i :: r => by
    cases e : nameD i.d with
    | false => exact .inr ⟨i.w, by simp [firstBad, List.find?_cons, e], by simp [firstD, e], by simp⟩
    | true =>
      have e1 : firstBad (i :: r) = firstBad r := by simp [firstBad, List.find?_cons, e]
      have e2 : firstD ((i :: r).map fun i => (i.w, i.d)) = firstD (r.map fun i => (i.w, i.d)) := by simp [firstD, e]
      rw [e1, e2]
      rcases firstBad_is r with h | ⟨w, h1, h2, h3⟩
      · exact .inl h
      · exact .inr ⟨w, h1, h2, List.mem_cons_of_mem _ h3⟩
/-- names are short texts -/
theorem name_at {H : Hp} {v : V} {d : PyData} (h : Dp K H v d) (n : nameD d = true) : ∃ z, v = .str z ∧ d = .str z ∧ z.length ≤ 4 := by
  obtain ⟨z, rfl, hz⟩ := nameD_is n
  cases h
  exact ⟨z, rfl, rfl, hz⟩
theorem keep_row {H H5 : Hp} {p l2 : Addr} {o1 o2 : HO} {u : HO} (s : Same H H5) (u5 : (upd H5 p o1) l2 = none) : ∀ b o, H b = some o → b ≠ p → upd (upd (upd H5 p o1) l2 u) p o2 b = some o := fun b o e ne => by
  have h5 := s _ _ e
  have n2 : b ≠ l2 := fun z => by
    rw [← z, upd_ne ne, h5] at u5
    cases u5
  rw [upd_ne ne, upd_ne n2, upd_ne ne]
  exact h5
/-- note -/
def dueNote : List PyData → Str
  | [d1, d2, d3] => firstD [("place", d1), ("word", d2), ("then", d3)]
  | _ => Str.empty
theorem scNote : FnScope ["self", "place", "word", "then"] ["self", "place", "word", "then"] (defScope sNote) := ⟨rfl, rfl, rfl, by decide +kernel, rfl, by decide +kernel, by decide +kernel⟩
theorem Txt.okNote (T : Txt K mg a) : FnOk P w K mg base (L2.CX P w) 4 a.fNote a.dNote ["self", "place", "word", "then"] (spMk K a.cNote a.cIr dueNote 3) := by
  refine T.note.F.okX scNote (fun vs H Q E h => ?_) (fun cdv A outer s H vs Q E hr h => ?_)
  · obtain ⟨p, _, xs, _, rfl, e, _⟩ := h
    rw [List.length_cons, e]
    rfl
  · obtain ⟨p, dx, xs, ds, rfl, len, ha, hf, hp, kN, kE⟩ := h
    match xs, ds, ha, len with
    | [x1, x2, x3], [d1, d2, d3], .cons h1 (.cons h2 (.cons h3 .nil)), _ =>
    have hr1 : Room 1 _ := hr.mono (by decide)
    refine ⟨_, pss_cons (ps_expr (pe_call T.okX hr rfl T.expect.g T.expect.F.kp T.expect.b .nil (passes_call (takes_of rfl rfl rfl rfl) fun _ _ _ _ z => z) (pa_cons (pe_lst (pa_cons (pe_tup (pa_cons pe_str (pa_cons (pv 1) pa_nil))) (pa_cons (pe_tup (pa_cons pe_str (pa_cons (pv 2) pa_nil))) (pa_cons (pe_tup (pa_cons pe_str (pa_cons (pv 3) pa_nil))) pa_nil)))) pa_nil)))
      (pss_cons (ps_fld (pv 0) (pv 1) rfl) (pss_cons (ps_fld (pv 0) (pv 2) rfl) (pss_cons (ps_fld (pv 0) (pv 3) rfl) (pss_one (ps_expr (pe_cfun (pe_glob (v := .ref a.cRow) (by rfl) T.row.g rfl) T.rowR T.rowI T.okRow hr1 T.row.F.kp T.row.b pass0 (pa_cons (pv 0) (pa_cons (pe_lst (pa_cons (pv 1) (pa_cons pe_str (pa_cons (pv 2) (pa_cons (pv 3) pa_nil))))) pa_nil)))))))), ?_⟩
    refine ⟨_, rfl, (by show 2 ≤ sizeLine; decide), fun t1 u1 => ⟨_, rfl, (by show 2 ≤ sizeLine; decide), fun t2 u2 => ⟨_, rfl, (by show 2 ≤ sizeLine; decide), fun t3 u3 => ⟨(by show 3 ≤ sizeLine; decide), fun l ul => ?_⟩⟩⟩⟩
    generalize e1 : upd H t1 (.tup [.str "place", x1]) = G1 at *
    have s1 : Same H G1 := e1 ▸ same_new u1
    have q1 : SqT K G1 t1 [.str "place", x1] := e1 ▸ SqT.of upd_same
    generalize e2 : upd G1 t2 (.tup [.str "word", x2]) = G2 at *
    have s2 : Same G1 G2 := e2 ▸ same_new u2
    have q2 : SqT K G2 t2 [.str "word", x2] := e2 ▸ SqT.of upd_same
    generalize e3 : upd G2 t3 (.tup [.str "then", x3]) = G3 at *
    have s3 : Same G2 G3 := e3 ▸ same_new u3
    have q3 : SqT K G3 t3 [.str "then", x3] := e3 ▸ SqT.of upd_same
    have sl : Same G3 (upd G3 l (.lst [.ref t1, .ref t2, .ref t3])) := same_new ul
    have S : Same H _ := (s1.trans (s2.trans (s3.trans sl)))
    have f1 : fine d1 = true := fineAll_mem hf (by simp)
    have f2 : fine d2 = true := fineAll_mem hf (by simp)
    have f3 : fine d3 = true := fineAll_mem hf (by simp)
    have FB := firstBad_is [⟨t1, "place", x1, d1⟩, ⟨t2, "word", x2, d2⟩, ⟨t3, "then", x3, d3⟩]
    refine ⟨l, [⟨t1, "place", x1, d1⟩, ⟨t2, "word", x2, d2⟩, ⟨t3, "then", x3, d3⟩], rfl, SqL.of upd_same, fun i hi => ?_, fun fb H5 s5 => ?_, fun w fb H5 d s5 nd hd => ?_⟩
    · simp only [List.mem_cons, List.not_mem_nil, or_false] at hi
      rcases hi with rfl | rfl | rfl
      · exact ⟨same_tup (s2.trans (s3.trans sl)) q1, dp_same S _ _ h1, f1⟩
      · exact ⟨same_tup (s3.trans sl) q2, dp_same S _ _ h2, f2⟩
      · exact ⟨same_tup sl q3, dp_same S _ _ h3, f3⟩
    · have all := firstBad_none fb
      obtain ⟨z1, rfl, rfl, c1⟩ := name_at h1 (all ⟨t1, "place", x1, d1⟩ (by simp))
      obtain ⟨z2, rfl, rfl, c2⟩ := name_at h2 (all ⟨t2, "word", x2, d2⟩ (by simp))
      obtain ⟨z3, rfl, rfl, c3⟩ := name_at h3 (all ⟨t3, "then", x3, d3⟩ (by simp))
      have S5 := S.trans s5
      refine ⟨_, rfl, _, rfl, p, a.cNote, dx, _, rfl, (S5 _ _ hp), T.note.cl, T.no _ (by simp) _ (by simp), (by show 0 < 1000; decide), _, rfl, _, rfl, p, a.cNote, dx, _, rfl, upd_same, T.note.cl, T.no _ (by simp) _ (by simp), (by show 1 < 1000; decide), _, rfl, _, rfl, p, a.cNote, dx, _, rfl, upd_same, T.note.cl, T.no _ (by simp) _ (by simp), (by show 2 < 1000; decide), ?_⟩
      refine ⟨rfl, _, rfl, _, rfl, _, rfl, _, rfl, (by show 4 ≤ sizeLine; decide), fun l2 ul2 => ?_⟩
      rw [upd_upd, upd_upd] at ul2 ⊢
      have np : p ≠ l2 := fun z => by rw [← z, upd_same] at ul2; cases ul2
      refine ⟨p, l2, a.cNote, dx, _, [z1, "note", z2, z3], rfl, (by rw [upd_ne np]; exact upd_same), T.note.cl, T.no _ (by simp) _ (by simp), (by show 3 < 900; decide), SqL.of upd_same, (by show 4 ≤ 10000; decide), (by simp [*]; try decide), ?_⟩
      refine kN ?_ _ _ (.note z1 z2 z3) (keep_row S5 ul2) upd_same rfl ?_ (by constructor <;> (repeat rw [lookup_putF, if_neg (by decide)]) <;> rfl)
      · show firstD _ = _
        rcases FB with ⟨_, h⟩ | ⟨w, h, _⟩
        · exact h
        · rw [fb] at h; cases h
      · exact ⟨by rw [lookup_putF, if_neg (by decide), lookup_putF, if_neg (by decide), lookup_putF, if_neg (by decide), lookup_putF, if_pos rfl], by rw [lookup_putF, if_neg (by decide), lookup_putF, if_neg (by decide), lookup_putF, if_pos rfl], by rw [lookup_putF, if_neg (by decide), lookup_putF, if_pos rfl], by rw [lookup_putF, if_pos rfl]; rfl⟩
    · have e : firstD [("place", d1), ("word", d2), ("then", d3)] = w ∧ w ≠ Str.empty := by
        rcases FB with ⟨h, _⟩ | ⟨w2, h, h2, h3⟩
        · rw [fb] at h; cases h
        · rw [fb] at h
          cases h
          refine ⟨h2, fun z => ?_⟩
          rw [z] at h3
          exact absurd (show Str.empty ∈ (["place", "word", "then"] : List Str) from h3) (by decide)
      refine kE (by show firstD _ ≠ _; rw [e.1]; exact e.2) H5 d (S.trans s5) (S.free nd) ?_
      show _ = some (HO.xd [("word", .str (firstD _))])
      rw [e.1]
      exact hd
/-- mark -/
def dueGate : List PyData → Str
  | [d1, d2, d3, d4] => firstD [("place", d1), ("mark", d2), ("newer", d3), ("elder", d4)]
  | _ => Str.empty
theorem scGate : FnScope ["self", "place", "mark", "newer", "elder"] ["self", "place", "mark", "newer", "elder"] (defScope sGate) := ⟨rfl, rfl, rfl, by decide +kernel, rfl, by decide +kernel, by decide +kernel⟩
theorem Txt.okGate (T : Txt K mg a) : FnOk P w K mg base (L2.CX P w) 4 a.fGate a.dGate ["self", "place", "mark", "newer", "elder"] (spMk K a.cGate a.cIr dueGate 4) := by
  refine T.gate.F.okX scGate (fun vs H Q E h => ?_) (fun cdv A outer s H vs Q E hr h => ?_)
  · obtain ⟨p, _, xs, _, rfl, e, _⟩ := h
    rw [List.length_cons, e]
    rfl
  · obtain ⟨p, dx, xs, ds, rfl, len, ha, hf, hp, kN, kE⟩ := h
    match xs, ds, ha, len with
    | [x1, x2, x3, x4], [d1, d2, d3, d4], .cons h1 (.cons h2 (.cons h3 (.cons h4 .nil))), _ =>
    have hr1 : Room 1 _ := hr.mono (by decide)
    refine ⟨_, pss_cons (ps_expr (pe_call T.okX hr rfl T.expect.g T.expect.F.kp T.expect.b .nil (passes_call (takes_of rfl rfl rfl rfl) fun _ _ _ _ z => z) (pa_cons (pe_lst (pa_cons (pe_tup (pa_cons pe_str (pa_cons (pv 1) pa_nil))) (pa_cons (pe_tup (pa_cons pe_str (pa_cons (pv 2) pa_nil))) (pa_cons (pe_tup (pa_cons pe_str (pa_cons (pv 3) pa_nil))) (pa_cons (pe_tup (pa_cons pe_str (pa_cons (pv 4) pa_nil))) pa_nil))))) pa_nil)))
      (pss_cons (ps_fld (pv 0) (pv 1) rfl) (pss_cons (ps_fld (pv 0) (pv 2) rfl) (pss_cons (ps_fld (pv 0) (pv 3) rfl) (pss_cons (ps_fld (pv 0) (pv 4) rfl) (pss_one (ps_expr (pe_cfun (pe_glob (v := .ref a.cRow) (by rfl) T.row.g rfl) T.rowR T.rowI T.okRow hr1 T.row.F.kp T.row.b pass0 (pa_cons (pv 0) (pa_cons (pe_lst (pa_cons (pv 1) (pa_cons pe_str (pa_cons (pv 2) (pa_cons (pv 3) (pa_cons (pv 4) pa_nil)))))) pa_nil))))))))), ?_⟩
    refine ⟨_, rfl, (by show 2 ≤ sizeLine; decide), fun t1 u1 => ⟨_, rfl, (by show 2 ≤ sizeLine; decide), fun t2 u2 => ⟨_, rfl, (by show 2 ≤ sizeLine; decide), fun t3 u3 => ⟨_, rfl, (by show 2 ≤ sizeLine; decide), fun t4 u4 => ⟨(by show 4 ≤ sizeLine; decide), fun l ul => ?_⟩⟩⟩⟩⟩
    generalize e1 : upd H t1 (.tup [.str "place", x1]) = G1 at *
    have s1 : Same H G1 := e1 ▸ same_new u1
    have q1 : SqT K G1 t1 [.str "place", x1] := e1 ▸ SqT.of upd_same
    generalize e2 : upd G1 t2 (.tup [.str "mark", x2]) = G2 at *
    have s2 : Same G1 G2 := e2 ▸ same_new u2
    have q2 : SqT K G2 t2 [.str "mark", x2] := e2 ▸ SqT.of upd_same
    generalize e3 : upd G2 t3 (.tup [.str "newer", x3]) = G3 at *
    have s3 : Same G2 G3 := e3 ▸ same_new u3
    have q3 : SqT K G3 t3 [.str "newer", x3] := e3 ▸ SqT.of upd_same
    generalize e4 : upd G3 t4 (.tup [.str "elder", x4]) = G4 at *
    have s4 : Same G3 G4 := e4 ▸ same_new u4
    have q4 : SqT K G4 t4 [.str "elder", x4] := e4 ▸ SqT.of upd_same
    have sl : Same G4 (upd G4 l (.lst [.ref t1, .ref t2, .ref t3, .ref t4])) := same_new ul
    have S : Same H _ := (s1.trans (s2.trans (s3.trans (s4.trans sl))))
    have f1 : fine d1 = true := fineAll_mem hf (by simp)
    have f2 : fine d2 = true := fineAll_mem hf (by simp)
    have f3 : fine d3 = true := fineAll_mem hf (by simp)
    have f4 : fine d4 = true := fineAll_mem hf (by simp)
    have FB := firstBad_is [⟨t1, "place", x1, d1⟩, ⟨t2, "mark", x2, d2⟩, ⟨t3, "newer", x3, d3⟩, ⟨t4, "elder", x4, d4⟩]
    refine ⟨l, [⟨t1, "place", x1, d1⟩, ⟨t2, "mark", x2, d2⟩, ⟨t3, "newer", x3, d3⟩, ⟨t4, "elder", x4, d4⟩], rfl, SqL.of upd_same, fun i hi => ?_, fun fb H5 s5 => ?_, fun w fb H5 d s5 nd hd => ?_⟩
    · simp only [List.mem_cons, List.not_mem_nil, or_false] at hi
      rcases hi with rfl | rfl | rfl | rfl
      · exact ⟨same_tup (s2.trans (s3.trans (s4.trans sl))) q1, dp_same S _ _ h1, f1⟩
      · exact ⟨same_tup (s3.trans (s4.trans sl)) q2, dp_same S _ _ h2, f2⟩
      · exact ⟨same_tup (s4.trans sl) q3, dp_same S _ _ h3, f3⟩
      · exact ⟨same_tup sl q4, dp_same S _ _ h4, f4⟩
    · have all := firstBad_none fb
      obtain ⟨z1, rfl, rfl, c1⟩ := name_at h1 (all ⟨t1, "place", x1, d1⟩ (by simp))
      obtain ⟨z2, rfl, rfl, c2⟩ := name_at h2 (all ⟨t2, "mark", x2, d2⟩ (by simp))
      obtain ⟨z3, rfl, rfl, c3⟩ := name_at h3 (all ⟨t3, "newer", x3, d3⟩ (by simp))
      obtain ⟨z4, rfl, rfl, c4⟩ := name_at h4 (all ⟨t4, "elder", x4, d4⟩ (by simp))
      have S5 := S.trans s5
      refine ⟨_, rfl, _, rfl, p, a.cGate, dx, _, rfl, (S5 _ _ hp), T.gate.cl, T.no _ (by simp) _ (by simp), (by show 0 < 1000; decide), _, rfl, _, rfl, p, a.cGate, dx, _, rfl, upd_same, T.gate.cl, T.no _ (by simp) _ (by simp), (by show 1 < 1000; decide), _, rfl, _, rfl, p, a.cGate, dx, _, rfl, upd_same, T.gate.cl, T.no _ (by simp) _ (by simp), (by show 2 < 1000; decide), _, rfl, _, rfl, p, a.cGate, dx, _, rfl, upd_same, T.gate.cl, T.no _ (by simp) _ (by simp), (by show 3 < 1000; decide), ?_⟩
      refine ⟨rfl, _, rfl, _, rfl, _, rfl, _, rfl, _, rfl, (by show 5 ≤ sizeLine; decide), fun l2 ul2 => ?_⟩
      rw [upd_upd, upd_upd, upd_upd] at ul2 ⊢
      have np : p ≠ l2 := fun z => by rw [← z, upd_same] at ul2; cases ul2
      refine ⟨p, l2, a.cGate, dx, _, [z1, "mark", z2, z3, z4], rfl, (by rw [upd_ne np]; exact upd_same), T.gate.cl, T.no _ (by simp) _ (by simp), (by show 4 < 900; decide), SqL.of upd_same, (by show 5 ≤ 10000; decide), (by simp [*]; try decide), ?_⟩
      refine kN ?_ _ _ (.gate z1 z2 z3 z4) (keep_row S5 ul2) upd_same rfl ?_ (by constructor <;> (repeat rw [lookup_putF, if_neg (by decide)]) <;> rfl)
      · show firstD _ = _
        rcases FB with ⟨_, h⟩ | ⟨w, h, _⟩
        · exact h
        · rw [fb] at h; cases h
      · exact ⟨by rw [lookup_putF, if_neg (by decide), lookup_putF, if_neg (by decide), lookup_putF, if_neg (by decide), lookup_putF, if_neg (by decide), lookup_putF, if_pos rfl], by rw [lookup_putF, if_neg (by decide), lookup_putF, if_neg (by decide), lookup_putF, if_neg (by decide), lookup_putF, if_pos rfl], by rw [lookup_putF, if_neg (by decide), lookup_putF, if_neg (by decide), lookup_putF, if_pos rfl], by rw [lookup_putF, if_neg (by decide), lookup_putF, if_pos rfl], by rw [lookup_putF, if_pos rfl]; rfl⟩
    · have e : firstD [("place", d1), ("mark", d2), ("newer", d3), ("elder", d4)] = w ∧ w ≠ Str.empty := by
        rcases FB with ⟨h, _⟩ | ⟨w2, h, h2, h3⟩
        · rw [fb] at h; cases h
        · rw [fb] at h
          cases h
          refine ⟨h2, fun z => ?_⟩
          rw [z] at h3
          exact absurd (show Str.empty ∈ (["place", "mark", "newer", "elder"] : List Str) from h3) (by decide)
      refine kE (by show firstD _ ≠ _; rw [e.1]; exact e.2) H5 d (S.trans s5) (S.free nd) ?_
      show _ = some (HO.xd [("word", .str (firstD _))])
      rw [e.1]
      exact hd
/-- end -/
def dueEnd : List PyData → Str
  | [d1] => firstD [("place", d1)]
  | _ => Str.empty
theorem scEnd : FnScope ["self", "place"] ["self", "place"] (defScope sEnd) := ⟨rfl, rfl, rfl, by decide +kernel, rfl, by decide +kernel, by decide +kernel⟩
theorem Txt.okEnd (T : Txt K mg a) : FnOk P w K mg base (L2.CX P w) 4 a.fEnd a.dEnd ["self", "place"] (spMk K a.cEnd a.cIr dueEnd 1) := by
  refine T.end_.F.okX scEnd (fun vs H Q E h => ?_) (fun cdv A outer s H vs Q E hr h => ?_)
  · obtain ⟨p, _, xs, _, rfl, e, _⟩ := h
    rw [List.length_cons, e]
    rfl
  · obtain ⟨p, dx, xs, ds, rfl, len, ha, hf, hp, kN, kE⟩ := h
    match xs, ds, ha, len with
    | [x1], [d1], .cons h1 .nil, _ =>
    have hr1 : Room 1 _ := hr.mono (by decide)
    refine ⟨_, pss_cons (ps_expr (pe_call T.okX hr rfl T.expect.g T.expect.F.kp T.expect.b .nil (passes_call (takes_of rfl rfl rfl rfl) fun _ _ _ _ z => z) (pa_cons (pe_lst (pa_cons (pe_tup (pa_cons pe_str (pa_cons (pv 1) pa_nil))) pa_nil)) pa_nil)))
      (pss_cons (ps_fld (pv 0) (pv 1) rfl) (pss_one (ps_expr (pe_cfun (pe_glob (v := .ref a.cRow) (by rfl) T.row.g rfl) T.rowR T.rowI T.okRow hr1 T.row.F.kp T.row.b pass0 (pa_cons (pv 0) (pa_cons (pe_lst (pa_cons (pv 1) (pa_cons pe_str pa_nil))) pa_nil)))))), ?_⟩
    refine ⟨_, rfl, (by show 2 ≤ sizeLine; decide), fun t1 u1 => ⟨(by show 1 ≤ sizeLine; decide), fun l ul => ?_⟩⟩
    generalize e1 : upd H t1 (.tup [.str "place", x1]) = G1 at *
    have s1 : Same H G1 := e1 ▸ same_new u1
    have q1 : SqT K G1 t1 [.str "place", x1] := e1 ▸ SqT.of upd_same
    have sl : Same G1 (upd G1 l (.lst [.ref t1])) := same_new ul
    have S : Same H _ := (s1.trans sl)
    have f1 : fine d1 = true := fineAll_mem hf (by simp)
    have FB := firstBad_is [⟨t1, "place", x1, d1⟩]
    refine ⟨l, [⟨t1, "place", x1, d1⟩], rfl, SqL.of upd_same, fun i hi => ?_, fun fb H5 s5 => ?_, fun w fb H5 d s5 nd hd => ?_⟩
    · simp only [List.mem_cons, List.not_mem_nil, or_false] at hi
      obtain rfl := hi
      exact ⟨same_tup sl q1, dp_same S _ _ h1, f1⟩
    · have all := firstBad_none fb
      obtain ⟨z1, rfl, rfl, c1⟩ := name_at h1 (all ⟨t1, "place", x1, d1⟩ (by simp))
      have S5 := S.trans s5
      refine ⟨_, rfl, _, rfl, p, a.cEnd, dx, _, rfl, (S5 _ _ hp), T.end_.cl, T.no _ (by simp) _ (by simp), (by show 0 < 1000; decide), ?_⟩
      refine ⟨rfl, _, rfl, _, rfl, (by show 2 ≤ sizeLine; decide), fun l2 ul2 => ?_⟩
      skip
      have np : p ≠ l2 := fun z => by rw [← z, upd_same] at ul2; cases ul2
      refine ⟨p, l2, a.cEnd, dx, _, [z1, "end"], rfl, (by rw [upd_ne np]; exact upd_same), T.end_.cl, T.no _ (by simp) _ (by simp), (by show 1 < 900; decide), SqL.of upd_same, (by show 2 ≤ 10000; decide), (by simp [*]; try decide), ?_⟩
      refine kN ?_ _ _ (.end_ z1) (keep_row S5 ul2) upd_same rfl ?_ (by constructor <;> (repeat rw [lookup_putF, if_neg (by decide)]) <;> rfl)
      · show firstD _ = _
        rcases FB with ⟨_, h⟩ | ⟨w, h, _⟩
        · exact h
        · rw [fb] at h; cases h
      · exact ⟨by rw [lookup_putF, if_neg (by decide), lookup_putF, if_pos rfl], by rw [lookup_putF, if_pos rfl]; rfl⟩
    · have e : firstD [("place", d1)] = w ∧ w ≠ Str.empty := by
        rcases FB with ⟨h, _⟩ | ⟨w2, h, h2, h3⟩
        · rw [fb] at h; cases h
        · rw [fb] at h
          cases h
          refine ⟨h2, fun z => ?_⟩
          rw [z] at h3
          exact absurd (show Str.empty ∈ (["place"] : List Str) from h3) (by decide)
      refine kE (by show firstD _ ≠ _; rw [e.1]; exact e.2) H5 d (S.trans s5) (S.free nd) ?_
      show _ = some (HO.xd [("word", .str (firstD _))])
      rw [e.1]
      exact hd
end
end K2

set_option Elab.async false
set_option linter.all false
set_option maxRecDepth 100000
set_option maxHeartbeats 4000000
namespace K2
open PySem L2 Lw
def dueAsk : List PyData → Str
  | [d1, d2, d3] => if firstD [("place", d1), ("name", d2)] = Str.empty then (if waysOk d3 = true then Str.empty else "ways") else firstD [("place", d1), ("name", d2)]
  | _ => Str.empty
def wordsOf : PyData → List Str
  | .tuple [.str y, .str z] => [y, z]
  | _ => []
theorem words_flat : ∀ ds : List PyData, (ds.map fun d => (wordsOf d).map V.str).flatten = (ds.map wordsOf).flatten.map V.str
  | [] => rfl
  | d :: r => by rw [List.map_cons, List.map_cons, List.flatten_cons, List.flatten_cons, words_flat r, List.map_append]
theorem words_len : ∀ ds : List PyData, (ds.map wordsOf).flatten.length ≤ 2 * ds.length
  | [] => by simp
  | d :: r => by
    have ih := words_len r
    have h : (wordsOf d).length ≤ 2 := by unfold wordsOf; split <;> simp
    rw [List.map_cons, List.flatten_cons, List.length_append, List.length_cons]
    omega
theorem words_short {ds : List PyData} (h : ∀ d ∈ ds, wayOk d = true) : ∀ y ∈ (ds.map wordsOf).flatten, y.length ≤ 4 := by
  intro y hy
  obtain ⟨l, hl, hy⟩ := List.mem_flatten.mp hy
  obtain ⟨d, hd, rfl⟩ := List.mem_map.mp hl
  obtain ⟨u, v, rfl, h1, h2⟩ := wayOk_is (h d hd)
  have hu : nameD (.str u) = true := h1
  have hv : nameD (.str v) = true := h2
  obtain ⟨_, e1, l1⟩ := nameD_is hu
  obtain ⟨_, e2, l2⟩ := nameD_is hv
  cases e1
  cases e2
  have hy' : y ∈ [u, v] := hy
  simp at hy'
  rcases hy' with rfl | rfl
  · exact l1
  · exact l2
theorem ways_is : ∀ {dw : List PyData}, (∀ d ∈ dw, wayOk d = true) → ∃ ws : List (Str × Str), dw = ws.map wayD
  | [], _ => ⟨[], rfl⟩
  | d :: r, h => by
    obtain ⟨y, z, rfl, _, _⟩ := wayOk_is (h d (by simp))
    obtain ⟨ws, e⟩ := ways_is (dw := r) fun q hq => h q (List.mem_cons_of_mem _ hq)
    exact ⟨(y, z) :: ws, by rw [e]; rfl⟩
theorem waysD_all {ds : List PyData} (h : waysD ds = true) : ∀ d ∈ ds, wayOk d = true := by
  rw [waysD] at h
  obtain ⟨h1, _⟩ := Bool.and_eq_true_iff.mp h
  obtain ⟨_, h2⟩ := Bool.and_eq_true_iff.mp h1
  exact List.all_eq_true.mp h2
section
variable {P : Program} {w : World} {K : PySem.W.Frag} {mg : Str → Option Value} {base : Heap} {a : Ad}
theorem scAsk : FnScope ["self", "place", "name", "ways", "way", "word"] ["self", "place", "name", "ways"] (defScope sAsk) := ⟨rfl, rfl, rfl, by decide +kernel, rfl, by decide +kernel, by decide +kernel⟩
theorem Txt.okAsk (T : Txt K mg a) : FnOk P w K mg base (L2.CX P w) 4 a.fAsk a.dAsk ["self", "place", "name", "ways"] (spMk K a.cAsk a.cIr dueAsk 3) := by
  refine T.ask.F.okX scAsk (fun vs H Q E h => ?_) (fun cdv A outer s H vs Q E hr h => ?_)
  · obtain ⟨p, _, xs, _, rfl, e, _⟩ := h
    rw [List.length_cons, e]
    rfl
  · obtain ⟨p, dx, xs, ds, rfl, len, ha, hf, hp, kN, kE⟩ := h
    match xs, ds, ha, len with
    | [x1, x2, x3], [d1, d2, d3], .cons h1 (.cons h2 (.cons h3 .nil)), _ =>
    have hr1 : Room 1 _ := hr.mono (by decide)
    have hr2 : Room 2 _ := hr.mono (by decide)
    refine ⟨_, pss_cons (ps_expr (pe_call T.okX hr rfl T.expect.g T.expect.F.kp T.expect.b .nil (passes_call (takes_of rfl rfl rfl rfl) fun _ _ _ _ z => z) (pa_cons (pe_lst (pa_cons (pe_tup (pa_cons pe_str (pa_cons (pv 1) pa_nil))) (pa_cons (pe_tup (pa_cons pe_str (pa_cons (pv 2) pa_nil))) pa_nil))) pa_nil)))
      (pss_cons (ps_if (pt_not (pt_val (pe_call T.okWays hr rfl T.areWays.g T.areWays.F.kp T.areWays.b .nil pass0 (pa_cons (pv 3) pa_nil))))
        (pss_one (ps_raise rfl (takes_of rfl rfl rfl rfl) (pmk_oex T.ir T.irI T.irT T.okIr hr2 T.irB .nil pass0 rfl T.gIr (pa_cons pe_str pa_nil)))) pss_nil)
      (pss_cons (ps_fld (pv 0) (pv 1) rfl) (pss_cons (ps_fld (pv 0) (pv 2) rfl) (pss_cons (ps_fld (pv 0) (pe_callTy call_tuple_of (by rfl) T.tTuple PyProof.Rows.boot_tuple (pa_cons (pv 3) pa_nil)) rfl)
      (pss_one (ps_expr (pe_cfun (pe_glob (v := .ref a.cRow) (by rfl) T.row.g rfl) T.rowR T.rowI T.okRow hr1 T.row.F.kp T.row.b pass0 (pa_cons (pv 0) (pa_cons (pe_lst (pa_cons (pv 1) (pa_cons pe_str (pa_cons (pv 2)
        (StX.pa_star (pe_lc2 (own := [("way", 4), ("word", 5)]) (vs1 := [5]) (g := gName 4) (tt := tYes) (g1 := gName 5) (tt1 := tYes) (wi1 := iTup K (tVar 4)) (te := tVar 5) (by rfl) scAsk.nd (pi_seq (pv 3)) (blkOk_by (own := [("way", 4), ("word", 5)]) (N := ["self", "place", "name", "ways", "way", "word"]) (sc := defScope sAsk) (by decide +kernel)) (by decide)
          (fun _ _ _ _ _ => pg_name (i := 4) scAsk.nd rfl (Or.inl rfl)) (fun _ _ _ _ _ => pts_nil) (fun _ _ _ _ _ => pi_tup (pv 4)) (fun _ _ _ _ _ => pg_name (i := 5) scAsk.nd rfl (Or.inl rfl)) (fun _ _ _ _ _ => pts_nil) (fun _ _ _ _ _ => pv 5)) pa_nil))))) pa_nil))))))))), ?_⟩
    refine ⟨_, rfl, (by show 2 ≤ sizeLine; decide), fun t1 u1 => ⟨_, rfl, (by show 2 ≤ sizeLine; decide), fun t2 u2 => ⟨(by show 2 ≤ sizeLine; decide), fun l ul => ?_⟩⟩⟩
    generalize e1 : upd H t1 (.tup [.str "place", x1]) = G1 at *
    have s1 : Same H G1 := e1 ▸ same_new u1
    have q1 : SqT K G1 t1 [.str "place", x1] := e1 ▸ SqT.of upd_same
    generalize e2 : upd G1 t2 (.tup [.str "name", x2]) = G2 at *
    have s2 : Same G1 G2 := e2 ▸ same_new u2
    have q2 : SqT K G2 t2 [.str "name", x2] := e2 ▸ SqT.of upd_same
    have sl : Same G2 (upd G2 l (.lst [.ref t1, .ref t2])) := same_new ul
    have S : Same H _ := (s1.trans (s2.trans sl))
    have f1 : fine d1 = true := fineAll_mem hf (by simp)
    have f2 : fine d2 = true := fineAll_mem hf (by simp)
    have f3 : fine d3 = true := fineAll_mem hf (by simp)
    have FB := firstBad_is [⟨t1, "place", x1, d1⟩, ⟨t2, "name", x2, d2⟩]
    refine ⟨l, [⟨t1, "place", x1, d1⟩, ⟨t2, "name", x2, d2⟩], rfl, SqL.of upd_same, fun i hi => ?_, fun fb H5 s5 => ?_, fun w fb H5 d s5 nd hd => ?_⟩
    · simp only [List.mem_cons, List.not_mem_nil, or_false] at hi
      rcases hi with rfl | rfl
      · exact ⟨same_tup (s2.trans sl) q1, dp_same S _ _ h1, f1⟩
      · exact ⟨same_tup sl q2, dp_same S _ _ h2, f2⟩
    · have all := firstBad_none fb
      have S5 := S.trans s5
      have fd : firstD [("place", d1), ("name", d2)] = Str.empty := by
        rcases FB with ⟨_, h⟩ | ⟨w, h, _⟩
        · exact h
        · rw [fb] at h; cases h
      have due : dueAsk [d1, d2, d3] = if waysOk d3 = true then Str.empty else "ways" := if_pos fd
      rw [due] at kN kE
      refine ⟨_, rfl, x3, d3, rfl, dp_same S5 _ _ h3, f3, fun H6 s6 => ⟨_, rfl, ?_⟩⟩
      have S6 := S5.trans s6
      cases wo : waysOk d3 with
      | false =>
        rw [wo, if_neg (by decide)] at kE
        refine iteT ⟨(by show 1 ≤ 1000; decide), fun x hx => ⟨x, _, rfl, upd_same, fun d n1 n2 => ⟨rfl, d, _, upd_same, by rw [upd_ne n2]; exact upd_same, ?_, ?_⟩⟩⟩
        · rwa [upd_ne n2] at n1
        · rw [err_heap hx n1 n2]
          have hd' : H6 d = none := by rwa [upd_ne n2] at n1
          exact kE (by decide) _ d (S6.trans (same_new hd')) (S6.free hd') upd_same
      | true =>
        rw [wo, if_pos rfl] at kN
        refine iteF ?_
        obtain ⟨z1, rfl, rfl, c1⟩ := name_at h1 (all ⟨t1, "place", x1, d1⟩ (by simp))
        obtain ⟨z2, rfl, rfl, c2⟩ := name_at h2 (all ⟨t2, "name", x2, d2⟩ (by simp))
        rcases seq_or h3 f3 with ⟨p3, ws, dw, rfl, hs3, ha3, few3, hf3, es3, ed3⟩ | es3
        · have ew : waysD dw = true := by rcases ed3 with rfl | rfl <;> exact wo
          have el := dpAll_len ha3
          have ok := waysD_all ew
          have hs6 := hs3.same S6
          have ha6 := dpAll_same S6 _ _ ha3
          refine ⟨_, rfl, _, rfl, p, a.cAsk, dx, _, rfl, (S6 _ _ hp), T.ask.cl, T.no _ (by simp) _ (by simp), (by show 0 < 1000; decide), ?_⟩
          refine ⟨_, rfl, _, rfl, p, a.cAsk, dx, _, rfl, upd_same, T.ask.cl, T.no _ (by simp) _ (by simp), (by show 1 < 1000; decide), ?_⟩
          rw [upd_upd]
          dsimp only
          refine seq_cut (fun σ1 H1 => ∃ (H7 : Hp) (wa : Addr), σ1 = [some (.ref p), some (.str z1), some (.str z2), some (.ref p3), none, none] ∧ H1 = upd H7 p (.ins a.cAsk dx (putF "ways" (.ref wa) (putF "name" (.str z2) (putF "place" (.str z1) [])))) ∧ (∀ b o, H6 b = some o → b ≠ p → H7 b = some o) ∧ SqT K H1 wa ws) ?after fun after => ?go
          case go =>
            refine ⟨_, rfl, p3, ws, rfl, ?_⟩
            have hp6 := S6 _ _ hp
            have np : ∀ {H' : Hp} {o : HO}, But p H6 (upd H6 p o) := fun {H' o} b u e ne => by rw [upd_ne ne]; exact e
            rcases hs6 with hs6 | hs6
            · refine .inl ⟨(np (H' := H6)).seq hp6 hs6, fun l7 u7 => ?_⟩
              have n7 : p ≠ l7 := fun z => by rw [← z, upd_same] at u7; cases u7
              refine ⟨_, rfl, p, a.cAsk, dx, putF "name" (.str z2) (putF "place" (.str z1) []), rfl, by rw [upd_ne n7]; exact upd_same, T.ask.cl, T.no _ (by simp) _ (by simp), (by show 2 < 1000; decide), ?_⟩
              refine after _ _ ⟨_, l7, rfl, rfl, fun b o e ne => ?_, SqT.of (by rw [upd_ne n7.symm]; exact upd_same)⟩
              have nb : b ≠ l7 := fun z => by rw [← z, upd_ne ne, e] at u7; cases u7
              rw [upd_ne nb, upd_ne ne]
              exact e
            · refine .inr ⟨(np (H' := H6)).tup hp6 hs6, ?_⟩
              refine ⟨_, rfl, p, a.cAsk, dx, putF "name" (.str z2) (putF "place" (.str z1) []), rfl, upd_same, T.ask.cl, T.no _ (by simp) _ (by simp), (by show 2 < 1000; decide), ?_⟩
              exact after _ _ ⟨_, p3, rfl, rfl, fun b o e ne => by rw [upd_ne ne]; exact e, But.tup hp6 (fun b o e ne => by rw [upd_ne ne, upd_ne ne]; exact e) hs6⟩
          case after =>
            rintro _ _ ⟨H7, wa, rfl, rfl, k7, hwa⟩
            have hp6 := S6 _ _ hp
            have k8 : But p H6 (upd H7 p (.ins a.cAsk dx (putF "ways" (.ref wa) (putF "name" (.str z2) (putF "place" (.str z1) []))))) := fun b o e ne => by rw [upd_ne ne]; exact k7 b o e ne
            refine ⟨rfl, _, rfl, _, rfl, _, rfl, ?_⟩
            refine seq_run rfl (k8.sqA hp6 hs6) fun J hJ D un => lc2_flat hJ un (dw.map fun d => (wordsOf d).map V.str) (by rw [List.length_map, el]) (fun j x hx => ?_) ?_ fun H9 s9 h9 => ?_
            · obtain ⟨d, ed, hd⟩ := dpAll_at ha6 hx
              obtain ⟨y, z, rfl, _, _⟩ := wayOk_is (ok d (List.mem_of_getElem? ed))
              cases hd with
              | @tup p2 zs _ hs2 ha2 =>
                cases ha2 with
                | cons hy hr =>
                  cases hy
                  cases hr with
                  | cons hz hn =>
                    cases hz
                    cases hn
                    exact ⟨p2, _, rfl, by rw [List.getElem?_map, ed]; rfl, k8.tup hp6 hs2⟩
            · rw [words_flat, List.length_map]
              have := words_len dw
              omega
            · rw [words_flat] at h9
              have lw := words_len dw
              refine ⟨D, _, rfl, .inr (SqL.of h9), ?_⟩
              refine ⟨?_, fun l2 ul2 => ?_⟩
              · rw [List.append_nil]
                show (List.map V.str _).length + 1 + 1 + 1 ≤ _
                rw [List.length_map]
                exact Nat.le_trans (show _ ≤ 10000 by omega) (by decide)
              · rw [List.append_nil] at *
                have P9 := s9 p _ upd_same
                have np : p ≠ l2 := fun z => by rw [← z, P9] at ul2; cases ul2
                refine ⟨p, l2, a.cAsk, dx, _, z1 :: "ask" :: z2 :: (dw.map wordsOf).flatten, rfl, (by rw [upd_ne np]; exact P9), T.ask.cl, T.no _ (by simp) _ (by simp), (by show 3 < 900; decide), SqL.of upd_same, ?_, ?_, ?_⟩
                · rw [List.length_cons, List.length_cons, List.length_cons]
                  omega
                · intro y hy
                  rcases List.mem_cons.mp hy with rfl | hy
                  · exact c1
                  rcases List.mem_cons.mp hy with rfl | hy
                  · decide
                  rcases List.mem_cons.mp hy with rfl | hy
                  · exact c2
                  exact words_short ok y hy
                · obtain ⟨w0, hw0⟩ := ways_is ok
                  have P10 : (upd H9 l2 (.lst (V.str z1 :: .str "ask" :: .str z2 :: (dw.map wordsOf).flatten.map V.str))) p = some (.ins a.cAsk dx (putF "ways" (.ref wa) (putF "name" (.str z2) (putF "place" (.str z1) [])))) := by rw [upd_ne np]; exact P9
                  have s10 : Same H9 (upd H9 l2 (.lst (V.str z1 :: .str "ask" :: .str z2 :: (dw.map wordsOf).flatten.map V.str))) := same_new ul2
                  have kB : ∀ {o : HO}, But p (upd H9 l2 (.lst (V.str z1 :: .str "ask" :: .str z2 :: (dw.map wordsOf).flatten.map V.str))) (upd (upd H9 l2 (.lst (V.str z1 :: .str "ask" :: .str z2 :: (dw.map wordsOf).flatten.map V.str))) p o) := fun {o} b u e ne => by rw [upd_ne ne]; exact e
                  refine kN rfl _ _ (.ask z1 z2 w0) (fun b o e ne => ?_) upd_same ?_ ?_ (by constructor <;> (repeat rw [lookup_putF, if_neg (by decide)]) <;> rfl)
                  · have k9 := s9 _ _ (k8 b o (S6 _ _ e) ne)
                    have nb : b ≠ l2 := fun z => by rw [← z, k9] at ul2; cases ul2
                    rw [upd_ne ne, upd_ne nb]
                    exact k9
                  · rcases ed3 with rfl | rfl
                    · exact .inl (by rw [hw0])
                    · exact .inr (by rw [hw0])
                  · have ha9 : DpAll K (upd H7 p (.ins a.cAsk dx (putF "ways" (.ref wa) (putF "name" (.str z2) (putF "place" (.str z1) []))))) ws dw := dpAll_but hp6 k8 _ _ ha6
                    refine ⟨by rw [lookup_putF, if_neg (by decide), lookup_putF, if_neg (by decide), lookup_putF, if_neg (by decide), lookup_putF, if_pos rfl], by rw [lookup_putF, if_neg (by decide), lookup_putF, if_neg (by decide), lookup_putF, if_pos rfl],
                      ⟨wa, by rw [lookup_putF, if_neg (by decide), lookup_putF, if_pos rfl], ?_⟩, ?_⟩
                    · rw [← hw0]
                      exact .tup (kB.tup P10 (same_tup (s9.trans s10) hwa)) (dpAll_but P10 kB _ _ (dpAll_same (s9.trans s10) _ _ ha9))
                    · rw [lookup_putF, if_pos rfl, hw0, List.map_map]
                      rfl
        · exfalso
          cases d3 with
          | list _ => cases es3
          | tuple _ => cases es3
          | _ => cases wo
    · have e : firstD [("place", d1), ("name", d2)] = w ∧ w ≠ Str.empty := by
        rcases FB with ⟨h, _⟩ | ⟨w2, h, h2, h3⟩
        · rw [fb] at h; cases h
        · rw [fb] at h
          cases h
          refine ⟨h2, fun z => ?_⟩
          rw [z] at h3
          exact absurd (show Str.empty ∈ (["place", "name"] : List Str) from h3) (by decide)
      have due : dueAsk [d1, d2, d3] = w := by
        show (if firstD [("place", d1), ("name", d2)] = Str.empty then _ else firstD [("place", d1), ("name", d2)]) = w
        rw [e.1, if_neg e.2]
      rw [due] at kE
      exact kE e.2 H5 d (S.trans s5) (S.free nd) hd
end
end K2

set_option Elab.async false
set_option linter.all false
set_option maxRecDepth 100000
set_option maxHeartbeats 4000000
namespace Lw
open PySem PySem.Spec PyProof.Rows L2
theorem HP.more {K : PySem.W.Frag} {G H : Hp} {d l L T : Addr} {R : Nat → PyData → Prop} {i : Nat} {o : HO} (h : HP K G d l L R i H) (u : H T = none) : HP K G d l L R i (upd H T o) := by
  obtain ⟨B, N, xs, pds, sB, nB, DB, r⟩ := h
  exact ⟨B, N, xs, pds, sB, nB, DB.more u, r⟩
/-- something new that stands in the heap by now -/
theorem News.grow {G H H' G' N : Hp} {d l p : Addr} {o : HO} (n : News G H G' N d l) (s : Same H H') (u : H p = none) (e : H' p = some o) : News G H' (upd G' p o) (upd N p o) d l := by
  obtain ⟨ns, m, a⟩ := n.dl.it
  have nd : d ≠ p := ne_of_none a.hd u
  have nl : l ≠ p := ne_of_none a.hl u
  have gp : G' p = none := n.dl.same.free u
  refine ⟨⟨fun b v h => ?_, by rw [upd_ne nd]; exact n.dl.gd, by rw [upd_ne nl]; exact n.dl.gl, n.dl.ne, ns, m, s _ _ a.hd, s _ _ a.hl, a.len, a.nn, a.m0, a.m1⟩, fun b v h => ?_, fun b v h => ?_, fun b v h => ?_⟩
  · by_cases q : b = p
    · subst q
      rw [upd_same] at h
      cases h
      exact e
    · rw [upd_ne q] at h
      exact s _ _ (n.dl.same _ _ h)
  · rw [upd_ne (ne_of_none (n.kp _ _ h) gp)]
    exact n.kp _ _ h
  · by_cases q : b = p
    · subst q
      rw [upd_same] at h ⊢
      exact h
    · rw [upd_ne q] at h ⊢
      exact n.sub _ _ h
  · by_cases q : b = p
    · subst q
      exact n.kp.free gp
    · rw [upd_ne q] at h
      exact n.dis _ _ h
/-- a comprehension over enumerate of a list -/
theorem lc_enum {K : PySem.W.Frag} {a : Addr} {xs : List V} {g : TG} {tt : TT} {te : TE} {vs : List Nat} {σ : L2.St} {H1 : Hp} {D : Addr} {Qd : Hp → Prop} (Pv : Nat → Hp → Prop) (h0 : Pv 0 (upd H1 D (.lst []))) (hl : ∀ i H, Pv i H → SqL K H a xs)
    (hs : ∀ i x T H, xs[i]? = some x → Pv i H → H T = none → g (.ref T) (wipe σ vs) (upd H T (.tup [.int (i : Nat), x])) fun σ2 H2 => wipe σ2 vs = wipe σ vs ∧ tt σ2 H2 fun b H3 =>
      if b = true then te σ2 H3 fun y H4 => ∃ acc, H4 D = some (.lst acc) ∧ acc.length < sizeLine ∧ Pv (i + 1) (upd H4 D (.lst (acc ++ [y]))) else Pv (i + 1) H3) (hd : ∀ H, Pv xs.length H → Qd H) :
    ∃ W : Nat → Nat → Hp → Prop, (∃ m, W 0 m (upd H1 D (.lst []))) ∧ ∀ i m H, W i m H →
      ((Ite K a).stop i H ∧ Qd H) ∨ ((Ite K a).go i H ∧ ∃ Nx : Hp → Prop, (∀ H', Nx H' → ∃ m', m' < m ∧ W (i + 1) m' H') ∧ ∀ x H', (Ite K a).yld i H x H' → g x (wipe σ vs) H' fun σ2 H2 => wipe σ2 vs = wipe σ vs ∧ tt σ2 H2 fun b H3 =>
        if b = true then te σ2 H3 fun y H4 => ∃ acc, H4 D = some (.lst acc) ∧ acc.length < sizeLine ∧ Nx (upd H4 D (.lst (acc ++ [y]))) else Nx H3) := by
  refine ⟨fun i m H => m = xs.length - i ∧ i ≤ xs.length ∧ Pv i H, ⟨xs.length, by simp, Nat.zero_le _, h0⟩, ?_⟩
  rintro i m H ⟨rfl, hi, p⟩
  have q := hl i H p
  by_cases hlt : i < xs.length
  · refine .inr ⟨⟨xs, xs[i], q, by simp [hlt]⟩, Pv (i + 1), fun H' p' => ⟨xs.length - (i + 1), by omega, rfl, hlt, p'⟩, fun x H' y => ?_⟩
    obtain ⟨T, x', rfl, hT, rfl, f⟩ := y
    exact hs i x' T H (f xs q) p hT
  · have e : i = xs.length := by omega
    subst e
    exact .inl ⟨⟨xs, q, Nat.le_refl _⟩, hd H p⟩
theorem dp_perm {K : PySem.W.Frag} {N : Hp} {α : Type} (f : α → PyData) : ∀ {xs ys : List V}, ys.Perm xs → ∀ {rs : List α}, DpAll K N xs (rs.map f) → ∃ rs' : List α, rs'.Perm rs ∧ DpAll K N ys (rs'.map f) := by
  intro xs ys h
  induction h with
  | nil => exact fun {rs} a => ⟨rs, List.Perm.refl _, a⟩
  | cons x _ ih =>
    intro rs a
    cases rs with
    | nil => cases a
    | cons r rs =>
      cases a with
      | cons a1 a2 =>
        obtain ⟨rs', p, b⟩ := ih a2
        exact ⟨r :: rs', p.cons r, .cons a1 b⟩
  | swap x y zs =>
    intro rs a
    match rs, a with
    | r1 :: r2 :: rs, .cons a1 (.cons a2 a3) => exact ⟨r2 :: r1 :: rs, List.Perm.swap _ _ _, .cons a2 (.cons a1 a3)⟩
  | trans _ _ ih1 ih2 =>
    intro rs a
    obtain ⟨rs1, p1, b1⟩ := ih2 a
    obtain ⟨rs2, p2, b2⟩ := ih1 b1
    exact ⟨rs2, p2.trans p1, b2⟩
end Lw

set_option Elab.async false
set_option linter.all false
set_option maxRecDepth 100000
set_option maxHeartbeats 4000000
namespace Lw
open PySem PySem.Spec PyProof.Rows L2
/-- its words are short, its ways not many -/
def Short (r : Row0) : Prop := (∀ z ∈ wordsR r, z.length ≤ 4) ∧ (match r with | .ask _ _ ws => ws.length ≤ 1000 | _ => True)
theorem strs_of {K : PySem.W.Frag} {H : Hp} : ∀ {vs : List V} {zs : List Str}, DpAll K H vs (zs.map PyData.str) → vs = zs.map V.str
  | _, [], h => by cases h; rfl
  | _, z :: zs, h => by
    cases h with
    | cons h1 h2 =>
      cases h1
      rw [strs_of h2]
      rfl
theorem sum4' : ∀ {ys : List Str}, (∀ y ∈ ys, y.length ≤ 4) → (ys.map (·.length)).sum ≤ 4 * ys.length
  | [], _ => by simp
  | y :: r, h => by
    have ih := sum4' (ys := r) fun z hz => h z (List.mem_cons_of_mem _ hz)
    have h1 := h y List.mem_cons_self
    rw [List.map_cons, List.sum_cons, List.length_cons]
    omega
/-- a note, a gate, an end: words alone -/
theorem plain_or (r : Row0) : (∃ (k p : Str) (rest : List Str), k ≠ "ask" ∧ lineD r = .tuple ((k :: p :: rest).map PyData.str) ∧ wordsR r = p :: k :: rest ∧ rest.length ≤ 3) ∨ ∃ p n ws, r = .ask p n ws := by
  cases r with
  | ask p n ws => exact .inr ⟨p, n, ws, rfl⟩
  | note p w t => exact .inl ⟨"note", p, [w, t], by decide, rfl, rfl, by simp⟩
  | gate p m n e => exact .inl ⟨"mark", p, [m, n, e], by decide, rfl, rfl, by simp⟩
  | end_ p => exact .inl ⟨"end", p, [], by decide, rfl, rfl, by simp⟩
end Lw
namespace K2
open PySem L2 Lw
/-- the arguments of a row's class; what is due of them -/
def argsD : Row0 → List PyData
  | .ask p n ws => [.str p, .str n, .tuple (ws.map wayD)]
  | .note p w t => [.str p, .str w, .str t]
  | .gate p m n e => [.str p, .str m, .str n, .str e]
  | .end_ p => [.str p]
def dueR : Row0 → Str
  | .ask p n ws => dueAsk (argsD (.ask p n ws))
  | .note p w t => dueNote (argsD (.note p w t))
  | .gate p m n e => dueGate (argsD (.gate p m n e))
  | .end_ p => dueEnd (argsD (.end_ p))
def clsR (a : Ad) : Row0 → Addr
  | .ask _ _ _ => a.cAsk
  | .note _ _ _ => a.cNote
  | .gate _ _ _ _ => a.cGate
  | .end_ _ => a.cEnd
section
variable {P : Program} {w : World} {K : PySem.W.Frag} {mg : Str → Option Value} {base : Heap} {a : Ad}
theorem ways_inj : ∀ {us ws : List (Str × Str)}, us.map wayD = ws.map wayD → us = ws
  | [], [], _ => rfl
  | [], _ :: _, h => by simp at h
  | _ :: _, [], h => by simp at h
  | (a1, a2) :: us, (b1, b2) :: ws, h => by
    rw [List.map_cons, List.map_cons] at h
    obtain ⟨h1, h2⟩ := List.cons.inj h
    have h1' : PyData.tuple [.str a1, .str a2] = .tuple [.str b1, .str b2] := h1
    simp at h1'
    obtain ⟨rfl, rfl⟩ := h1'
    rw [ways_inj h2]
theorem made_is {r r' : Row0} (m : Made (argsD r) r') : r' = r := by
  cases r with
  | ask p n ws =>
    cases r' with
    | ask p' n' ws' =>
      rcases m with h | h
      · simp [argsD] at h
      · have h2 : [PyData.str p, .str n, .tuple (ws.map wayD)] = [.str p', .str n', .tuple (ws'.map wayD)] := h
        simp only [List.cons.injEq, PyData.str.injEq, PyData.tuple.injEq, and_true] at h2
        obtain ⟨e1, e2, e3⟩ := h2
        rw [e1, e2, ways_inj e3]
    | note p' w' t' => have h : [PyData.str p, .str n, .tuple (ws.map wayD)] = [.str p', .str w', .str t'] := m; simp at h
    | gate p' m' n' e' => have h : [PyData.str p, .str n, .tuple (ws.map wayD)] = [.str p', .str m', .str n', .str e'] := m; simp at h
    | end_ p' => have h : [PyData.str p, .str n, .tuple (ws.map wayD)] = [.str p'] := m; simp at h
  | note p w t =>
    cases r' with
    | ask p' n' ws' => rcases m with h | h <;> simp [argsD] at h
    | note p' w' t' =>
      have h : [PyData.str p, .str w, .str t] = [.str p', .str w', .str t'] := m
      simp at h
      obtain ⟨rfl, rfl, rfl⟩ := h
      rfl
    | gate p' m' n' e' => have h : [PyData.str p, .str w, .str t] = [.str p', .str m', .str n', .str e'] := m; simp at h
    | end_ p' => have h : [PyData.str p, .str w, .str t] = [.str p'] := m; simp at h
  | gate p m0 n e =>
    cases r' with
    | ask p' n' ws' => rcases m with h | h <;> simp [argsD] at h
    | note p' w' t' => have h : [PyData.str p, .str m0, .str n, .str e] = [.str p', .str w', .str t'] := m; simp at h
    | gate p' m' n' e' =>
      have h : [PyData.str p, .str m0, .str n, .str e] = [.str p', .str m', .str n', .str e'] := m
      simp at h
      obtain ⟨rfl, rfl, rfl, rfl⟩ := h
      rfl
    | end_ p' => have h : [PyData.str p, .str m0, .str n, .str e] = [.str p'] := m; simp at h
  | end_ p =>
    cases r' with
    | ask p' n' ws' => rcases m with h | h <;> simp [argsD] at h
    | note p' w' t' => have h : [PyData.str p] = [.str p', .str w', .str t'] := m; simp at h
    | gate p' m' n' e' => have h : [PyData.str p] = [.str p', .str m', .str n', .str e'] := m; simp at h
    | end_ p' =>
      have h : [PyData.str p] = [.str p'] := m
      simp at h
      subst h
      rfl
theorem make_case {H : Hp} {C Cir : Addr} {due : List PyData → Str} {n : Nat} {ta : TA} {σ : L2.St} {xs : List V} {r : Row0} {Q : VK} (hta : ∀ Q, Q xs H → ta σ H Q) (ha : DpAll K H xs (argsD r)) (hf : fineAll (argsD r) = true) (len : xs.length = n) (hd : due (argsD r) = Str.empty)
    (fin : ∀ (H' : Hp) (x dx : Addr) (fs : List (Str × V)), Same H H' → H x = none → H' x = some (.ins C dx fs) → fieldsOk K H' fs r → Bare fs → Q (.ref x) H') : tMake C (spMk K C Cir due n) [] E0 ta σ H Q := by
  refine hta _ fun x dx nx nd ne => ?_
  have s1 : Same H (upd H dx (.own x)) := same_new nd
  have nx' : (upd H dx (.own x)) x = none := by rw [upd_ne ne.symm]; exact nx
  have s2 : Same (upd H dx (.own x)) (upd (upd H dx (.own x)) x (.ins C dx [])) := same_new nx'
  refine ⟨x, dx, xs, argsD r, by rw [List.append_nil], len, dpAll_same (s1.trans s2) _ _ ha, hf, upd_same, fun e H' fs r' kp hi md fo bf => ⟨rfl, ?_⟩, fun e => absurd hd e⟩
  have er := made_is md
  subst er
  exact fin H' x dx fs (Same.made nx nd kp) nx hi fo bf
end
end K2

set_option Elab.async false
set_option linter.all false
set_option maxRecDepth 100000
set_option maxHeartbeats 4000000
namespace Lw
open PySem PySem.Spec PyProof.Rows L2
/-! ### x == y, x an instance of a class with an __eq__ of its own, y anything -/
def rOwnEq (K : PySem.W.Frag) (f : Addr) (sp : Sp) (E : XK) : R2 := fun x y H Q => ∃ (a C dx : Addr) (fs : List (PySem.Str × V)) (t : Value), x = .ref a ∧ H a = some (.ins C dx fs) ∧ TyX K H y t ∧ PySem.W.notFirst K C t = true ∧ PySem.W.findIn K (.ref C) "__eq__" = some (some (.ref f)) ∧
  sp [x, y] H (fun v H' => ∃ b, v = .bl b ∧ Q (.bl b) H') E
section
variable {X : Cx}
theorem op_ownEq {CX : CXT} {f : Addr} {fd : FuncData} {ps : List PySem.Str} {sp : Sp} {E : XK} {n : Nat} (F : FnOk X.prog X.w X.K X.mg X.base CX n f fd ps sp) (hr : Room n X.A) (hf : PySem.W.isFn X.K (.ref f) = true) (hb : Binds X.K fd ps []) (hx : Passes CX X E) :
    OpR X (compareOp .Eq) (rOwnEq X.K f sp E) := by
  intro pins s σ H x y v u Q I rx ry hq
  obtain ⟨a, C, dx, fs, t, rfl, ha, ty, nf, hs, hsp⟩ := hq
  obtain rfl : v = Value.ref a := rx
  obtain ⟨Pz, Z, pz, _⟩ := kit_of I ry ty
  obtain ⟨mA, J, _⟩ := ins_get I.hok ha
  obtain ⟨od, J, _⟩ := J.look
  obtain ⟨m, hF⟩ := I.fr
  show wpAny (model X.prog X.w) X.A (richCompare .Eq (.ref a) u) (EP X pins σ Q) X.xe s
  refine PySem.W.cmp_K (op := .Eq) (tb := t) hr.units0 hF I.ok.mod.kin J (Z.ty _ _ I.kIn pz) nf hs hf ?_
  have r2 : Vals [V.ref a, y] [Value.ref a, u] := .cons rfl (.cons ry .nil)
  have hl := F.len _ _ _ _ hsp
  have z := run_fn (us := [Value.ref a, u]) F hr hb .nil hx I r2 (by rw [List.append_nil]; exact hsp)
  refine wpAny_mono z (fun w s' q => ?_) fun _ _ q => q
  obtain ⟨v', H', I', r', q⟩ := q
  obtain ⟨b, eb, q2⟩ := q
  subst eb
  have e : w = Value.bool b := r'
  subst e
  exact ⟨.bl b, H', I', rfl, q2⟩
/-- x != y: object's own, which asks the class's __eq__ -/
def rOwnNe (K : PySem.W.Frag) (f : Addr) (sp : Sp) (E : XK) : R2 := fun x y H Q => ∃ (a C dx : Addr) (fs : List (PySem.Str × V)) (t : Value), x = .ref a ∧ H a = some (.ins C dx fs) ∧ TyX K H y t ∧ PySem.W.notFirst K C t = true ∧ PySem.W.findIn K (.ref C) "__eq__" = some (some (.ref f)) ∧
  PySem.W.findIn K (.ref C) "__ne__" = some (some (.builtin "object.__ne__")) ∧ PySem.W.mroIn K C (.type "object") = some true ∧ sp [x, y] H (fun v H' => ∃ b, v = .bl b ∧ Q (.bl !b) H') E
theorem special_ne {M : Model} {A : Around} {E' : Value → Shared → Prop} {s : Shared} {K : PySem.W.Frag} {x C : Addr} {ox : Obj} {od : Option Obj} {more : List Value} {Q : Option Value → Shared → Prop} (kin : K.In s.heap) (inst : PySem.W.InstAt s.heap x ox C od)
    (found : PySem.W.findIn K (.ref C) "__ne__" = some (some (.builtin "object.__ne__"))) (goes : wpAny M A (call (.builtin "object.__ne__") (.ref x :: more)) (fun v => Q (some v)) E' s) : wpAny M A (callSpecialIfBound? (.ref x) "__ne__" more) Q E' s := by
  have last : wpAny M A ((fun v => some v) <$> call (.builtin "object.__ne__") ([Value.ref x] ++ more)) Q E' s := wpAny_bind (wpAny_mono goes (fun _ _ q => wpAny_pure q) fun _ _ q => q)
  unfold callSpecialIfBound? bindSpecialIfBound?
  refine wpAny_holding (wpAny_bind (wpAny_bind (wpAny_bind (inst.type.here ((PySem.W.looks_findIn kin found).here ?_)))))
  refine wpAny_bind (wpAny_askSetting (wpAny_ite ?_))
  split
  · exact wpAny_bind (wpAny_of_eq (F.cmp_object.ne.bind _) (wpAny_pure (by exact last)))
  · exact wpAny_tryCatch (wpAny_bind (wpAny_of_eq (F.cmp_object.ne.bind _) (wpAny_pure (by exact last))))
theorem call_ne {P : Program} {w : World} {A : Around} {E' : Value → Shared → Prop} {s : Shared} {K : PySem.W.Frag} {x C f : Addr} {ox : Obj} {od : Option Obj} {u : Value} {Q : Value → Shared → Prop} (kin : K.In s.heap) (inst : PySem.W.InstAt s.heap x ox C od)
    (hm : PySem.W.mroIn K C (.type "object") = some true) (hs : PySem.W.findIn K (.ref C) "__eq__" = some (some (.ref f))) (hf : PySem.W.isFn K (.ref f) = true) (hu : A.in1.units < cLine)
    (goes : wpAny (model P w) A.in1 (call (.ref f) [.ref x, u]) (fun v s' => ∃ b, v = .bool b ∧ Q (.bool !b) s') E' s) : wpAny (model P w) A (call (.builtin "object.__ne__") [.ref x, u]) Q E' s := by
  refine wpAny_call (codeAny_call_builtin F.cmp_object.ne.plain F.cmpEntry_ne (PySem.W.check_slot F.cmpKind_ne F.cmpSplit_ne (inst.type.andThen (PySem.W.looks_mroIn kin hm)) (F.cmpArgs_ne _ _) ?_))
  unfold Builtin.«object.__ne__»
  refine wpAny_bind (wpAny_of_eq (rfl : slotArgs "__ne__" 1 ⟨[.ref x, u], []⟩ = pure (.ref x, [u])) ?_)
  refine wpAny_bind (wpAny_cRoomFor hu ?_)
  refine wpAny_bind (PySem.W.ifBound_K kin inst hs hf (wpAny_mono goes (fun v s' q => ?_) fun _ _ q => q))
  obtain ⟨b, rfl, q⟩ := q
  exact wpAny_bind (wpAny_truthy_bool (wpAny_pure q))
theorem op_ownNe {CX : CXT} {f : Addr} {fd : FuncData} {ps : List PySem.Str} {sp : Sp} {E : XK} {n : Nat} (F : FnOk X.prog X.w X.K X.mg X.base CX n f fd ps sp) (hr : Room (n + 1) X.A) (hf : PySem.W.isFn X.K (.ref f) = true) (hb : Binds X.K fd ps []) (hx : Passes CX X E) :
    OpR X (compareOp .NotEq) (rOwnNe X.K f sp E) := by
  intro pins s σ H x y v u Q I rx ry hq
  obtain ⟨a, C, dx, fs, t, rfl, ha, ty, nf, hs, hne, hm, hsp⟩ := hq
  obtain rfl : v = Value.ref a := rx
  obtain ⟨Pz, Z, pz, _⟩ := kit_of I ry ty
  obtain ⟨mA, J, _⟩ := ins_get I.hok ha
  obtain ⟨od, J, _⟩ := J.look
  have hr1 : Room n X.A.in1 := hr.in1
  have e0 : Env0 X.prog X.w X.K X.mg X.base X.A.in1 X.stack s H := by
    have e := I.env0
    exact ⟨e.frames, e.mod, e.bs, e.bsz, e.funs, e.frf, e.hok, e.bare⟩
  have r2 : Vals [V.ref a, y] [Value.ref a, u] := .cons rfl (.cons ry .nil)
  have hl := F.len _ _ _ _ hsp
  have inner : wpAny (model X.prog X.w) X.A.in1 (call (.ref f) [.ref a, u]) (fun v s' => ∃ b, v = .bool b ∧ EP X pins σ Q (.bool !b) s') X.xe s := by
    refine wpAny_call (codeAny_mono (F.run X.A.in1 X.stack s H ⟨[.ref a, u], []⟩ [.ref a, u] [.ref a, y] _ E hr1 e0 (by
      have := hb s [.ref a, u] I.kIn (by simpa using hl)
      simpa using this) r2 hsp) fun r s' hq => ?_)
    cases r with
    | error e => exact hx pins σ H s e s' I hq
    | ok fl =>
      cases fl with
      | ret w =>
        obtain ⟨z, H', I', rz, b, ez, q⟩ := I.after hq
        subst ez
        have ew : w = Value.bool b := rz
        exact ⟨b, ew, .bl !b, H', I', rfl, q⟩
      | next => exact False.elim hq
      | brk => exact False.elim hq
      | cont => exact False.elim hq
  have one : wpAny (model X.prog X.w) X.A (tryCompare (.ref a) "__ne__" u) (fun r s' => ∃ v, r = some v ∧ EP X pins σ Q v s') X.xe s := by
    unfold tryCompare
    refine wpAny_bind (special_ne I.kIn J hne (call_ne I.kIn J hm hs hf hr1.units0 (wpAny_mono inner (fun v s' q => ?_) fun _ _ q => q)))
    obtain ⟨b, eb, q⟩ := q
    exact ⟨b, eb, wpAny_pure ⟨_, rfl, q⟩⟩
  show wpAny (model X.prog X.w) X.A (richCompare .NotEq (.ref a) u) (EP X pins σ Q) X.xe s
  unfold richCompare
  simp only [oneThing_ref]
  refine wpAny_holding (wpAny_bind (wpAny_cRoomFor hr.units0 (wpAny_bind (J.type.here (wpAny_bind ((Z.ty _ _ I.kIn pz).here ?_))))))
  split
  · rename_i q
    have e : PySem.W.subIn X.K t (.ref C) = some false := by
      rcases Bool.or_eq_true_iff.mp nf with e | e
      · rw [beq_iff_eq.mp e] at q
        simp at q
      · exact beq_iff_eq.mp e
    refine wpAny_bind ((PySem.W.looks_subIn I.kIn e).here ?_)
    rw [if_neg Bool.false_ne_true]
    refine wpAny_bind (wpAny_mono one (fun r s' z => ?_) fun _ _ q => q)
    obtain ⟨v, rfl, q⟩ := z
    exact wpAny_pure q
  · refine wpAny_bind (wpAny_pure ?_)
    rw [if_neg Bool.false_ne_true]
    refine wpAny_bind (wpAny_mono one (fun r s' z => ?_) fun _ _ q => q)
    obtain ⟨v, rfl, q⟩ := z
    exact wpAny_pure q
end
end Lw

set_option Elab.async false
set_option linter.all false
set_option maxRecDepth 100000
set_option maxHeartbeats 4000000
namespace K2
open PySem L2 Lw
/-! ### rows compared, told -/
def rowCs (a : Ad) : List Addr := [a.cAsk, a.cNote, a.cGate, a.cEnd]
/-- what more the top has written of the rows' classes -/
structure RowF (K : PySem.W.Frag) (a : Ad) (fEq fStr : Addr) (dEq dStr : FuncData) : Prop where
  eqF : Fun K "__eq__" "Row.__eq__" sEq fEq dEq
  eqB : Binds K dEq ["self", "other"] []
  eqI : PySem.W.isFn K (.ref fEq) = true
  strF : Fun K "__str__" "Row.__str__" sStr fStr dStr
  strB : Binds K dStr ["self"] []
  cls : ∀ C ∈ rowCs a, Cls K C
  isA : ∀ C ∈ rowCs a, PySem.W.findIn K (.ref C) "__class__" = some (some (.builtin "object.__class__"))
  get : PySem.W.specialIn K (.builtin "object.__class__") "__get__" = some (some (.builtin "getset_descriptor.__get__"))
  tak : PySem.W.takesIn K (.builtin "object.__class__") = some true
  obj : ∀ C ∈ rowCs a, PySem.W.mroIn K C (.type "object") = some true
  row : ∀ C ∈ rowCs a, PySem.W.kitOne K (.ref C) (.ref a.cRow) = some true
  noRow : ∀ T ∈ (["tuple", "str", "int"] : List String), PySem.W.kitOne K (.type T) (.ref a.cRow) = some false
  eqAt : ∀ C ∈ rowCs a, PySem.W.findIn K (.ref C) "__eq__" = some (some (.ref fEq))
  neAt : ∀ C ∈ rowCs a, PySem.W.findIn K (.ref C) "__ne__" = some (some (.builtin "object.__ne__"))
  first : ∀ C ∈ rowCs a, ∀ D ∈ rowCs a, PySem.W.notFirst K C (.ref D) = true
  firstT : ∀ C ∈ rowCs a, ∀ T ∈ (["tuple", "str", "int"] : List String), PySem.W.notFirst K C (.type T) = true
def spEqR (K : PySem.W.Frag) (a : Ad) : Sp := fun vs H Q _ => ∃ (p C dx : Addr) (fs : List (Str × V)) (z : Str) (y : V), vs = [.ref p, y] ∧ H p = some (.ins C dx fs) ∧ C ∈ rowCs a ∧ fs.lookup ("_text" : Str) = some (.str z) ∧
  ((∃ (q D dy : Addr) (gs : List (Str × V)) (z' : Str), y = .ref q ∧ H q = some (.ins D dy gs) ∧ D ∈ rowCs a ∧ gs.lookup ("_text" : Str) = some (.str z') ∧ Q (.bl (decide (z = z'))) H) ∨
    ∃ T, T ∈ (["tuple", "str", "int"] : List String) ∧ TyX K H y (.type T) ∧ Q (.bl false) H)
def spStrR (K : PySem.W.Frag) (a : Ad) : Sp := fun vs H Q _ => ∃ (p C dx : Addr) (fs : List (Str × V)) (z : Str), vs = [.ref p] ∧ H p = some (.ins C dx fs) ∧ C ∈ rowCs a ∧ fs.lookup ("_text" : Str) = some (.str z) ∧ Q (.str z) H
section
variable {P : Program} {w : World} {K : PySem.W.Frag} {mg : Str → Option Value} {base : Heap} {a : Ad} {fEq fStr : Addr} {dEq dStr : FuncData}
theorem RowF.ty (R : RowF K a fEq fStr dEq dStr) {H : Hp} {p C dx : Addr} {fs : List (Str × V)} (hC : C ∈ rowCs a) (h : H p = some (.ins C dx fs)) : TyX K H (.ref p) (.ref C) := .base (.ins h (R.cls C hC) (R.isA C hC) R.get R.tak (R.obj C hC))
theorem scEq : FnScope ["self", "other"] ["self", "other"] (defScope sEq) := ⟨rfl, rfl, rfl, by decide +kernel, rfl, by decide +kernel, by decide +kernel⟩
theorem scStr : FnScope ["self"] ["self"] (defScope sStr) := ⟨rfl, rfl, rfl, by decide +kernel, rfl, by decide +kernel, by decide +kernel⟩
theorem RowF.okEq (R : RowF K a fEq fStr dEq dStr) (T : Txt K mg a) : FnOk P w K mg base CX0 1 fEq dEq ["self", "other"] (spEqR K a) := by
  refine R.eqF.ok scEq (fun vs H Q E h => ?_) (fun cdv A outer s H vs Q E hr h => ?_)
  · obtain ⟨p, C, dx, fs, z, y, rfl, _⟩ := h
    rfl
  · obtain ⟨p, C, dx, fs, z, y, rfl, hp, hC, hz, alt⟩ := h
    have na : NoAttr K C "_text" := T.no C hC _ (by simp)
    refine ⟨_, pss_one (ps_ret (pe_and (pe_callB call_isi (by rfl) T.tIs PyProof.Rows.boot_isinstance (pa_cons (pv 1) (pa_cons (pe_glob (v := .ref a.cRow) (by rfl) T.row.g rfl) pa_nil))) (pe_one (pe_cmpR op_eq (pe_fld (pv 0) rfl) (pe_fld (pv 1) rfl) (nomark _))))), ?_⟩
    rcases alt with ⟨q, D, dy, gs, z', rfl, hq, hD, hz', fin⟩ | ⟨S, hS, ty, fin⟩
    · refine ⟨_, rfl, _, _, _, _, _, rfl, .own a.cRow, R.ty hD hq, R.row D hD, _, rfl, ?_⟩
      refine iteT ⟨_, rfl, p, C, dx, fs, _, rfl, hp, R.cls C hC, na, hz, _, rfl, q, D, dy, gs, _, rfl, hq, R.cls D hD, T.no D hD _ (by simp), hz', rfl, ?_⟩
      have e : decide (V.str z = V.str z') = decide (z = z') := decide_eq_decide.mpr ⟨fun h => by cases h; rfl, fun h => by rw [h]⟩
      rw [e]
      exact fin
    · refine ⟨_, rfl, _, _, _, _, _, rfl, .own a.cRow, ty, R.noRow S hS, _, rfl, ?_⟩
      exact iteF fin
theorem RowF.okStr (R : RowF K a fEq fStr dEq dStr) (T : Txt K mg a) : FnOk P w K mg base CX0 1 fStr dStr ["self"] (spStrR K a) := by
  refine R.strF.ok scStr (fun vs H Q E h => ?_) (fun cdv A outer s H vs Q E hr h => ?_)
  · obtain ⟨p, C, dx, fs, z, rfl, _⟩ := h
    rfl
  · obtain ⟨p, C, dx, fs, z, rfl, hp, hC, hz, fin⟩ := h
    exact ⟨_, pss_one (ps_ret (pe_callTy SkE.call_str_str (by rfl) T.tStr PyProof.Rows.boot_str (pa_cons (pe_fld (pv 0) rfl) pa_nil))), _, rfl, p, C, dx, fs, _, rfl, hp, R.cls C hC, T.no C hC _ (by simp), hz, _, rfl, fin⟩
end
end K2

set_option Elab.async false
set_option linter.all false
set_option maxRecDepth 100000
set_option maxHeartbeats 4000000
/-! enumerate(t), t a tuple. -/
namespace Lw
open PySem PySem.Spec PyProof.Rows L2
theorem meets_enum_tup (t : Addr) (items : Array Value) (n : Nat) (dct : Option Addr) (sl : Array (Option Value)) :
    Meets (Builtin.«enumerate.__new__» ⟨[.type "enumerate", .ref t], []⟩) (fun _ R s => s.heap.get? t = some { cls := .type "tuple", dict := dct, data := .seq items n, slots := sl } ∧
      R (.ok (.ret (.ref (s.heap.objs.size + 1)))) { s with heap := (s.heap.push { cls := .type "tuple_iterator", data := .fields #[.ref t, .int 0 0] }).push { cls := .type "enumerate", data := .fields #[.none, .bool false, .ref s.heap.objs.size, rawInt 0, .none, .none] } }) :=
  .of_wp fun prog w A R s told => by
    obtain ⟨hp, g, d, tk, os⟩ := s
    obtain ⟨at_, fin⟩ := told
    have sub := sub_enumerate
    have isT : Heap.IsTuple (Shared.heap ⟨hp, g, d, tk, os⟩) t items := ⟨_, at_, rfl, n, rfl⟩
    have size : (hp.push { cls := .type "tuple_iterator", data := .fields #[.ref t, .int 0 0] }).objs.size = hp.objs.size + 1 := Heap.size_push ..
    have fin' : R (.ok (.ret (.ref (hp.push { cls := .type "tuple_iterator", data := .fields #[.ref t, .int 0 0] }).objs.size))) ⟨(hp.push { cls := .type "tuple_iterator", data := .fields #[.ref t, .int 0 0] }).push { cls := .type "enumerate", data := .fields #[.none, .bool false, .ref hp.objs.size, rawInt 0, .none, .none] }, g, d, tk, os⟩ := by rw [size]; exact fin
    wp_walk using PySem.AutoSeq1.wpAny_loadPart' at_
    refine wpAny_stack_any fun st => wpAny_pure ?_
    split
    · rename_i c _ _ _ _ _
      cases (c == Value.type "enumerate")
      · wp_walk using PySem.AutoSeq1.wpAny_loadPart' at_, wpAny_pyIter_tuple isT
        exact ⟨_, rfl, fin'⟩
      · wp_walk using PySem.AutoSeq1.wpAny_loadPart' at_, wpAny_pyIter_tuple isT
        exact ⟨_, rfl, fin'⟩
    · wp_walk using PySem.AutoSeq1.wpAny_loadPart' at_, wpAny_pyIter_tuple isT
      exact ⟨_, rfl, fin'⟩
theorem call_enum_tup {prog : Program} {w : World} {A : Around} {E : Value → Shared → Prop} {s : Shared} {t : Addr} {items : Array Value} {Q : Value → Shared → Prop} (isT : s.heap.IsTuple t items)
    (fin : ∀ h', IsEnum h' (s.heap.objs.size + 1) s.heap.objs.size 0 .none → h'.IsTupleIter s.heap.objs.size t 0 → (∀ b o, s.heap.get? b = some o → h'.get? b = some o) → Q (.ref (s.heap.objs.size + 1)) { s with heap := h' }) :
    wpAny (model prog w) A (call (.type "enumerate") [.ref t]) Q E s := by
  obtain ⟨⟨c, dct, dt, sl⟩, at_, isC, n, isD⟩ := isT
  obtain rfl : c = .type "tuple" := isC
  obtain rfl : dt = .seq items n := isD
  refine callType_new F.called_enumerate (by decide) (F.typeCall_enumerate_1 _) (F.newCall_enumerate_1 _) (fun obj => F.args_object_init_2 obj _) F.entry_enumerate_new (meets_enum_tup t items n dct sl) ⟨at_, ?_⟩
  have size : (s.heap.push { cls := .type "tuple_iterator", data := .fields #[.ref t, .int 0 0] }).objs.size = s.heap.objs.size + 1 := Heap.size_push ..
  have isE : IsEnum ((s.heap.push { cls := .type "tuple_iterator", data := .fields #[.ref t, .int 0 0] }).push { cls := .type "enumerate", data := .fields #[.none, .bool false, .ref s.heap.objs.size, rawInt 0, .none, .none] }) (s.heap.objs.size + 1) s.heap.objs.size 0 .none := by
    have z := Heap.get?_push_size (s.heap.push { cls := .type "tuple_iterator", data := .fields #[.ref t, .int 0 0] }) (o := { cls := .type "enumerate", data := .fields #[.none, .bool false, .ref s.heap.objs.size, rawInt 0, .none, .none] }) rfl
    rwa [size] at z
  exact ⟨⟨_, isE, rfl⟩, fin _ isE ⟨_, Heap.get?_push_of_some _ (Heap.get?_push_size _ rfl), rfl, rfl⟩ fun b o x => Heap.get?_push_of_some _ (Heap.get?_push_of_some _ x)⟩
/-- the tuple at a, each item in a new pair -/
def ItEt (K : PySem.W.Frag) (a : Addr) : It :=
  ⟨fun i H => ∃ (xs : List V) (x : V), SqT K H a xs ∧ xs[i]? = some x, fun i H v H' => ∃ T x, v = .ref T ∧ H T = none ∧ H' = upd H T (.tup [.int (i : Nat), x]) ∧ ∀ xs, SqT K H a xs → xs[i]? = some x, fun i H => ∃ xs : List V, SqT K H a xs ∧ xs.length = i⟩
theorem turn_enum_tup {P : Program} {w : World} {K : PySem.W.Frag} {elts : List Expr} {kk : Nat} {tpos : Pos} (a e it : Addr) :
    Turn P w K (.Tuple elts kk tpos) (ItEt K a) [e, it] e (fun i h => (∃ old, IsEnum h e it ((i : Nat) : Int) old) ∧ h.IsTupleIter it a i ∧ e ≠ it) where
  mem := by simp
  obj := fun i h st b hb => by
    obtain ⟨⟨old, isE⟩, ⟨o, ho, hc, hd⟩, _⟩ := st
    rcases (show b = e ∨ b = it by simpa using hb) with rfl | rfl
    · exact ⟨_, isE, fun v q => nomatch q⟩
    · exact ⟨o, ho, fun v q => by rw [hd] at q; cases q⟩
  keep := fun i h h' st k => by
    obtain ⟨⟨old, isE⟩, isI, ne⟩ := st
    exact ⟨⟨old, k e (by simp) _ isE⟩, isI.at fun o q => k it (by simp) o q, ne⟩
  item := by
    intro X hP hw hK hc i pins s σ H E I hf st hg
    subst hP hw hK
    obtain ⟨⟨old, isE⟩, isI, ne⟩ := st
    obtain ⟨xs, x, hq, hx⟩ := hg
    obtain ⟨its, rv, p, hz⟩ := I.tuple hq
    have isT : s.heap.IsTuple a its.toArray := p
    obtain ⟨u, hu, ru⟩ := rv.get hx
    have inE : e < s.heap.objs.size := Heap.lt_size isE
    have inI : it < s.heap.objs.size := by obtain ⟨_, q, _⟩ := isI; exact Heap.lt_size q
    have neA : e ≠ a := fun z => by
      obtain ⟨o, q, qc, _⟩ := isT
      rw [← z, show s.heap.get? e = _ from isE] at q
      cases q
      exact absurd qc (by show ¬ Value.type "enumerate" = Value.type "tuple"; decide)
    have neI : a ≠ it := fun z => by
      obtain ⟨o, q, qc, _⟩ := isT
      obtain ⟨o', q', qc', _⟩ := isI
      rw [z, q'] at q
      cases q
      rw [qc'] at qc
      exact absurd qc (by decide)
    have few : i < its.toArray.size := by
      have := (List.getElem?_eq_some_iff.mp hu).1
      simpa using this
    refine wpAny_pyNext_enum_itemD (PySem.Draws.tuple (A := X.A.in1) (I.ok.hd hc) it a neI its.toArray) isE ⟨isI, isT⟩ few ne (by simp [ne, neA]) fun x2 h' tk hp2 out st2 hT hsz hk => ?_
    have e2 : x2 = u := by
      have hu' : its.toArray[i]? = some u := by simpa using hu
      rw [hu'] at hp2
      exact (Option.some.inj hp2).symm
    subst e2
    refine ⟨_, rfl, wpAny_letOwnedTupleGo_enum (s := { s with heap := h', toks := tk + 1 }) out fun h2 isE2 sb => ?_⟩
    have hT2 : h2.get? s.heap.objs.size = some { cls := .type "tuple", data := .seq #[.int i tk, x2] } := (sb.2 _ (Nat.ne_of_gt inE)).trans hT
    have new : ObjOk X.prog X.w (upd H s.heap.objs.size (.tup [.int (i : Nat), x])) h2 s.heap.objs.size (.tup [.int (i : Nat), x]) := ⟨by show 2 ≤ sizeLine; decide, [.int i tk, x2], .cons ⟨_, rfl⟩ (.cons ru .nil), ⟨_, hT2, rfl, _, rfl⟩⟩
    have I1 : Inv X pins σ (upd H s.heap.objs.size (.tup [.int (i : Nat), x])) { s with heap := h2, toks := tk + 1 } :=
      I.turnedNew (ch := [e, it]) (fun b ob hb q => (sb.2 b (fun z => hb (by simp [z]))).trans (hk b ob (fun z => hb (by simp [z])) (fun z => hb (by simp [z])) q)) hf (Nat.le_refl _) new
    refine ⟨.ref s.heap.objs.size, _, I1, rfl, ⟨_, x, rfl, I.hok.fresh (Nat.le_refl _), rfl, fun ys hy => by rw [I.tuple_inj hy hq]; exact hx⟩, ⟨⟨x2, ?_⟩, st2.1.at fun o q => (sb.2 it (Ne.symm ne)).trans q, ne⟩, fun b hb => ?_⟩
    · rw [show ((i + 1 : Nat) : Int) = (i : Int) + 1 by omega]
      exact isE2
    · have hb' : b < s.heap.objs.size := by
        rcases (show b = e ∨ b = it by simpa using hb) with rfl | rfl
        · exact inE
        · exact inI
      rw [upd_ne (Nat.ne_of_lt hb')]
      exact (hf b hb).1
  done := by
    intro X hP hw hK hc i pins s σ H E I hf st hg
    subst hP hw hK
    obtain ⟨⟨old, isE⟩, isI, ne⟩ := st
    obtain ⟨xs, hq, hx⟩ := hg
    obtain ⟨its, rv, p, hz⟩ := I.tuple hq
    have isT : s.heap.IsTuple a its.toArray := p
    obtain ⟨f0, f1, f2, f3, f4, f5⟩ := hf it (by simp)
    have size : its.toArray.size = i := by rw [List.size_toArray, ← rv.length]; exact hx
    have neI : a ≠ it := fun z => by
      obtain ⟨o, q, qc, _⟩ := isT
      obtain ⟨o', q', qc', _⟩ := isI
      rw [z, q'] at q
      cases q
      rw [qc'] at qc
      exact absurd qc (by decide)
    exact wpAny_pyNext_enum_endD (PySem.Draws.tuple (A := X.A.in1) (I.ok.hd hc) it a neI its.toArray) isE ⟨by rw [size]; exact isI, isT⟩ fun h' eb => ⟨rfl, I.turned (t' := s.toks) (fun b o hb q => eb b o hb q) f0 f1 f3 f4 f5⟩
  self := fun A i s Q E st h => by
    obtain ⟨⟨_, isE⟩, _⟩ := st
    exact wpAny_pyIter_enum isE h

end Lw

set_option Elab.async false
set_option linter.all false
set_option maxRecDepth 100000
set_option maxHeartbeats 400000
namespace Lw
open PySem PySem.Spec PyProof.Rows L2
def iEnumT (K : PySem.W.Frag) (ta : TA) : TI := fun σ H R => ta σ H fun vs H1 => ∃ a xs, vs = [.ref a] ∧ SqT K H1 a xs ∧ R (ItEt K a) H1
theorem pi_enumT {X : Cx} {e : Expr} {ta : TA} {p pos tpos : Pos} {elts : List Expr} {kk : Nat} (glob : Gl X "enumerate") (free : X.mg "enumerate" = none) (arg : PA X [e] ta) (hs : starEach [e] X.env = [(false, eval e X.env)] := by rfl) :
    PI X (.Tuple elts kk tpos) (.Call (.Name "enumerate" p) [e] [] pos) (iEnumT X.K ta) := by
  constructor
  intro pins s σ H R I h
  refine Call_ (ld_blt I glob free boot_enumerate (PyProof.Rows.callWith_type1 (thn (arg.run pos pins s σ H _ I h) fun us s1 told => ?_) hs rfl))
  obtain ⟨vs, H1, I1, r1, q1⟩ := told
  obtain ⟨a, xs, rfl, hq, q⟩ := q1
  cases r1 with
  | cons r none =>
    cases none
    cases r
    obtain ⟨its, rv, p', hz⟩ := I1.tuple hq
    refine call_enum_tup p' fun h' isE isI hk => wpAny_pyIter_enum isE ?_
    have I2 : Inv X pins σ H1 { s1 with heap := h' } := I1.kept (t' := s1.toks) hk
    refine ⟨s1.heap.objs.size + 1, [s1.heap.objs.size + 1, s1.heap.objs.size], _, _, H1, rfl, I2, turn_enum_tup a (s1.heap.objs.size + 1) s1.heap.objs.size, ⟨⟨.none, isE⟩, isI, Nat.succ_ne_self _⟩, fun b hb => ?_, q⟩
    have up : s1.heap.objs.size ≤ b := by
      rcases (show b = s1.heap.objs.size + 1 ∨ b = s1.heap.objs.size by simpa using hb) with rfl | rfl
      · exact Nat.le_succ _
      · exact Nat.le_refl _
    exact I1.fpOk up (I1.hok.fresh up)
/-- a list or a tuple -/
abbrev iEnumA (K : PySem.W.Frag) (ta : TA) : TI := fun σ H R => iEnum K ta σ H R ∨ iEnumT K ta σ H R
theorem pi_enumA {X : Cx} {e : Expr} {ta : TA} {p pos tpos : Pos} {elts : List Expr} {kk : Nat} (glob : Gl X "enumerate") (free : X.mg "enumerate" = none) (arg : PA X [e] ta) (hs : starEach [e] X.env = [(false, eval e X.env)] := by rfl) :
    PI X (.Tuple elts kk tpos) (.Call (.Name "enumerate" p) [e] [] pos) (iEnumA X.K ta) := PI.or (pi_enum glob free arg hs) (pi_enumT glob free arg hs)
inductive JE (K : PySem.W.Frag) (H : Hp) (a : Addr) (xs : List V) : L2.It → Prop
  | l (h : SqL K H a xs) : JE K H a xs (Ite K a)
  | t (h : SqT K H a xs) : JE K H a xs (ItEt K a)
theorem for_JE {K : PySem.W.Frag} {a : Addr} {xs : List V} {σ : L2.St} {H : Hp} {J : L2.It} {g : TG} {t : TS} {D : Ends} (hs : JE K H a xs J) (Pv : Nat → L2.St → Hp → Prop) (h0 : Pv 0 σ H) (keep : ∀ i σ' H', Pv i σ' H' → Same H H')
    (turn : ∀ i x σ' H' T, xs[i]? = some x → Pv i σ' H' → H' T = none → g (.ref T) σ' (upd H' T (.tup [.int (i : Nat), x])) fun σ2 H2 => t { D with nx := Pv (i + 1), ct := Pv (i + 1), bk := D.nx } σ2 H2) (done : ∀ σ' H', Pv xs.length σ' H' → D.nx σ' H') :
    ∃ W : Nat → Nat → L2.St → Hp → Prop, (∃ m, W 0 m σ H) ∧ ∀ i m σ H, W i m σ H →
      (J.stop i H ∧ D.nx σ H) ∨ (J.go i H ∧ ∃ N : L2.St → Hp → Prop, (∀ σ' H', N σ' H' → ∃ m', m' < m ∧ W (i + 1) m' σ' H') ∧ ∀ x H', J.yld i H x H' → g x σ H' fun σ2 H2 => t { D with nx := N, ct := N, bk := D.nx } σ2 H2) := by
  refine ⟨fun i m σ' H' => m = xs.length - i ∧ i ≤ xs.length ∧ Pv i σ' H', ⟨xs.length, by simp, Nat.zero_le _, h0⟩, ?_⟩
  rintro i m σ' H' ⟨rfl, le, p⟩
  have same := keep i σ' H' p
  cases hs with
  | l hs =>
    have q : SqL K H' a xs := same.seq hs
    by_cases lt : i < xs.length
    · refine .inr ⟨⟨xs, xs[i], q, by simp [lt]⟩, Pv (i + 1), fun σ2 H2 p2 => ⟨xs.length - (i + 1), by omega, rfl, lt, p2⟩, fun x H2 y => ?_⟩
      obtain ⟨T, x', rfl, hT, rfl, f⟩ := y
      exact turn i x' σ' H' T (f xs q) p hT
    · have e : i = xs.length := by omega
      subst e
      exact .inl ⟨⟨xs, q, Nat.le_refl _⟩, done σ' H' p⟩
  | t hs =>
    have q : SqT K H' a xs := same_tup same hs
    by_cases lt : i < xs.length
    · refine .inr ⟨⟨xs, xs[i], q, by simp [lt]⟩, Pv (i + 1), fun σ2 H2 p2 => ⟨xs.length - (i + 1), by omega, rfl, lt, p2⟩, fun x H2 y => ?_⟩
      obtain ⟨T, x', rfl, hT, rfl, f⟩ := y
      exact turn i x' σ' H' T (f xs q) p hT
    · have e : i = xs.length := by omega
      subst e
      exact .inl ⟨⟨xs, q, rfl⟩, done σ' H' p⟩
theorem enum_run {K : PySem.W.Frag} {a : Addr} {xs : List V} {σ : L2.St} {H : Hp} {i0 : Nat} {R : L2.It → Hp → Prop} (e : σ[i0]? = some (some (.ref a))) (hs : SqA K H a xs) (f : ∀ J, JE K H a xs J → R J H) : iEnumA K (tCons (tVar i0) tNil) σ H R := by
  rcases hs with hs | hs
  · exact .inl ⟨_, e, a, xs, rfl, hs, f _ (.l hs)⟩
  · exact .inr ⟨_, e, a, xs, rfl, hs, f _ (.t hs)⟩
/-- what is never come to -/
def tDead : TS := fun _ _ _ => False
theorem ps_dead {X : Cx} {st : Stmt} : PS X st tDead := ⟨fun _ _ _ _ _ _ h => h.elim⟩
end Lw


set_option Elab.async false
set_option linter.all false
set_option maxRecDepth 100000
set_option maxHeartbeats 4000000
/-! Promises of defs that write things out (repr): nothing else is being written out around them. -/
namespace Lw
open PySem PySem.Spec PyProof.Rows L2
/-- as FnOk, where nothing is being written out around the call -/
structure FnG (P : Program) (w : World) (K : PySem.W.Frag) (mg : PySem.Str → Option Value) (base : Heap) (C : CXT) (k : Nat) (f : Addr) (fd : FuncData) (ps : List PySem.Str) (sp : Sp) : Prop where
  lenG : ∀ vs H Q E, sp vs H Q E → vs.length = ps.length
  runG : ∀ (A : Around) (out : List Env) (s : Shared) (H : Hp) (args : Args) (us : List Value) (vs : List V) (Q : VK) (E : XK), Room k A → A.guards = some [] → Env0 P w K mg base A out s H → BindsTo s fd args (ps.zip us) → Vals vs us → sp vs H Q E →
    codeAny (model P w) A (.call (.ref f) args) (CR C out P w H s Q E) s
section
variable {P : Program} {w : World} {K : PySem.W.Frag} {mg : PySem.Str → Option Value} {base : Heap}
theorem FnG.mono {C : CXT} {j k : Nat} {f : Addr} {fd : FuncData} {ps : List PySem.Str} {sp : Sp} (F : FnG P w K mg base C j f fd ps sp) (h : j ≤ k) : FnG P w K mg base C k f fd ps sp :=
  ⟨F.lenG, fun A out s H args us vs Q E room => F.runG A out s H args us vs Q E (room.mono h)⟩
/-- a def that may be called anywhere -/
theorem FnG.of {C : CXT} {k : Nat} {f : Addr} {fd : FuncData} {ps : List PySem.Str} {sp : Sp} (F : FnOk P w K mg base C k f fd ps sp) : FnG P w K mg base C k f fd ps sp :=
  ⟨F.len, fun A out s H args us vs Q E room _ => F.run A out s H args us vs Q E room⟩
/-- the rule for a def, by its body -/
theorem fun_okG {C : CXT} {x qual : PySem.Str} {st : Stmt} {f : Addr} {fd : FuncData} {N ps : List PySem.Str} {k : Nat} {sp : Sp} (F : Fun K x qual st f fd) (S : FnScope N ps (defScope st)) (len : ∀ vs H Q E, sp vs H Q E → vs.length = ps.length)
    (body : ∀ (cdv : Value) (A : Around) (out : List Env) (s : Shared) (H : Hp) (vs : List V) (Q : VK) (E : XK), Room k (A.deeper (envOfC qual (defScope st) s.heap.objs.size f cdv)) → (A.deeper (envOfC qual (defScope st) s.heap.objs.size f cdv)).guards = some [] → sp vs H Q E →
      ∃ t, PSs (cxOf C P w K mg base N qual (defScope st) f cdv A out s H E) (defBody st) t ∧ t { nx := fun _ H' => Q .non H', rt := Q } (start N vs) H) : FnG P w K mg base C (k + 1) f fd ps sp := by
  obtain ⟨oc, od, kV, doc, pm, an, cdv, ct, osl, rfl, look, hcd⟩ := F.ex
  refine ⟨len, fun A out s H args us vs Q E room hg start0 bind rel want => ?_⟩
  have fewer : vs.length = ps.length := len vs H Q E want
  have inS : K.In s.heap := start0.mod.kin.keeps fun b o e => (start0.bs b o e).1
  have free : s.heap.NoLimit := start0.mod.nolimit.keeps fun b o e => (start0.bs b o e).1
  have kinds : ∀ y ∈ ps.zip us, (defScope st).names.lookup y.1 = some .local ∨ ((defScope st).names.lookup y.1 = some .cell ∧ ((cellsFrom (s.heap.objs.size + 1) (defScope st).names []).lookup y.1).isSome = true) := by
    rintro ⟨name, value⟩ hy
    cases S.par name (List.of_mem_zip hy).1 with
    | inl h => exact .inl h
    | inr h => exact .inr ⟨h, PySem.W.cellsFrom_some _ _ _ (.inl h)⟩
  refine codeAny_call_function room.depth (inS _ _ look) rfl S.co S.gen rfl (PySem.W.codeRec_of inS hcd) (bind _ _ _ _ ?_)
  refine wpAny_newFunctionEnv_cells S.kind kinds fun env isEnv s1 x => ?_
  subst isEnv
  refine ⟨free.keeps x.toInCall.keep, codeAny_func ?_⟩
  have deep : (A.deeper (envOfC qual (defScope st) s.heap.objs.size f cdv)).guards = some [] := hg
  obtain ⟨t, term, read⟩ := body cdv A out s H vs Q E (room.deeper _) deep want
  have I := inv_start (CX := C) (E := E) S room.hd start0 fewer rel x
  refine wpAny_mono (term.run [] s1 (start N vs) H _ I read) (fun flow s2 told => ?_) fun _ _ z => z
  cases flow with
  | ret u =>
    obtain ⟨v, σ2, H2, J, rv, q⟩ := told
    exact ⟨v, H2, J.os, J.bare, J.base, J.hok, rv, q⟩
  | next =>
    obtain ⟨σ2, H2, J, q⟩ := told
    exact ⟨V.non, H2, J.os, J.bare, J.base, J.hok, rfl, q⟩
  | brk => exact told.elim fun _ z => z.elim fun _ z => z.2.elim
  | cont => exact told.elim fun _ z => z.elim fun _ z => z.2.elim
end
/-- its call -/
theorem pe_callG {X : Cx} {C : CXT} {k : Nat} {f : Addr} {fd : FuncData} {ps : List PySem.Str} {sp : Sp} {E : XK} {x : PySem.Str} {p pos : Pos} {e : Expr} {es : List Expr} {t : TA} (F : FnG X.prog X.w X.K X.mg X.base C k f fd ps sp) (room : Room k X.A) (hg : X.A.guards = some [])
    (glob : Gl X x) (hm : X.mg x = some (.ref f)) (kept : PySem.W.keepIn X.K (.ref f) = true) (bind : Binds X.K fd ps []) (out : Passes C X E) (args : PA X (e :: es) t)
    (hdb : (x == ("__debug__" : PySem.Str)) = false := by decide) (he : starEach (e :: es) X.env = (false, eval e X.env) :: starEach es X.env := by rfl) (hpl : (backTo pos (starEach es X.env)).any (·.1) = false := by rfl) :
    PE X (.Call (.Name x p) (e :: es) [] pos) (tCall sp [] E t) := by
  refine ⟨fun pins s σ H Q I h => wpAny_Call_Name_kw (ld_glob I glob hm ?_ hdb)⟩
  refine PySem.W.callWith_K (h₀ := X.base) I.ok.mod.kin kept (thn (args.run pos pins s σ H _ I h) fun us s1 ⟨vs, H1, I1, rel, q⟩ => ⟨I1.kIn, ?_⟩) he hpl
  have q : sp (vs ++ []) H1 Q E := q
  rw [List.append_nil] at q
  have few : (us ++ []).length = ps.length := by rw [List.append_nil, ← rel.length]; exact F.lenG _ _ _ _ q
  have b := bind s1 us I1.kIn few
  rw [List.append_nil] at b
  refine wpAny_call (codeAny_mono (F.runG X.A X.stack s1 H1 ⟨us, []⟩ us vs Q E room hg I1.env0 b rel q) fun r s' z => ?_)
  match r, z with
  | .error u, z => exact out pins σ H1 s1 u s' I1 z
  | .ok (.ret u), z => exact I1.after z
  | .ok .next, z => exact z.elim
  | .ok .brk, z => exact z.elim
  | .ok .cont, z => exact z.elim
/-- repr of data -/
def rRepr (K : PySem.W.Frag) : List V → Hp → VK → Prop := fun xs H Q => ∃ (v : V) (d : PyData), xs = [v] ∧ Dp K H v d ∧ d.showable = true ∧ d.hasDict = false ∧ d.depth ≤ 40 ∧ d.shown.length ≤ sizeLine ∧ Q (.str d.shown) H
theorem call_repr {X : Cx} (hg : X.A.guards = some []) (hu : X.A.units + 64 < cLine) : CallR X (.builtin "repr") (rRepr X.K) := by
  intro pins s σ H xs us Q I r h
  obtain ⟨v, d, rfl, hd, h1, h2, h3, h4, q⟩ := h
  obtain ⟨u, rfl, rx⟩ := vals1 r
  obtain ⟨as, rd⟩ := Dp.reads I d v u hd rx
  cases hd with
  | lst _ _ =>
    cases rx
    exact PySem.repr_of_reads' rd h1 (PySem.PyData.noDict_hsm h2) hg (by omega) (fun b o e => e) (fun h' u tk hk => ⟨.str _, H, I.kept (h' := h') (t' := tk) hk, ⟨_, rfl⟩, q⟩) h4
  | tup _ _ =>
    cases rx
    exact PySem.repr_of_reads' rd h1 (PySem.PyData.noDict_hsm h2) hg (by omega) (fun b o e => e) (fun h' u tk hk => ⟨.str _, H, I.kept (h' := h') (t' := tk) hk, ⟨_, rfl⟩, q⟩) h4
  | non => cases rx; exact PySem.P.repr_of_none ⟨.str _, H, I.tok _, ⟨_, rfl⟩, by simpa only [PyData.shown] using q⟩
  | bl b => cases rx; exact PySem.P.repr_of_bool ⟨.str _, H, I.tok _, ⟨_, rfl⟩, by simpa only [PyData.shown] using q⟩
  | int i => obtain ⟨t, rfl⟩ := rx; exact PySem.P.repr_of_int (by simpa [PyData.showable] using h1) ⟨.str _, H, I.tok _, ⟨_, rfl⟩, by simpa only [PyData.shown] using q⟩
  | str z => obtain ⟨t, rfl⟩ := rx; exact PySem.P.repr_of_str ⟨.str _, H, I.tok _, ⟨_, rfl⟩, by simpa only [PyData.shown] using q⟩ (by simpa only [PyData.shown] using h4)

/-! ### the end: a law whose def writes things out -/
/-- the abstract heap at the law's call: the script alone, or nothing -/
structure Start (P : Program) (w : World) (K : PySem.W.Frag) (h : Heap) (a : Addr) (xs : List V) (H : Hp) : Prop where
  only : Only H
  list : SqL K H a xs
  ok : HOk P w H h
  at_ : ∀ b, H b ≠ none → b = a
  out : H a ≠ none → K.lookup a = none
theorem start_ex {P : Program} {w : World} {K : PySem.W.Frag} {h : Heap} {a : Addr} {us : List Value} {xs : List V} (inH : K.In h) (look : h.get? a = some { cls := .type "list", data := .seq us.toArray }) (rel : Vals xs us) (few : xs.length ≤ sizeLine) :
    ∃ H, Start P w K h a xs H := by
  cases told : K.lookup a with
  | none =>
    let o : Obj := { cls := .type "list", data := .seq us.toArray }
    let H : Hp := fun b => if b = a then some (.frz o (.lst xs)) else none
    have atA : H a = some (.frz o (.lst xs)) := if_pos rfl
    have away : ∀ b, b ≠ a → H b = none := fun b ne => if_neg ne
    have one : ∀ b u, H b = some u → b = a ∧ u = .frz o (.lst xs) := fun b u e => by
      by_cases z : b = a
      · subst z
        rw [atA] at e
        exact ⟨rfl, (Option.some.inj e).symm⟩
      · rw [away b z] at e
        cases e
    refine ⟨H, ⟨fun b => ?_, .inl (.inr ⟨o, atA⟩), fun b u e => ?_, fun b ne => ?_, fun _ => told⟩⟩
    · cases e : H b with
      | none => exact .inl rfl
      | some u => exact .inr ⟨o, xs, by rw [(one b u e).2]⟩
    · obtain ⟨rfl, rfl⟩ := one b u e
      exact ⟨look, few, us, _, rel, look⟩
    · cases e : H b with
      | none => exact absurd e ne
      | some u => exact (one b u e).1
  | some o =>
    have e := inH a o told
    rw [look] at e
    cases e
    refine ⟨fun _ => none, ⟨fun _ => .inl rfl, .inr ⟨_, us.toArray, _, told, rfl, rfl, rfl, by rw [List.size_toArray, ← rel.length]; exact few, by simpa using rel⟩, (fun _ _ e => nomatch e), fun _ ne => absurd rfl ne, fun ne => absurd rfl ne⟩⟩
/-- the heap less what is tracked is the base of a call -/
theorem Start.env {P : Program} {w : World} {K : PySem.W.Frag} {mg mb : PySem.Str → Option Value} {s : Shared} {a : Addr} {us : List Value} {xs : List V} {H : Hp} (S : Start P w K s.heap a xs H) (inH : K.In s.heap) (names : s.heap.Ns mainGlobals mg) (bs : s.heap.Ns builtinsNs mb)
    (boot : ∀ x : PySem.Str, x ≠ "__name__" → mb x = bootBuiltins x) (lim : s.heap.NoLimit) (gens : s.gens = #[]) (look : s.heap.get? a = some { cls := .type "list", data := .seq us.toArray }) :
    K.In (hidT s.heap H) ∧ (hidT s.heap H).Ns mainGlobals mg ∧ Env0 P w K mg (hidT s.heap H) callerA [] s H := by
  have stays : ∀ {b : Addr} {o : Obj}, s.heap.get? b = some o → (∀ (es : Array DictEntry) (n : Nat), o.data = .dict es n → True) → H b = none → (hidT s.heap H).get? b = some o := fun e _ z => hidT_get e z
  have dictFree : ∀ {b : Addr} {o : Obj} {es : Array DictEntry} {n : Nat}, s.heap.get? b = some o → o.data = .dict es n → H b = none := by
    intro b o es n e d
    refine Classical.byContradiction fun z => ?_
    rw [S.at_ b z, look] at e
    obtain rfl := (Option.some.inj e).symm
    cases d
  have space : ∀ {L : Addr} {m : PySem.Str → Option Value}, s.heap.Ns L m → (hidT s.heap H).Ns L m := by
    rintro L m ⟨o, es, n, e, d, rest⟩
    exact ⟨o, es, n, hidT_get e (dictFree e d), d, rest⟩
  have inB : K.In (hidT s.heap H) := fun b o e => hidT_get (inH b o e) (Classical.byContradiction fun z => by
    have eb := S.at_ b z
    subst eb
    rw [S.out z] at e
    cases e)
  obtain ⟨mc, l1, l2⟩ := lim
  exact ⟨inB, space names, rfl, ⟨inB, space names, ⟨mb, space bs, boot⟩, ⟨mc, space l1, l2⟩⟩, fun b o e => of_hidT e, Nat.le_of_eq (hidT_size _ _), trivial, (fun b m => nomatch m), S.ok, .of_eq gens⟩
theorem call_lawG {P : Program} {w : World} {K : PySem.W.Frag} {mg mb : PySem.Str → Option Value} {k : Nat} {fa a : Addr} {fd : FuncData} {x : PySem.Str} {sp : Sp} {s : Shared} {us : List Value} {ns : List Int}
    (inH : K.In s.heap) (names : s.heap.Ns mainGlobals mg) (bs : s.heap.Ns builtinsNs mb) (boot : ∀ x : PySem.Str, x ≠ "__name__" → mb x = bootBuiltins x) (lim : s.heap.NoLimit) (gens : s.gens = #[])
    (look : s.heap.get? a = some { cls := .type "list", data := .seq us.toArray }) (whole : IntsAre us ns) (few : ns.length ≤ sizeLine) (room : Room k callerA)
    (F : ∀ base : Heap, K.In base → base.Ns mainGlobals mg → FnG P w K mg base CX0 k fa fd [x] sp) (bind : ∀ (s : Shared) (u : Value), BindsTo s fd ⟨[u], []⟩ [(x, u)])
    (want : ∀ H : Hp, SqL K H a (ns.map V.int) → sp [.ref a] H (fun v _ => v = .bl true) E0) :
    codeAny (model P w) callerA (.call (.ref fa) ⟨[.ref a], []⟩) (fun r s' => r = .ok (.ret (.bool true)) ∧ OldK s.heap s'.heap ∧ s'.os = s.os ∧ AllBare s'.gens) s := by
  obtain ⟨H, S⟩ := start_ex (P := P) (w := w) inH look (vals_ints whole) (by rw [List.length_map]; exact few)
  obtain ⟨inB, nsB, start⟩ := S.env inH names bs boot lim gens look
  refine codeAny_mono ((F _ inB nsB).runG callerA [] s H ⟨[.ref a], []⟩ [.ref a] [.ref a] _ _ room rfl start (bind s (.ref a)) (.cons rfl .nil) (want H S.list)) fun r s' told => ?_
  match r, told with
  | .error _, told => exact told.elim
  | .ok .next, told => exact told.elim
  | .ok .brk, told => exact told.elim
  | .ok .cont, told => exact told.elim
  | .ok (.ret u), told =>
    obtain ⟨v, H2, os, bare, un, ok2, rel, isTrue⟩ := told
    obtain rfl : v = .bl true := isTrue
    obtain rfl : u = Value.bool true := rel
    refine ⟨rfl, .of_keep fun b o e => ?_, os, bare⟩
    rcases S.only b with z | ⟨ob, xs, z⟩
    · exact un.keep b o e z (fun m => nomatch m) (by simp)
    · have e1 := (S.ok b _ z).1
      have e2 := (ok2 b _ (un.frzs b ob _ z)).1
      rw [e] at e1
      obtain rfl := Option.some.inj e1
      exact e2
theorem walk_ofG {l : PySem.W.OpenLaw} {n k : Nat} {q : Program} {loose : List PySem.Str} {XP : (PySem.Str → Option Value) → Heap → Prop} {YP : World → Heap → Prop} {d : DefRec} {x : PySem.Str} (most : l.most = some n) (few : n ≤ sizeLine) (noDef : d.params.defaults = []) (room : Room k callerA)
    (F : ∀ (w : World) (mg : PySem.Str → Option Value) (fa : Addr) (h : Heap), YP w h → h.Ns mainGlobals mg → mg d.name = some (.ref fa) →
      ∃ (K : PySem.W.Frag) (fd : FuncData) (sp : Sp), K.In h ∧ (∀ (s : Shared) (u : Value), BindsTo s fd ⟨[u], []⟩ [(x, u)]) ∧ (∀ (H : Hp) (a : Addr) (ns : List Int), ns.length ≤ n → SqL K H a (ns.map V.int) → sp [.ref a] H (fun v _ => v = .bl true) E0) ∧
        ∀ base : Heap, K.In base → base.Ns mainGlobals mg → FnG l.prog w K mg base CX0 k fa fd [x] sp) : PySem.W.WalkO q loose XP YP l.row.toRowW d [] (fun f vs => PySem.call f vs) := by
  refine Att.attach_call most noDef fun w s0 s1 mg mb fa o pm cd doc a us ns G Y ho hd hcd name look whole cnt gens => ?_
  obtain ⟨K, fd, sp, inH, bind, want, ok⟩ := F w mg fa _ Y G.T.g name
  exact call_lawG inH G.T.g G.T.b G.T.builtins G.T.nolimit gens look whole (Nat.le_trans cnt few) room ok bind fun H S => want H a ns cnt S
end Lw

set_option Elab.async false
set_option linter.all false
set_option maxRecDepth 100000
set_option maxHeartbeats 1000000
/-! Data: what a comprehension over it hands, how it is shown; own appends beside a deal. -/
namespace Lw
open PySem PySem.Spec PyProof.Rows L2
theorem fineTup {ds : List PyData} (h : fine (.tuple ds) = true) : ds.length ≤ 1000 ∧ fineAll ds = true := by
  rw [fine] at h
  obtain ⟨h1, h2⟩ := Bool.and_eq_true_iff.mp h
  exact ⟨of_decide_eq_true h1, h2⟩
theorem fineList {ds : List PyData} (h : fine (.list ds) = true) : ds.length ≤ 1000 ∧ fineAll ds = true := by
  rw [fine] at h
  obtain ⟨h1, h2⟩ := Bool.and_eq_true_iff.mp h
  exact ⟨of_decide_eq_true h1, h2⟩
/-- a comprehension that asks each thing of a list of data -/
theorem turnsData {K : PySem.W.Frag} {H1 : Hp} {i : Nat} {σ : L2.St} {te : TE} (f : PyData → V) {xs : List V} {ds : List PyData} (ha : DpAll K H1 xs ds) (few : xs.length ≤ 1000)
    (el : ∀ x d H (Q : VK), x ∈ xs → d ∈ ds → Dp K H x d → Same H1 H → (∀ H', Same H H' → Q (f d) H') → te (σ.set i (some x)) H Q) : Turns H1 i σ xs (ds.map fun d => some (f d)) tYes te := by
  refine ⟨by rw [List.length_map, dpAll_len ha], Nat.le_trans few (by decide), fun j x y H Q hx hy s1 q => ?_, fun j x H hx hy _ => ?_⟩
  · obtain ⟨d, ed, hd⟩ := dpAll_at ha hx
    rw [List.getElem?_map, ed] at hy
    obtain rfl : f d = y := by simpa using hy
    exact ⟨rfl, Same.refl H, el x d H Q (List.mem_of_getElem? hx) (List.mem_of_getElem? ed) (dp_same s1 _ _ hd) s1 q⟩
  · rw [List.getElem?_map] at hy
    cases e : ds[j]? with
    | none => rw [e] at hy; cases hy
    | some d => rw [e] at hy; cases hy
theorem outData (f : PyData → V) (ds : List PyData) : outOf (ds.map fun d => some (f d)) = ds.map f := by
  unfold outOf
  induction ds with
  | nil => rfl
  | cons d r ih =>
    rw [List.map_cons, List.map_cons, List.filterMap_cons]
    exact congrArg _ ih
theorem seqOr {K : PySem.W.Frag} {H : Hp} {v : V} {d : PyData} (hd : Dp K H v d) (hz : fine d = true) :
    (∃ (p : Addr) (xs : List V) (ds : List PyData), v = .ref p ∧ SqA K H p xs ∧ DpAll K H xs ds ∧ ds.length ≤ 1000 ∧ fineAll ds = true ∧ isSeq d = true ∧ (d = .list ds ∨ d = .tuple ds)) ∨ isSeq d = false := by
  cases d with
  | list ds =>
    cases hd with
    | lst hs ha => exact .inl ⟨_, _, ds, rfl, .inl hs, ha, (fineList hz).1, (fineList hz).2, rfl, .inl rfl⟩
  | tuple ds =>
    cases hd with
    | tup hs ha => exact .inl ⟨_, _, ds, rfl, .inr hs, ha, (fineTup hz).1, (fineTup hz).2, rfl, .inr rfl⟩
  | _ => exact .inr rfl
theorem fineAll_of {ds : List PyData} (h : ∀ d ∈ ds, fine d = true) : fineAll ds = true := by
  induction ds with
  | nil => rfl
  | cons d r ih =>
    rw [fineAll, h d List.mem_cons_self, ih fun e he => h e (List.mem_cons_of_mem _ he)]
    rfl
/-- a comprehension's turns over texts -/
theorem dpAll_in {K : PySem.W.Frag} {H : Hp} {x : V} {ds : List PyData} {xs : List V} (h : DpAll K H xs ds) {d : PyData} (m : d ∈ ds) : ∃ v, v ∈ xs ∧ Dp K H v d := by
  induction ds generalizing xs with
  | nil => cases m
  | cons e r ih =>
    cases h with
    | cons h1 h2 =>
      rcases List.mem_cons.mp m with rfl | m
      · exact ⟨_, List.mem_cons_self, h1⟩
      · obtain ⟨v, hv, q⟩ := ih h2 m
        exact ⟨v, List.mem_cons_of_mem _ hv, q⟩
theorem HP.step {K : PySem.W.Frag} {G H1 : Hp} {d l L : Addr} {R : Nat → PyData → Prop} {i : Nat} {B N : Hp} {xs : List V} {pds : List PyData} (sB : Same G B) (nB : B L = none) (DB : Deal (upd B L (.lst xs)) H1 d l)
    (rest : Same N B ∧ (∀ b o, N b = some o → G b = none) ∧ DpAll K N xs pds ∧ xs.length = i ∧ ∀ j pd, pds[j]? = some pd → R j pd) (few : i < 100000) {G' H2 N1 : Hp} {y : V} {pd : PyData} (nw : News (upd B L (.lst xs)) H2 G' N1 d l) (hd : Dp K N1 y pd) (hr : R i pd) :
    ∃ acc, H2 L = some (.lst acc) ∧ acc.length < sizeLine ∧ HP K G d l L R (i + 1) (upd H2 L (.lst (acc ++ [y]))) := by
  obtain ⟨sN, dN, hx, len, hR⟩ := rest
  have gL : G' L = some (.lst xs) := nw.kp _ _ upd_same
  have gU : upd G' L (.lst xs) = G' := by
    funext b
    by_cases q : b = L
    · rw [q, upd_same, gL]
    · rw [upd_ne q]
  have bB : ∀ b o, B b = some o → b ≠ L := fun b o e z => by rw [z, nB] at e; cases e
  have toB : Same B (hide L G') := fun b o e => by
    have ne := bB b o e
    rw [hide_ne ne]
    exact nw.kp _ _ (by rw [upd_ne ne]; exact e)
  have n1 : ∀ b o, N1 b = some o → b ≠ L ∧ B b = none := fun b o e => by
    have z := nw.dis b o e
    have ne : b ≠ L := fun q => by rw [q, upd_same] at z; cases z
    rw [upd_ne ne] at z
    exact ⟨ne, z⟩
  have nn : ∀ b o, N1 b = some o → N b = none := fun b o e => sN.free (n1 b o e).2
  refine ⟨xs, nw.dl.same _ _ gL, Nat.lt_of_le_of_lt (show xs.length ≤ 100000 by omega) (by decide), hide L G', fun b => match N b with | some o => some o | none => N1 b, xs ++ [y], pds ++ [pd], sB.trans toB, hide_same, ?_, fun b o e => ?_, fun b o e => ?_, ?_, by rw [List.length_append, len]; rfl, ?_⟩
  · rw [hide_upd]
    exact Deal.over (G := G') (u := .lst xs) (by rw [gU]; exact nw.dl)
  · cases q : N b with
    | some u =>
      have e' : some u = some o := by simpa [q] using e
      cases e'
      exact toB _ _ (sN _ _ q)
    | none =>
      have e' : N1 b = some o := by simpa [q] using e
      rw [hide_ne (n1 b o e').1]
      exact nw.sub _ _ e'
  · cases q : N b with
    | some u => exact dN _ _ q
    | none =>
      have e' : N1 b = some o := by simpa [q] using e
      exact sB.free (n1 b o e').2
  · exact dpAll_app (dpAll_same (fun b o e => by simp [e]) _ _ hx) (.cons (dp_same (fun b o e => by simp [nn b o e, e]) _ _ hd) .nil)
  · intro j q e
    have lp : pds.length = i := by rw [← dpAll_len hx, len]
    by_cases h : j < pds.length
    · rw [List.getElem?_append_left h] at e
      exact hR j q e
    · rw [List.getElem?_append_right (by omega)] at e
      by_cases z : j - pds.length = 0
      · rw [z, List.getElem?_cons_zero] at e
        obtain rfl := Option.some.inj e
        obtain rfl : j = i := by omega
        exact hr
      · rw [List.getElem?_eq_none (by simp; omega)] at e
        cases e
/-- beside a deal: a list at L to which new data are appended -/
theorem HP.open_ {K : PySem.W.Frag} {G H1 : Hp} {d l L : Addr} {R : Nat → PyData → Prop} {i : Nat} (h : HP K G d l L R i H1) (few : i < 100000) :
    ∃ Gx, Same G Gx ∧ Deal Gx H1 d l ∧ (∃ acc, Gx L = some (.lst acc)) ∧ ∀ (G' H' N : Hp) (y : V) (pd : PyData), News Gx H' G' N d l → Dp K N y pd → R i pd → ∃ acc, H' L = some (.lst acc) ∧ acc.length < sizeLine ∧ HP K G d l L R (i + 1) (upd H' L (.lst (acc ++ [y]))) := by
  obtain ⟨B, N0, xs, pds, sB, nB, DB, rest⟩ := h
  refine ⟨upd B L (.lst xs), fun b o e => by rw [upd_ne (ne_of_none (sB _ _ e) nB)]; exact sB _ _ e, DB, ⟨xs, upd_same⟩, fun G' H2 N1 y pd nw hd hr => ?_⟩
  exact HP.step sB nB DB rest few nw hd hr
theorem outStrs (ys : List PySem.Str) : (ys.map V.str).length = ys.length := List.length_map ..

/-! ### how data are shown, compared -/
mutual
theorem eqvSelf : ∀ d : PyData, fine d = true → PyData.eqv d d = true
  | .none, _ => by simp [PyData.eqv]
  | .bool b, _ => by simp [PyData.eqv]
  | .int i, _ => by simp [PyData.eqv]
  | .str x, _ => by simp [PyData.eqv]
  | .list ds, h => by simp [PyData.eqv, eqvSelfAll ds (fineList h).2]
  | .tuple ds, h => by simp [PyData.eqv, eqvSelfAll ds (fineTup h).2]
  | .dict _, h => by simp [fine] at h
theorem eqvSelfAll : ∀ ds : List PyData, fineAll ds = true → PyData.eqvAll ds ds = true
  | [], _ => by simp [PyData.eqvAll]
  | d :: ds, h => by
    rw [fineAll] at h
    obtain ⟨h1, h2⟩ := Bool.and_eq_true_iff.mp h
    simp [PyData.eqvAll, eqvSelf d h1, eqvSelfAll ds h2]
end

/-! ### a comprehension that makes one new thing a turn (its list at D) -/
def MadeL (K : PySem.W.Frag) (H1 : Hp) (D : Addr) (ds : List PyData) (H' : Hp) : Prop := Same H1 H' ∧ ∃ (N : Hp) (acc : List V), Same N H' ∧ N D = none ∧ H' D = some (.lst acc) ∧ DpAll K N acc ds
theorem MadeL.zero {K : PySem.W.Frag} {H1 : Hp} {D : Addr} (u : H1 D = none) : MadeL K H1 D [] (upd H1 D (.lst [])) := ⟨same_new u, fun _ => none, [], fun _ _ e => (by cases e), rfl, upd_same, .nil⟩
theorem MadeL.mono {K : PySem.W.Frag} {H1 H' H2 : Hp} {D : Addr} {ds : List PyData} (h : MadeL K H1 D ds H') (s : Same H' H2) : MadeL K H1 D ds H2 := by
  obtain ⟨s1, N, acc, sN, nD, hD, ha⟩ := h
  exact ⟨s1.trans s, N, acc, sN.trans s, nD, s _ _ hD, ha⟩
theorem MadeL.add {K : PySem.W.Frag} {H1 H H4 : Hp} {D t : Addr} {o : HO} {ds : List PyData} {d : PyData} {y : V} (h : MadeL K H1 D ds H) (u : H1 D = none) (few : ds.length < 100000) (ut : H t = none) (s : Same H H4) (e : H4 t = some o) (hd : Dp K (upd (fun _ => none) t o) y d) :
    ∃ acc, H4 D = some (.lst acc) ∧ acc.length < sizeLine ∧ MadeL K H1 D (ds ++ [d]) (upd H4 D (.lst (acc ++ [y]))) := by
  obtain ⟨s1, N, acc, sN, nD, hD, ha⟩ := h
  have ne : t ≠ D := fun z => by rw [z, hD] at ut; cases ut
  have nt : N t = none := sN.free ut
  have sN4 : Same (upd N t o) (upd H4 D (.lst (acc ++ [y]))) := fun b v eb => by
    by_cases q : b = t
    · subst q
      rw [upd_same] at eb
      cases eb
      rw [upd_ne ne]
      exact e
    · rw [upd_ne q] at eb
      have neD : b ≠ D := fun z => by rw [z, nD] at eb; cases eb
      rw [upd_ne neD]
      exact s _ _ (sN _ _ eb)
  refine ⟨acc, s _ _ hD, Nat.lt_of_le_of_lt (show acc.length ≤ 100000 by rw [dpAll_len ha]; omega) (by decide), fun b v eb => ?_, upd N t o, acc ++ [y], sN4, by rw [upd_ne ne.symm]; exact nD, upd_same, ?_⟩
  · rw [upd_ne (ne_of_none eb u)]
    exact s _ _ (s1 _ _ eb)
  · refine dpAll_app (dpAll_same (same_new nt) _ _ ha) (.cons (dp_same (fun b v eb => ?_) _ _ hd) .nil)
    by_cases q : b = t
    · subst q
      rw [upd_same] at eb ⊢
      exact eb
    · rw [upd_ne q] at eb
      cases eb
end Lw

set_option Elab.async false
set_option linter.all false
set_option maxRecDepth 100000
set_option maxHeartbeats 1000000
namespace Lw
open PySem PySem.Spec PyProof.Rows L2
/-! ### str(x), x an instance of a class with a __str__ of its own -/
def rStrOwn (K : PySem.W.Frag) (f : Addr) (sp : Sp) (E : XK) : List V → Hp → VK → Prop := fun xs H Q => ∃ (a C dx : Addr) (fs : List (PySem.Str × V)), xs = [.ref a] ∧ H a = some (.ins C dx fs) ∧ PySem.W.findIn K (.ref C) "__str__" = some (some (.ref f)) ∧
  sp [.ref a] H (fun v H' => ∃ z, v = .str z ∧ Q (.str z) H') E
theorem call_strOwn {X : Cx} {CX : CXT} {f : Addr} {fd : FuncData} {ps : List PySem.Str} {sp : Sp} {E : XK} {n : Nat} (F : FnOk X.prog X.w X.K X.mg X.base CX n f fd ps sp) (hr : Room (n + 2) X.A) (hf : PySem.W.isFn X.K (.ref f) = true) (hb : Binds X.K fd ps []) (hx : Passes CX X E) :
    CallR X (.type "str") (rStrOwn X.K f sp E) := by
  intro pins s σ H xs us Q I r h
  obtain ⟨a, C, dx, fs, rfl, ha, hs, hsp⟩ := h
  obtain ⟨u, rfl, rx⟩ := vals1 r
  obtain rfl : u = Value.ref a := rx
  obtain ⟨mA, J, _⟩ := ins_get I.hok ha
  obtain ⟨od, J, _⟩ := J.look
  have hr2 : Room n X.A.in1.in1 := (show Room (n + 1) X.A.in1 from Room.in1 hr).in1
  have hl := F.len _ _ _ _ hsp
  refine PySem.W.kso_call hr2.units0 I.kIn J hs hf (wpAny_call (codeAny_mono (F.run X.A.in1.in1 X.stack s H ⟨[.ref a], []⟩ [.ref a] [.ref a] _ E hr2 I.env0.in1.in1 (by
      have := hb s [.ref a] I.kIn (by simpa using hl)
      simpa using this) (.cons rfl .nil) hsp) fun r s' hq => ?_))
  cases r with
  | error e => exact hx pins σ H s e s' I hq
  | ok fl =>
    cases fl with
    | ret u =>
      obtain ⟨v, H', I', r', z, ez, q2⟩ := I.after hq
      subst ez
      obtain ⟨t, rfl⟩ := r'
      exact ⟨.str z, H', I', ⟨t, rfl⟩, q2⟩
    | next => exact hq.elim
    | brk => exact hq.elim
    | cont => exact hq.elim
end Lw

set_option Elab.async false
set_option linter.all false
set_option maxRecDepth 100000
set_option maxHeartbeats 1000000
namespace Lw
open PySem PySem.Spec PyProof.Rows L2
/-! ### data of texts alone -/
mutual
def txtD : PyData → Bool
  | .str _ => true
  | .list ds => txtAll ds
  | .tuple ds => txtAll ds
  | _ => false
def txtAll : List PyData → Bool
  | [] => true
  | d :: ds => txtD d && txtAll ds
end
mutual
theorem eqv_txt : ∀ {d e : PyData}, txtD d = true → txtD e = true → PyData.eqv d e = true → d = e
  | .str x, .str y, _, _, h => by
    simp [PyData.eqv] at h
    rw [h]
  | .list ds, .list es, h1, h2, h => by
    simp [txtD] at h1 h2
    simp [PyData.eqv] at h
    rw [eqvAll_txt h1 h2 h]
  | .tuple ds, .tuple es, h1, h2, h => by
    simp [txtD] at h1 h2
    simp [PyData.eqv] at h
    rw [eqvAll_txt h1 h2 h]
  | .str _, .list _, _, _, h => by simp [PyData.eqv] at h
  | .str _, .tuple _, _, _, h => by simp [PyData.eqv] at h
  | .list _, .str _, _, _, h => by simp [PyData.eqv] at h
  | .list _, .tuple _, _, _, h => by simp [PyData.eqv] at h
  | .tuple _, .str _, _, _, h => by simp [PyData.eqv] at h
  | .tuple _, .list _, _, _, h => by simp [PyData.eqv] at h
  | .none, _, h, _, _ => by simp [txtD] at h
  | .bool _, _, h, _, _ => by simp [txtD] at h
  | .int _, _, h, _, _ => by simp [txtD] at h
  | .dict _, _, h, _, _ => by simp [txtD] at h
  | .str _, .none, _, h, _ => by simp [txtD] at h
  | .str _, .bool _, _, h, _ => by simp [txtD] at h
  | .str _, .int _, _, h, _ => by simp [txtD] at h
  | .str _, .dict _, _, h, _ => by simp [txtD] at h
  | .list _, .none, _, h, _ => by simp [txtD] at h
  | .list _, .bool _, _, h, _ => by simp [txtD] at h
  | .list _, .int _, _, h, _ => by simp [txtD] at h
  | .list _, .dict _, _, h, _ => by simp [txtD] at h
  | .tuple _, .none, _, h, _ => by simp [txtD] at h
  | .tuple _, .bool _, _, h, _ => by simp [txtD] at h
  | .tuple _, .int _, _, h, _ => by simp [txtD] at h
  | .tuple _, .dict _, _, h, _ => by simp [txtD] at h
theorem eqvAll_txt : ∀ {ds es : List PyData}, txtAll ds = true → txtAll es = true → PyData.eqvAll ds es = true → ds = es
  | [], [], _, _, _ => rfl
  | d :: ds, e :: es, h1, h2, h => by
    simp [txtAll] at h1 h2
    simp [PyData.eqvAll] at h
    rw [eqv_txt h1.1 h2.1 h.1, eqvAll_txt h1.2 h2.2 h.2]
  | [], _ :: _, _, _, h => by simp [PyData.eqvAll] at h
  | _ :: _, [], _, _, h => by simp [PyData.eqvAll] at h
end
theorem txtAll_strs : ∀ zs : List PySem.Str, txtAll (zs.map PyData.str) = true
  | [] => rfl
  | z :: r => by simp [txtAll, txtD, txtAll_strs r]
theorem txtAll_ways : ∀ ws : List (PySem.Str × PySem.Str), txtAll (ws.map wayD) = true
  | [] => rfl
  | z :: r => by
    rw [List.map_cons, txtAll, txtAll_ways r]
    rfl
/-! small data of texts -/
mutual
def showOk : PyData → Bool
  | .str x => PyData.strOk x
  | .list ds => showAll ds
  | .tuple ds => showAll ds
  | _ => false
def showAll : List PyData → Bool
  | [] => true
  | d :: ds => showOk d && showAll ds
end
mutual
theorem showOk_is : ∀ {d : PyData}, showOk d = true → d.canLay0 = true ∧ d.showable = true ∧ d.intsShort 13 = true
  | .str x, h => by
    simp [showOk] at h
    exact ⟨by simp [PyData.canLay0, h], by simp [PyData.showable], by simp [PyData.intsShort]⟩
  | .list ds, h => by
    simp [showOk] at h
    obtain ⟨h1, h2, h3⟩ := showAll_is h
    exact ⟨by simp [PyData.canLay0, h1], by simp [PyData.showable, h2], by simp [PyData.intsShort, h3]⟩
  | .tuple ds, h => by
    simp [showOk] at h
    obtain ⟨h1, h2, h3⟩ := showAll_is h
    exact ⟨by simp [PyData.canLay0, h1], by simp [PyData.showable, h2], by simp [PyData.intsShort, h3]⟩
  | .none, h => by simp [showOk] at h
  | .bool _, h => by simp [showOk] at h
  | .int _, h => by simp [showOk] at h
  | .dict _, h => by simp [showOk] at h
theorem showAll_is : ∀ {ds : List PyData}, showAll ds = true → PyData.canLayAll0 ds = true ∧ PyData.showableAll ds = true ∧ PyData.intsShortAll 13 ds = true
  | [], _ => by simp [PyData.canLayAll0, PyData.showableAll, PyData.intsShortAll]
  | d :: ds, h => by
    simp [showAll] at h
    obtain ⟨h1, h2, h3⟩ := showOk_is h.1
    obtain ⟨h4, h5, h6⟩ := showAll_is h.2
    simp [PyData.canLayAll0, PyData.showableAll, PyData.intsShortAll, h1, h2, h3, h4, h5, h6]
end
theorem show_facts {d : PyData} (h : showOk d = true) (dp : d.depth ≤ 40) (wt : d.weight ≤ 1000) : SeqAt.shaped d = true ∧ d.showable = true ∧ d.hasDict = false ∧ d.shown.length ≤ sizeLine := by
  obtain ⟨h1, h2, h3⟩ := showOk_is h
  refine ⟨by simp [SeqAt.shaped, h1]; omega, h2, PyData.hasDict_of_canLay _ h1, ?_⟩
  exact PyData.shown_fits (B := 13) (by decide) (by decide) (PyData.leavesShort_of_canLay0 13 _ h1 h3) (by omega)
theorem strs_showAll {zs : List PySem.Str} (h : ∀ z ∈ zs, PyData.strOk z = true) : showAll (zs.map PyData.str) = true := by
  induction zs with
  | nil => rfl
  | cons z r ih =>
    rw [List.map_cons, showAll, ih fun y hy => h y (List.mem_cons_of_mem _ hy)]
    simp [showOk, h z List.mem_cons_self]
theorem strs_weight' {zs : List PySem.Str} (h : ∀ z ∈ zs, z.length ≤ 4) : PyData.weightAll (zs.map PyData.str) ≤ 5 * zs.length := by
  induction zs with
  | nil => simp [PyData.weightAll]
  | cons z r ih =>
    have h1 := ih fun y hy => h y (List.mem_cons_of_mem _ hy)
    have h2 : z.cps.size ≤ 4 := h z List.mem_cons_self
    simp [PyData.weightAll, PyData.weight]
    omega
end Lw
namespace K2
open PySem L2 Lw TL
theorem name_facts {z : Str} (h : nameOk z = true) : 1 ≤ z.length ∧ z.length ≤ 4 ∧ z.cps.toList.all isAbc = true := by
  unfold nameOk at h
  simp only [Bool.and_eq_true, decide_eq_true_eq] at h
  obtain ⟨⟨h1, h2⟩, h3⟩ := h
  exact ⟨by omega, by omega, h3⟩
theorem isAbc_lt {c : Nat} (h : isAbc c = true) : 97 ≤ c ∧ c < 123 := by
  unfold isAbc at h
  have h := of_decide_eq_true h
  have all : ∀ c ∈ abc.cps.toList, 97 ≤ c ∧ c < 123 := by decide +kernel
  exact all c h
theorem name_strOk {z : Str} (h : nameOk z = true) : PyData.strOk z = true := by
  obtain ⟨_, _, h3⟩ := name_facts h
  unfold PyData.strOk
  rw [← Array.all_toList, List.all_eq_true]
  intro c hc
  have := (isAbc_lt (List.all_eq_true.mp h3 c hc)).2
  simp only [decide_eq_true_eq]
  omega
theorem name_fine {z : Str} (h : nameOk z = true) : fine (.str z) = true := by
  rw [fine, name_strOk h, Bool.and_true, decide_eq_true_eq]
  have := (name_facts h).2.1
  omega
theorem name_no {z : Str} (h : nameOk z = true) {c : Nat} (hc : c < 97) : c ∉ tl z := fun m => by
  have := (isAbc_lt (List.all_eq_true.mp (name_facts h).2.2 c m)).1
  omega
/-! ### good rows -/
def RowGood : Row0 → Prop
  | .ask p n ws => nameOk p = true ∧ nameOk n = true ∧ ws ≠ [] ∧ ws.length ≤ 3 ∧ (ws.map (·.1)).Nodup ∧ ∀ w ∈ ws, nameOk w.1 = true ∧ nameOk w.2 = true
  | .note p w t => nameOk p = true ∧ nameOk w = true ∧ nameOk t = true
  | .gate p m n e => nameOk p = true ∧ nameOk m = true ∧ nameOk n = true ∧ nameOk e = true
  | .end_ p => nameOk p = true
def waysW (ws : List (Str × Str)) : List Str := (ws.map fun w => [w.1, w.2]).flatten
theorem waysW_mem {ws : List (Str × Str)} (h : ∀ w ∈ ws, nameOk w.1 = true ∧ nameOk w.2 = true) : ∀ z ∈ waysW ws, nameOk z = true := by
  intro z hz
  obtain ⟨l, hl, hz⟩ := List.mem_flatten.mp hz
  obtain ⟨w, hw, rfl⟩ := List.mem_map.mp hl
  have := h w hw
  simp at hz
  rcases hz with rfl | rfl
  · exact this.1
  · exact this.2
theorem good_words {r : Row0} (h : RowGood r) : ∀ z ∈ wordsR r, nameOk z = true := by
  cases r with
  | ask p n ws =>
    obtain ⟨h1, h2, _, _, _, h6⟩ := h
    intro z hz
    rcases List.mem_cons.mp hz with rfl | hz
    · exact h1
    rcases List.mem_cons.mp hz with rfl | hz
    · decide +kernel
    rcases List.mem_cons.mp hz with rfl | hz
    · exact h2
    · exact waysW_mem h6 z hz
  | note p w t =>
    obtain ⟨h1, h2, h3⟩ := h
    intro z hz
    simp [wordsR] at hz
    rcases hz with rfl | rfl | rfl | rfl
    · exact h1
    · decide +kernel
    · exact h2
    · exact h3
  | gate p m n e =>
    obtain ⟨h1, h2, h3, h4⟩ := h
    intro z hz
    simp [wordsR] at hz
    rcases hz with rfl | rfl | rfl | rfl | rfl
    · exact h1
    · decide +kernel
    · exact h2
    · exact h3
    · exact h4
  | end_ p =>
    intro z hz
    simp [wordsR] at hz
    rcases hz with rfl | rfl
    · exact h
    · decide +kernel
theorem good_short {r : Row0} (h : RowGood r) : Short r := by
  refine ⟨fun z hz => (name_facts (good_words h z hz)).2.1, ?_⟩
  cases r with
  | ask p n ws =>
    have := h.2.2.2.1
    show ws.length ≤ 1000
    omega
  | _ => trivial
theorem words_ne (r : Row0) : wordsR r ≠ [] := by cases r <;> simp [wordsR]
theorem good_split {r : Row0} (h : RowGood r) : Txt.split (textR r) " " = wordsR r :=
  split_join (s := 32) (S := []) (by decide +kernel) (by decide +kernel) (words_ne r) fun z hz => name_no (good_words h z hz) (by decide)
theorem waysW_inj : ∀ {us ws : List (Str × Str)}, waysW us = waysW ws → us = ws
  | [], [], _ => rfl
  | [], _ :: _, h => by simp [waysW] at h
  | _ :: _, [], h => by simp [waysW] at h
  | (a, b) :: us, (c, d) :: ws, h => by
    have h' : a :: b :: waysW us = c :: d :: waysW ws := h
    simp only [List.cons.injEq] at h'
    obtain ⟨rfl, rfl, h'⟩ := h'
    rw [waysW_inj h']
theorem k_ne {a b : String} (h : (Str.ofString a).cps.toList ≠ (Str.ofString b).cps.toList) : Str.ofString a ≠ Str.ofString b := fun z => h (by rw [z])
theorem words_inj {r s : Row0} (h : wordsR r = wordsR s) : r = s := by
  have e1 : ("ask" : Str) ≠ "note" := by decide
  have e2 : ("ask" : Str) ≠ "mark" := by decide
  have e3 : ("ask" : Str) ≠ "end" := by decide
  have e4 : ("note" : Str) ≠ "mark" := by decide
  have e5 : ("note" : Str) ≠ "end" := by decide
  have e6 : ("mark" : Str) ≠ "end" := by decide
  cases r with
  | ask p n ws =>
    cases s with
    | ask p' n' ws' =>
      have h' : p :: "ask" :: n :: waysW ws = p' :: "ask" :: n' :: waysW ws' := h
      simp only [List.cons.injEq, true_and] at h'
      obtain ⟨rfl, rfl, h'⟩ := h'
      rw [waysW_inj h']
    | note p' w' t' => exact absurd (List.cons.inj (List.cons.inj h).2).1 e1
    | gate p' m' n' e' => exact absurd (List.cons.inj (List.cons.inj h).2).1 e2
    | end_ p' => exact absurd (List.cons.inj (List.cons.inj h).2).1 e3
  | note p w t =>
    cases s with
    | ask p' n' ws' => exact absurd (List.cons.inj (List.cons.inj h).2).1.symm e1
    | note p' w' t' =>
      have h' : [p, "note", w, t] = [p', "note", w', t'] := h
      simp only [List.cons.injEq, true_and, and_true] at h'
      obtain ⟨rfl, rfl, rfl⟩ := h'
      rfl
    | gate p' m' n' e' => exact absurd (List.cons.inj (List.cons.inj h).2).1 e4
    | end_ p' => exact absurd (List.cons.inj (List.cons.inj h).2).1 e5
  | gate p m n e =>
    cases s with
    | ask p' n' ws' => exact absurd (List.cons.inj (List.cons.inj h).2).1.symm e2
    | note p' w' t' => exact absurd (List.cons.inj (List.cons.inj h).2).1.symm e4
    | gate p' m' n' e' =>
      have h' : [p, "mark", m, n, e] = [p', "mark", m', n', e'] := h
      simp only [List.cons.injEq, true_and, and_true] at h'
      obtain ⟨rfl, rfl, rfl, rfl⟩ := h'
      rfl
    | end_ p' => exact absurd (List.cons.inj (List.cons.inj h).2).1 e6
  | end_ p =>
    cases s with
    | ask p' n' ws' => exact absurd (List.cons.inj (List.cons.inj h).2).1.symm e3
    | note p' w' t' => exact absurd (List.cons.inj (List.cons.inj h).2).1.symm e5
    | gate p' m' n' e' => exact absurd (List.cons.inj (List.cons.inj h).2).1.symm e6
    | end_ p' =>
      have h' : [p, "end"] = [p', "end"] := h
      simp only [List.cons.injEq, and_true] at h'
      rw [h']
theorem text_inj {r s : Row0} (hr : RowGood r) (hs : RowGood s) (h : textR r = textR s) : r = s := words_inj (by rw [← good_split hr, ← good_split hs, h])
theorem line_inj {r s : Row0} (h : lineD r = lineD s) : r = s := by
  have e1 : ("ask" : Str) ≠ "note" := by decide
  have e2 : ("ask" : Str) ≠ "mark" := by decide
  have e3 : ("ask" : Str) ≠ "end" := by decide
  have e4 : ("note" : Str) ≠ "mark" := by decide
  have e5 : ("note" : Str) ≠ "end" := by decide
  have e6 : ("mark" : Str) ≠ "end" := by decide
  cases r <;> cases s <;> simp only [lineD, PyData.tuple.injEq, List.cons.injEq, PyData.str.injEq, and_true, true_and, reduceCtorEq, and_false, false_and] at h
  · obtain ⟨rfl, rfl, h⟩ := h
    rw [ways_inj h]
  all_goals first
    | (obtain ⟨rfl, rfl, rfl, rfl⟩ := h; rfl)
    | (obtain ⟨rfl, rfl, rfl⟩ := h; rfl)
    | (subst h; rfl)
    | exact absurd h.1 e1
    | exact absurd h.1.symm e1
    | exact absurd h.1 e4
    | exact absurd h.1.symm e4
theorem line_txt (r : Row0) : txtD (lineD r) = true := by
  cases r with
  | ask p n ws => simp [lineD, txtD, txtAll, txtAll_ways]
  | _ => simp [lineD, txtD, txtAll]
theorem line_eqv {r s : Row0} : PyData.eqv (lineD r) (lineD s) = true → r = s := fun h => line_inj (eqv_txt (line_txt r) (line_txt s) h)
theorem ways_show {ws : List (Str × Str)} (h : ∀ w ∈ ws, nameOk w.1 = true ∧ nameOk w.2 = true) : showAll (ws.map wayD) = true ∧ PyData.depthAll (ws.map wayD) ≤ 1 ∧ PyData.weightAll (ws.map wayD) ≤ 11 * ws.length ∧ fineAll (ws.map wayD) = true := by
  induction ws with
  | nil => exact ⟨rfl, by simp [PyData.depthAll], by simp [PyData.weightAll], rfl⟩
  | cons w r ih =>
    obtain ⟨h1, h2⟩ := h w List.mem_cons_self
    obtain ⟨i1, i2, i3, i4⟩ := ih fun y hy => h y (List.mem_cons_of_mem _ hy)
    have w1 : w.1.cps.size ≤ 4 := (name_facts h1).2.1
    have w2 : w.2.cps.size ≤ 4 := (name_facts h2).2.1
    refine ⟨?_, ?_, ?_, ?_⟩
    · simp [showAll, wayD, showOk, i1, name_strOk h1, name_strOk h2]
    · simp [PyData.depthAll, wayD, PyData.depth]
      omega
    · simp [PyData.weightAll, wayD, PyData.weight]
      omega
    · have f1 := name_fine h1
      have f2 := name_fine h2
      rw [List.map_cons, fineAll, i4, Bool.and_true]
      show fine (.tuple [.str w.1, .str w.2]) = true
      rw [fine, fineAll, fineAll, fineAll, f1, f2]
      rfl
end K2

set_option Elab.async false
set_option linter.all false
set_option maxRecDepth 100000
set_option maxHeartbeats 1000000
namespace Lw
open PySem PySem.Spec PyProof.Rows L2
theorem for_zipLe {K : PySem.W.Frag} {a b : Addr} {xs ys : List V} {g : TG} {tb : TS} {D : Ends} {σ : L2.St} {H : Hp} (hl : xs.length ≤ ys.length) (Pv : Nat → L2.St → Hp → Prop) (h0 : Pv 0 σ H) (hq : ∀ i σ H, Pv i σ H → SqL K H a xs ∧ SqL K H b ys)
    (hs : ∀ (i : Nat) (x y : V) (T : Addr) (σ : L2.St) (H : Hp), xs[i]? = some x → ys[i]? = some y → Pv i σ H → H T = none → g (.ref T) σ (upd H T (.tup [x, y])) fun σ2 H2 => tb { D with nx := Pv (i + 1), ct := Pv (i + 1), bk := D.nx } σ2 H2) (hd : ∀ σ H, Pv xs.length σ H → D.nx σ H) :
    ∃ W : Nat → Nat → L2.St → Hp → Prop, (∃ m, W 0 m σ H) ∧ ∀ i m σ H, W i m σ H →
      ((Itz K a b).stop i H ∧ D.nx σ H) ∨ ((Itz K a b).go i H ∧ ∃ N : L2.St → Hp → Prop, (∀ σ' H', N σ' H' → ∃ m', m' < m ∧ W (i + 1) m' σ' H') ∧ ∀ v H', (Itz K a b).yld i H v H' → g v σ H' fun σ2 H2 => tb { D with nx := N, ct := N, bk := D.nx } σ2 H2) := by
  refine ⟨fun i m σ H => m = xs.length - i ∧ i ≤ xs.length ∧ Pv i σ H, ⟨xs.length, rfl, Nat.zero_le _, h0⟩, ?_⟩
  rintro i m σ H ⟨rfl, hi, p⟩
  obtain ⟨qx, qy⟩ := hq i σ H p
  by_cases hlt : i < xs.length
  · have hx : xs[i]? = some xs[i] := List.getElem?_eq_getElem hlt
    have hlt2 : i < ys.length := by omega
    have hy : ys[i]? = some ys[i] := List.getElem?_eq_getElem hlt2
    refine .inr ⟨⟨xs, ys, _, _, qx, qy, hx, hy⟩, Pv (i + 1), fun σ' H' p' => ⟨xs.length - (i + 1), by omega, rfl, hlt, p'⟩, fun v H' y => ?_⟩
    obtain ⟨T, x', y', rfl, hT, rfl, f1, f2⟩ := y
    exact hs i x' y' T σ H (f1 xs qx) (f2 ys qy) p hT
  · have e : i = xs.length := by omega
    subst e
    exact .inl ⟨⟨xs, ys, qx, qy, Or.inl (Nat.le_refl _)⟩, hd σ H p⟩
end Lw

set_option Elab.async false
set_option linter.all false
set_option maxRecDepth 100000
set_option maxHeartbeats 1000000
namespace Lw
open PySem PySem.Spec PyProof.Rows L2
section
variable {X : Cx} {e : Expr} {t1 t2 : TE}
theorem PE.or (h1 : PE X e t1) (h2 : PE X e t2) : PE X e (fun σ H Q => t1 σ H Q ∨ t2 σ H Q) := by
  constructor
  intro pins s σ H Q I h
  rcases h with h | h
  · exact h1.run pins s σ H Q I h
  · exact h2.run pins s σ H Q I h
end
/-! ### rows: where they lead -/
def placeR : Row0 → PySem.Str
  | .ask p _ _ => p
  | .note p _ _ => p
  | .gate p _ _ _ => p
  | .end_ p => p
def leadsR : Row0 → List PySem.Str
  | .ask _ _ ws => ws.map (·.2)
  | .note _ _ t => [t]
  | .gate _ _ n e => [n, e]
  | .end_ _ => []
/-! data without lists, a list changed beside them -/
mutual
def tupD : PyData → Bool
  | .list _ => false
  | .dict _ => false
  | .tuple ds => tupAll ds
  | _ => true
def tupAll : List PyData → Bool
  | [] => true
  | d :: ds => tupD d && tupAll ds
end
theorem tup_off {K : PySem.W.Frag} {H : Hp} {p a : Addr} {xs ys : List V} {o : HO} (hp : H p = some (.lst ys)) (h : SqT K H a xs) : SqT K (upd H p o) a xs := by
  rcases h with (h | ⟨u, h⟩) | h
  · exact .inl (.inl (by rw [upd_ne (fun z => by rw [z, hp] at h; cases h)]; exact h))
  · exact .inl (.inr ⟨u, by rw [upd_ne (fun z => by rw [z, hp] at h; cases h)]; exact h⟩)
  · exact .inr h
mutual
theorem dp_off {K : PySem.W.Frag} {H : Hp} {p : Addr} {ys : List V} {o : HO} (hp : H p = some (.lst ys)) : ∀ {d : PyData} {v : V}, tupD d = true → Dp K H v d → Dp K (upd H p o) v d
  | .none, _, _, h => by cases h; exact .non
  | .bool _, _, _, h => by cases h; exact .bl _
  | .int _, _, _, h => by cases h; exact .int _
  | .str _, _, _, h => by cases h; exact .str _
  | .tuple ds, _, t, h => by
    simp only [tupD] at t
    cases h with
    | tup h1 h2 => exact .tup (tup_off hp h1) (dpAll_off hp t h2)
  | .list _, _, t, _ => by simp [tupD] at t
  | .dict _, _, t, _ => by simp [tupD] at t
theorem dpAll_off {K : PySem.W.Frag} {H : Hp} {p : Addr} {ys : List V} {o : HO} (hp : H p = some (.lst ys)) : ∀ {ds : List PyData} {vs : List V}, tupAll ds = true → DpAll K H vs ds → DpAll K (upd H p o) vs ds
  | [], _, _, h => by cases h; exact .nil
  | d :: ds, _, t, h => by
    simp only [tupAll, Bool.and_eq_true] at t
    cases h with
    | cons h1 h2 => exact .cons (dp_off hp t.1 h1) (dpAll_off hp t.2 h2)
end
theorem tup_ways : ∀ ws : List (PySem.Str × PySem.Str), tupAll (ws.map wayD) = true
  | [] => rfl
  | w :: r => by
    rw [List.map_cons, tupAll, tup_ways r]
    rfl
theorem tup_line (r : Row0) : tupD (lineD r) = true := by
  cases r with
  | ask p n ws => simp [lineD, tupD, tupAll, tup_ways]
  | _ => simp [lineD, tupD, tupAll]
theorem tup_lines : ∀ rs : List Row0, tupAll (rs.map lineD) = true
  | [] => rfl
  | r :: rs => by
    rw [List.map_cons, tupAll, tup_lines rs, tup_line r]
    rfl
theorem fields_same {K : PySem.W.Frag} {H H' : Hp} {fs : List (PySem.Str × V)} {r : Row0} (h : fieldsOk K H fs r) (s : Same H H') : fieldsOk K H' fs r := by
  cases r with
  | ask p n ws =>
    obtain ⟨h1, h2, ⟨wa, h3, h4⟩, h5⟩ := h
    exact ⟨h1, h2, ⟨wa, h3, dp_same s _ _ h4⟩, h5⟩
  | _ => exact h
theorem fields_off {K : PySem.W.Frag} {H : Hp} {p : Addr} {ys : List V} {o : HO} (hp : H p = some (.lst ys)) {fs : List (PySem.Str × V)} {r : Row0} (h : fieldsOk K H fs r) : fieldsOk K (upd H p o) fs r := by
  cases r with
  | ask p n ws =>
    obtain ⟨h1, h2, ⟨wa, h3, h4⟩, h5⟩ := h
    exact ⟨h1, h2, ⟨wa, h3, dp_off hp (by simp only [tupD]; exact tup_ways ws) h4⟩, h5⟩
  | _ => exact h
theorem text_of {K : PySem.W.Frag} {H : Hp} {fs : List (PySem.Str × V)} {r : Row0} (h : fieldsOk K H fs r) : fs.lookup ("_text" : PySem.Str) = some (.str (textR r)) := by
  cases r with
  | ask p n ws => exact h.2.2.2
  | note p w t => exact h.2.2.2
  | gate p m n e => exact h.2.2.2.2
  | end_ p => exact h.2
end Lw

set_option Elab.async false
set_option linter.all false
set_option maxRecDepth 100000
set_option maxHeartbeats 1000000
namespace K2
open PySem L2 Lw TL
theorem cls_mem {a : Ad} (r : Row0) : clsR a r ∈ rowCs a := by cases r <;> simp [clsR, rowCs]
/-- an object of a row -/
structure RowAt (K : PySem.W.Frag) (a : Ad) (H : Hp) (v : V) (r : Row0) : Prop where
  ex : ∃ (x dx : Addr) (fs : List (Str × V)), v = .ref x ∧ H x = some (.ins (clsR a r) dx fs) ∧ fieldsOk K H fs r ∧ Bare fs
theorem fields_same {K : PySem.W.Frag} {H H' : Hp} {fs : List (Str × V)} {r : Row0} (h : fieldsOk K H fs r) (s : Same H H') : fieldsOk K H' fs r := by
  cases r with
  | ask p n ws =>
    obtain ⟨h1, h2, ⟨wa, h3, h4⟩, h5⟩ := h
    exact ⟨h1, h2, ⟨wa, h3, dp_same s _ _ h4⟩, h5⟩
  | _ => exact h
theorem RowAt.same {K : PySem.W.Frag} {a : Ad} {H H' : Hp} {v : V} {r : Row0} (h : RowAt K a H v r) (s : Same H H') : RowAt K a H' v r := by
  obtain ⟨x, dx, fs, e, hx, hf, hb⟩ := h.ex
  exact ⟨x, dx, fs, e, s _ _ hx, fields_same hf s, hb⟩
/-! ### where a row leads -/
structure LeadsF (K : PySem.W.Frag) (a : Ad) (fR fA fN fG : Addr) (dR dA dN dG : FuncData) : Prop where
  rF : Fun K "leads" "Row.leads" sLeadsR fR dR
  rB : Binds K dR ["self"] []
  aF : Fun K "leads" "Ask.leads" sLeadsA fA dA
  aB : Binds K dA ["self"] []
  nF : Fun K "leads" "Note.leads" sLeadsN fN dN
  nB : Binds K dN ["self"] []
  gF : Fun K "leads" "Gate.leads" sLeadsG fG dG
  gB : Binds K dG ["self"] []
  rM : Meth K a.cEnd "leads" fR
  aM : Meth K a.cAsk "leads" fA
  nM : Meth K a.cNote "leads" fN
  gM : Meth K a.cGate "leads" fG
def spLeads (K : PySem.W.Frag) (a : Ad) : Sp := fun vs H Q _ => ∃ (v : V) (r : Row0), vs = [v] ∧ RowAt K a H v r ∧ RowGood r ∧ ∀ H' t, Same H H' → H' t = some (.tup ((leadsR r).map V.str)) → Q (.ref t) H'
section
variable {P : Program} {w : World} {K : PySem.W.Frag} {mg : Str → Option Value} {base : Heap} {a : Ad} {fR fA fN fG : Addr} {dR dA dN dG : FuncData}
theorem scLR : FnScope ["self"] ["self"] (defScope sLeadsR) := ⟨rfl, rfl, rfl, by decide +kernel, rfl, by decide +kernel, by decide +kernel⟩
theorem scLN : FnScope ["self"] ["self"] (defScope sLeadsN) := ⟨rfl, rfl, rfl, by decide +kernel, rfl, by decide +kernel, by decide +kernel⟩
theorem scLG : FnScope ["self"] ["self"] (defScope sLeadsG) := ⟨rfl, rfl, rfl, by decide +kernel, rfl, by decide +kernel, by decide +kernel⟩
theorem scLA : FnScope ["self", "answer", "then"] ["self"] (defScope sLeadsA) := ⟨rfl, rfl, rfl, by decide +kernel, rfl, by decide +kernel, by decide +kernel⟩
/-- for one kind -/
def spLd (K : PySem.W.Frag) (C : Addr) : Sp := fun vs H Q _ => ∃ (p dx : Addr) (fs : List (Str × V)) (r : Row0), vs = [.ref p] ∧ H p = some (.ins C dx fs) ∧ fieldsOk K H fs r ∧ RowGood r ∧ ∀ H' t, Same H H' → H' t = some (.tup ((leadsR r).map V.str)) → Q (.ref t) H'
def spLdK (K : PySem.W.Frag) (C : Addr) (is : Row0 → Prop) : Sp := fun vs H Q _ => ∃ (p dx : Addr) (fs : List (Str × V)) (r : Row0), vs = [.ref p] ∧ is r ∧ H p = some (.ins C dx fs) ∧ fieldsOk K H fs r ∧ RowGood r ∧ ∀ H' t, Same H H' → H' t = some (.tup ((leadsR r).map V.str)) → Q (.ref t) H'
def isAsk : Row0 → Prop | .ask _ _ _ => True | _ => False
def isNote : Row0 → Prop | .note _ _ _ => True | _ => False
def isGate : Row0 → Prop | .gate _ _ _ _ => True | _ => False
def isEnd : Row0 → Prop | .end_ _ => True | _ => False
theorem LeadsF.okR (L : LeadsF K a fR fA fN fG dR dA dN dG) : FnOk P w K mg base CX0 1 fR dR ["self"] (spLdK K a.cEnd isEnd) := by
  refine L.rF.ok scLR (fun vs H Q E h => ?_) (fun cdv A outer s H vs Q E hr h => ?_)
  · obtain ⟨p, dx, fs, r, rfl, _⟩ := h
    rfl
  · obtain ⟨p, dx, fs, r, rfl, hi, hp, hf, gr, fin⟩ := h
    refine ⟨_, pss_one (ps_ret (pe_tup pa_nil)), ?_⟩
    refine ⟨(by show 0 ≤ sizeLine; decide), fun t ut => fin _ t (same_new ut) ?_⟩
    cases r with
    | end_ _ => exact upd_same
    | _ => exact hi.elim
theorem LeadsF.okN (L : LeadsF K a fR fA fN fG dR dA dN dG) (T : Txt K mg a) : FnOk P w K mg base CX0 1 fN dN ["self"] (spLdK K a.cNote isNote) := by
  refine L.nF.ok scLN (fun vs H Q E h => ?_) (fun cdv A outer s H vs Q E hr h => ?_)
  · obtain ⟨p, dx, fs, r, rfl, _⟩ := h
    rfl
  · obtain ⟨p, dx, fs, r, rfl, hi, hp, hf, gr, fin⟩ := h
    refine ⟨_, pss_one (ps_ret (pe_tup (pa_cons (pe_fld (pv 0) rfl) pa_nil))), ?_⟩
    cases r with
    | note p0 w0 t0 =>
      obtain ⟨f1, f2, f3, f4⟩ := hf
      exact ⟨_, rfl, p, _, dx, fs, _, rfl, hp, T.note.cl, T.no _ (by simp) _ (by simp), f3, (by show 1 ≤ sizeLine; decide), fun t ut => fin _ t (same_new ut) upd_same⟩
    | _ => exact hi.elim
theorem LeadsF.okG (L : LeadsF K a fR fA fN fG dR dA dN dG) (T : Txt K mg a) : FnOk P w K mg base CX0 1 fG dG ["self"] (spLdK K a.cGate isGate) := by
  refine L.gF.ok scLG (fun vs H Q E h => ?_) (fun cdv A outer s H vs Q E hr h => ?_)
  · obtain ⟨p, dx, fs, r, rfl, _⟩ := h
    rfl
  · obtain ⟨p, dx, fs, r, rfl, hi, hp, hf, gr, fin⟩ := h
    refine ⟨_, pss_one (ps_ret (pe_tup (pa_cons (pe_fld (pv 0) rfl) (pa_cons (pe_fld (pv 0) rfl) pa_nil)))), ?_⟩
    cases r with
    | gate p0 m0 n0 e0 =>
      obtain ⟨f1, f2, f3, f4, f5⟩ := hf
      exact ⟨_, rfl, p, _, dx, fs, _, rfl, hp, T.gate.cl, T.no _ (by simp) _ (by simp), f3, _, rfl, p, _, dx, fs, _, rfl, hp, T.gate.cl, T.no _ (by simp) _ (by simp), f4, (by show 2 ≤ sizeLine; decide), fun t ut => fin _ t (same_new ut) upd_same⟩
    | _ => exact hi.elim
theorem LeadsF.okA (L : LeadsF K a fR fA fN fG dR dA dN dG) (T : Txt K mg a) : FnOk P w K mg base CX0 1 fA dA ["self"] (spLdK K a.cAsk isAsk) := by
  refine L.aF.ok scLA (fun vs H Q E h => ?_) (fun cdv A outer s H vs Q E hr h => ?_)
  · obtain ⟨p, dx, fs, r, rfl, _⟩ := h
    rfl
  · obtain ⟨p, dx, fs, r, rfl, hi, hp, hf, gr, fin⟩ := h
    refine ⟨_, pss_one (ps_ret (pe_callTy call_tuple_of (by rfl) T.tTuple PyProof.Rows.boot_tuple (pa_cons (pe_lc (own := [("answer", 1), ("then", 2)]) (g := gTup K 2 (gCons (gName 1) (gCons (gName 2) gNil))) (tt := tYes) (te := tVar 2) (by rfl) scLA.nd (pi_tup (pe_fld (pv 0) rfl))
        (blkOk_by (own := [("answer", 1), ("then", 2)]) (N := ["self", "answer", "then"]) (sc := defScope sLeadsA) (by decide +kernel)) (fun _ _ _ _ _ => pg_tup rfl (pgs_cons (pg_name (i := 1) scLA.nd rfl (.inl rfl)) (pgs_cons (pg_name (i := 2) scLA.nd rfl (.inl rfl)) pgs_nil))) (fun _ _ _ _ _ => pts_nil) (fun _ _ _ _ _ => pv 2)) pa_nil))), ?_⟩
    cases r with
    | ask p0 n0 ws =>
      obtain ⟨f1, f2, ⟨wa, f3, hwa⟩, f4⟩ := hf
      cases hwa with
      | @tup _ xs _ hs ha =>
        have few : ws.length ≤ 3 := gr.2.2.2.1
        have len : xs.length = ws.length := by rw [dpAll_len ha, List.length_map]
        refine ⟨_, rfl, p, _, dx, fs, _, rfl, hp, T.ask.cl, T.no _ (by simp) _ (by simp), f3, wa, rfl, ⟨_, hs⟩, fun D un => lc_tup (K := K) (a := wa) (xs := xs) (fun j H' => Same H H' ∧ H' D = some (.lst (((ws.map (·.2)).take j).map V.str))) ⟨same_new un, upd_same⟩ (fun j H' _ q => same_tup q.1 hs) ?_ ?_⟩
        · rintro j x H' hx ⟨s1, hD⟩
          obtain ⟨d, ed, hdx⟩ := dpAll_at ha hx
          rw [List.getElem?_map] at ed
          obtain ⟨wy, hw, rfl⟩ := Option.map_eq_some_iff.mp ed
          cases hdx with
          | tup ht hy =>
            cases hy with
            | cons h1 hy =>
              cases h1
              cases hy with
              | cons h2 hy =>
                cases h2
                cases hy
                refine ⟨_, _, rfl, same_tup s1 ht, rfl, _, _, rfl, _, _, rfl, rfl, ?_⟩
                refine ⟨rfl, ?_⟩
                dsimp only [tYes]
                refine iteT ⟨_, rfl, _, hD, ?_, fun b o e => ?_, ?_⟩
                · rw [List.length_map, List.length_take, List.length_map]
                  exact Nat.lt_of_le_of_lt (show _ ≤ 3 by omega) (by decide)
                · rw [upd_ne (ne_of_none e un)]
                  exact s1 _ _ e
                · rw [upd_same, List.take_add_one, List.getElem?_map, hw, List.map_append]
                  rfl
        · rintro H' ⟨s1, hD⟩
          rw [len, ← List.length_map (f := fun (w : Str × Str) => w.2), List.take_length] at hD
          exact ⟨D, _, rfl, .inl ⟨SqL.of hD, fun t ut => fin _ t (s1.trans (same_new ut)) upd_same⟩⟩
    | _ => exact hi.elim
/-- row.leads(), whichever row it is -/
abbrev tLeads (K : PySem.W.Frag) (a : Ad) (ta : TE) : TE := fun σ H Q => tMeth a.cAsk "leads" (spLdK K a.cAsk isAsk) [] E0 ta tNil σ H Q ∨ tMeth a.cNote "leads" (spLdK K a.cNote isNote) [] E0 ta tNil σ H Q ∨ tMeth a.cGate "leads" (spLdK K a.cGate isGate) [] E0 ta tNil σ H Q ∨ tMeth a.cEnd "leads" (spLdK K a.cEnd isEnd) [] E0 ta tNil σ H Q
theorem pe_leads {X : Cx} (L : LeadsF X.K a fR fA fN fG dR dA dN dG) (T : Txt X.K X.mg a) {o : Expr} {ta : TE} {apos pos : Pos} {pl : Sem Bool} (he : PE X o ta) (hr : Room 1 X.A)
    (ht : eval (.Call (.Attribute o "leads" apos) [] [] pos) X.env = (do
      let ov ← eval o X.env
      standAt apos.atName
      let (f, first) ← holding [ov] (getMethod ov "leads" pl)
      callWith pos f first (backTo pos (starEach [] X.env)) (backToKw pos (keywordEach [] X.env))) := by rfl) :
    PE X (.Call (.Attribute o "leads" apos) [] [] pos) (tLeads X.K a ta) :=
  PE.or (pe_meth0 he T.ask.cl L.aM (L.okA T) hr L.aB .nil pass0 ht) (PE.or (pe_meth0 he T.note.cl L.nM (L.okN T) hr L.nB .nil pass0 ht) (PE.or (pe_meth0 he T.gate.cl L.gM (L.okG T) hr L.gB .nil pass0 ht) (pe_meth0 he T.end_.cl L.rM L.okR hr L.rB .nil pass0 ht)))
theorem leads_run {i : Nat} {σ : L2.St} {H : Hp} {v : V} {r : Row0} {Q : VK} (e : σ[i]? = some (some v)) (h : RowAt K a H v r) (gr : RowGood r) (fin : ∀ H' t, Same H H' → H' t = some (.tup ((leadsR r).map V.str)) → Q (.ref t) H') : tLeads K a (tVar i) σ H Q := by
  obtain ⟨x, dx, fs, rfl, hx, hf, hb⟩ := h.ex
  cases r with
  | ask p n ws => exact .inl ⟨_, e, x, dx, fs, rfl, hx, hb.1, x, dx, fs, (.ask p n ws), rfl, trivial, hx, hf, gr, fin⟩
  | note p n ws => exact .inr (.inl ⟨_, e, x, dx, fs, rfl, hx, hb.1, x, dx, fs, (.note p n ws), rfl, trivial, hx, hf, gr, fin⟩)
  | gate p m n e0 => exact .inr (.inr (.inl ⟨_, e, x, dx, fs, rfl, hx, hb.1, x, dx, fs, (.gate p m n e0), rfl, trivial, hx, hf, gr, fin⟩))
  | end_ p => exact .inr (.inr (.inr ⟨_, e, x, dx, fs, rfl, hx, hb.1, x, dx, fs, (.end_ p), rfl, trivial, hx, hf, gr, fin⟩))
end
end K2

set_option Elab.async false
set_option linter.all false
set_option maxRecDepth 100000
set_option maxHeartbeats 1000000
namespace Lw
open PySem PySem.Spec PyProof.Rows L2
theorem fun_okG0 {P : Program} {w : World} {K : PySem.W.Frag} {mg : PySem.Str → Option Value} {base : Heap} {x qual : PySem.Str} {st : Stmt} {f : Addr} {fd : FuncData} {N ps : List PySem.Str} {k : Nat} {sp : Sp} (F : Fun K x qual st f fd) (S : FnScope N ps (defScope st)) (len : ∀ vs H Q E, sp vs H Q E → vs.length = ps.length)
    (body : ∀ (cdv : Value) (A : Around) (out : List Env) (s : Shared) (H : Hp) (vs : List V) (Q : VK) (E : XK), Room k (A.deeper (envOfC qual (defScope st) s.heap.objs.size f cdv)) → (A.deeper (envOfC qual (defScope st) s.heap.objs.size f cdv)).guards = some [] → sp vs H Q E →
      ∃ t, PSs (cxOf CX0 P w K mg base N qual (defScope st) f cdv A out s H E).nox (defBody st) t ∧ t { nx := fun _ H' => Q .non H', rt := Q } (start N vs) H) : FnG P w K mg base CX0 (k + 1) f fd ps sp :=
  fun_okG F S len fun cdv A out s H vs Q E room hg h => by
    obtain ⟨t, term, q⟩ := body cdv A out s H vs Q E room hg h
    exact ⟨t, term.nox, q⟩
theorem Deal.on {G H H' : Hp} {d l : Addr} (D : Deal G H d l) (s : Same H H') : Deal G H' d l :=
  ⟨D.same.trans s, D.gd, D.gl, D.ne, let ⟨ns, m, a⟩ := D.it; ⟨ns, m, s _ _ a.hd, s _ _ a.hl, a.len, a.nn, a.m0, a.m1⟩⟩
theorem News.on {G H H' G' N : Hp} {d l : Addr} (n : News G H G' N d l) (s : Same H H') : News G H' G' N d l := n.redeal (n.dl.on s)
end Lw

set_option Elab.async false
set_option linter.all false
set_option maxRecDepth 100000
set_option maxHeartbeats 1000000
namespace K2
open PySem L2 Lw TL
theorem ways_good {ws : List (Str × Str)} (ne : ws ≠ []) (nd : (ws.map (·.1)).Nodup) (h : ∀ w ∈ ws, nameOk w.1 = true ∧ nameOk w.2 = true) : waysOk (.tuple (ws.map wayD)) = true := by
  have e1 : (ws.map wayD).isEmpty = false := by
    cases ws with
    | nil => exact absurd rfl ne
    | cons _ _ => rfl
  have e2 : (ws.map wayD).all wayOk = true := by
    rw [List.all_map, List.all_eq_true]
    intro w hw
    obtain ⟨h1, h2⟩ := h w hw
    show (nameOk w.1 && nameOk w.2) = true
    rw [h1, h2]
    rfl
  have e3 : (ws.map wayD).map headOf = ws.map (·.1) := by
    rw [List.map_map]
    exact List.map_congr_left fun w _ => rfl
  show waysD (ws.map wayD) = true
  unfold waysD
  rw [e1, e2, e3, decide_eq_true nd]
  rfl
theorem good_due {r : Row0} (h : RowGood r) : dueR r = Str.empty := by
  cases r with
  | ask p n ws =>
    obtain ⟨h1, h2, h3, _, h5, h6⟩ := h
    have w := ways_good h3 h5 h6
    have f : firstD [("place", .str p), ("name", .str n)] = Str.empty := by simp [firstD, nameD, h1, h2]
    show (if firstD [("place", .str p), ("name", .str n)] = Str.empty then (if waysOk (.tuple (ws.map wayD)) = true then Str.empty else "ways") else firstD [("place", .str p), ("name", .str n)]) = Str.empty
    rw [if_pos f, if_pos w]
  | note p w t =>
    obtain ⟨h1, h2, h3⟩ := h
    show firstD [("place", .str p), ("word", .str w), ("then", .str t)] = Str.empty
    simp [firstD, nameD, h1, h2, h3]
  | gate p m n e =>
    obtain ⟨h1, h2, h3, h4⟩ := h
    show firstD [("place", .str p), ("mark", .str m), ("newer", .str n), ("elder", .str e)] = Str.empty
    simp [firstD, nameD, h1, h2, h3, h4]
  | end_ p =>
    show firstD [("place", .str p)] = Str.empty
    have h : nameOk p = true := h
    simp [firstD, nameD, h]
theorem ways_fine {ws : List (Str × Str)} (few : ws.length ≤ 3) (h : ∀ w ∈ ws, nameOk w.1 = true ∧ nameOk w.2 = true) : fine (.tuple (ws.map wayD)) = true := by
  rw [fine, (ways_show h).2.2.2, Bool.and_true, List.length_map]
  exact decide_eq_true (by omega)
theorem good_fine {r : Row0} (h : RowGood r) : fineAll (argsD r) = true := by
  cases r with
  | ask p n ws =>
    obtain ⟨h1, h2, h3, h4, h5, h6⟩ := h
    show fineAll [.str p, .str n, .tuple (ws.map wayD)] = true
    rw [fineAll, fineAll, fineAll, name_fine h1, name_fine h2, ways_fine h4 h6]
    rfl
  | note p w t =>
    obtain ⟨h1, h2, h3⟩ := h
    show fineAll [.str p, .str w, .str t] = true
    rw [fineAll, fineAll, fineAll, name_fine h1, name_fine h2, name_fine h3]
    rfl
  | gate p m n e =>
    obtain ⟨h1, h2, h3, h4⟩ := h
    show fineAll [.str p, .str m, .str n, .str e] = true
    rw [fineAll, fineAll, fineAll, fineAll, name_fine h1, name_fine h2, name_fine h3, name_fine h4]
    rfl
  | end_ p =>
    show fineAll [.str p] = true
    rw [fineAll, name_fine h]
    rfl
section
variable {K : PySem.W.Frag} {a : Ad}
theorem made_isL {p n : Str} {ws : List (Str × Str)} {r' : Row0} (m : Made [.str p, .str n, .list (ws.map wayD)] r') : r' = .ask p n ws := by
  cases r' with
  | ask p' n' ws' =>
    rcases m with h | h
    · have h2 : [PyData.str p, .str n, .list (ws.map wayD)] = [.str p', .str n', .list (ws'.map wayD)] := h
      simp only [List.cons.injEq, PyData.str.injEq, PyData.list.injEq, and_true] at h2
      obtain ⟨e1, e2, e3⟩ := h2
      rw [e1, e2, ways_inj e3]
    · simp at h
  | note p' w' t' => have h : [PyData.str p, .str n, .list (ws.map wayD)] = [.str p', .str w', .str t'] := m; simp at h
  | gate p' m' n' e' => have h : [PyData.str p, .str n, .list (ws.map wayD)] = [.str p', .str m', .str n', .str e'] := m; simp at h
  | end_ p' => have h : [PyData.str p, .str n, .list (ws.map wayD)] = [.str p'] := m; simp at h
/-- an ask of a list of ways -/
theorem make_list {H : Hp} {Cir : Addr} {ta : TA} {σ : L2.St} {xs : List V} {p n : Str} {ws : List (Str × Str)} {Q : VK} (hta : ∀ Q, Q xs H → ta σ H Q) (ha : DpAll K H xs [.str p, .str n, .list (ws.map wayD)]) (good : RowGood (.ask p n ws))
    (fin : ∀ (H' : Hp) (x dx : Addr) (fs : List (Str × V)), Same H H' → H x = none → H' x = some (.ins a.cAsk dx fs) → fieldsOk K H' fs (.ask p n ws) → Bare fs → Q (.ref x) H') : tMake a.cAsk (spMk K a.cAsk Cir dueAsk 3) [] E0 ta σ H Q := by
  have due : dueAsk [.str p, .str n, .list (ws.map wayD)] = Str.empty := by
    have z := good_due good
    exact z
  have fin3 : fineAll [.str p, .str n, .list (ws.map wayD)] = true := by
    obtain ⟨h1, h2, h3, h4, h5, h6⟩ := good
    have z := ways_fine h4 h6
    rw [fine] at z
    rw [fineAll, fineAll, fineAll, name_fine h1, name_fine h2, fine, z]
    rfl
  refine hta _ fun x dx nx nd ne => ?_
  have s1 : Same H (upd H dx (.own x)) := same_new nd
  have nx' : (upd H dx (.own x)) x = none := by rw [upd_ne ne.symm]; exact nx
  have s2 : Same (upd H dx (.own x)) (upd (upd H dx (.own x)) x (.ins a.cAsk dx [])) := same_new nx'
  refine ⟨x, dx, xs, _, by rw [List.append_nil], dpAll_len ha, dpAll_same (s1.trans s2) _ _ ha, fin3, upd_same, fun e H' fs r' kp hi md fo fb => ⟨rfl, ?_⟩, fun e => absurd due e⟩
  have er := made_isL md
  subst er
  exact fin H' x dx fs (Same.made nx nd kp) nx hi fo fb
end
end K2

set_option Elab.async false
set_option linter.all false
set_option maxRecDepth 100000
set_option maxHeartbeats 4000000
/-! Sets of texts whose order can be told: made by a comprehension, sorted. -/
namespace SxT
open PySem PySem.Spec PyProof.Rows L2
def keyS (e : Int × Value) : PySem.Str := match e.2 with
  | .str k _ => k
  | _ => Str.empty
def GoodS (P : Program) (w : World) (e : Int × Value) : Prop := ∃ k tk, e.2 = Value.str k tk ∧ e.1 = (strKind P w).hash k
/-- a set of n texts at a, S tells which -/
def SetX (P : Program) (w : World) (h : Heap) (a : Addr) (S : PySem.Str → Bool) (n : Nat) : Prop :=
  ∃ o es ep t, h.get? a = some o ∧ o.ExactSet ∧ o.data = .set es ep t ∧ (∀ e ∈ es.toList, GoodS P w e) ∧ (es.toList.map keyS).Nodup ∧ (∀ k, S k = true ↔ k ∈ es.toList.map keyS) ∧
    es.size < scanBound ∧ t.fits es.size = true ∧ es.size = n ∧ Ris t.place.toList ∧ (w.params.followText "set-order" = true ∨ t.led = true)
section
variable {P : Program} {w : World} {A : Around} {E : Value → Shared → Prop} {s : Shared} {a : Addr} {S : PySem.Str → Bool} {n : Nat} {h h' : Heap}
theorem SetX.at (R : SetX P w h a S n) (k : ∀ o, h.get? a = some o → h'.get? a = some o) : SetX P w h' a S n := by
  obtain ⟨o, es, ep, t, here, rest⟩ := R
  exact ⟨o, es, ep, t, k o here, rest⟩
theorem is_one (k : PySem.Str) (u : Tok) : (strKind P w).is k (.str k u) = true := by
  show Value.isStrOf k (.str k u) = true
  simp [Value.isStrOf]
theorem goodS_is {e : Int × Value} (g : GoodS P w e) (k : PySem.Str) : (strKind P w).is k e.2 = true ↔ keyS e = k := by
  obtain ⟨j, tk, ee, _⟩ := g
  unfold keyS
  rw [ee]
  show Value.isStrOf k (.str j tk) = true ↔ j = k
  simp [Value.isStrOf]
theorem goodS_mem {l : List (Int × Value)} (g : ∀ e ∈ l, GoodS P w e) (k : PySem.Str) : k ∈ l.map keyS ↔ ∃ e ∈ l, (strKind P w).is k e.2 = true := by
  rw [List.mem_map]
  constructor
  · rintro ⟨e, he, q⟩
    exact ⟨e, he, (goodS_is (g e he) k).mpr q⟩
  · rintro ⟨e, he, q⟩
    exact ⟨e, he, (goodS_is (g e he) k).mp q⟩
theorem goodS_elems {l : List (Int × Value)} (g : ∀ e ∈ l, GoodS P w e) : ElemsOf (strKind P w) l := fun e he => by
  obtain ⟨k, tk, e1, e2⟩ := g e he
  refine ⟨⟨k, ?_, e2⟩, ?_⟩
  · rw [e1]
    exact is_one k tk
  · rw [e1]
    rfl
theorem SetX.setOf (R : SetX P w h a S n) : h.SetOf (strKind P w) a S n := by
  obtain ⟨o, es, ep, t, ho, hex, hd, g, nd, hm, hb, hf, hn, hr, hl⟩ := R
  exact ⟨o, es, ep, t, ho, hex, hd, goodS_elems g, fun k => (hm k).trans (goodS_mem g k), hb, hf, hn⟩
theorem addX_tail {g : Bool → Sem Unit} (hg : ∀ (b : Bool) (s1 : Shared) (Q' : Unit → Shared → Prop), Q' () s1 → wpAny (model P w) A (g b) Q' E s1) {o : Obj} {es : Array (Int × Value)} {ep : Nat} {t : SetTable} (here : s.heap.get? a = some o) (exact_ : o.ExactSet) (data : o.data = .set es ep t)
    {es1 : Array (Int × Value)} {t2 : SetTable} {S' : PySem.Str → Bool} (good : ∀ e ∈ es1.toList, GoodS P w e) (once : (es1.toList.map keyS).Nodup) (mem : ∀ k, S' k = true ↔ k ∈ es1.toList.map keyS) (few : es1.size < scanBound) (fits : t2.fits es1.size = true) (ris : Ris t2.place.toList)
    (led : w.params.followText "set-order" = true ∨ t2.led = true) {wasDummy : Bool} {R : Option Bool → Shared → Prop} (want : ∀ h', Heap.SameBut a s.heap h' → SetX P w h' a S' es1.size → R (some true) { s with heap := h' }) :
    wpAny (model P w) A (do
        storeSet a es1 t2
        if (!wasDummy && t2.tooFull) = true then do
            g (relayAll t2 es1 (SetTable.grown es1.size)).2.2
            storeSet a (relayAll t2 es1 (SetTable.grown es1.size)).1 (relayAll t2 es1 (SetTable.grown es1.size)).2.1
            pure (some true)
          else pure (some true)) R E s := by
  refine wpAny_bind (wpAny_storeSet_of here data ?_ (fits_of_scanBound few))
  have here1 := store_at (es' := es1) (t' := t2) here data
  have but1 := Heap.SameBut.update s.heap a (Obj.putSet es1 t2)
  split
  · have perm := relayAll_perm t2 es1 (SetTable.grown es1.size)
    have fits3 := relayAll_fits t2 es1 (SetTable.grown es1.size)
    have ris3 := relayAll_ris t2 es1 (SetTable.grown es1.size)
    have led3 := relayAll_led t2 es1 (SetTable.grown es1.size)
    generalize relayAll t2 es1 (SetTable.grown es1.size) = Z at perm fits3 ris3 led3 ⊢
    obtain ⟨es2, t3, gave⟩ := Z
    dsimp only at perm fits3 ris3 led3 ⊢
    have size : es2.size = es1.size := by rw [← Array.length_toList, perm.length_eq, Array.length_toList]
    have few2 : es2.size < scanBound := by rw [size]; exact few
    refine wpAny_bind (hg _ _ _ (wpAny_bind (wpAny_storeSet_of here1 rfl ?_ (fits_of_scanBound few2))))
    have here2 := store_at (es' := es2) (t' := t3) here1 rfl
    refine wpAny_pure (want _ (but1.trans (Heap.SameBut.update _ a _)) ?_)
    refine ⟨_, es2, _, t3, here2, exact_, rfl, fun e he => good e (perm.mem_iff.mp he), (perm.map keyS).nodup_iff.mpr once, fun k => (mem k).trans (perm.map keyS).mem_iff.symm, few2, fits3, size, ris3, ?_⟩
    rcases led with z | z
    · exact .inl z
    · exact .inr (by rw [led3]; exact z)
  · exact wpAny_pure (want _ but1 ⟨_, es1, _, t2, here1, exact_, rfl, good, once, mem, few, fits, rfl, ris, led⟩)
theorem addX_hashed {k : PySem.Str} {tk : Tok} {Q : Bool → Shared → Prop} (R : SetX P w s.heap a S n) (room : n + 1 < scanBound)
    (want : ∀ h', Heap.SameBut a s.heap h' → SetX P w h' a (fun j => S j || decide (j = k)) (if S k = true then n else n + 1) → Q (!S k) { s with heap := h' }) : wpAny (model P w) A (setAddHashed a (.str k tk) ((strKind P w).hash k)) Q E s := by
  obtain ⟨o, es, ep, t, ho, hex, hd, g, nd, hm, hb, hf, hn, hr, hl⟩ := R
  have isK : (strKind P w).is k (.str k tk) = true := is_one k tk
  have scan : (Value.str k tk).scannable = true := rfl
  have elems : ElemsOf (strKind P w) es.toList := goodS_elems g
  unfold setAddHashed setAddHashedIn
  refine wpAny_holding (wpAny_bind (wpAny_setState_of ho hd hf ?_))
  dsimp only
  rw [byScan_of scan hb elems]
  simp only [↓reduceIte]
  unfold setAddByScan
  refine wpAny_bind (wpAny_bind (wpAny_rule (wpAny_bind (wpAny_setScan_of isK ho hd hf elems ?_))))
  cases found : List.findIdx? (fun e => (strKind P w).is k e.2) es.toList with
  | some j =>
    dsimp only
    obtain ⟨lt, pj, _⟩ := List.findIdx?_eq_some_iff_getElem.mp found
    have inS : S k = true := (hm k).2 ((goodS_mem g k).2 ⟨es.toList[j], List.getElem_mem lt, pj⟩)
    refine wpAny_pure (wpAny_pure ?_)
    have z := want s.heap (Heap.SameBut.refl a s.heap) ⟨o, es, ep, t, ho, hex, hd, g, nd, fun i => ?_, hb, hf, by rw [if_pos inS]; exact hn, hr, hl⟩
    · rw [inS] at z
      exact z
    · rw [Bool.or_eq_true, decide_eq_true_eq, ← hm i]
      constructor
      · rintro (q | q)
        · exact q
        · rw [q]; exact inS
      · exact .inl
  | none =>
    dsimp only
    have notIn : k ∉ es.toList.map keyS := fun z => by
      obtain ⟨e, he, q⟩ := (goodS_mem g k).1 z
      have c := List.findIdx?_eq_none_iff.mp found e he
      rw [q] at c
      cases c
    have outS : S k = false := by
      cases q : S k with
      | false => rfl
      | true => exact absurd ((hm k).1 q) notIn
    have gave_way : ∀ (b : Bool) {s1 : Shared} {Q' : Unit → Shared → Prop}, Q' () s1 → wpAny (model P w) A (match b with | true => rule "set.scan.the-table-gave-way" | false => pure ()) Q' E s1 := fun b s1 Q' q => by
      cases b
      · exact wpAny_pure q
      · exact wpAny_rule q
    have perm := layNew_perm t es ((strKind P w).hash k) (.str k tk)
    have fits1 := layNew_fits t es ((strKind P w).hash k) (.str k tk)
    have ris1 := layNew_ris t es ((strKind P w).hash k) (.str k tk) hr
    have led1 := layNew_led t es ((strKind P w).hash k) (.str k tk)
    generalize layNew t es ((strKind P w).hash k) (.str k tk) = Z at perm fits1 ris1 led1 ⊢
    obtain ⟨es1, t1, wasDummy, gave⟩ := Z
    dsimp only at perm fits1 ris1 led1 ⊢
    rw [Array.toList_push] at perm
    have pc : es1.toList.Perm (((strKind P w).hash k, Value.str k tk) :: es.toList) := perm.trans (List.perm_append_singleton _ _)
    have pk : (es1.toList.map keyS).Perm (k :: es.toList.map keyS) := pc.map keyS
    have good1 : ∀ e ∈ es1.toList, GoodS P w e := fun e he => by
      rcases List.mem_cons.mp (pc.mem_iff.mp he) with z | z
      · rw [z]
        exact ⟨k, tk, rfl, rfl⟩
      · exact g e z
    have once1 : (es1.toList.map keyS).Nodup := pk.nodup_iff.mpr (List.nodup_cons.mpr ⟨notIn, nd⟩)
    have mem1 : ∀ i, (S i || decide (i = k)) = true ↔ i ∈ es1.toList.map keyS := fun i => by
      rw [Bool.or_eq_true, decide_eq_true_eq, hm i, pk.mem_iff, List.mem_cons]
      exact Or.comm
    have size : es1.size = n + 1 := by rw [← Array.length_toList, pc.length_eq, List.length_cons, Array.length_toList, hn]
    have few1 : es1.size < scanBound := by rw [size]; exact room
    have led2 : w.params.followText "set-order" = true ∨ t1.led = true := by
      rcases hl with z | z
      · exact .inl z
      · exact .inr (by rw [led1]; exact z)
    have fin : ∀ h', Heap.SameBut a s.heap h' → SetX P w h' a (fun j => S j || decide (j = k)) es1.size → Q true { s with heap := h' } := fun h' sb r => by
      have z := want h' sb
      rw [outS] at z
      rw [size] at r
      exact z r
    refine wpAny_bind (gave_way _ ?_)
    split
    · refine wpAny_bind ?_
      rw [hashByValue_scannable 8 scan]
      refine wpAny_pure (addX_tail ?_ ho hex hd good1 once1 mem1 few1 ?_ ?_ ?_ ?_)
      · intro b s1 Q' q
        cases b
        · exact wpAny_pure q
        · exact wpAny_rule q
      · first | (split <;> first | exact fits1 | exact SetTable.fits_plain_off fits1) | exact fits1
      · first | (split <;> exact ris1) | exact ris1
      · first | (split <;> exact led2) | exact led2
      · intro h' sb r
        dsimp only
        exact wpAny_pure (fin h' sb r)
    · refine wpAny_bind (wpAny_pure ?_)
      simp only [↓reduceIte]
      refine addX_tail ?_ ho hex hd good1 once1 mem1 few1 fits1 ris1 led2 ?_
      · intro b s1 Q' q
        cases b
        · exact wpAny_pure q
        · exact wpAny_rule q
      · intro h' sb r
        dsimp only
        exact wpAny_pure (fin h' sb r)
theorem addX {k : PySem.Str} {tk : Tok} {Q : Value → Shared → Prop} (R : SetX P w s.heap a S n) (room : n + 1 < scanBound)
    (want : ∀ h' u, Heap.SameBut a s.heap h' → SetX P w h' a (fun j => S j || decide (j = k)) (if S k = true then n else n + 1) → Q .none { s with heap := h', toks := u }) :
    wpAny (model P w) A (call (.builtin "set.add") [.ref a, .str k tk]) Q E s := by
  have hS : s.heap.SetOf (strKind P w) a S n := R.setOf
  refine wpAny_call_entry F.slot_set_add hS.typeIs F.entry_set_add ?_ (F.args_set_add_2 _ _)
  unfold Builtin.«set.add» Builtin.Frozenset.oneOther
  simp only [List.isEmpty_nil, bind_assoc]
  unfold Builtin.Frozenset.addrOf setAdd
  refine wpAny_bind (wpAny_pure ?_)
  try dsimp only
  refine wpAny_bind (wpAny_pure ?_)
  try dsimp only
  refine wpAny_bind (wpAny_holding (wpAny_bind ((strKind P w).pyHash (is_one k tk) ?_)))
  refine addX_hashed (s := { s with toks := s.toks + 1 }) R room fun h' sb r => ?_
  show wpAny _ _ (ret Value.none) _ _ _
  exact wpAny_pure ⟨_, rfl, want h' _ sb r⟩
theorem freshX {h : Heap} (P : Program) (w : World) : SetX P w (h.push { cls := .type "set", dict := none, data := .set #[] 0 (.fresh 0 0 (!w.params.followText "set-order")) }) h.objs.size (fun _ => false) 0 := by
  refine ⟨_, #[], 0, _, Heap.get?_push_size _ rfl, ⟨rfl, rfl, rfl⟩, rfl, (fun e he => by simp at he), (by simp), (fun k => by simp), (by decide), (by rfl), rfl, List.Pairwise.nil, ?_⟩
  show _ ∨ (!w.params.followText "set-order") = true
  cases w.params.followText "set-order"
  · exact .inr rfl
  · exact .inl rfl
end
end SxT

set_option Elab.async false
set_option linter.all false
set_option maxRecDepth 100000
set_option maxHeartbeats 4000000
namespace SxT
open PySem PySem.Spec PyProof.Rows L2 Sx
/-- what stands in the abstract heap -/
def SetXO (P : Program) (w : World) (a : Addr) (S : PySem.Str → Bool) (n : Nat) : HO := .ext fun h => SetX P w h a S n
section
variable {X : Cx}
theorem setX_new {w : World} {P : Program} {H : Hp} {h : Heap} {a : Addr} {S : PySem.Str → Bool} {n : Nat} (R : SetX P w h a S n) : ObjOk P w H h a (SetXO P w a S n) := by
  have there : ∃ o, h.get? a = some o := let ⟨o, _, _, _, ho, _⟩ := R; ⟨o, ho⟩
  exact ⟨R, there, fun h1 h2 p k => SetX.at p k⟩
theorem setX_get {pins : List (Addr × Obj)} {σ : L2.St} {H : Hp} {s : Shared} {a : Addr} {S : PySem.Str → Bool} {n : Nat} (I : Inv X pins σ H s) (ha : H a = some (SetXO X.prog X.w a S n)) : SetX X.prog X.w s.heap a S n := (I.hok a _ ha).1
/-- one text more in the set at D -/
theorem add_text {pins : List (Addr × Obj)} {σ : L2.St} {H : Hp} {s : Shared} {E : Value → Shared → Prop} {D : Addr} {S : PySem.Str → Bool} {n : Nat} {k : PySem.Str} {u : Value} {Q : Value → Shared → Prop}
    (I : Inv X pins σ H s) (at_ : H D = some (SetXO X.prog X.w D S n)) (room : n + 1 < scanBound) (ru : RelV (.str k) u)
    (fin : ∀ s', Inv X pins σ (upd H D (SetXO X.prog X.w D (fun j => S j || decide (j = k)) (if S k = true then n else n + 1))) s' → Q .none s') :
    wpAny (model X.prog X.w) X.A (call (.builtin "set.add") [.ref D, u]) Q E s := by
  obtain ⟨tk, rfl⟩ := ru
  refine addX (setX_get I at_) room fun h' t same new => ?_
  have there : ∃ o, h'.get? D = some o := let ⟨o, _, _, _, ho, _⟩ := new; ⟨o, ho⟩
  exact fin _ (I.write (e := D) (t' := t) (by rw [at_]; trivial) (.inl rfl) (fun b o hb ho => (same.2 b hb).trans ho) there (setX_new new))
/-- what a turn does with the element's value -/
def TurnX (P : Program) (w : World) (D : Addr) (Nx : Hp → Prop) : VK := fun y H4 => ∃ (k : PySem.Str) (S : PySem.Str → Bool) (n : Nat), y = .str k ∧ H4 D = some (SetXO P w D S n) ∧ n + 1 < scanBound ∧
  Nx (upd H4 D (SetXO P w D (fun j => S j || decide (j = k)) (if S k = true then n else n + 1)))
/-- {elt for target in iter if ..} -/
def tScx (P : Program) (w : World) (wi : TI) (g : TG) (tt : TT) (te : TE) (vs : List Nat) : TE := fun σ H Q => wi σ H fun J H1 => ∀ D, H1 D = none →
  ∃ W : Nat → Nat → Hp → Prop, (∃ m, W 0 m (upd H1 D (SetXO P w D (fun _ => false) 0))) ∧ ∀ i m H, W i m H →
    (J.stop i H ∧ Q (.ref D) H) ∨
    (J.go i H ∧ ∃ Nx : Hp → Prop, (∀ H', Nx H' → ∃ m', m' < m ∧ W (i + 1) m' H') ∧ ∀ x H', J.yld i H x H' →
      g x (wipe σ vs) H' fun σ2 H2 => wipe σ2 vs = wipe σ vs ∧ tt σ2 H2 fun b H3 => if b = true then te σ2 H3 (TurnX P w D Nx) else Nx H3)
variable {elt tg iter : Expr} {ifs : List Expr} {scope : Scope} {own : List (PySem.Str × Nat)} {pos pos' : Pos} {wi : TI} {g : TG} {tt : TT} {te : TE}
/-- the context of the block -/
abbrev Blk (X : Cx) (scope : Scope) (s : Shared) (H : Hp) (C : Addr) (cl : List (PySem.Str × Addr)) (fp : List Addr) : Cx := X.blk s H scope (compEnvC scope cl C X.env) fp
theorem pe_scx (calm : X.calm = true) (nd : X.N.Nodup) (hi : PI X tg iter wi) (ok : BlkOk X.N X.env.scope scope own)
    (hg : ∀ s H C cl fp, PG (Blk X scope s H C cl fp) tg g) (ht : ∀ s H C cl fp, PTs (Blk X scope s H C cl fp) ifs tt) (he : ∀ s H C cl fp, PE (Blk X scope s H C cl fp) elt te)
    (hs : ∀ x, foldedSetIterable iter X.env x = pure x := by intro _; rfl) :
    PE X (.SetComp elt [⟨tg, iter, ifs, 0⟩] scope pos) (tScx X.prog X.w wi g tt te (own.map (·.2))) := by
  refine ⟨fun pins s σ H Q I h => ?_⟩
  rw [PpSet.eval_SetComp]
  have captured : ∀ y ∈ scope.names, y.2 = .free → ∃ c, X.env.cells.lookup y.1 = some c := fun y hy e => (ok.free y hy e).elim (fun z => I.ok.has _ (.inl z)) fun z => I.ok.has _ (.inr z)
  refine wpAny_comprehension_free (use := none) rfl hs (closure_ok captured) ok.kind (fun y hy e => by rw [ok.uniq y hy, e]) (thn (hi.run pins s σ H _ I h) fun xv s1 q1 => thn q1 fun itv s2 q2 => ?_)
  obtain ⟨it, fp, tn, J, H2, ei, I2, T, st2, f2, q⟩ := q2
  subst ei
  refine PpSet.newSet_ok (newEnv_comp ?_)
  generalize eD : s2.heap.objs.size = D
  have freeD : H2 D = none := I2.hok.fresh (Nat.le_of_eq eD)
  obtain ⟨W, ⟨m0, w0⟩, turn⟩ := q D freeD
  -- the set, empty
  generalize es3 : ({ s2 with heap := s2.heap.push { cls := .type "set", dict := none, data := .set #[] 0 (.fresh 0 0 (!X.w.params.followText "set-order")) } } : Shared) = s3
  generalize eH3 : upd H2 D (SetXO X.prog X.w D (fun _ => false) 0) = H3 at w0
  have heap3 : s3.heap = s2.heap.push { cls := .type "set", dict := none, data := .set #[] 0 (.fresh 0 0 (!X.w.params.followText "set-order")) } := by rw [← es3]
  have I3 : Inv X pins σ H3 s3 := by
    rw [← es3, ← eH3]
    refine I2.laid (t' := s2.toks) (fun b o e => Heap.get?_push_of_some _ e) (Nat.le_of_eq eD) (setX_new ?_)
    rw [← eD]
    exact freshX _ _
  have below : ∀ b ∈ fp, b < s2.heap.objs.size := fun b hb => let ⟨_, e, _⟩ := T.obj _ _ st2 b hb; Heap.lt_size e
  have f3 : ∀ b ∈ fp, FpOk X pins H3 b ∧ b < s3.heap.objs.size := fun b hb => by
    have lt := below b hb
    refine ⟨⟨?_, (f2 b hb).2⟩, ?_⟩
    · rw [← eH3, upd_ne (by rw [← eD]; exact Nat.ne_of_lt lt)]
      exact (f2 b hb).1
    · rw [heap3, Heap.size_push]
      exact Nat.lt_succ_of_lt lt
  have st3 : tn 0 s3.heap := T.keep _ _ _ st2 fun b _ o e => by rw [heap3]; exact Heap.get?_push_of_some _ e
  have I4 := block_start I3 ok nd f3
  show codeAny _ _ (.compStart (.SetComp elt [⟨tg, iter, ifs, 0⟩] scope pos) 0 (.ref it) (.ref D) (compEnvC scope (cellsFrom (s3.heap.objs.size + 1) scope.names (cloFrom X.env.cells scope.names [])) s3.heap.objs.size X.env)) (compPost (model X.prog X.w) X.A X.xe none (EP X pins σ Q) (.ref D) s3.heap.objs.size) { s3 with heap := pushCells (s3.heap.push { cls := .type "dict", data := .dict #[] }) scope.names }
  generalize cellsFrom (s3.heap.objs.size + 1) scope.names (cloFrom X.env.cells scope.names []) = cl at I4 ⊢
  have pg := hg s3 H3 s3.heap.objs.size cl fp
  have pt := ht s3 H3 s3.heap.objs.size cl fp
  have pe := he s3 H3 s3.heap.objs.size cl fp
  unfold Blk at pg pt pe
  generalize ece : compEnvC scope cl s3.heap.objs.size X.env = ce at I4 pg pt pe ⊢
  have atC : ce.locals = s3.heap.objs.size := by rw [← ece]; rfl
  generalize es4 : ({ s3 with heap := pushCells (s3.heap.push { cls := .type "dict", data := .dict #[] }) scope.names } : Shared) = s4 at I4 ⊢
  have st4 : tn 0 s4.heap := T.keep _ _ _ st3 fun b _ o e => by rw [← es4]; exact pushCells_keeps _ _ _ _ (Heap.get?_push_of_some _ e)
  have still : ∀ {σ' : L2.St} {H' : Hp} {s' : Shared}, Inv (X.blk s3 H3 scope ce fp) [] σ' H' s' → (∀ b ∈ fp, H' b = none) → ∀ b ∈ fp, FpOk (X.blk s3 H3 scope ce fp) [] H' b := fun {σ' H' s'} J' un b hb =>
    ⟨un b hb, (J'.ok.exf b hb).1, J'.ok.exfs b hb, .inl hb, fun x c e => (J'.ok.exf b hb).2 x c e, fun p hp => absurd (show p ∈ ([] : List (Addr × Obj)) ++ [] from hp) (by simp)⟩
  refine PpSet.codeAny_compStart_set ?loop (T.self X.A 0 _ _ _ st4 ?loop)
  refine PpSet.compLoopS_any (fun n s' => ∃ i H', Inv (X.blk s3 H3 scope ce fp) [] (wipe σ (own.map (·.2))) H' s' ∧ tn i s'.heap ∧ (∀ b ∈ fp, H' b = none) ∧ W i n H') ?_ m0 ⟨0, H3, I4, st4, fun b hb => (f3 b hb).1.1, w0⟩
  rintro n s5 ⟨i, H5, I5, st5, un5, w5⟩
  rcases turn i n H5 w5 with ⟨stop, fin⟩ | ⟨go, Nx, next, step⟩
  · -- the end: back in the def
    refine thnF (T.done (X.blk s3 H3 scope ce fp) rfl rfl rfl calm i [] s5 _ H5 (fun _ _ => False) I5 (still I5 un5) st5 stop) fun r s6 ⟨er, I6⟩ => ?_
    subst er
    have I7 : Inv X pins σ H5 s6 := I3.call' (ch := fp) I6.os I6.base I6.hok I6.bare fun b hb => ⟨(f3 b hb).1.2.2.2.1, (f3 b hb).1.2.1, (f3 b hb).1.2.2.2.2.1, (f3 b hb).1.2.2.2.2.2⟩
    have unC : H5 s3.heap.objs.size = none := by
      have z : H5 ce.locals = none := I6.free
      rwa [atC] at z
    obtain ⟨m, ns, _⟩ := I6.loc
    have ns : s6.heap.Ns ce.locals m := ns
    rw [atC] at ns
    refine ⟨m, ns, fun h'' sb => ?_⟩
    obtain ⟨f0, f1, _, fr3, fr4, fr5⟩ := I3.fpOk (Nat.le_refl _) unC
    exact ⟨.ref D, H5, I7.turned (t' := s6.toks) (fun b o hb e => (sb.2 b hb).trans e) f0 f1 fr3 fr4 fr5, rfl, fin⟩
  · refine thnF (T.item (X.blk s3 H3 scope ce fp) rfl rfl rfl calm i [] s5 _ H5 (fun _ _ => False) I5 (still I5 un5) st5 go) fun r s6 ⟨u, er, q6⟩ => ?_
    subst er
    refine thnF q6 fun _ s7 ⟨x, H7, I7, r7, y7, st7, un7⟩ => ?_
    have I7' := I7.pinned (still I7 un7) (T.obj _ _ st7)
    refine thnF (pg.run _ s7 _ H7 x u _ I7' r7 (step x H7 y7)) fun _ s8 ⟨σ8, H8, I8, same, q8⟩ => ?_
    refine thnF (pt.run _ s8 σ8 H8 _ I8 q8) fun b s9 ⟨H9, I9, q9⟩ => ?_
    have back : ∀ {s' : Shared} {H' : Hp}, Inv (X.blk s3 H3 scope ce fp) ([] ++ pinsAt fp s7.heap) σ8 H' s' → Nx H' →
        ∃ m, m < n ∧ ∃ i H', Inv (X.blk s3 H3 scope ce fp) [] (wipe σ (own.map (·.2))) H' s' ∧ tn i s'.heap ∧ (∀ b ∈ fp, H' b = none) ∧ W i m H' := fun {s' H'} I' nx => by
      obtain ⟨m', lt, w'⟩ := next H' nx
      have pin : ∀ b ∈ fp, ∀ o, s7.heap.get? b = some o → s'.heap.get? b = some o ∧ H' b = none := fun b hb o e =>
        let z := I'.pin (b, o) (List.mem_append_right _ (List.mem_append_right _ (mem_pinsAt hb e)))
        ⟨z.1, z.2.1⟩
      have len : (wipe σ (own.map (·.2))).length = σ8.length := by rw [← same, wipe_length]
      refine ⟨m', lt, i + 1, H', (I'.unpinned (pins := [])).weak len (fun j v e => ?_), T.keep _ _ _ st7 fun b hb o e => (pin b hb o e).1, fun b hb => ?_, w'⟩
      · rw [← same] at e
        exact (wipe_some e).1
      · obtain ⟨o, e, _⟩ := T.obj _ _ st7 b hb
        exact (pin b hb o e).2
    cases b with
    | false =>
      simp only [Bool.false_eq_true, if_false] at q9 ⊢
      exact back I9 q9
    | true =>
      simp only [if_true] at q9 ⊢
      refine thnF (pe.run _ s9 σ8 H9 _ I9 q9) fun z s10 ⟨y, H10, I10, r10, k, S0, n0, ey, at0, room, nx⟩ => ?_
      subst ey
      exact add_text (X := X.blk s3 H3 scope ce fp) I10 at0 room r10 fun s11 I11 => back I11 nx
end
/-! ### sorted -/
section
variable {P : Program} {w : World} {A : Around} {E : Value → Shared → Prop} {s : Shared} {a : Addr} {S : PySem.Str → Bool} {n : Nat}
theorem strs_of_vals : ∀ {l : List Value}, (∀ v ∈ l, ∃ k tk, v = Value.str k tk) → ∃ zs, StrsAre l zs ∧ ∀ tk', zs = l.map fun v => keyS (tk', v)
  | [], _ => ⟨[], .nil, fun _ => rfl⟩
  | v :: l, h => by
    obtain ⟨k, tk, rfl⟩ := h v List.mem_cons_self
    obtain ⟨zs, h1, h2⟩ := strs_of_vals (l := l) fun u hu => h u (List.mem_cons_of_mem _ hu)
    exact ⟨k :: zs, .cons k tk h1, fun t => by rw [List.map_cons, ← h2 t]; rfl⟩
theorem sorted_X {Q : Value → Shared → Prop} (R : SetX P w s.heap a S n) (calm : A.handled = none) (few : n < 64)
    (want : ∀ s' p (out : Array Value) (c : Nat) (zs : List PySem.Str), (∀ b o, s.heap.get? b = some o → s'.heap.get? b = some o) → s'.gens = s.gens → s'.os = s.os → s.heap.objs.size ≤ p →
      s'.heap.get? p = some (seqObj "list" out c) → StrsAre out.toList zs → sortedS zs = true → zs.Nodup → (∀ k, k ∈ zs ↔ S k = true) → zs.length = n → Q (.ref p) s') :
    wpAny (model P w) A (call (.builtin "sorted") [.ref a]) Q E s := by
  obtain ⟨o, es, ep, t, ho, hex, hd, g, nd, hm, hb, hf, hn, hr, hl⟩ := R
  refine Calls.call_function_entry kind_sorted plain_sorted entry_sorted (args_sorted1 _) ?_
  unfold Builtin.«sorted»
  refine wpAny_bind (m := checkCount "sorted" 1 1 _) (wpAny_pure ?_)
  refine wpAny_bind (collect_set (A := A.in1) calm ⟨o, ho, hex.1, hd⟩ hf hb hr hl fun s1 vs kept size gens os perm => ?_)
  have len : vs.length = n := by rw [perm.length_eq, List.length_map, Array.length_toList]; exact hn
  obtain ⟨zs, isS, keys⟩ := strs_of_vals (l := vs) fun v hv => by
    obtain ⟨e, he, q⟩ := List.mem_map.mp (perm.mem_iff.mp hv)
    obtain ⟨k, tk, h1, _⟩ := g e he
    exact ⟨k, tk, by rw [← q]; exact h1⟩
  have permK : zs.Perm (es.toList.map keyS) := by
    rw [keys 0]
    have q := perm.map fun v => keyS (0, v)
    rw [List.map_map] at q
    exact q
  refine wpAny_bind (wpAny_newList ?_ (by rw [len, sizeLine_eq]; omega))
  have atL : (s1.heap.push (seqObj "list" vs.toArray 0)).get? s1.heap.objs.size = some (seqObj "list" vs.toArray 0) := Heap.get?_push_size _ rfl
  refine wpAny_bind (wpAny_holding (wpAny_call_entry slot_list_sort ⟨_, atL, rfl⟩ entry_list_sort (list_sort_treeK strKind_oneLt atL isS.keysOf (fun v1 v2 rest e => keyKind_strs (by rw [← e]; exact isS)) (by rw [len]; exact few) fun st' hp hs => ?_) (args_list_sort _)))
  obtain ⟨ys, g1, g2, g3⟩ := sorted_out_str isS hp hs
  obtain ⟨c, hc⟩ := sortedHeap_at (vs := vs) (out := (arrOf st').map (·.2)) atL
  have permY := g2.trans permK
  refine ⟨_, rfl, wpAny_pure ⟨_, rfl, want _ s1.heap.objs.size ((arrOf st').map (·.2)) c ys (fun b u e => ?_) gens os size hc g1 g3 (permY.nodup_iff.mpr nd) (fun k => by rw [permY.mem_iff, ← hm k]) ?_⟩⟩
  · have q := kept b u e
    have lt := Heap.lt_size q
    show (sortedHeap (s1.heap.push (seqObj "list" vs.toArray 0)) s1.heap.objs.size vs _).get? b = some u
    rw [sortedHeap_old (Nat.ne_of_lt lt) (by rw [size_push']; exact Nat.lt_succ_of_lt lt)]
    exact Heap.get?_push_of_some _ q
  · rw [permY.length_eq, List.length_map, Array.length_toList]
    exact hn
end
/-- sorted(set of texts), fewer than 64 -/
def rSortedX (P : Program) (w : World) : List V → Hp → VK → Prop := fun vs H Q => ∃ (a : Addr) (S : PySem.Str → Bool) (n : Nat), vs = [V.ref a] ∧ H a = some (SetXO P w a S n) ∧ n < 64 ∧
  ∀ (zs : List PySem.Str) (p : Addr), sortedS zs = true → zs.Nodup → (∀ k, k ∈ zs ↔ S k = true) → zs.length = n → H p = none → Q (.ref p) (upd H p (.lst (zs.map V.str)))
theorem cr_sortedX {X : Cx} (hc : X.calm = true) : CallR X (.builtin "sorted") (rSortedX X.prog X.w) := by
  intro pins s σ H vs us Q I r h
  obtain ⟨a, S, n, rfl, ha, few, q⟩ := h
  have R := setX_get I ha
  rw [Vals.ref1 r]
  refine sorted_X R (I.ok.hd hc) few fun s' p out c zs k g o hp hg hi hs nd hm hl => ?_
  have hlen : (zs.map V.str).length ≤ sizeLine := by rw [List.length_map, hl, sizeLine_eq]; omega
  have hn : H p = none := I.hok.fresh hp
  have J : Inv X pins σ (upd H p (.lst (zs.map V.str))) { s with heap := s'.heap, gens := s'.gens, drawn := s'.drawn, toks := s'.toks } :=
    I.call (ch := []) (Un.laid k hp hn) (I.hok.laid k hp ⟨hlen, out.toList, c, vals_of_strs hi, hg⟩) (by rw [g]; exact I.bare) (fun _ z => nomatch z)
  have e : s' = { s with heap := s'.heap, gens := s'.gens, drawn := s'.drawn, toks := s'.toks } := by
    cases s'
    cases s
    cases o
    rfl
  rw [e]
  exact ⟨.ref p, _, J, rfl, q zs p hs nd hm hl hn⟩
end SxT

set_option Elab.async false
set_option linter.all false
set_option maxRecDepth 100000
set_option maxHeartbeats 1000000
namespace K2
open PySem L2 Lw TL
inductive RowsAt (K : PySem.W.Frag) (a : Ad) (H : Hp) : List V → List Row0 → Prop
  | nil : RowsAt K a H [] []
  | cons {v : V} {vs : List V} {r : Row0} {rs : List Row0} : RowAt K a H v r → RowsAt K a H vs rs → RowsAt K a H (v :: vs) (r :: rs)
section
variable {K : PySem.W.Frag} {a : Ad} {H H' : Hp}
theorem RowsAt.same (s : Same H H') : ∀ {vs : List V} {rs : List Row0}, RowsAt K a H vs rs → RowsAt K a H' vs rs
  | _, _, .nil => .nil
  | _, _, .cons h t => .cons (h.same s) (RowsAt.same s t)
theorem RowsAt.len : ∀ {vs : List V} {rs : List Row0}, RowsAt K a H vs rs → vs.length = rs.length
  | _, _, .nil => rfl
  | _, _, .cons _ t => congrArg (· + 1) t.len
theorem RowsAt.at_ : ∀ {vs : List V} {rs : List Row0} {j : Nat} {v : V}, RowsAt K a H vs rs → vs[j]? = some v → ∃ r, rs[j]? = some r ∧ RowAt K a H v r
  | _, _, _, _, .nil, e => by simp at e
  | _, _, 0, _, .cons h _, e => by
    obtain rfl := Option.some.inj e
    exact ⟨_, rfl, h⟩
  | _, _, j + 1, _, .cons _ t, e => RowsAt.at_ (j := j) t (by simpa using e)
theorem RowsAt.app : ∀ {vs ws : List V} {rs qs : List Row0}, RowsAt K a H vs rs → RowsAt K a H ws qs → RowsAt K a H (vs ++ ws) (rs ++ qs)
  | _, _, _, _, .nil, h => h
  | _, _, _, _, .cons h t, q => .cons h (t.app q)
/-- the turns of a comprehension over rows -/
theorem turnsRows {i : Nat} {σ : L2.St} {tt : TT} {te : TE} (out : Row0 → Option V) {xs : List V} {rs : List Row0} (hR : RowsAt K a H xs rs) (few : xs.length ≤ 1000)
    (keep : ∀ x r y H1 (Q : VK), r ∈ rs → RowAt K a H1 x r → out r = some y → Same H H1 → (∀ H2, Same H1 H2 → Q y H2) → tt (σ.set i (some x)) H1 fun b H3 => b = true ∧ Same H1 H3 ∧ te (σ.set i (some x)) H3 Q)
    (drop : ∀ x r H1, r ∈ rs → RowAt K a H1 x r → out r = none → Same H H1 → tt (σ.set i (some x)) H1 fun b H3 => b = false ∧ Same H1 H3) : Turns H i σ xs (rs.map out) tt te := by
  refine ⟨by rw [List.length_map, hR.len], Nat.le_trans few (by decide), fun j x y H1 Q hx hy s1 q => ?_, fun j x H1 hx hy s1 => ?_⟩
  · obtain ⟨r, er, hr⟩ := hR.at_ hx
    rw [List.getElem?_map, er] at hy
    have hy : out r = some y := by simpa using hy
    exact keep x r y H1 Q (List.mem_of_getElem? er) (hr.same s1) hy s1 q
  · obtain ⟨r, er, hr⟩ := hR.at_ hx
    rw [List.getElem?_map, er] at hy
    have hy : out r = none := by simpa using hy
    exact drop x r H1 (List.mem_of_getElem? er) (hr.same s1) hy s1
theorem turnsRowsY {i : Nat} {σ : L2.St} {te : TE} (f : Row0 → V) {xs : List V} {rs : List Row0} (hR : RowsAt K a H xs rs) (few : xs.length ≤ 1000)
    (el : ∀ x r H1 (Q : VK), r ∈ rs → RowAt K a H1 x r → Same H H1 → (∀ H2, Same H1 H2 → Q (f r) H2) → te (σ.set i (some x)) H1 Q) : Turns H i σ xs (rs.map fun r => some (f r)) tYes te :=
  turnsRows (fun r => some (f r)) hR few (fun x r y H1 Q hm hr e s q => ⟨rfl, Same.refl _, el x r H1 Q hm hr s (by obtain rfl := Option.some.inj e; exact q)⟩) fun x r H1 _ _ e _ => by cases e
theorem outRows (f : Row0 → V) (rs : List Row0) : outOf (rs.map fun r => some (f r)) = rs.map f := by
  unfold outOf
  induction rs with
  | nil => rfl
  | cons d r ih =>
    rw [List.map_cons, List.map_cons, List.filterMap_cons]
    exact congrArg _ ih
theorem row_place {x dx : Addr} {fs : List (Str × V)} {r : Row0} (h : fieldsOk K H fs r) : fs.lookup ("place" : Str) = some (.str (placeR r)) := by
  cases r with
  | ask p n ws => exact h.1
  | note p w t => exact h.1
  | gate p m n e => exact h.1
  | end_ p => exact h.1
/-- [f(then) for row in rows for then in row.leads()], the row in slot 3, the place in slot 4 -/
theorem lc2_then {p : Addr} {H1 : Hp} {D : Addr} {s0 s1 s2 v3 v4 : Option V} {xs : List V} {rs : List Row0} {J : L2.It} {Qd : Hp → Prop} {wi1 : TI} {te : TE} (hJ : JA K H1 p xs J) (hR : RowsAt K a H1 xs rs) (un : H1 D = none) (f : Str → V) (few : (rs.map leadsR).flatten.length ≤ 1000)
    (walk : ∀ (x : V) (r : Row0) (H : Hp) (R : L2.It → Hp → Prop), r ∈ rs → RowAt K a H x r → Same H1 H → (∀ H' t, Same H H' → SqT K H' t ((leadsR r).map V.str) → R (Itt K t) H') → wi1 [s0, s1, s2, some x, none] H R)
    (el : ∀ (x : V) (z : Str) (H : Hp) (Q : VK), Same H1 H → (∀ H', Same H H' → Q (f z) H') → te [s0, s1, s2, some x, some (.str z)] H Q)
    (fin : ∀ H', Same H1 H' → H' D = some (.lst ((rs.map leadsR).flatten.map f)) → Qd H') :
    ∃ W : Nat → Nat → Hp → Prop, (∃ m, W 0 m (upd H1 D (.lst []))) ∧ ∀ i m H, W i m H →
      (J.stop i H ∧ Qd H) ∨ (J.go i H ∧ ∃ Nx : Hp → Prop, (∀ H', Nx H' → ∃ m', m' < m ∧ W (i + 1) m' H') ∧ ∀ x H', J.yld i H x H' → gName 3 x (wipe [s0, s1, s2, v3, v4] [3, 4]) H' fun σ2 H2 => wipe σ2 [3, 4] = wipe [s0, s1, s2, v3, v4] [3, 4] ∧ tYes σ2 H2 fun b H3 =>
        if b = true then wi1 σ2 H3 fun J1 H4 => ∃ W1 : Nat → Nat → Hp → Prop, (∃ m, W1 0 m H4) ∧ ∀ j k H, W1 j k H →
          (J1.stop j H ∧ Nx H) ∨ (J1.go j H ∧ ∃ Nx1 : Hp → Prop, (∀ H', Nx1 H' → ∃ k', k' < k ∧ W1 (j + 1) k' H') ∧ ∀ x H', J1.yld j H x H' → gName 4 x (wipe σ2 [4]) H' fun σ3 H5 => wipe σ3 [4] = wipe σ2 [4] ∧ tYes σ3 H5 fun b H6 =>
            if b = true then te σ3 H6 fun y H7 => ∃ acc, H7 D = some (.lst acc) ∧ acc.length < sizeLine ∧ Nx1 (upd H7 D (.lst (acc ++ [y]))) else Nx1 H6)
        else Nx H3) := by
  have turn : ∀ (j : Nat) (x : V) (H : Hp), xs[j]? = some x → Same H1 H → H D = some (.lst (((rs.take j).map leadsR).flatten.map f)) →
      gName 3 x (wipe [s0, s1, s2, v3, v4] [3, 4]) H fun σ2 H2 => wipe σ2 [3, 4] = wipe [s0, s1, s2, v3, v4] [3, 4] ∧ tYes σ2 H2 fun b H3 =>
        if b = true then wi1 σ2 H3 fun J1 H4 => ∃ W1 : Nat → Nat → Hp → Prop, (∃ m, W1 0 m H4) ∧ ∀ j' k H, W1 j' k H →
          (J1.stop j' H ∧ (Same H1 H ∧ H D = some (.lst (((rs.take (j + 1)).map leadsR).flatten.map f)))) ∨ (J1.go j' H ∧ ∃ Nx1 : Hp → Prop, (∀ H', Nx1 H' → ∃ k', k' < k ∧ W1 (j' + 1) k' H') ∧ ∀ x H', J1.yld j' H x H' → gName 4 x (wipe σ2 [4]) H' fun σ3 H5 => wipe σ3 [4] = wipe σ2 [4] ∧ tYes σ3 H5 fun b H6 =>
            if b = true then te σ3 H6 fun y H7 => ∃ acc, H7 D = some (.lst acc) ∧ acc.length < sizeLine ∧ Nx1 (upd H7 D (.lst (acc ++ [y]))) else Nx1 H6)
        else (Same H1 H3 ∧ H3 D = some (.lst (((rs.take (j + 1)).map leadsR).flatten.map f))) := by
    intro j x H hx sH hD
    obtain ⟨r, er, hr⟩ := hR.at_ hx
    have htk : ((rs.take (j + 1)).map leadsR).flatten.map f = ((rs.take j).map leadsR).flatten.map f ++ (leadsR r).map f := by
      rw [List.take_add_one, er, List.map_append, List.flatten_append, List.map_append]
      simp
    have bound : (((rs.take j).map leadsR).flatten.map f).length + ((leadsR r).map f).length ≤ 1000 := by
      rw [← List.length_append, ← htk, List.length_map]
      have e : (rs.map leadsR).flatten = ((rs.take (j + 1)).map leadsR).flatten ++ ((rs.drop (j + 1)).map leadsR).flatten := by rw [← List.flatten_append, ← List.map_append, List.take_append_drop]
      have := congrArg List.length e
      rw [List.length_append] at this
      omega
    refine ⟨rfl, ?_⟩
    dsimp only [tYes]
    refine iteT (walk x r H _ (List.mem_of_getElem? er) (hr.same sH) sH fun H2 t s2 ht => ?_)
    refine ⟨fun j' k H' => k = ((leadsR r).map V.str).length - j' ∧ j' ≤ ((leadsR r).map V.str).length ∧ Same H1 H' ∧ SqT K H' t ((leadsR r).map V.str) ∧ H' D = some (.lst (((rs.take j).map leadsR).flatten.map f ++ ((leadsR r).map f).take j')), ⟨((leadsR r).map V.str).length, by simp, Nat.zero_le _, sH.trans s2, ht, by simpa using s2 _ _ hD⟩, ?_⟩
    rintro j' k H' ⟨rfl, hj, s3, q, hD'⟩
    by_cases lt : j' < ((leadsR r).map V.str).length
    · refine .inr ⟨⟨_, ((leadsR r).map V.str)[j'], q, by simp [lt]⟩, fun H'' => Same H1 H'' ∧ SqT K H'' t ((leadsR r).map V.str) ∧ H'' D = some (.lst (((rs.take j).map leadsR).flatten.map f ++ ((leadsR r).map f).take (j' + 1))), fun H'' z => ⟨((leadsR r).map V.str).length - (j' + 1), by omega, rfl, lt, z⟩, fun y H'' yy => ?_⟩
      obtain ⟨e, yy⟩ := yy
      subst e
      have ey := yy _ q
      rw [List.getElem?_map] at ey
      obtain ⟨z, ez, rfl⟩ := Option.map_eq_some_iff.mp ey
      refine ⟨rfl, ?_⟩
      dsimp only [tYes]
      refine iteT (el x z _ _ s3 fun H4 s4 => ⟨_, s4 _ _ hD', ?_, fun b o eb => ?_, tup_off (s4 _ _ hD') (same_tup s4 q), ?_⟩)
      · rw [List.length_append, List.length_take]
        exact Nat.lt_of_le_of_lt (show _ ≤ 100000 by omega) (by decide)
      · rw [upd_ne (ne_of_none eb un)]
        exact s4 _ _ (s3 _ _ eb)
      · rw [upd_same, List.take_add_one, List.getElem?_map, ez, List.append_assoc]
        rfl
    · have e : j' = ((leadsR r).map V.str).length := by omega
      subst e
      rw [List.length_map, ← List.length_map (f := f), List.take_length] at hD'
      exact .inl ⟨⟨_, q, Nat.le_refl _⟩, s3, by rw [htk]; exact hD'⟩
  have len := hR.len
  refine ⟨fun j m H' => m = xs.length - j ∧ j ≤ xs.length ∧ Same H1 H' ∧ H' D = some (.lst (((rs.take j).map leadsR).flatten.map f)), ⟨xs.length, by simp, Nat.zero_le _, same_new un, by rw [upd_same]; simp⟩, ?_⟩
  rintro j m H' ⟨rfl, hj, s1', hD⟩
  have done : j = xs.length → Qd H' := fun e => fin H' s1' (by rwa [e, len, List.take_length] at hD)
  cases hJ with
  | l hs =>
    have q : SqL K H' p xs := s1'.seq hs
    by_cases lt : j < xs.length
    · refine .inr ⟨⟨xs, xs[j], q, by simp [lt]⟩, fun H' => Same H1 H' ∧ H' D = some (.lst (((rs.take (j + 1)).map leadsR).flatten.map f)), fun H' p' => ⟨xs.length - (j + 1), by omega, rfl, lt, p'⟩, fun x H'' y => ?_⟩
      obtain ⟨e, y⟩ := y
      subst e
      exact turn j x _ (y xs q) s1' hD
    · have e : j = xs.length := by omega
      exact .inl ⟨⟨xs, q, Nat.le_of_eq e.symm⟩, done e⟩
  | t hs =>
    have q : SqT K H' p xs := same_tup s1' hs
    by_cases lt : j < xs.length
    · refine .inr ⟨⟨xs, xs[j], q, by simp [lt]⟩, fun H' => Same H1 H' ∧ H' D = some (.lst (((rs.take (j + 1)).map leadsR).flatten.map f)), fun H' p' => ⟨xs.length - (j + 1), by omega, rfl, lt, p'⟩, fun x H'' y => ?_⟩
      obtain ⟨e, y⟩ := y
      subst e
      exact turn j x _ (y xs q) s1' hD
    · have e : j = xs.length := by omega
      exact .inl ⟨⟨xs, q, Nat.le_of_eq e.symm⟩, done e⟩
end
end K2

set_option Elab.async false
set_option linter.all false
set_option maxRecDepth 100000
set_option maxHeartbeats 1000000
namespace K2
open PySem L2 Lw TL
def strD : PyData → Str
  | .str z => z
  | _ => Str.empty
def unlikeL (ds : List PyData) : Bool := ds.all nameD && decide ((ds.map strD).Nodup)
def unlikeD : PyData → Bool
  | .list ds => unlikeL ds
  | .tuple ds => unlikeL ds
  | _ => false
theorem names_are {ds : List PyData} (h : ds.all nameD = true) : ds = (ds.map strD).map PyData.str := by
  induction ds with
  | nil => rfl
  | cons d r ih =>
    rw [List.all_cons, Bool.and_eq_true] at h
    rw [List.map_cons, List.map_cons, ← ih h.2]
    cases d with
    | str z => rfl
    | _ => exact absurd h.1 (by simp [nameD])
theorem ty_seq {K : PySem.W.Frag} {H : Hp} {p : Addr} {xs : List V} (hs : SqA K H p xs) : ∃ d : PyData, TyX K H (.ref p) (.type (tyD d)) ∧ isSeq d = true ∧ (∀ kvs, d ≠ .dict kvs) := by
  rcases hs with hs | hs
  · refine ⟨.list [], ?_, rfl, fun _ z => by cases z⟩
    rcases hs with (hs | ⟨o, hs⟩) | ⟨o, _, _, hs, hc, _⟩
    · exact .base (.lst hs)
    · exact .base (.frz hs)
    · exact .kList hs hc
  · refine ⟨.tuple [], ?_, rfl, fun _ z => by cases z⟩
    rcases hs with (hs | ⟨o, hs⟩) | ⟨o, _, _, hs, hc, _⟩
    · exact .base (.tup hs)
    · exact .fTuple hs
    · exact .kTuple hs hc
def spUnlike (K : PySem.W.Frag) : Sp := fun vs H Q _ => ∃ (v : V) (d : PyData), vs = [v] ∧ Dp K H v d ∧ fine d = true ∧ ∀ H', Same H H' → Q (.bl (unlikeD d)) H'
def spAreRows (K : PySem.W.Frag) (a : Ad) : Sp := fun vs H Q _ => ∃ (p : Addr) (xs : List V) (rs : List Row0), vs = [.ref p] ∧ SqA K H p xs ∧ RowsAt K a H xs rs ∧ rs.length ≤ 1000 ∧ ∀ H', Same H H' → Q (.bl (!rs.isEmpty)) H'
section
open Hd
variable {P : Program} {w : World} {K : PySem.W.Frag} {mg : Str → Option Value} {base : Heap} {a : Ad} {fEq fStr : Addr} {dEq dStr : FuncData}
theorem scUn : FnScope ["value", "name"] ["value"] (defScope sUnlike) := ⟨rfl, rfl, rfl, by decide +kernel, rfl, by decide +kernel, by decide +kernel⟩
theorem scAR : FnScope ["value", "row"] ["value"] (defScope sAreRows) := ⟨rfl, rfl, rfl, by decide +kernel, rfl, by decide +kernel, by decide +kernel⟩
theorem okUnlike (T : Txt K mg a) {f : Addr} {fd : FuncData} (F : Fun K "are_unlike_names" "are_unlike_names" sUnlike f fd) : FnOk P w K mg base CX0 2 f fd ["value"] (spUnlike K) := by
  refine F.ok scUn (fun vs H Q E h => ?_) (fun cdv A outer s H vs Q E hr h => ?_)
  · obtain ⟨v, d, rfl, _⟩ := h
    rfl
  · obtain ⟨v, d, rfl, hd, hz, fin⟩ := h
    refine ⟨_, pss_cons (ps_if (PW.pt (pw_or (pt_not (pt_val (pe_callB call_isiT (by rfl) T.tIs PyProof.Rows.boot_isinstance (pa_cons (pv 0) (pa_cons (pe_tup (pa_cons (pe_bltn (v := .ty "list") (by rfl) T.tList PyProof.Rows.boot_list rfl) (pa_cons (pe_bltn (v := .ty "tuple") (by rfl) T.tTuple PyProof.Rows.boot_tuple rfl) pa_nil))) pa_nil)))))
        (pw_or1 (pt_not (pt_val (pe_callB (cr_all rfl) (by rfl) T.tAll PyProof.Rows.boot_all (pa_cons (pe_lc (own := [("name", 1)]) (g := gName 1) (tt := tYes) (by rfl) scUn.nd (pi_seq (pv 0))
          (blkOk_by (own := [("name", 1)]) (N := ["value", "name"]) (sc := defScope sUnlike) (by decide +kernel)) (fun _ _ _ _ _ => pg_name (i := 1) scUn.nd rfl (Or.inl rfl)) (fun _ _ _ _ _ => pts_nil)
          (fun _ _ _ _ _ => pe_call T.okN hr rfl T.isName.g T.isName.F.kp T.isName.b .nil pass0 (pa_cons (pv 1) pa_nil))) pa_nil))))))) (pss_one (ps_ret pe_bl)) pss_nil)
      (pss_one (ps_ret (pe_cmpR op_eq (pe_callB Sx.cr_lenK (by rfl) T.tLen PySem.boot_len (pa_cons (pe_callTy (Sx.cr_setOf rfl) (by rfl) T.tSet (by decide +kernel) (pa_cons (pv 0) pa_nil)) pa_nil)) (pe_callB call_len_seq (by rfl) T.tLen PySem.boot_len (pa_cons (pv 0) pa_nil)) (nomark _)))), ?_⟩
    refine ⟨_, rfl, (by show 2 ≤ sizeLine; decide), fun tp hp => ?_⟩
    have s0 : Same H (upd H tp (.tup [.ty "list", .ty "tuple"])) := same_new hp
    have hd0 := dp_same s0 _ _ hd
    refine ⟨v, tp, _, _, _, _, rfl, upd_same, .cons (.ty "list") (.cons (.ty "tuple") .nil), ty_data hd0, kit_seq (no_dict hd), _, rfl, ?_⟩
    rcases seqOr hd hz with ⟨p, xs, ds, rfl, hs, ha, few, hf, es, ed⟩ | es
    · rw [es]
      have el := dpAll_len ha
      have hs0 := hs.same s0
      have ha0 := dpAll_same s0 _ _ ha
      have ew : unlikeD d = unlikeL ds := by rcases ed with rfl | rfl <;> rfl
      rw [ew] at fin
      refine iteF (seq_run rfl hs0 fun J hJ D un => lc_of_J (ds.map fun d => some (.bl (nameD d))) hJ un (turnsData (fun d => .bl (nameD d)) ha0 (el ▸ few) fun x d H2 Q2 _ hm hx _ q => ?_) mono_yes fun H1 s1 h1 => ?_)
      · exact ⟨_, rfl, x, d, rfl, hx, fineAll_mem hf hm, q⟩
      · rw [outData] at h1
        have e1 : ds.map (fun d => V.bl (nameD d)) = (ds.map nameD).map V.bl := by rw [List.map_map]; rfl
        rw [e1] at h1
        refine ⟨D, _, rfl, SqL.of h1, _, rfl, ?_⟩
        have e2 : (ds.map nameD).all id = ds.all nameD := by rw [List.all_map]; rfl
        rw [e2]
        have s01 := s0.trans s1
        cases ea : ds.all nameD with
        | false =>
          refine iteT ?_
          have z := fin _ s01
          rwa [show unlikeL ds = false from by rw [unlikeL, ea, Bool.false_and]] at z
        | true =>
          refine iteF ?_
          have eds := names_are ea
          have hxs : xs = (ds.map strD).map V.str := by
            rw [eds] at ha0
            exact strs_of ha0
          have hks : xs = ((ds.map strD).map (Sum.inr : Str → Key)).map kV := by
            rw [hxs]
            simp only [List.map_map]
            rfl
          have hs1 := hs0.same s1
          refine ⟨_, rfl, p, (ds.map strD).map Sum.inr, rfl, by rw [← hks]; exact hs1, by rw [List.length_map, List.length_map]; omega, fun D2 u2 => ?_⟩
          have s2 := same_new (o := SetK P w D2 (fun k => decide (k ∈ (ds.map strD).map (Sum.inr : Str → Key))) (Sx.nub ((ds.map strD).map Sum.inr)).length) u2
          refine ⟨D2, _, _, rfl, upd_same, _, rfl, p, xs, rfl, hs1.same s2, rfl, ?_⟩
          rw [dec_int]
          have z := fin _ (s01.trans s2)
          have e3 : unlikeL ds = (((Sx.nub ((ds.map strD).map (Sum.inr : Str → Key))).length : Int) == (xs.length : Int)) := by
            rw [unlikeL, ea, Bool.true_and, Bool.eq_iff_iff]
            have e5 := Sx.nub_nodup_iff (l := (ds.map strD).map (Sum.inr : Str → Key))
            rw [nodup_keys, List.length_map, List.length_map] at e5
            rw [decide_eq_true_iff, ← e5, beq_iff_eq, el]
            omega
          rwa [e3] at z
    · rw [es]
      have ew : unlikeD d = false := by
        cases d with
        | list _ => cases es
        | tuple _ => cases es
        | _ => rfl
      have z := fin _ s0
      rw [ew] at z
      exact iteT (iteT z)
theorem okAreRows (T : Txt K mg a) (R : RowF K a fEq fStr dEq dStr) {f : Addr} {fd : FuncData} (F : Fun K "_are_rows" "_are_rows" sAreRows f fd) : FnOk P w K mg base CX0 1 f fd ["value"] (spAreRows K a) := by
  refine F.ok scAR (fun vs H Q E h => ?_) (fun cdv A outer s H vs Q E hr h => ?_)
  · obtain ⟨p, xs, rs, rfl, _⟩ := h
    rfl
  · obtain ⟨p, xs, rs, rfl, hs, hR, few, fin⟩ := h
    refine ⟨_, pss_cons (ps_if (PW.pt (pw_or (pt_not (pt_val (pe_callB call_isiT (by rfl) T.tIs PyProof.Rows.boot_isinstance (pa_cons (pv 0) (pa_cons (pe_tup (pa_cons (pe_bltn (v := .ty "list") (by rfl) T.tList PyProof.Rows.boot_list rfl) (pa_cons (pe_bltn (v := .ty "tuple") (by rfl) T.tTuple PyProof.Rows.boot_tuple rfl) pa_nil))) pa_nil)))))
        (pw_or1 (pt_cmpR op_eq (pe_callB call_len_seq (by rfl) T.tLen PySem.boot_len (pa_cons (pv 0) pa_nil)) pe_int (nomark _))))) (pss_one (ps_ret pe_bl)) pss_nil)
      (pss_one (ps_ret (pe_callB (cr_all rfl) (by rfl) T.tAll PyProof.Rows.boot_all (pa_cons (pe_lc (own := [("row", 1)]) (g := gName 1) (tt := tYes) (te := tCB (rIsi K) (tCons (tVar 1) (tCons (tC (.ref a.cRow)) tNil))) (by rfl) scAR.nd (pi_seq (pv 0))
          (blkOk_by (own := [("row", 1)]) (N := ["value", "row"]) (sc := defScope sAreRows) (by decide +kernel)) (fun _ _ _ _ _ => pg_name (i := 1) scAR.nd rfl (Or.inl rfl)) (fun _ _ _ _ _ => pts_nil)
          (fun _ _ _ _ _ => pe_callB call_isi (by rfl) T.tIs PyProof.Rows.boot_isinstance (pa_cons (pv 1) (pa_cons (pe_glob (v := .ref a.cRow) (by rfl) T.row.g rfl) pa_nil)))) pa_nil)))), ?_⟩
    refine ⟨_, rfl, (by show 2 ≤ sizeLine; decide), fun tp hp => ?_⟩
    have s0 : Same H (upd H tp (.tup [.ty "list", .ty "tuple"])) := same_new hp
    have hs0 := hs.same s0
    have hR0 := hR.same s0
    obtain ⟨d, ty, isq, nodict⟩ := ty_seq hs0
    refine ⟨.ref p, tp, _, _, _, _, rfl, upd_same, .cons (.ty "list") (.cons (.ty "tuple") .nil), ty, kit_seq nodict, _, rfl, ?_⟩
    rw [isq]
    refine iteF ⟨_, rfl, p, xs, rfl, hs0, rfl, _, rfl, ?_⟩
    rw [dec_int]
    have el := hR.len
    cases rs with
    | nil =>
      have e : xs.length = 0 := el
      rw [show ((xs.length : Int) == 0) = true from by simpa using e]
      exact iteT (fin _ s0)
    | cons r0 rs0 =>
      rw [List.length_cons] at el
      rw [show ((xs.length : Int) == 0) = false from by simpa using (by omega : (xs.length : Int) ≠ 0)]
      refine iteF (seq_run rfl hs0 fun J hJ D un => lc_of_J ((r0 :: rs0).map fun _ => some (.bl true)) hJ un (turnsRowsY (fun _ => .bl true) hR0 (by rw [List.length_cons] at few; omega) fun x r H1 Q1 _ hr1 _ q => ?_) mono_yes fun H1 s1 h1 => ?_)
      · obtain ⟨y, dy, fs, rfl, hy, hf, hb⟩ := hr1.ex
        exact ⟨_, rfl, _, _, _, _, _, rfl, .own a.cRow, R.ty (cls_mem r) hy, R.row _ (cls_mem r), q _ (Same.refl _)⟩
      · rw [outRows] at h1
        have e1 : (r0 :: rs0).map (fun _ => V.bl true) = ((r0 :: rs0).map fun _ => true).map V.bl := by rw [List.map_map]; rfl
        rw [e1] at h1
        refine ⟨D, _, rfl, SqL.of h1, ?_⟩
        have e2 : ((r0 :: rs0).map fun _ => true).all id = true := by
          rw [List.all_map, List.all_eq_true]
          intro x _
          rfl
        rw [e2]
        exact fin _ (s0.trans s1)
end
end K2

set_option Elab.async false
set_option linter.all false
set_option maxRecDepth 100000
set_option maxHeartbeats 1000000
namespace K2
open PySem L2 Lw TL
/-! ### comprehensions over rows, the rows themselves kept -/
def outZ (c : Row0 → Bool) (f : V → Row0 → V) : List V → List Row0 → List (Option V)
  | x :: xs, r :: rs => (if c r then some (f x r) else none) :: outZ c f xs rs
  | _, _ => []
theorem outZ_len {c : Row0 → Bool} {f : V → Row0 → V} : ∀ {xs : List V} {rs : List Row0}, xs.length = rs.length → (outZ c f xs rs).length = xs.length
  | [], [], _ => rfl
  | _ :: xs, _ :: rs, h => by
    have ih := outZ_len (c := c) (f := f) (xs := xs) (rs := rs) (by simpa using h)
    simp [outZ, ih]
theorem outZ_at {c : Row0 → Bool} {f : V → Row0 → V} : ∀ {xs : List V} {rs : List Row0} {j : Nat} {x : V} {r : Row0}, xs[j]? = some x → rs[j]? = some r → (outZ c f xs rs)[j]? = some (if c r then some (f x r) else none)
  | x :: xs, r :: rs, 0, _, _, h1, h2 => by
    obtain rfl := Option.some.inj h1
    obtain rfl := Option.some.inj h2
    rfl
  | x :: xs, r :: rs, j + 1, _, _, h1, h2 => outZ_at (xs := xs) (rs := rs) (j := j) (by simpa using h1) (by simpa using h2)
  | [], _, _, _, _, h1, _ => by simp at h1
  | _ :: _, [], _, _, _, _, h2 => by simp at h2
/-- what is read off the rows kept -/
theorem outZ_read (c : Row0 → Bool) (g : Row0 → V) : ∀ {xs : List V} {rs : List Row0}, xs.length = rs.length → outOf (outZ c (fun _ r => g r) xs rs) = (rs.filter c).map g
  | [], [], _ => rfl
  | x :: xs, r :: rs, h => by
    have ih := outZ_read c g (xs := xs) (rs := rs) (by simpa using h)
    unfold outOf at ih ⊢
    cases e : c r with
    | true => simp [outZ, e, ih]
    | false => simp [outZ, e, ih]
section
variable {K : PySem.W.Frag} {a : Ad} {H H1 : Hp}
/-- the rows kept -/
theorem outZ_rows (c : Row0 → Bool) : ∀ {xs : List V} {rs : List Row0}, RowsAt K a H xs rs → RowsAt K a H (outOf (outZ c (fun x _ => x) xs rs)) (rs.filter c)
  | _, _, .nil => .nil
  | _, _, .cons (v := v) (vs := vs) (r := r) (rs := rs) h t => by
    have ih := outZ_rows c t
    unfold outOf at ih ⊢
    cases e : c r with
    | true =>
      simp only [outZ, e, if_true, List.filterMap_cons, id, List.filter_cons_of_pos e]
      exact .cons h ih
    | false =>
      rw [List.filter_cons_of_neg (by simp [e])]
      simpa [outZ, e] using ih
theorem rows_J {p : Addr} {D : Addr} {i : Nat} {σ : L2.St} {xs : List V} {rs : List Row0} {J : L2.It} {Qd : Hp → Prop} {tt : TT} {te : TE} (c : Row0 → Bool) (f : V → Row0 → V) (hJ : JA K H1 p xs J) (hR : RowsAt K a H1 xs rs) (few : rs.length ≤ 1000) (un : H1 D = none)
    (test : ∀ x r H (R : Bool → Hp → Prop), r ∈ rs → RowAt K a H x r → Same H1 H → (∀ H', Same H H' → R (c r) H') → tt ((σ.set i none).set i (some x)) H R)
    (el : ∀ x r H (Q : VK), r ∈ rs → c r = true → RowAt K a H x r → Same H1 H → (∀ H', Same H H' → Q (f x r) H') → te ((σ.set i none).set i (some x)) H Q)
    (fin : ∀ H', Same H1 H' → H' D = some (.lst (outOf (outZ c f xs rs))) → Qd H') :
    ∃ W : Nat → Nat → Hp → Prop, (∃ m, W 0 m (upd H1 D (.lst []))) ∧ ∀ i' m H, W i' m H →
      (J.stop i' H ∧ Qd H) ∨ (J.go i' H ∧ ∃ Nx : Hp → Prop, (∀ H', Nx H' → ∃ m', m' < m ∧ W (i' + 1) m' H') ∧ ∀ x H', J.yld i' H x H' → gName i x (wipe σ [i]) H' fun σ2 H2 => wipe σ2 [i] = wipe σ [i] ∧ tt σ2 H2 fun b H3 =>
        if b = true then te σ2 H3 fun y H4 => ∃ acc, H4 D = some (.lst acc) ∧ acc.length < sizeLine ∧ Nx (upd H4 D (.lst (acc ++ [y]))) else Nx H3) := by
  have len := hR.len
  have lz := outZ_len (c := c) (f := f) len
  have turn : ∀ (j : Nat) (x : V) (H : Hp), xs[j]? = some x → Same H1 H → H D = some (.lst (outOf ((outZ c f xs rs).take j))) →
      gName i x (wipe σ [i]) H fun σ2 H2 => wipe σ2 [i] = wipe σ [i] ∧ tt σ2 H2 fun b H3 =>
        if b = true then te σ2 H3 fun y H4 => ∃ acc, H4 D = some (.lst acc) ∧ acc.length < sizeLine ∧ (Same H1 (upd H4 D (.lst (acc ++ [y]))) ∧ (upd H4 D (.lst (acc ++ [y]))) D = some (.lst (outOf ((outZ c f xs rs).take (j + 1))))) else (Same H1 H3 ∧ H3 D = some (.lst (outOf ((outZ c f xs rs).take (j + 1))))) := by
    intro j x H hx s1 hD
    obtain ⟨r, er, hr⟩ := hR.at_ hx
    have ho := outZ_at (c := c) (f := f) hx er
    have hm := List.mem_of_getElem? er
    refine ⟨by simp [wipe], ?_⟩
    show tt ((σ.set i none).set i (some x)) H _
    refine test x r H _ hm (hr.same s1) s1 fun H3 s3 => ?_
    cases e : c r with
    | false =>
      rw [e] at ho
      refine iteF ⟨s1.trans s3, ?_⟩
      rw [outOf_take ho]
      simpa using s3 _ _ hD
    | true =>
      rw [e] at ho
      refine iteT (el x r H3 _ hm e (hr.same (s1.trans s3)) (s1.trans s3) fun H4 s4 => ⟨_, s4 _ _ (s3 _ _ hD), ?_, fun b o eb => ?_, ?_⟩)
      · have := outOf_len ((outZ c f xs rs).take j)
        rw [List.length_take] at this
        exact Nat.lt_of_le_of_lt (show _ ≤ 1000 by omega) (by decide)
      · rw [upd_ne (ne_of_none eb un)]
        exact s4 _ _ (s3 _ _ (s1 _ _ eb))
      · rw [upd_same, outOf_take ho]
        rfl
  cases hJ with
  | l hl =>
    refine lc_list (K := K) (a := p) (xs := xs) (fun j H => Same H1 H ∧ H D = some (.lst (outOf ((outZ c f xs rs).take j)))) ⟨same_new un, by rw [upd_same, outOf_zero]⟩ (fun j H _ q => q.1.seq hl) (fun j x H hx q => turn j x H hx q.1 q.2) fun H q => fin H q.1 ?_
    have q2 := q.2
    rw [← lz, List.take_length] at q2
    exact q2
  | t hl =>
    refine lc_tup (K := K) (a := p) (xs := xs) (fun j H => Same H1 H ∧ H D = some (.lst (outOf ((outZ c f xs rs).take j)))) ⟨same_new un, by rw [upd_same, outOf_zero]⟩ (fun j H _ q => same_tup q.1 hl) (fun j x H hx q => turn j x H hx q.1 q.2) fun H q => fin H q.1 ?_
    have q2 := q.2
    rw [← lz, List.take_length] at q2
    exact q2
end
/-! ### rings -/
def noteB : Row0 → Bool | .note _ _ _ => true | _ => false
def gateB : Row0 → Bool | .gate _ _ _ _ => true | _ => false
def askB : Row0 → Bool | .ask _ _ _ => true | _ => false
def onB (r : Row0) : Bool := noteB r || gateB r
def keptF (left : List Row0) : List Row0 := left.filter fun r => (leadsR r).any fun z => decide (z ∈ left.map placeR)
theorem kept_le (left : List Row0) : (keptF left).length ≤ left.length := List.length_filter_le _ _
def ringN : Nat → List Row0 → Bool
  | 0, left => !left.isEmpty
  | n + 1, left => if (keptF left).length = left.length then !left.isEmpty else ringN n (keptF left)
def ringF (rs : List Row0) : Bool := ringN (rs.filter onB).length (rs.filter onB)
/-- enough turns are enough -/
theorem ringN_more : ∀ (n m : Nat) (left : List Row0), left.length ≤ n → left.length ≤ m → ringN n left = ringN m left
  | 0, 0, _, _, _ => rfl
  | 0, m + 1, left, h, _ => by
    obtain rfl : left = [] := List.eq_nil_of_length_eq_zero (by omega)
    rfl
  | n + 1, 0, left, _, h => by
    obtain rfl : left = [] := List.eq_nil_of_length_eq_zero (by omega)
    rfl
  | n + 1, m + 1, left, h1, h2 => by
    rw [ringN, ringN]
    by_cases e : (keptF left).length = left.length
    · rw [if_pos e, if_pos e]
    · rw [if_neg e, if_neg e]
      have := kept_le left
      exact ringN_more n m (keptF left) (by omega) (by omega)
theorem ring_stop {left : List Row0} (e : (keptF left).length = left.length) : ringN left.length left = !left.isEmpty := by
  cases left with
  | nil => rfl
  | cons r l =>
    rw [List.length_cons] at e
    rw [List.length_cons, ringN, if_pos (by rw [List.length_cons]; exact e)]
theorem ring_go {left : List Row0} (e : (keptF left).length ≠ left.length) : ringN left.length left = ringN (keptF left).length (keptF left) := by
  cases left with
  | nil => exact absurd rfl e
  | cons r l =>
    have := kept_le (r :: l)
    rw [List.length_cons] at e this ⊢
    rw [ringN, if_neg (by rw [List.length_cons]; exact e)]
    exact ringN_more _ _ _ (by omega) (Nat.le_refl _)
theorem inV_strs (z : Str) (zs : List Str) : inV (.str z) (zs.map V.str) = decide (z ∈ zs) := by
  rw [Bool.eq_iff_iff, decide_eq_true_iff]
  unfold inV
  rw [List.any_eq_true]
  constructor
  · rintro ⟨y, hy, e⟩
    obtain ⟨k, hk, rfl⟩ := List.mem_map.mp hy
    have e : (k == z) = true := e
    rw [← eq_of_beq e]
    exact hk
  · exact fun h => ⟨_, List.mem_map_of_mem h, by simp [eqV]⟩
theorem flat_strs (zs : List Str) : (zs.map V.str).all flatV = true := by
  rw [List.all_eq_true]
  intro x hx
  obtain ⟨k, _, rfl⟩ := List.mem_map.mp hx
  rfl
/-- what the edition's file asks of its names -/
structure EdN (K : PySem.W.Frag) (mg : Str → Option Value) (a : Ad) : Prop where
  any : mg "any" = none
  sorted : mg "sorted" = none
  note : ∀ r : Row0, PySem.W.kitOne K (.ref (clsR a r)) (.ref a.cNote) = some (noteB r)
  gate : ∀ r : Row0, PySem.W.kitOne K (.ref (clsR a r)) (.ref a.cGate) = some (gateB r)
  ask : ∀ r : Row0, PySem.W.kitOne K (.ref (clsR a r)) (.ref a.cAsk) = some (askB r)
end K2

set_option Elab.async false
set_option linter.all false
set_option maxRecDepth 100000
set_option maxHeartbeats 1000000
namespace K2
open PySem L2 Lw TL
def spRing (K : PySem.W.Frag) (a : Ad) : Sp := fun vs H Q _ => ∃ (p : Addr) (xs : List V) (rs : List Row0), vs = [.ref p] ∧ SqA K H p xs ∧ RowsAt K a H xs rs ∧ (∀ r ∈ rs, RowGood r) ∧ rs.length ≤ 1000 ∧ ∀ H', Same H H' → Q (.bl (ringF rs)) H'
abbrev nRing : List Str := ["rows", "left", "places", "kept", "row", "then"]
def bodyOf : Stmt → List Stmt
  | .FunctionDef (body := b) .. => b
  | .While _ b _ _ => b
  | _ => []
def valOf : Stmt → Expr
  | .Assign _ v _ => v
  | e => default
def ifOf : Expr → Expr
  | .ListComp _ [c] _ _ => c.ifs.headD default
  | e => e
def scOf : Expr → Scope
  | .ListComp _ _ s _ => s
  | _ => default
abbrev tIsi (K : PySem.W.Frag) (i : Nat) (C : Addr) : TT := tB (tCB (rIsi K) (tCons (tVar i) (tCons (tC (.ref C)) tNil)))
abbrev tOn (K : PySem.W.Frag) (a : Ad) (i : Nat) : TT := tOr (tIsi K i a.cNote) (tIsi K i a.cGate)
section
variable {P : Program} {w : World} {K : PySem.W.Frag} {mg : Str → Option Value} {base : Heap} {a : Ad} {fEq fStr : Addr} {dEq dStr : FuncData} {fR fA fN fG : Addr} {dR dA dN dG : FuncData}
theorem leads_few {r : Row0} (g : RowGood r) : (leadsR r).length ≤ 100000 := by
  cases r with
  | ask p n ws =>
    have few : ws.length ≤ 3 := g.2.2.2.1
    show (ws.map _).length ≤ _
    rw [List.length_map]
    omega
  | note p w t => show 1 ≤ 100000; decide
  | gate p m n e => show 2 ≤ 100000; decide
  | end_ p => show 0 ≤ 100000; decide
theorem scRing : FnScope nRing ["rows"] (defScope sRing) := ⟨rfl, rfl, rfl, by decide +kernel, rfl, by decide +kernel, by decide +kernel⟩
theorem okRing (T : Txt K mg a) (R : RowF K a fEq fStr dEq dStr) (L : LeadsF K a fR fA fN fG dR dA dN dG) (N : EdN K mg a) {f : Addr} {fd : FuncData} (F : Fun K "_has_ring" "_has_ring" sRing f fd) : FnOk P w K mg base CX0 2 f fd ["rows"] (spRing K a) := by
  refine F.ok scRing (fun vs H Q E h => ?_) (fun cdv A outer s H vs Q E hr h => ?_)
  · obtain ⟨p, xs, rs, rfl, _⟩ := h
    rfl
  · obtain ⟨p, xs, rs, rfl, hs, hR, gr, few, fin⟩ := h
    refine ⟨_, pss_cons (ps_setLc (i := 1) (own := [("row", 4)]) (g := gName 4) (tt := tOn K a 4) (te := tVar 4) (by rfl) scRing.nd rfl rfl (sw_true rfl rfl rfl (by decide +kernel)) (pi_seq (pv 0))
          (blkOk_by (own := [("row", 4)]) (N := nRing) (sc := defScope sRing) (by decide +kernel)) (fun _ _ _ _ _ => pg_name (i := 4) scRing.nd rfl (Or.inl rfl))
          (fun _ _ _ _ _ => pts_one (PW.pt (pw_or (pt_val (pe_callB call_isi (by rfl) T.tIs PyProof.Rows.boot_isinstance (pa_cons (pv 4) (pa_cons (pe_glob (v := .ref a.cNote) (by rfl) T.note.g rfl) pa_nil)))) (pw_or1 (pt_val (pe_callB call_isi (by rfl) T.tIs PyProof.Rows.boot_isinstance (pa_cons (pv 4) (pa_cons (pe_glob (v := .ref a.cGate) (by rfl) T.gate.g rfl) pa_nil))))))))
          (fun _ _ _ _ _ => pv 4))
      (pss_one (ps_while PassesOwn.never (pt_val pe_bl)
        (pss_cons (ps_set (i := 2) scRing.nd rfl (Or.inr rfl) (pe_lc (own := [("row", 4)]) (g := gName 4) (tt := tYes) (te := tFld K (tVar 4) "place") (by rfl) scRing.nd (pi_list (pv 1))
          (blkOk_by (own := [("row", 4)]) (N := nRing) (sc := defScope sRing) (by decide +kernel)) (fun _ _ _ _ _ => pg_name (i := 4) scRing.nd rfl (Or.inl rfl)) (fun _ _ _ _ _ => pts_nil)
          (fun _ _ _ _ _ => pe_fld (pv 4) rfl)))
        (pss_cons (ps_setLc (i := 3) (own := [("row", 4)]) (g := gName 4) (tt := tB (tCB (rAny K) (tCons (tLc (iTup K (tLeads K a (tVar 4))) (gName 5) tYes (tOp (rIn K false) (tVar 5) (tVar 2)) [5]) tNil))) (te := tVar 4) (by rfl) scRing.nd rfl rfl (sw_true rfl rfl rfl (by decide +kernel)) (pi_list (pv 1))
          (blkOk_by (own := [("row", 4)]) (N := nRing) (sc := defScope sRing) (by decide +kernel)) (fun _ _ _ _ _ => pg_name (i := 4) scRing.nd rfl (Or.inl rfl))
          (fun _ _ _ _ _ => pts_one (pt_val (pe_callB (cr_any rfl) (by rfl) N.any PyProof.Rows.boot_any (pa_cons (pe_lc (own := [("then", 5)]) (g := gName 5) (tt := tYes) (te := tOp (rIn K false) (tVar 5) (tVar 2)) (by rfl) scRing.nd (pi_tup (pe_leads L T (pv 4) hr))
            (blkOk_by (own := [("then", 5)]) (N := nRing) (by rfl)) (fun _ _ _ _ _ => pg_name (i := 5) scRing.nd rfl (Or.inl rfl)) (fun _ _ _ _ _ => pts_nil)
            (fun _ _ _ _ _ => pe_cmpR op_in_seq (pv 5) (pv 2) rfl)) pa_nil))))
          (fun _ _ _ _ _ => pv 4))
        (pss_cons (ps_if (pt_cmpR op_eq (pe_callB call_len_seq (by rfl) T.tLen PySem.boot_len (pa_cons (pv 3) pa_nil)) (pe_callB call_len_seq (by rfl) T.tLen PySem.boot_len (pa_cons (pv 1) pa_nil)) (nomark _))
          (pss_one (ps_ret (pe_cmpR op_gt (pe_callB call_len_seq (by rfl) T.tLen PySem.boot_len (pa_cons (pv 1) pa_nil)) pe_int (nomark _)))) pss_nil)
        (pss_one (ps_set (i := 1) scRing.nd rfl (Or.inl rfl) (pv 3)))))))), ?_⟩
    refine seq_run rfl hs fun J hJ D un => rows_J onB (fun x _ => x) hJ hR few un (fun x r H1 R1 hm hx s1 k => ?_) (fun x r H1 Q1 hm e hx s1 k => ⟨_, rfl, k _ (Same.refl _)⟩) fun H1 s1 h1 => ?_
    · obtain ⟨y, dy, fs, rfl, hy, hf, hb⟩ := hx.ex
      refine ⟨_, rfl, _, _, _, _, _, rfl, .own a.cNote, R.ty (cls_mem r) hy, N.note r, _, rfl, ?_⟩
      have k0 := k _ (Same.refl _)
      cases e : noteB r with
      | true =>
        refine iteT ?_
        rwa [onB, e, Bool.true_or] at k0
      | false =>
        refine iteF ⟨_, rfl, _, _, _, _, _, rfl, .own a.cGate, R.ty (cls_mem r) hy, N.gate r, _, rfl, ?_⟩
        rwa [onB, e, Bool.false_or] at k0
    · have hR1 := outZ_rows onB (hR.same s1)
      refine ⟨fun c σ H2 => ∃ (q : Addr) (ys : List V) (left : List Row0) (v2 v3 : Option V), c = left.length ∧ σ = [some (.ref p), some (.ref q), v2, v3, none, none] ∧ Same H H2 ∧ SqL K H2 q ys ∧ RowsAt K a H2 ys left ∧ (∀ r ∈ left, RowGood r) ∧ left.length ≤ 1000 ∧ ringN left.length left = ringF rs, ⟨_, D, _, _, none, none, rfl, rfl, s1, SqL.of h1, hR1, fun r hr => gr r (List.mem_filter.mp hr).1, Nat.le_trans (List.length_filter_le _ _) few, rfl⟩, ?_⟩
      rintro _ _ H2 ⟨q, ys, left, v2, v3, rfl, rfl, s2, hq, hL, gl, fl, el⟩
      have ly := hL.len
      have ep : (left.map fun r => V.str (placeR r)) = (left.map placeR).map V.str := by rw [List.map_map]; rfl
      refine ⟨_, rfl, iteT ⟨fun σ H3 => ∃ (q : Addr) (ys : List V) (l3 : List Row0) (v2 v3 : Option V), l3.length < left.length ∧ σ = [some (.ref p), some (.ref q), v2, v3, none, none] ∧ Same H H3 ∧ SqL K H3 q ys ∧ RowsAt K a H3 ys l3 ∧ (∀ r ∈ l3, RowGood r) ∧ l3.length ≤ 1000 ∧ ringN l3.length l3 = ringF rs, ?_, ?_⟩⟩
      · rintro σ H3 ⟨q3, y3, l3, a2, a3, lt, z⟩
        exact ⟨l3.length, lt, q3, y3, l3, a2, a3, rfl, z⟩
      · refine ⟨_, rfl, q, rfl, ⟨_, hq⟩, fun D2 u2 => lc_of_list (left.map fun r => some (.str (placeR r))) hq u2 (turnsRowsY (fun r => .str (placeR r)) hL (by omega) fun x r H3 Q3 hm hx s3 k => ?_) mono_yes fun H3 s3 h3 => ?_⟩
        · obtain ⟨y, dy, fs, rfl, hy, hf, hb⟩ := hx.ex
          exact ⟨_, rfl, y, _, dy, fs, _, rfl, hy, R.cls _ (cls_mem r), T.no _ (cls_mem r) _ (by simp), row_place (x := y) (dx := dy) hf, k _ (Same.refl _)⟩
        · rw [outRows] at h3
          have hq3 := s3.seq hq
          refine ⟨_, rfl, q, rfl, ⟨_, hq3⟩, fun D4 u4 => rows_J (fun r => (leadsR r).any fun z => decide (z ∈ left.map placeR)) (fun x _ => x) (.l hq3) (hL.same s3) fl u4 (fun x r H4 R4 hm hx s4 k => ?_) (fun x r H4 Q4 hm e hx s4 k => ⟨_, rfl, k _ (Same.refl _)⟩) fun H4 s4 h4 => ?_⟩
          · refine leads_run rfl hx (gl r hm) fun H5 t s5 ht => ⟨t, rfl, ⟨_, SqT.of ht⟩, fun D5 u5 => lc_of_tup (((leadsR r).map V.str).map fun x => some (.bl (inV x (left.map fun r => .str (placeR r))))) (SqT.of ht) u5 (turns_map (fun x => .bl (inV x (left.map fun r => .str (placeR r)))) ?_ fun x6 H6 Q6 hx6 s6 k6 => ?_) mono_yes fun H6 s6 h6 => ?_⟩
            · have g4 := gl r hm
              rw [List.length_map]
              exact leads_few g4
            · obtain ⟨z, hz, rfl⟩ := List.mem_map.mp hx6
              exact ⟨_, rfl, _, rfl, D2, _, rfl, .inl (s6.seq (s5.seq (s4.seq (SqL.of h3)))), rfl, (by rw [ep]; exact flat_strs _), k6 _ (Same.refl _)⟩
            · rw [out_map] at h6
              have e1 : ((leadsR r).map V.str).map (fun x => V.bl (inV x (left.map fun r => .str (placeR r)))) = ((leadsR r).map fun z => decide (z ∈ left.map placeR)).map V.bl := by
                rw [List.map_map, List.map_map]
                refine List.map_congr_left fun z _ => ?_
                show V.bl (inV (.str z) (left.map fun r => .str (placeR r))) = V.bl (decide (z ∈ left.map placeR))
                rw [ep, inV_strs]
              rw [e1] at h6
              refine ⟨D5, _, rfl, SqL.of h6, _, rfl, ?_⟩
              rw [List.any_map]
              exact k _ (s5.trans s6)
          · have hk : RowsAt K a H4 _ (keptF left) := outZ_rows (fun r => (leadsR r).any fun z => decide (z ∈ left.map placeR)) (hL.same (s3.trans s4))
            have lk := hk.len
            have hq4 := s4.seq hq3
            have s24 := s2.trans (s3.trans s4)
            refine ⟨_, rfl, D4, _, rfl, .inl (SqL.of h4), _, rfl, q, _, rfl, .inl hq4, rfl, _, rfl, ?_⟩
            rw [dec_int, lk, ly]
            by_cases e : (keptF left).length = left.length
            · rw [show (((keptF left).length : Int) == (left.length : Int)) = true from beq_iff_eq.mpr (by omega)]
              refine iteT ⟨_, rfl, q, _, rfl, .inl hq4, _, _, rfl, rfl, ?_⟩
              rw [ring_stop e] at el
              have z := fin _ s24
              rw [← el] at z
              have e9 : decide ((0 : Int) < (ys.length : Int)) = !left.isEmpty := by
                rw [ly]
                cases left with
                | nil => rfl
                | cons r l => simp
              rwa [← e9] at z
            · rw [show (((keptF left).length : Int) == (left.length : Int)) = false from beq_eq_false_iff_ne.mpr (by omega)]
              refine iteF ⟨_, rfl, ?_⟩
              exact ⟨D4, _, keptF left, _, _, Nat.lt_of_le_of_ne (kept_le left) e, rfl, s24, SqL.of h4, hk, fun r hr => gl r (List.mem_filter.mp hr).1, Nat.le_trans (kept_le left) fl, by rw [← ring_go e]; exact el⟩
end
end K2

set_option Elab.async false
set_option linter.all false
set_option maxRecDepth 100000
set_option maxHeartbeats 1000000
namespace K2
open PySem L2 Lw TL
def dropsL : PyData → List Str
  | .list ds => ds.map strD
  | .tuple ds => ds.map strD
  | _ => []
def markR : Row0 → Str
  | .gate _ m _ _ => m
  | _ => Str.empty
def thenB (rs : List Row0) : Bool := (rs.map leadsR).flatten.all fun z => decide (z ∈ rs.map placeR)
def markB (rs : List Row0) (zs : List Str) : Bool := (rs.filter gateB).any fun r => decide (markR r ∈ zs)
def wrongF (rs : List Row0) (d : PyData) : Option Str :=
  if rs.isEmpty = true then some "rows" else if unlikeD d = false then some "drops" else if (rs.map placeR).Nodup then
    if thenB rs = false then some "then" else if markB rs (dropsL d) = true then some "mark" else if ringF rs = true then some "ring" else none
  else some "place"
def vOpt : Option Str → V
  | some z => .str z
  | none => .non
def spWrong (K : PySem.W.Frag) (a : Ad) : Sp := fun vs H Q _ => ∃ (p : Addr) (v : V) (xs : List V) (rs : List Row0) (d : PyData), vs = [.ref p, v] ∧ SqA K H p xs ∧ RowsAt K a H xs rs ∧ (∀ r ∈ rs, RowGood r) ∧ rs.length ≤ 60 ∧ Dp K H v d ∧ fine d = true ∧ ∀ H', Same H H' → Q (vOpt (wrongF rs d)) H'
abbrev nWrong : List Str := ["rows", "drops", "places", "row", "then"]
theorem leads_le {r : Row0} (g : RowGood r) : (leadsR r).length ≤ 3 := by
  cases r with
  | ask p n ws =>
    have few : ws.length ≤ 3 := g.2.2.2.1
    show (ws.map _).length ≤ _
    rw [List.length_map]
    omega
  | note p w t => show 1 ≤ 3; decide
  | gate p m n e => show 2 ≤ 3; decide
  | end_ p => show 0 ≤ 3; decide
theorem flat_le : ∀ {rs : List Row0}, (∀ r ∈ rs, RowGood r) → (rs.map leadsR).flatten.length ≤ 3 * rs.length
  | [], _ => by simp
  | r :: rs, g => by
    have ih := flat_le (rs := rs) fun x hx => g x (by simp [hx])
    have := leads_le (g r (by simp))
    rw [List.map_cons, List.flatten_cons, List.length_append, List.length_cons]
    omega
section
variable {P : Program} {w : World} {K : PySem.W.Frag} {mg : Str → Option Value} {base : Heap} {a : Ad} {fEq fStr : Addr} {dEq dStr : FuncData} {fR fA fN fG : Addr} {dR dA dN dG : FuncData}
theorem unlike_seq {H : Hp} {v : V} {d : PyData} (hd : Dp K H v d) (hz : fine d = true) (u : unlikeD d = true) : ∃ (p : Addr) (zs : List Str), v = .ref p ∧ SqA K H p (zs.map V.str) ∧ dropsL d = zs ∧ zs.Nodup ∧ zs.length ≤ 1000 ∧ ∀ z ∈ zs, nameOk z = true := by
  rcases seqOr hd hz with ⟨p, xs, ds, rfl, hs, ha, few, hf, es, ed⟩ | es
  · have ew : unlikeL ds = true := by rcases ed with rfl | rfl <;> exact u
    rw [unlikeL, Bool.and_eq_true, decide_eq_true_iff] at ew
    have eds := names_are ew.1
    have hxs : xs = (ds.map strD).map V.str := by
      rw [eds] at ha
      exact strs_of ha
    refine ⟨p, ds.map strD, rfl, hxs ▸ hs, by rcases ed with rfl | rfl <;> rfl, ew.2, by rwa [List.length_map], fun z hz => ?_⟩
    have h1 := ew.1
    rw [eds, List.all_map, List.all_eq_true] at h1
    exact h1 z hz
  · cases d with
    | list _ => cases es
    | tuple _ => cases es
    | _ => cases u
theorem scWrong : FnScope nWrong ["rows", "drops"] (defScope sWrong) := ⟨rfl, rfl, rfl, by decide +kernel, rfl, by decide +kernel, by decide +kernel⟩
theorem okWrong (T : Txt K mg a) (R : RowF K a fEq fStr dEq dStr) (L : LeadsF K a fR fA fN fG dR dA dN dG) (N : EdN K mg a)
    {gA gU gR : Addr} {eA eU eR : FuncData} (FA : Fun K "_are_rows" "_are_rows" sAreRows gA eA) (BA : Binds K eA ["value"] []) (mA : mg "_are_rows" = some (.ref gA))
    (FU : Fun K "are_unlike_names" "are_unlike_names" sUnlike gU eU) (BU : Binds K eU ["value"] []) (mU : mg "are_unlike_names" = some (.ref gU))
    (FR : Fun K "_has_ring" "_has_ring" sRing gR eR) (BR : Binds K eR ["rows"] []) (mR : mg "_has_ring" = some (.ref gR))
    {f : Addr} {fd : FuncData} (F : Fun K "_wrong" "_wrong" sWrong f fd) : FnOk P w K mg base CX0 3 f fd ["rows", "drops"] (spWrong K a) := by
  refine F.ok scWrong (fun vs H Q E h => ?_) (fun cdv A outer s H vs Q E hr h => ?_)
  · obtain ⟨p, v, xs, rs, d, rfl, _⟩ := h
    rfl
  · obtain ⟨p, v, xs, rs, d, rfl, hs, hR, gr, few, hd, hz, fin⟩ := h
    have hr1 : Room 1 _ := hr.mono (by decide)
    have OA : FnOk P w K mg base CX0 1 gA eA ["value"] (spAreRows K a) := okAreRows T R FA
    have OU : FnOk P w K mg base CX0 2 gU eU ["value"] (spUnlike K) := okUnlike T FU
    have OR : FnOk P w K mg base CX0 2 gR eR ["rows"] (spRing K a) := okRing T R L N FR
    refine ⟨_, pss_cons (ps_if (pt_not (pt_val (pe_call OA hr1 rfl mA FA.kp BA .nil pass0 (pa_cons (pv 0) pa_nil)))) (pss_one (ps_ret pe_str)) pss_nil)
      (pss_cons (ps_if (pt_not (pt_val (pe_call OU hr rfl mU FU.kp BU .nil pass0 (pa_cons (pv 1) pa_nil)))) (pss_one (ps_ret pe_str)) pss_nil)
      (pss_cons (ps_set (i := 2) scWrong.nd rfl (Or.inr rfl) (pe_lc (own := [("row", 3)]) (g := gName 3) (tt := tYes) (te := tFld K (tVar 3) "place") (by rfl) scWrong.nd (pi_seq (pv 0))
          (blkOk_by (own := [("row", 3)]) (N := nWrong) (sc := defScope sWrong) (by decide +kernel)) (fun _ _ _ _ _ => pg_name (i := 3) scWrong.nd rfl (Or.inl rfl)) (fun _ _ _ _ _ => pts_nil)
          (fun _ _ _ _ _ => pe_fld (pv 3) rfl)))
      (pss_cons (ps_if (pt_cmpR op_lt (pe_callB Sx.cr_lenK (by rfl) T.tLen PySem.boot_len (pa_cons (pe_callTy (Sx.cr_setOf rfl) (by rfl) T.tSet (by decide +kernel) (pa_cons (pv 2) pa_nil)) pa_nil)) (pe_callB call_len_seq (by rfl) T.tLen PySem.boot_len (pa_cons (pv 2) pa_nil)) (nomark _)) (pss_one (ps_ret pe_str)) pss_nil)
      (pss_cons (ps_if (pt_not (pt_val (pe_callB (cr_all rfl) (by rfl) T.tAll PyProof.Rows.boot_all (pa_cons (pe_lc2 (own := [("row", 3), ("then", 4)]) (vs1 := [4]) (g := gName 3) (tt := tYes) (g1 := gName 4) (tt1 := tYes) (wi1 := iTup K (tLeads K a (tVar 3))) (te := tOp (rIn K false) (tVar 4) (tVar 2)) (by rfl) scWrong.nd (pi_seq (pv 0))
          (blkOk_by (own := [("row", 3), ("then", 4)]) (N := nWrong) (sc := defScope sWrong) (by decide +kernel)) (by decide)
          (fun _ _ _ _ _ => pg_name (i := 3) scWrong.nd rfl (Or.inl rfl)) (fun _ _ _ _ _ => pts_nil) (fun _ _ _ _ _ => pi_tup (pe_leads L T (pv 3) hr1)) (fun _ _ _ _ _ => pg_name (i := 4) scWrong.nd rfl (Or.inl rfl)) (fun _ _ _ _ _ => pts_nil) (fun _ _ _ _ _ => pe_cmpR op_in_seq (pv 4) (pv 2) rfl)) pa_nil)))) (pss_one (ps_ret pe_str)) pss_nil)
      (pss_cons (ps_if (pt_val (pe_callB (cr_any rfl) (by rfl) N.any PyProof.Rows.boot_any (pa_cons (pe_lc (own := [("row", 3)]) (g := gName 3) (tt := tIsi K 3 a.cGate) (te := tOp (rIn K false) (tFld K (tVar 3) "mark") (tVar 1)) (by rfl) scWrong.nd (pi_seq (pv 0))
          (blkOk_by (own := [("row", 3)]) (N := nWrong) (sc := defScope sWrong) (by decide +kernel)) (fun _ _ _ _ _ => pg_name (i := 3) scWrong.nd rfl (Or.inl rfl))
          (fun _ _ _ _ _ => pts_one (pt_val (pe_callB call_isi (by rfl) T.tIs PyProof.Rows.boot_isinstance (pa_cons (pv 3) (pa_cons (pe_glob (v := .ref a.cGate) (by rfl) T.gate.g rfl) pa_nil)))))
          (fun _ _ _ _ _ => pe_cmpR op_in_seq (pe_fld (pv 3) rfl) (pv 1) rfl)) pa_nil))) (pss_one (ps_ret pe_str)) pss_nil)
      (pss_cons (ps_if (pt_val (pe_call OR hr rfl mR FR.kp BR .nil pass0 (pa_cons (pv 0) pa_nil))) (pss_one (ps_ret pe_str)) pss_nil)
      (pss_one (ps_ret pe_non)))))))), ?_⟩
    have empty : rs.isEmpty = true ∨ rs.isEmpty = false := by cases rs.isEmpty <;> simp
    refine ⟨_, rfl, p, xs, rs, rfl, hs, hR, by omega, fun H1 s1 => ⟨_, rfl, ?_⟩⟩
    rcases empty with e1 | e1
    · rw [e1]
      refine iteT ?_
      have z := fin _ s1
      rwa [wrongF, if_pos e1] at z
    rw [e1]
    refine iteF ?_
    refine ⟨_, rfl, v, d, rfl, dp_same s1 _ _ hd, hz, fun H2 s2 => ⟨_, rfl, ?_⟩⟩
    have S2 := s1.trans s2
    have e1' : ¬ (rs.isEmpty = true) := by rw [e1]; decide
    cases e2 : unlikeD d with
    | false =>
      refine iteT ?_
      have z := fin _ S2
      rwa [wrongF, if_neg e1', if_pos e2] at z
    | true =>
      refine iteF ?_
      obtain ⟨q, zs, rfl, hzs, edr, ndz, fewz, _⟩ := unlike_seq (dp_same S2 _ _ hd) hz e2
      refine seq_run rfl (hs.same S2) fun J hJ D3 u3 => lc_of_J (rs.map fun r => some (.str (placeR r))) hJ u3 (turnsRowsY (fun r => .str (placeR r)) (hR.same S2) (by rw [hR.len]; omega) fun x r H3 Q3 hm hx s3 k => ?_) mono_yes fun H3 s3 h3 => ?_
      · obtain ⟨y, dy, fs, rfl, hy, hf, hb⟩ := hx.ex
        exact ⟨_, rfl, y, _, dy, fs, _, rfl, hy, R.cls _ (cls_mem r), T.no _ (cls_mem r) _ (by simp), row_place (x := y) (dx := dy) hf, k _ (Same.refl _)⟩
      rw [outRows] at h3
      have ep : (rs.map fun r => V.str (placeR r)) = (rs.map placeR).map V.str := by rw [List.map_map]; rfl
      rw [ep] at h3
      have hks : (rs.map placeR).map V.str = ((rs.map placeR).map (Sum.inr : Str → Key)).map kV := by
        simp only [List.map_map]
        rfl
      have S3 := S2.trans s3
      have l3 : SqL K H3 D3 ((rs.map placeR).map V.str) := SqL.of h3
      refine ⟨_, rfl, D3, (rs.map placeR).map Sum.inr, rfl, by rw [← hks]; exact .inl l3, by rw [List.length_map, List.length_map]; omega, fun D4 u4 => ?_⟩
      have s4 := same_new (o := SetK P w D4 (fun k => decide (k ∈ (rs.map placeR).map (Sum.inr : Str → Key))) (Sx.nub ((rs.map placeR).map Sum.inr)).length) u4
      have l4 := s4.seq l3
      refine ⟨D4, _, _, rfl, upd_same, _, rfl, D3, _, rfl, .inl l4, _, _, rfl, rfl, _, rfl, ?_⟩
      have S4 := S3.trans s4
      have e5 := Sx.nub_nodup_iff (l := (rs.map placeR).map (Sum.inr : Str → Key))
      rw [nodup_keys, List.length_map] at e5
      have le5 := Sx.len_nub_le _ ((rs.map placeR).map (Sum.inr : Str → Key)) rfl
      rw [List.length_map] at le5
      by_cases nd : (rs.map placeR).Nodup
      · have n5 := e5.mpr nd
        rw [show decide (((Sx.nub ((rs.map placeR).map (Sum.inr : Str → Key))).length : Int) < (((rs.map placeR).map V.str).length : Int)) = false from decide_eq_false (by rw [List.length_map]; omega)]
        refine iteF ?_
        have few2 : (rs.map leadsR).flatten.length ≤ 1000 := Nat.le_trans (flat_le gr) (by omega)
        refine seq_run rfl (hs.same S4) fun J5 hJ5 D5 u5 => lc2_then (f := fun z => .bl (decide (z ∈ rs.map placeR))) hJ5 (hR.same S4) u5 few2 (fun x r H5 R5 hm hx s5 k => ?_) (fun x z H5 Q5 s5 k => ?_) fun H5 s5 h5 => ?_
        · exact leads_run rfl hx (gr r hm) fun H6 t s6 ht => ⟨t, rfl, ⟨_, SqT.of ht⟩, k H6 t s6 (SqT.of ht)⟩
        · refine ⟨_, rfl, _, rfl, D3, _, rfl, .inl (s5.seq l4), rfl, flat_strs _, ?_⟩
          rw [show (if false = true then !inV (V.str z) ((rs.map placeR).map V.str) else inV (V.str z) ((rs.map placeR).map V.str)) = inV (V.str z) ((rs.map placeR).map V.str) from rfl, inV_strs]
          exact k _ (Same.refl _)
        · have e6 : (rs.map leadsR).flatten.map (fun z => V.bl (decide (z ∈ rs.map placeR))) = ((rs.map leadsR).flatten.map fun z => decide (z ∈ rs.map placeR)).map V.bl := by
            rw [List.map_map]
            rfl
          rw [e6] at h5
          refine ⟨D5, _, rfl, SqL.of h5, _, rfl, ?_⟩
          rw [List.all_map]
          have S5 := S4.trans s5
          have et : ((rs.map leadsR).flatten.all (id ∘ fun z => decide (z ∈ rs.map placeR))) = thenB rs := rfl
          rw [et]
          have e2' : ¬ (unlikeD d = false) := by rw [e2]; decide
          cases e7 : thenB rs with
          | false =>
            refine iteT ?_
            have z := fin _ S5
            rwa [wrongF, if_neg e1', if_neg e2', if_pos nd, if_pos e7] at z
          | true =>
            refine iteF ?_
            have e7' : ¬ (thenB rs = false) := by rw [e7]; decide
            have hz5 := hzs.same ((s3.trans s4).trans s5)
            refine seq_run rfl (hs.same S5) fun J6 hJ6 D6 u6 => rows_J gateB (fun _ r => .bl (decide (markR r ∈ zs))) hJ6 (hR.same S5) (by omega) u6 (fun x r H6 R6 hm hx s6 k => ?_) (fun x r H6 Q6 hm e hx s6 k => ?_) fun H6 s6 h6 => ?_
            · obtain ⟨y, dy, fs, rfl, hy, hf, hb⟩ := hx.ex
              exact ⟨_, rfl, _, _, _, _, _, rfl, .own a.cGate, R.ty (cls_mem r) hy, N.gate r, _, rfl, k _ (Same.refl _)⟩
            · obtain ⟨y, dy, fs, rfl, hy, hf, hb⟩ := hx.ex
              have hc := cls_mem (a := a) r
              cases r with
              | gate p0 m0 n0 e0 =>
                refine ⟨_, rfl, y, _, dy, fs, _, rfl, hy, R.cls _ hc, T.no _ hc _ (by simp), hf.2.1, _, rfl, q, _, rfl, hz5.same s6, rfl, flat_strs _, ?_⟩
                rw [show (if false = true then !inV (V.str m0) (zs.map V.str) else inV (V.str m0) (zs.map V.str)) = inV (V.str m0) (zs.map V.str) from rfl, inV_strs]
                exact k _ (Same.refl _)
              | _ => cases e
            · rw [outZ_read gateB (fun r => .bl (decide (markR r ∈ zs))) hR.len] at h6
              have e8 : (rs.filter gateB).map (fun r => V.bl (decide (markR r ∈ zs))) = ((rs.filter gateB).map fun r => decide (markR r ∈ zs)).map V.bl := by
                rw [List.map_map]
                rfl
              rw [e8] at h6
              refine ⟨D6, _, rfl, SqL.of h6, _, rfl, ?_⟩
              rw [List.any_map]
              have em : ((rs.filter gateB).any (id ∘ fun r => decide (markR r ∈ zs))) = markB rs (dropsL d) := by rw [edr]; rfl
              rw [em]
              have S6 := S5.trans s6
              cases e9 : markB rs (dropsL d) with
              | true =>
                refine iteT ?_
                have z := fin _ S6
                rwa [wrongF, if_neg e1', if_neg e2', if_pos nd, if_neg e7', if_pos e9] at z
              | false =>
                refine iteF ?_
                have e9' : ¬ (markB rs (dropsL d) = true) := by rw [e9]; decide
                refine ⟨_, rfl, p, xs, rs, rfl, hs.same S6, hR.same S6, gr, by omega, fun H7 s7 => ⟨_, rfl, ?_⟩⟩
                cases e10 : ringF rs with
                | true =>
                  refine iteT ?_
                  have z := fin _ (S6.trans s7)
                  rwa [wrongF, if_neg e1', if_neg e2', if_pos nd, if_neg e7', if_neg e9', if_pos e10] at z
                | false =>
                  refine iteF ?_
                  have z := fin _ (S6.trans s7)
                  rwa [wrongF, if_neg e1', if_neg e2', if_pos nd, if_neg e7', if_neg e9', if_neg (by rw [e10]; decide)] at z
      · have n5 : ¬ _ := fun z => nd (e5.mp z)
        rw [show decide (((Sx.nub ((rs.map placeR).map (Sum.inr : Str → Key))).length : Int) < (((rs.map placeR).map V.str).length : Int)) = true from decide_eq_true (by rw [List.length_map]; omega)]
        refine iteT ?_
        have z := fin _ S4
        rwa [wrongF, if_neg e1', if_neg (by rw [e2]; decide), if_neg nd] at z
end
end K2

set_option Elab.async false
set_option linter.all false
set_option maxRecDepth 100000
set_option maxHeartbeats 1000000
namespace SxT
open PySem PyProof.Rows L2
theorem collect_tup {prog : Program} {w : World} {A : Around} {E : Value → Shared → Prop} {s : Shared} {l : Addr} {vs : List Value} {Q : List Value → Shared → Prop} (ht : IsTup s.heap l vs.toArray)
    (h : Q vs { s with heap := (s.heap.push (seqObj "list" #[] 0)).update s.heap.objs.size (Obj.mapSeq fun x => x ++ vs.toArray) }) (hsz : vs.length ≤ sizeLine) :
    wpAny (model prog w) A (collect (.ref l)) Q E s := by
  obtain ⟨o, ho, hc, n, hd⟩ := ht
  unfold collect
  refine wpAny_bind (wpAny_runValue (codeAny_builtin entry_proto_collect' ?_))
  unfold Builtin.«proto.collect»
  dsimp only
  refine wpAny_bind (wpAny_newList (wpAny_pure ⟨?_, codeAny_builtin entry_list_iadd' ?_⟩) ?_)
  · exact Code.quiet_builtin _ (by decide +kernel)
  · have ho' := Heap.get?_push_of_some (seqObj "list" #[] 0) ho
    change wpAny _ _ (Builtin.List.listExtendWith (.ref s.heap.objs.size) (.ref l) (.ref s.heap.objs.size)) _ _ _
    unfold Builtin.List.listExtendWith
    refine wpAny_bind (wpAny_typeOf (v := .ref l) (T := "tuple") (Exists.intro o ⟨ho', hc⟩) ?_)
    rw [if_pos (by simp)]
    refine wpAny_bind (listItems_at ho' hd (wpAny_bind (listItems_at (Heap.get?_push_size _ rfl) rfl ?_)))
    change wpAny _ _ (do Builtin.List.listUpdate (Value.ref s.heap.objs.size) (fun x => x ++ vs.toArray); ret (Value.ref s.heap.objs.size)) _ _ _
    refine wpAny_bind (listUpdate_at (Heap.get?_push_size _ rfl) rfl ?_ (by simp) (by simp; omega))
    refine wpAny_pure ?_
    refine wpAny_bind (wpAny_load (get?_update_seq (Heap.get?_push_size _ rfl) fun x => x ++ vs.toArray) ?_)
    refine wpAny_pure ?_
    have e : (#[] ++ vs.toArray).toList = vs := by simp
    show Q (#[] ++ vs.toArray).toList _
    rw [e]
    exact h
  · exact Nat.zero_le _
theorem sorted_tup {prog : Program} {w : World} {A : Around} {E : Value → Shared → Prop} {s : Shared} {l : Addr} {vs : List Value} {ss : List PySem.Str} {Q : Value → Shared → Prop} (ht : IsTup s.heap l vs.toArray) (isS : StrsAre vs ss) (few : vs.length < 64)
    (want : ∀ (out : Array Value) (ss' : List PySem.Str), StrsAre out.toList ss' → ss'.Perm ss → sortedS ss' = true → Q (.ref (s.heap.objs.size + 1)) { s with heap := sortedAll s.heap vs out }) :
    wpAny (model prog w) A (call (.builtin "sorted") [.ref l]) Q E s := by
  refine Calls.call_function_entry kind_sorted plain_sorted entry_sorted (args_sorted1 _) ?_
  unfold Builtin.«sorted»
  refine wpAny_bind (m := checkCount "sorted" 1 1 _) (wpAny_pure ?_)
  refine wpAny_bind (collect_tup (A := A.in1) ht ?_ (by rw [sizeLine_eq]; omega))
  refine wpAny_bind (wpAny_newList ?_ (by rw [sizeLine_eq]; omega))
  have sz : ((s.heap.push (seqObj "list" #[] 0)).update s.heap.objs.size (Obj.mapSeq fun x => x ++ vs.toArray)).objs.size = s.heap.objs.size + 1 := by
    rw [Heap.size_update, size_push']
  have atL : (((s.heap.push (seqObj "list" #[] 0)).update s.heap.objs.size (Obj.mapSeq fun x => x ++ vs.toArray)).push (seqObj "list" vs.toArray 0)).get? (s.heap.objs.size + 1) = some (seqObj "list" vs.toArray 0) := by
    rw [← sz]
    exact Heap.get?_push_size _ rfl
  refine wpAny_bind (wpAny_holding ?_)
  dsimp only
  rw [sz]
  refine wpAny_call_entry slot_list_sort ⟨_, atL, rfl⟩ entry_list_sort (list_sort_treeK strKind_oneLt atL isS.keysOf (fun v1 v2 rest e => keyKind_strs (by rw [← e]; exact isS)) few fun st' hp hs => ?_) (args_list_sort _)
  obtain ⟨ys, g1, g2, g3⟩ := sorted_out_str isS hp hs
  have z := want _ ys g1 g2 g3
  exact ⟨_, rfl, wpAny_pure ⟨_, rfl, z⟩⟩
def rSortedA (K : PySem.W.Frag) : List V → Hp → VK → Prop := fun vs H Q => ∃ (a : Addr) (xs : List PySem.Str), vs = [V.ref a] ∧ (SqL K H a (xs.map V.str) ∨ SqT K H a (xs.map V.str)) ∧ xs.length < 64 ∧
  ∀ (ys : List PySem.Str) (p : Addr), ys.Perm xs → sortedS ys = true → H p = none → Q (.ref p) (upd H p (.lst (ys.map V.str)))
/-- sorted(list or tuple of texts) -/
theorem cr_sortedA {X : Cx} : CallR X (.builtin "sorted") (rSortedA X.K) := by
  intro pins s σ H vs us Q I r h
  obtain ⟨a, xs, rfl, hs, few, q⟩ := h
  rcases hs with hs | hs
  · exact cr_sortedS pins s σ H [V.ref a] us Q I r ⟨a, xs, rfl, hs, few, q⟩
  · obtain ⟨its, rv, hl, hsz⟩ := I.tuple hs
    rw [Vals.ref1 r]
    have hlen0 := rv.length
    rw [List.length_map] at hlen0
    refine sorted_tup hl (Vals.strs rv) (by omega) fun out ys h1 h2 h3 => ?_
    obtain ⟨ep, he'⟩ := sortedAll_at s.heap its out
    have hlen : (ys.map V.str).length ≤ sizeLine := by rw [List.length_map, h2.length_eq, sizeLine_eq]; omega
    exact ⟨.ref (s.heap.objs.size + 1), upd H (s.heap.objs.size + 1) (.lst (ys.map V.str)),
      I.laid (fun x x1 => sortedAll_old) (Nat.le_succ _) ⟨hlen, out.toList, ep, vals_of_strs h1, he'⟩, rfl, q ys _ h2 h3 (I.hok.fresh (Nat.le_succ _))⟩
end SxT

set_option Elab.async false
set_option linter.all false
set_option maxRecDepth 100000
set_option maxHeartbeats 1000000
namespace K2
open PySem L2 Lw TL SxT
section
variable {P : Program} {w : World} {K : PySem.W.Frag} {a : Ad} {H H1 : Hp}
/-- any walk over a list or a tuple -/
theorem walk_J {p : Addr} {xs : List V} {J : L2.It} {H0 : Hp} {Qd : Hp → Prop} {G : V → Hp → (Hp → Prop) → Prop} (Pv : Nat → Hp → Prop) (hJ : JA K H1 p xs J) (h0 : Pv 0 H0) (keep : ∀ j H, Pv j H → Same H1 H)
    (turn : ∀ j x H (Nx : Hp → Prop), xs[j]? = some x → Pv j H → (∀ H', Pv (j + 1) H' → Nx H') → G x H Nx) (done : ∀ H, Pv xs.length H → Qd H) :
    ∃ W : Nat → Nat → Hp → Prop, (∃ m, W 0 m H0) ∧ ∀ i m H, W i m H → (J.stop i H ∧ Qd H) ∨ (J.go i H ∧ ∃ Nx : Hp → Prop, (∀ H', Nx H' → ∃ m', m' < m ∧ W (i + 1) m' H') ∧ ∀ x H', J.yld i H x H' → G x H' Nx) := by
  refine ⟨fun j m H' => m = xs.length - j ∧ j ≤ xs.length ∧ Pv j H', ⟨xs.length, by simp, Nat.zero_le _, h0⟩, ?_⟩
  rintro j m H' ⟨rfl, hj, pv⟩
  cases hJ with
  | l hs =>
    have q : SqL K H' p xs := (keep _ _ pv).seq hs
    by_cases lt : j < xs.length
    · refine .inr ⟨⟨xs, xs[j], q, by simp [lt]⟩, Pv (j + 1), fun H' p' => ⟨xs.length - (j + 1), by omega, rfl, lt, p'⟩, fun x H'' y => ?_⟩
      obtain ⟨e, y⟩ := y
      subst e
      exact turn j x _ _ (y xs q) pv fun _ z => z
    · have e : j = xs.length := by omega
      exact .inl ⟨⟨xs, q, Nat.le_of_eq e.symm⟩, done _ (e ▸ pv)⟩
  | t hs =>
    have q : SqT K H' p xs := same_tup (keep _ _ pv) hs
    by_cases lt : j < xs.length
    · refine .inr ⟨⟨xs, xs[j], q, by simp [lt]⟩, Pv (j + 1), fun H' p' => ⟨xs.length - (j + 1), by omega, rfl, lt, p'⟩, fun x H'' y => ?_⟩
      obtain ⟨e, y⟩ := y
      subst e
      exact turn j x _ _ (y xs q) pv fun _ z => z
    · have e : j = xs.length := by omega
      exact .inl ⟨⟨xs, q, Nat.le_of_eq e.symm⟩, done _ (e ▸ pv)⟩
/-- {g(row) for row in rows if c(row)} -/
theorem scx_J {p : Addr} {D : Addr} {i : Nat} {σ : L2.St} {xs : List V} {rs : List Row0} {J : L2.It} {Qd : Hp → Prop} {tt : TT} {te : TE} (c : Row0 → Bool) (g : Row0 → Str) (hJ : JA K H1 p xs J) (hR : RowsAt K a H1 xs rs) (few : rs.length ≤ 60) (un : H1 D = none)
    (test : ∀ x r H (R : Bool → Hp → Prop), r ∈ rs → RowAt K a H x r → Same H1 H → (∀ H', Same H H' → R (c r) H') → tt ((σ.set i none).set i (some x)) H R)
    (el : ∀ x r H (Q : VK), r ∈ rs → c r = true → RowAt K a H x r → Same H1 H → (∀ H', Same H H' → Q (.str (g r)) H') → te ((σ.set i none).set i (some x)) H Q)
    (fin : ∀ H' S n, Same H1 H' → H' D = some (SetXO P w D S n) → n ≤ rs.length → (∀ k, S k = true ↔ k ∈ (rs.filter c).map g) → Qd H') :
    ∃ W : Nat → Nat → Hp → Prop, (∃ m, W 0 m (upd H1 D (SetXO P w D (fun _ => false) 0))) ∧ ∀ i' m H, W i' m H →
      (J.stop i' H ∧ Qd H) ∨ (J.go i' H ∧ ∃ Nx : Hp → Prop, (∀ H', Nx H' → ∃ m', m' < m ∧ W (i' + 1) m' H') ∧ ∀ x H', J.yld i' H x H' → gName i x (wipe σ [i]) H' fun σ2 H2 => wipe σ2 [i] = wipe σ [i] ∧ tt σ2 H2 fun b H3 =>
        if b = true then te σ2 H3 (TurnX P w D Nx) else Nx H3) := by
  have len := hR.len
  refine walk_J (fun j H => Same H1 H ∧ ∃ S n, H D = some (SetXO P w D S n) ∧ n ≤ j ∧ ∀ k, S k = true ↔ k ∈ ((rs.take j).filter c).map g) hJ ⟨same_new un, _, _, upd_same, Nat.le_refl _, fun k => by simp⟩ (fun _ _ z => z.1) ?_ ?_
  · rintro j x H Nx hx ⟨s1, S, n, hD, hn, hk⟩ nx
    obtain ⟨r, er, hr⟩ := hR.at_ hx
    have hm := List.mem_of_getElem? er
    have hj : j < rs.length := (List.getElem?_eq_some_iff.mp er).1
    have tk : (rs.take (j + 1)).filter c = (rs.take j).filter c ++ (if c r = true then [r] else []) := by
      rw [List.take_add_one, er, List.filter_append]
      cases e : c r <;> simp [e]
    refine ⟨by simp [wipe], ?_⟩
    show tt ((σ.set i none).set i (some x)) H _
    refine test x r H _ hm (hr.same s1) s1 fun H3 s3 => ?_
    cases e : c r with
    | false =>
      refine iteF (nx _ ⟨s1.trans s3, S, n, s3 _ _ hD, by omega, fun k => ?_⟩)
      rw [hk k, tk, e]
      simp
    | true =>
      refine iteT (el x r H3 _ hm e (hr.same (s1.trans s3)) (s1.trans s3) fun H4 s4 => ⟨g r, S, n, rfl, s4 _ _ (s3 _ _ hD), ?_, nx _ ⟨fun b o eb => ?_, _, _, upd_same, ?_, fun k => ?_⟩⟩)
      · exact Nat.lt_of_le_of_lt (show n + 1 ≤ 61 by omega) (by decide)
      · rw [upd_ne (ne_of_none eb un)]
        exact s4 _ _ (s3 _ _ (s1 _ _ eb))
      · split <;> omega
      · rw [tk, e, Bool.or_eq_true, hk k, decide_eq_true_iff]
        simp
  · rintro H ⟨s1, S, n, hD, hn, hk⟩
    rw [len, List.take_length] at hk
    exact fin H S n s1 hD (by omega) hk
/-- {row.place: row for row in rows} -/
def tabZ (xs : List V) (rs : List Row0) : List (Key × V) := List.zipWith (fun x r => ((Sum.inr (placeR r) : Key), x)) xs rs
theorem tabZ_at {xs : List V} {rs : List Row0} {j : Nat} {x : V} {r : Row0} (h1 : xs[j]? = some x) (h2 : rs[j]? = some r) : (tabZ xs rs)[j]? = some (Sum.inr (placeR r), x) := by
  rw [tabZ, List.getElem?_zipWith, h1, h2]
theorem dc_J {p : Addr} {D : Addr} {i : Nat} {σ : L2.St} {xs : List V} {rs : List Row0} {J : L2.It} {Qd : Hp → Prop} {tk tv : TE} (hJ : JA K H1 p xs J) (hR : RowsAt K a H1 xs rs) (few : rs.length ≤ 60) (un : H1 D = none) (nd : (rs.map placeR).Nodup)
    (key : ∀ x r H (Q : VK), r ∈ rs → RowAt K a H x r → Same H1 H → (∀ H', Same H H' → Q (.str (placeR r)) H') → tk ((σ.set i none).set i (some x)) H Q)
    (val : ∀ x r H (Q : VK), r ∈ rs → RowAt K a H x r → Same H1 H → (∀ H', Same H H' → Q x H') → tv ((σ.set i none).set i (some x)) H Q)
    (fin : ∀ H', Same H1 H' → H' D = some (.dK (tabZ xs rs)) → Qd H') :
    ∃ W : Nat → Nat → Hp → Prop, (∃ m, W 0 m (upd H1 D (.dK []))) ∧ ∀ i' m H, W i' m H →
      (J.stop i' H ∧ Qd H) ∨ (J.go i' H ∧ ∃ Nx : Hp → Prop, (∀ H', Nx H' → ∃ m', m' < m ∧ W (i' + 1) m' H') ∧ ∀ x H', J.yld i' H x H' → gName i x (wipe σ [i]) H' fun σ2 H2 => wipe σ2 [i] = wipe σ [i] ∧ tYes σ2 H2 fun b H3 =>
        if b = true then tk σ2 H3 fun y H4 => tv σ2 H4 fun z H5 => ∃ kvs k, y = kV k ∧ H5 D = some (.dK kvs) ∧ kvs.length < sizeLine ∧ Nx (upd H5 D (.dK (putK kvs k z))) else Nx H3) := by
  have len := hR.len
  refine walk_J (fun j H => Same H1 H ∧ H D = some (.dK ((tabZ xs rs).take j))) hJ ⟨same_new un, by rw [upd_same]; simp⟩ (fun _ _ z => z.1) ?_ ?_
  · rintro j x H Nx hx ⟨s1, hD⟩ nx
    obtain ⟨r, er, hr⟩ := hR.at_ hx
    have hm := List.mem_of_getElem? er
    have hj : j < rs.length := (List.getElem?_eq_some_iff.mp er).1
    refine ⟨by simp [wipe], ?_⟩
    dsimp only [tYes]
    refine iteT ?_
    show tk ((σ.set i none).set i (some x)) H _
    refine key x r H _ hm (hr.same s1) s1 fun H3 s3 => ?_
    refine val x r H3 _ hm (hr.same (s1.trans s3)) (s1.trans s3) fun H4 s4 => ⟨_, Sum.inr (placeR r), rfl, s4 _ _ (s3 _ _ hD), ?_, nx _ ⟨fun b o eb => ?_, ?_⟩⟩
    · rw [List.length_take]
      exact Nat.lt_of_le_of_lt (show _ ≤ 60 by omega) (by decide)
    · rw [upd_ne (ne_of_none eb un)]
      exact s4 _ _ (s3 _ _ (s1 _ _ eb))
    · have no : ((tabZ xs rs).take j).any (fun kv => decide (kv.1 = (Sum.inr (placeR r) : Key))) = false := by
        rw [Bool.eq_false_iff]
        intro h
        obtain ⟨kv, hkv, e⟩ := List.any_eq_true.mp h
        obtain ⟨m, hm', em⟩ := List.mem_take_iff_getElem.mp hkv
        have em2 : (tabZ xs rs)[m]? = some kv := by rw [← em]; simp
        have ml : m < j := by
          have := hm'
          omega
        have mr : m < rs.length := by omega
        have e3 := tabZ_at (xs := xs) (rs := rs) (j := m) (x := xs[m]) (r := rs[m]) (by simp) (by simp)
        rw [em2] at e3
        obtain rfl := Option.some.inj e3
        have e4 : placeR rs[m] = placeR r := by
          have := of_decide_eq_true e
          exact Sum.inr.inj this
        have e5 : (rs.map placeR)[m]? = (rs.map placeR)[j]? := by
          rw [List.getElem?_map, List.getElem?_map, er, List.getElem?_eq_getElem mr]
          simp [e4]
        have := (List.getElem?_inj (by rw [List.length_map]; exact mr) nd).mp e5
        omega
      rw [upd_same, putK, if_neg (by rw [no]; decide), List.take_add_one, tabZ_at hx er]
      rfl
  · rintro H ⟨s1, hD⟩
    have e : (tabZ xs rs).length = xs.length := by rw [tabZ, List.length_zipWith]; omega
    rw [← e, List.take_length] at hD
    exact fin H s1 hD
end
end K2

set_option Elab.async false
set_option linter.all false
set_option maxRecDepth 100000
set_option maxHeartbeats 4000000
namespace K2
open PySem L2 Lw TL SxT
abbrev nEd : List Str := ["self", "rows", "drops", "word", "head", "row"]
/-- what the edition's class stands on -/
structure Ae where
  cEd : Addr
  fEd : Addr
  dEd : FuncData
  fIe : Addr
  dIe : FuncData
  gA : Addr
  eA : FuncData
  gU : Addr
  eU : FuncData
  gR : Addr
  eR : FuncData
  gW : Addr
  eW : FuncData
  tD : Addr
structure EdT (K : PySem.W.Frag) (mg : Str → Option Value) (a : Ad) (b : Ae) : Prop where
  N : EdN K mg a
  are : Top K mg "_are_rows" sAreRows b.gA b.eA ["value"]
  unl : Top K mg "are_unlike_names" sUnlike b.gU b.eU ["value"]
  ring : Top K mg "_has_ring" sRing b.gR b.eR ["rows"]
  wrong : Top K mg "_wrong" sWrong b.gW b.eW ["rows", "drops"]
  F : FunD K "__init__" "Edition.__init__" (defArgs sEd) (defBody sEd) (defScope sEd) [.ref b.tD] [] b.fEd b.dEd
  dT : ∃ (o : Obj) (n : Nat), K.lookup b.tD = some o ∧ o.cls = .type "tuple" ∧ o.data = .seq #[] n
  cl : Cls K b.cEd
  no : ∀ n ∈ edFields, NoAttr K b.cEd n
  gIe : mg "InvalidEdition" = some (.ref a.cIe)
  ie : OexC K a.cIe
  ieF : Fun K "__init__" "InvalidEdition.__init__" sIe b.fIe b.dIe
  ieB : Binds K b.dIe ["self", "word"] []
  ieI : PySem.W.findIn K (.ref a.cIe) "__init__" = some (some (.ref b.fIe))
  ieT : PySem.W.typeIn K (.ref b.fIe) = some (.type "function")
  ieW : PySem.W.findIn K (.ref a.cIe) "word" = some none
section
variable {P : Program} {w : World} {K : PySem.W.Frag} {mg : Str → Option Value} {base : Heap} {a : Ad} {b : Ae} {fEq fStr : Addr} {dEq dStr : FuncData} {fR fA fN fG : Addr} {dR dA dN dG : FuncData}
theorem scIe : FnScope ["self", "word"] ["self", "word"] (defScope sIe) := ⟨rfl, rfl, rfl, by decide +kernel, rfl, by decide +kernel, by decide +kernel⟩
theorem EdT.okIe (E : EdT K mg a b) : FnOk P w K mg base CX0 1 b.fIe b.dIe ["self", "word"] (spErr a.cIe "word") := by
  refine E.ieF.ok scIe (fun vs H Q E h => ?_) (fun cdv A outer s H vs Q E' hr h => ?_)
  · obtain ⟨a, x, rfl, _⟩ := h
    rfl
  · obtain ⟨x, v, rfl, hx, fin⟩ := h
    exact ⟨_, pss_one (ps_ost (pv 0) (pv 1)), _, rfl, _, rfl, x, _, rfl, E.ie, E.ieW, .inl ⟨hx, fin⟩⟩
/-- sorted texts, each once, just those of a list -/
def Rises (zs l : List Str) : Prop := PyProof.Rows.sortedS zs = true ∧ zs.Nodup ∧ ∀ k, k ∈ zs ↔ k ∈ l
def nameR : Row0 → Str
  | .ask _ n _ => n
  | _ => Str.empty
def wordR : Row0 → Str
  | .note _ w _ => w
  | _ => Str.empty
/-- the text of an edition -/
def textE (rs : List Row0) (dz : List Str) : Str := Txt.join "\n" (Txt.join " " ("drops" :: dz) :: rs.map textR)
/-- an edition's attributes -/
structure EdAt (K : PySem.W.Frag) (H : Hp) (fs : List (Str × V)) (xs : List V) (rs : List Row0) (d : PyData) : Prop where
  rows : ∃ t, fs.lookup ("rows" : Str) = some (.ref t) ∧ SqT K H t xs
  drops : ∃ t dz, fs.lookup ("drops" : Str) = some (.ref t) ∧ SqT K H t (dz.map V.str) ∧ Rises dz (dropsL d) ∧ fs.lookup ("_text" : Str) = some (.str (textE rs dz))
  first : ∃ r rest, rs = r :: rest ∧ fs.lookup ("first" : Str) = some (.str (placeR r))
  names : ∃ t zs, fs.lookup ("names" : Str) = some (.ref t) ∧ SqT K H t (zs.map V.str) ∧ Rises zs ((rs.filter askB).map nameR)
  marks : ∃ t zs, fs.lookup ("marks" : Str) = some (.ref t) ∧ SqT K H t (zs.map V.str) ∧ Rises zs ((rs.filter gateB).map markR)
  words : ∃ t zs, fs.lookup ("words" : Str) = some (.ref t) ∧ SqT K H t (zs.map V.str) ∧ Rises zs ((rs.filter noteB).map wordR)
  table : ∃ t, fs.lookup ("_table" : Str) = some (.ref t) ∧ H t = some (.dK (tabZ xs rs))
  bare : ∀ g : Str, g ∉ edFields → fs.lookup g = none
def spEd (K : PySem.W.Frag) (a : Ad) (b : Ae) : Sp := fun vs H Q E => ∃ (e dx p : Addr) (v : V) (xs : List V) (rs : List Row0) (d : PyData), vs = [.ref e, .ref p, v] ∧ H e = some (.ins b.cEd dx []) ∧ SqA K H p xs ∧ RowsAt K a H xs rs ∧ (∀ r ∈ rs, RowGood r) ∧ rs.length ≤ 60 ∧ Dp K H v d ∧ fine d = true ∧ (dropsL d).length < 64 ∧
  (wrongF rs d = none → ∀ (H' : Hp) (fs : List (Str × V)), But e H H' → H' e = some (.ins b.cEd dx fs) → EdAt K H' fs xs rs d → Q .non H') ∧
  (∀ z, wrongF rs d = some z → ∀ (H' : Hp) (q : Addr), Same H H' → H q = none → H' q = some (.xd [("word", .str z)]) → E (.ref a.cIe) (some q) H')
/-! ### lengths -/
theorem join_len (y : Str) (l : List Str) : (Txt.join y l).length ≤ (l.map (·.length)).sum + l.length * y.length := by
  have e : Txt.join y l = y.join l := by
    show Builtin.Str.glued y l = _
    exact StrLaws.glued_eq_join ..
  rw [e]
  exact StrLaws.join_length_le y l
theorem ok4 {z : Str} (h : nameOk z = true) : z.length ≤ 4 := by
  obtain ⟨_, e, l⟩ := nameD_is (d := .str z) h
  cases e
  exact l
theorem words_many {r : Row0} (g : RowGood r) : (wordsR r).length ≤ 9 := by
  cases r with
  | ask p n ws =>
    have few : ws.length ≤ 3 := g.2.2.2.1
    have h : ∀ l : List (Str × Str), ((l.map fun w => [w.1, w.2]).flatten).length = 2 * l.length := by
      intro l
      induction l with
      | nil => rfl
      | cons a l ih => rw [List.map_cons, List.flatten_cons, List.length_append, ih]; simp only [List.length_cons, List.length_nil]; omega
    show ((ws.map fun w => [w.1, w.2]).flatten).length + 1 + 1 + 1 ≤ 9
    rw [h]
    omega
  | note p w t => show 4 ≤ 9; decide
  | gate p m n e => show 5 ≤ 9; decide
  | end_ p => show 2 ≤ 9; decide
theorem textR_len {r : Row0} (g : RowGood r) : (textR r).length ≤ 100 := by
  have h1 := join_len " " (wordsR r)
  have h2 := sum4 (ys := wordsR r) fun z hz => ok4 (good_words g z hz)
  have h3 := words_many g
  have e : (" " : Str).length = 1 := by decide
  rw [e] at h1
  show (Txt.join " " (wordsR r)).length ≤ 100
  omega
theorem sum_le {n : Nat} : ∀ {ys : List Str}, (∀ y ∈ ys, y.length ≤ n) → (ys.map (·.length)).sum ≤ n * ys.length
  | [], _ => by simp
  | y :: r, h => by
    have ih := sum_le (ys := r) fun z hz => h z (List.mem_cons_of_mem _ hz)
    have h1 := h y List.mem_cons_self
    rw [List.map_cons, List.sum_cons, List.length_cons, Nat.mul_add]
    omega
/-! ### while the object is made -/
theorem row_but {H H' : Hp} {e C dx : Addr} (he : H e = some (.ins C dx [])) (k : But e H H') {v : V} {r : Row0} (h : RowAt K a H v r) : RowAt K a H' v r := by
  obtain ⟨x, dy, fs, rfl, hx, hf, hb⟩ := h.ex
  have ne : x ≠ e := fun z => by
    rw [z, he] at hx
    have e1 : fs = [] := by
      injection hx with q
      injection q with _ _ q
      exact q.symm
    have := row_place (x := x) (dx := dy) hf
    rw [e1] at this
    cases this
  refine ⟨x, dy, fs, rfl, k _ _ hx ne, ?_, hb⟩
  cases r with
  | ask p n ws =>
    obtain ⟨h1, h2, ⟨wa, h3, h4⟩, h5⟩ := hf
    exact ⟨h1, h2, ⟨wa, h3, dp_but he k _ _ h4⟩, h5⟩
  | _ => exact hf
theorem rows_but {H H' : Hp} {e C dx : Addr} (he : H e = some (.ins C dx [])) (k : But e H H') : ∀ {vs : List V} {rs : List Row0}, RowsAt K a H vs rs → RowsAt K a H' vs rs
  | _, _, .nil => .nil
  | _, _, .cons h t => .cons (row_but he k h) (rows_but he k t)
structure Mid (K : PySem.W.Frag) (C e dx : Addr) (H H1 : Hp) (fs : List (Str × V)) (n : Nat) (L : List (Str × List V)) (M : List (Str × V)) : Prop where
  but : But e H H1
  at_ : H1 e = some (.ins C dx fs)
  len : fs.length ≤ n
  tup : ∀ q ∈ L, ∃ t, fs.lookup q.1 = some (.ref t) ∧ SqT K H1 t q.2
  sca : ∀ q ∈ M, fs.lookup q.1 = some q.2
  bare : ∀ g : Str, g ∉ edFields → fs.lookup g = none
theorem Mid.zero {C e dx : Addr} {H : Hp} (he : H e = some (.ins C dx [])) : Mid K C e dx H H [] 0 [] [] := ⟨fun _ _ h _ => h, he, Nat.le_refl _, fun _ h => (nomatch h), fun _ h => (nomatch h), fun _ _ => rfl⟩
theorem Mid.move {C e dx : Addr} {H H1 H2 : Hp} {fs : List (Str × V)} {n : Nat} {L : List (Str × List V)} {M : List (Str × V)} (m : Mid K C e dx H H1 fs n L M) (s : Same H1 H2) : Mid K C e dx H H2 fs n L M :=
  ⟨fun b o h ne => s _ _ (m.but b o h ne), s _ _ m.at_, m.len, fun q hq => let ⟨t, h1, h2⟩ := m.tup q hq; ⟨t, h1, same_tup s h2⟩, m.sca, m.bare⟩
theorem Mid.putS {C e dx : Addr} {H H1 : Hp} {fs : List (Str × V)} {n : Nat} {L : List (Str × List V)} {M : List (Str × V)} (m : Mid K C e dx H H1 fs n L M) (f : Str) (v : V) (nL : ∀ q ∈ L, q.1 ≠ f) (nM : ∀ q ∈ M, q.1 ≠ f) (hf : f ∈ edFields := by simp) :
    Mid K C e dx H (upd H1 e (.ins C dx (putF f v fs))) (putF f v fs) (n + 1) L ((f, v) :: M) := by
  have k : But e H1 (upd H1 e (.ins C dx (putF f v fs))) := fun b o h ne => by rw [upd_ne ne]; exact h
  refine ⟨fun b o h ne => k _ _ (m.but b o h ne) ne, upd_same, ?_, fun q hq => ?_, fun q hq => ?_, fun g hg => by rw [lookup_putF, if_neg (fun z : g = f => hg (by rw [z]; exact hf))]; exact m.bare g hg⟩
  · have := length_putF f v fs
    have := m.len
    omega
  · obtain ⟨t, h1, h2⟩ := m.tup q hq
    exact ⟨t, by rw [lookup_putF, if_neg (nL q hq)]; exact h1, But.tup m.at_ k h2⟩
  · rcases List.mem_cons.mp hq with rfl | hq
    · rw [lookup_putF, if_pos rfl]
    · rw [lookup_putF, if_neg (nM q hq)]
      exact m.sca q hq
theorem Mid.putT {C e dx : Addr} {H H1 : Hp} {fs : List (Str × V)} {n : Nat} {L : List (Str × List V)} {M : List (Str × V)} (m : Mid K C e dx H H1 fs n L M) (f : Str) {t : Addr} {ys : List V} (ht : SqT K H1 t ys) (nL : ∀ q ∈ L, q.1 ≠ f) (nM : ∀ q ∈ M, q.1 ≠ f) (hf : f ∈ edFields := by simp) :
    Mid K C e dx H (upd H1 e (.ins C dx (putF f (.ref t) fs))) (putF f (.ref t) fs) (n + 1) ((f, ys) :: L) M := by
  have k : But e H1 (upd H1 e (.ins C dx (putF f (.ref t) fs))) := fun b o h ne => by rw [upd_ne ne]; exact h
  have z := m.putS f (.ref t) nL nM hf
  refine ⟨z.but, z.at_, z.len, fun q hq => ?_, fun q hq => z.sca q (List.mem_cons_of_mem _ hq), z.bare⟩
  rcases List.mem_cons.mp hq with rfl | hq
  · exact ⟨t, by rw [lookup_putF, if_pos rfl], But.tup m.at_ k ht⟩
  · exact z.tup q hq
theorem rises_of {zs l : List Str} {S : Str → Bool} (h1 : PyProof.Rows.sortedS zs = true) (h2 : zs.Nodup) (h3 : ∀ k, k ∈ zs ↔ S k = true) (h4 : ∀ k, S k = true ↔ k ∈ l) : Rises zs l := ⟨h1, h2, fun k => (h3 k).trans (h4 k)⟩
theorem rises_perm {zs l : List Str} (h : zs.Perm l) (s : PyProof.Rows.sortedS zs = true) (nd : l.Nodup) : Rises zs l := ⟨s, h.nodup_iff.mpr nd, fun _ => h.mem_iff⟩
theorem wrong_none {rs : List Row0} {d : PyData} (h : wrongF rs d = none) : rs ≠ [] ∧ unlikeD d = true ∧ (rs.map placeR).Nodup := by
  unfold wrongF at h
  split at h
  · cases h
  split at h
  · cases h
  split at h
  · refine ⟨fun z => ?_, ?_, by assumption⟩
    · subst z
      simp at *
    · simp_all
  · cases h
theorem fld_text {H : Hp} {fs : List (Str × V)} {r : Row0} (h : fieldsOk K H fs r) : fs.lookup ("_text" : Str) = some (.str (textR r)) := by
  cases r with
  | ask p n ws => exact h.2.2.2
  | note p m n => exact h.2.2.2
  | gate p m n o => exact h.2.2.2.2
  | end_ p => exact h.2
theorem fld_ask {H : Hp} {fs : List (Str × V)} {r : Row0} (h : fieldsOk K H fs r) (e : askB r = true) : fs.lookup ("name" : Str) = some (.str (nameR r)) := by
  cases r with
  | ask p n ws => exact h.2.1
  | _ => cases e
theorem fld_gate {H : Hp} {fs : List (Str × V)} {r : Row0} (h : fieldsOk K H fs r) (e : gateB r = true) : fs.lookup ("mark" : Str) = some (.str (markR r)) := by
  cases r with
  | gate p m n o => exact h.2.1
  | _ => cases e
theorem fld_note {H : Hp} {fs : List (Str × V)} {r : Row0} (h : fieldsOk K H fs r) (e : noteB r = true) : fs.lookup ("word" : Str) = some (.str (wordR r)) := by
  cases r with
  | note p m n => exact h.2.1
  | _ => cases e
theorem scEd : FnScope nEd ["self", "rows", "drops"] (defScope sEd) := ⟨rfl, rfl, rfl, by decide +kernel, rfl, by decide +kernel, by decide +kernel⟩
abbrev tCol (P : Program) (w : World) (K : PySem.W.Frag) (C : Addr) (f : Str) : TE := tScx P w (fun σ H R => iList K (tVar 1) σ H R ∨ iTup K (tVar 1) σ H R) (gName 5) (tIsi K 5 C) (tFld K (tVar 5) f) [5]
theorem EdT.okEd (T : Txt K mg a) (R : RowF K a fEq fStr dEq dStr) (L : LeadsF K a fR fA fN fG dR dA dN dG) (D : EdT K mg a b) (strI : PySem.W.isFn K (.ref fStr) = true) (strAt : ∀ C ∈ rowCs a, PySem.W.findIn K (.ref C) "__str__" = some (some (.ref fStr))) : FnOk P w K mg base (L2.CX P w) 5 b.fEd b.dEd ["self", "rows", "drops"] (spEd K a b) := by
  refine D.F.ok scEd (fun vs H Q E h => ?_) (fun cdv A outer s H vs Q E hr h => ?_)
  · obtain ⟨e, dx, p, v, xs, rs, d, rfl, _⟩ := h
    rfl
  · obtain ⟨e, dx, p, v, xs, rs, d, rfl, he, hs, hR, gr, few, hd, hz, fewd, kN, kE⟩ := h
    have hr3 : Room 3 _ := hr.mono (by decide)
    have hr2 : Room 2 _ := hr.mono (by decide)
    have OW : FnOk P w K mg base CX0 3 b.gW b.eW ["rows", "drops"] (spWrong K a) := okWrong T R L D.N D.are.F D.are.b D.are.g D.unl.F D.unl.b D.unl.g D.ring.F D.ring.b D.ring.g D.wrong.F
    have OIe : FnOk P w K mg base CX0 1 b.fIe b.dIe ["self", "word"] (spErr a.cIe "word") := D.okIe
    have OS : FnOk P w K mg base CX0 1 fStr dStr ["self"] (spStrR K a) := R.okStr T
    refine ⟨_, pss_cons (ps_set (i := 3) scEd.nd rfl (Or.inl rfl) (pe_call OW hr3 rfl D.wrong.g D.wrong.F.kp D.wrong.b .nil pass0 (pa_cons (pv 1) (pa_cons (pv 2) pa_nil))))
      (pss_cons (ps_if (pt_cmpR op_notN (pv 3) pe_non rfl) (pss_one (ps_raise rfl (takes_of rfl rfl rfl rfl) (pmk_oex D.ie D.ieI D.ieT OIe hr2 D.ieB .nil pass0 rfl D.gIe (pa_cons (pv 3) pa_nil)))) pss_nil)
      (pss_cons (ps_fld (pv 0) (pe_callTy call_tuple_of (by rfl) T.tTuple PyProof.Rows.boot_tuple (pa_cons (pv 1) pa_nil)) rfl)
      (pss_cons (ps_fld (pv 0) (pe_callTy call_tuple_of (by rfl) T.tTuple PyProof.Rows.boot_tuple (pa_cons (pe_callB cr_sortedA (by rfl) D.N.sorted PyProof.Rows.boot_sorted (pa_cons (pv 2) pa_nil)) pa_nil)) rfl)
      (pss_cons (ps_fld (pv 0) (pe_fld (pe_ix ix_tup (pe_fld (pv 0) rfl) pe_int (fun _ _ => rfl)) rfl) rfl)
      (pss_cons (ps_fld (pv 0) (pe_callTy call_tuple_of (by rfl) T.tTuple PyProof.Rows.boot_tuple (pa_cons (pe_callB (cr_sortedX rfl) (by rfl) D.N.sorted PyProof.Rows.boot_sorted (pa_cons (pe_scx (own := [("row", 5)]) (g := gName 5) (tt := tIsi K 5 a.cAsk) (te := tFld K (tVar 5) "name") (by rfl) scEd.nd (pi_seq (pv 1))
          (blkOk_by (own := [("row", 5)]) (N := nEd) (sc := defScope sEd) (by decide +kernel)) (fun _ _ _ _ _ => pg_name (i := 5) scEd.nd rfl (Or.inl rfl)) (fun _ _ _ _ _ => pts_one (pt_val (pe_callB call_isi (by rfl) T.tIs PyProof.Rows.boot_isinstance (pa_cons (pv 5) (pa_cons (pe_glob (v := .ref a.cAsk) (by rfl) T.ask.g rfl) pa_nil))))) (fun _ _ _ _ _ => pe_fld (pv 5) rfl)) pa_nil)) pa_nil)) rfl)
      (pss_cons (ps_fld (pv 0) (pe_callTy call_tuple_of (by rfl) T.tTuple PyProof.Rows.boot_tuple (pa_cons (pe_callB (cr_sortedX rfl) (by rfl) D.N.sorted PyProof.Rows.boot_sorted (pa_cons (pe_scx (own := [("row", 5)]) (g := gName 5) (tt := tIsi K 5 a.cGate) (te := tFld K (tVar 5) "mark") (by rfl) scEd.nd (pi_seq (pv 1))
          (blkOk_by (own := [("row", 5)]) (N := nEd) (sc := defScope sEd) (by decide +kernel)) (fun _ _ _ _ _ => pg_name (i := 5) scEd.nd rfl (Or.inl rfl)) (fun _ _ _ _ _ => pts_one (pt_val (pe_callB call_isi (by rfl) T.tIs PyProof.Rows.boot_isinstance (pa_cons (pv 5) (pa_cons (pe_glob (v := .ref a.cGate) (by rfl) T.gate.g rfl) pa_nil))))) (fun _ _ _ _ _ => pe_fld (pv 5) rfl)) pa_nil)) pa_nil)) rfl)
      (pss_cons (ps_fld (pv 0) (pe_callTy call_tuple_of (by rfl) T.tTuple PyProof.Rows.boot_tuple (pa_cons (pe_callB (cr_sortedX rfl) (by rfl) D.N.sorted PyProof.Rows.boot_sorted (pa_cons (pe_scx (own := [("row", 5)]) (g := gName 5) (tt := tIsi K 5 a.cNote) (te := tFld K (tVar 5) "word") (by rfl) scEd.nd (pi_seq (pv 1))
          (blkOk_by (own := [("row", 5)]) (N := nEd) (sc := defScope sEd) (by decide +kernel)) (fun _ _ _ _ _ => pg_name (i := 5) scEd.nd rfl (Or.inl rfl)) (fun _ _ _ _ _ => pts_one (pt_val (pe_callB call_isi (by rfl) T.tIs PyProof.Rows.boot_isinstance (pa_cons (pv 5) (pa_cons (pe_glob (v := .ref a.cNote) (by rfl) T.note.g rfl) pa_nil))))) (fun _ _ _ _ _ => pe_fld (pv 5) rfl)) pa_nil)) pa_nil)) rfl)
      (pss_cons (ps_fld (pv 0) (pe_dc (own := [("row", 5)]) (g := gName 5) (tt := tYes) (tk := tFld K (tVar 5) "place") (tv := tVar 5) (by rfl) scEd.nd (pi_seq (pv 1))
          (blkOk_by (own := [("row", 5)]) (N := nEd) (sc := defScope sEd) (by decide +kernel)) (fun _ _ _ _ _ => pg_name (i := 5) scEd.nd rfl (Or.inl rfl)) (fun _ _ _ _ _ => pts_nil) (fun _ _ _ _ _ => pe_fld (pv 5) rfl) (fun _ _ _ _ _ => pv 5)) rfl)
      (pss_cons (ps_set (i := 4) scEd.nd rfl (Or.inl rfl) (pe_join pe_str (pe_lst (pa_cons pe_str (StX.pa_star (pe_fld (pv 0) rfl) pa_nil)))))
      (pss_one (ps_fld (pv 0) (pe_join pe_str (pe_lst (pa_cons (pv 4) (StX.pa_star (pe_lc (own := [("row", 5)]) (g := gName 5) (tt := tYes) (te := tCB (rStrOwn K fStr (spStrR K a) (fun _ _ _ => False)) (tCons (tVar 5) tNil)) (by rfl) scEd.nd (pi_seq (pv 1))
          (blkOk_by (own := [("row", 5)]) (N := nEd) (sc := defScope sEd) (by decide +kernel)) (fun _ _ _ _ _ => pg_name (i := 5) scEd.nd rfl (Or.inl rfl)) (fun _ _ _ _ _ => pts_nil)
          (fun _ _ _ _ _ => pe_callTy (call_strOwn OS hr3 strI R.strB pass0) (by rfl) T.tStr PyProof.Rows.boot_str (pa_cons (pv 5) pa_nil))) pa_nil)))) rfl))))))))))), ?_⟩
    have e3 : PyData → True := fun _ => trivial
    refine ⟨_, rfl, _, rfl, p, v, xs, rs, d, rfl, hs, hR, gr, few, hd, hz, fun H1 s1 => ?_⟩
    dsimp only [gName, tNext]
    refine ⟨_, rfl, rfl, _, rfl, ?_⟩
    cases ew : wrongF rs d with
    | some z =>
      refine iteT ⟨_, rfl, (by show 1 ≤ 1000; decide), fun x hx => ⟨x, _, rfl, upd_same, fun q n1 n2 => ⟨rfl, q, _, upd_same, by rw [upd_ne n2]; exact upd_same, ?_, ?_⟩⟩⟩
      · rwa [upd_ne n2] at n1
      · rw [err_heap hx n1 n2]
        have hq' : H1 q = none := by rwa [upd_ne n2] at n1
        exact kE z ew _ q (s1.trans (same_new hq')) (s1.free hq') upd_same
    | none =>
      refine iteF ?_
      rw [show vOpt none = V.non from rfl]
      dsimp only [tNext]
      obtain ⟨nonempty, ud, ndp⟩ := wrong_none ew
      obtain ⟨qd, zs, rfl, hzs, edr, ndz, _, nzs⟩ := unlike_seq hd hz ud
      have fz : zs.length < 64 := by rw [← edr]; exact fewd
      have m0 := (Mid.zero (K := K) he).move s1
      have lt {fs : List (Str × V)} {n : Nat} {L : List (Str × List V)} {M : List (Str × V)} {H2 : Hp} (m : Mid K b.cEd e dx H H2 fs n L M) (h : n < 10) : fs.length < 1000 := Nat.lt_of_le_of_lt m.len (Nat.lt_trans h (by decide))
      refine seq_cut (fun σ1 H2 => σ1 = [some (.ref e), some (.ref p), some (.ref qd), some .non, none, none] ∧ ∃ fs, Mid K b.cEd e dx H H2 fs 1 [("rows", xs)] []) ?after fun after => ?go
      case go =>
        refine ⟨_, rfl, p, xs, rfl, ?_⟩
        rcases hs.same s1 with hs1 | hs1
        · refine .inl ⟨hs1, fun l ul => ?_⟩
          have m1 := m0.move (same_new (o := .tup xs) ul)
          exact ⟨_, rfl, e, b.cEd, dx, _, rfl, m1.at_, D.cl, D.no _ (by simp), lt m1 (by decide), after _ _ ⟨rfl, _, m1.putT "rows" (SqT.of upd_same) (by (first | (simp; done) | (simp; decide))) (by (first | (simp; done) | (simp; decide)))⟩⟩
        · exact .inr ⟨hs1, _, rfl, e, b.cEd, dx, _, rfl, m0.at_, D.cl, D.no _ (by simp), lt m0 (by decide), after _ _ ⟨rfl, _, m0.putT "rows" hs1 (by (first | (simp; done) | (simp; decide))) (by (first | (simp; done) | (simp; decide)))⟩⟩
      case after =>
        rintro _ H2 ⟨rfl, fs, m⟩
        -- drops
        refine seq_cut (fun σ1 H2 => σ1 = [some (.ref e), some (.ref p), some (.ref qd), some .non, none, none] ∧ ∃ fs dz, Rises dz (dropsL d) ∧ dz.Perm zs ∧ Mid K b.cEd e dx H H2 fs 2 [("drops", dz.map V.str), ("rows", xs)] []) ?after2 fun after => ?go2
        case go2 =>
          refine ⟨_, rfl, qd, _, rfl, But.sqA he m.but hzs, fz, fun dz l pz sz ul => ?_⟩
          have m1 := m.move (same_new (o := .lst (dz.map V.str)) ul)
          refine ⟨l, _, rfl, .inl ⟨SqL.of upd_same, fun t ut => ?_⟩⟩
          have m2 := m1.move (same_new (o := .tup (dz.map V.str)) ut)
          exact ⟨_, rfl, e, b.cEd, dx, _, rfl, m2.at_, D.cl, D.no _ (by simp), lt m2 (by decide), after _ _ ⟨rfl, _, dz, rises_perm (by rw [edr]; exact pz) sz (by rw [edr]; exact ndz), pz, m2.putT "drops" (SqT.of upd_same) (by (first | (simp; done) | (simp; decide))) (by (first | (simp; done) | (simp; decide)))⟩⟩
        case after2 =>
          rintro _ H2 ⟨rfl, fs, dz, rz, pz, m⟩
          -- first
          obtain ⟨r0, rest, ers⟩ : ∃ r0 rest, rs = r0 :: rest := by
            cases rs with
            | nil => exact absurd rfl nonempty
            | cons r l => exact ⟨r, l, rfl⟩
          refine seq_cut (fun σ1 H2 => σ1 = [some (.ref e), some (.ref p), some (.ref qd), some .non, none, none] ∧ ∃ fs, Mid K b.cEd e dx H H2 fs 3 [("drops", dz.map V.str), ("rows", xs)] [("first", .str (placeR r0))]) ?after3 fun after => ?go3
          case go3 =>
            have hR2 := rows_but he m.but hR
            obtain ⟨tr, ltr, htr⟩ := m.tup ("rows", xs) (by simp)
            cases hR2 with
            | nil => cases ers
            | cons hx hrest =>
              injection ers with e1 e2
              subst e1 e2
              obtain ⟨y, dy, gs, rfl, hy, hf, hb⟩ := hx.ex
              refine ⟨_, rfl, e, b.cEd, dx, fs, _, rfl, m.at_, D.cl, D.no _ (by simp), ltr, tr, _, 0, _, rfl, rfl, htr, atI_nat (j := 0) rfl, ?_⟩
              exact ⟨y, _, dy, gs, _, rfl, hy, R.cls _ (cls_mem _), T.no _ (cls_mem _) _ (by simp), row_place (x := y) (dx := dy) hf, _, rfl, e, b.cEd, dx, _, rfl, m.at_, D.cl, D.no _ (by simp), lt m (by decide), after _ _ ⟨rfl, _, m.putS "first" _ (by (first | (simp; done) | (simp; decide))) (by (first | (simp; done) | (simp; decide)))⟩⟩
          case after3 =>
            rintro _ H2 ⟨rfl, fs, m⟩
            have isi : ∀ {x : V} {r : Row0} {H4 : Hp} {C : Addr} {f : Row0 → Bool} {Q : Bool → Hp → Prop}, RowAt K a H4 x r → (∀ r, PySem.W.kitOne K (.ref (clsR a r)) (.ref C) = some (f r)) → (Q (f r) H4) → tIsi K 5 C [some (.ref e), some (.ref p), some (.ref qd), some .non, none, some x] H4 Q := fun {x r H4 C f Q} hx kt q => by
              obtain ⟨y, dy, gs, rfl, hy, hf, hb⟩ := hx.ex
              exact ⟨_, rfl, _, _, _, _, _, rfl, .own C, R.ty (cls_mem r) hy, kt r, _, rfl, q⟩
            -- names
            refine seq_cut (fun σ1 H2 => σ1 = [some (.ref e), some (.ref p), some (.ref qd), some .non, none, none] ∧ ∃ fs zs4, Rises zs4 ((rs.filter askB).map nameR) ∧ Mid K b.cEd e dx H H2 fs 4 [("names", zs4.map V.str), ("drops", dz.map V.str), ("rows", xs)] [("first", .str (placeR r0))]) ?after4 fun after => ?go4
            case go4 =>
              have hR2 := rows_but he m.but hR
              refine seq_run rfl (But.sqA he m.but hs) fun J hJ DD un => scx_J askB nameR hJ hR2 few un (fun x r H3 Q3 hm hx s3 k => isi hx D.N.ask (k _ (Same.refl _))) (fun x r H3 Q3 hm ea hx s3 k => ?_) fun H3 S n s3 h3 hn hk => ?_
              · obtain ⟨y, dy, gs, rfl, hy, hf, hb⟩ := hx.ex
                exact ⟨_, rfl, y, _, dy, gs, _, rfl, hy, R.cls _ (cls_mem r), T.no _ (cls_mem r) _ (by simp), fld_ask hf ea, k _ (Same.refl _)⟩
              · refine ⟨DD, S, n, rfl, h3, by omega, fun zs4 l sz nd2 mem ln ul => ⟨l, _, rfl, .inl ⟨SqL.of upd_same, fun t ut => ?_⟩⟩⟩
                have m1 := m.move s3
                have m2 := m1.move (same_new (o := .lst (zs4.map V.str)) ul)
                have m3 := m2.move (same_new (o := .tup (zs4.map V.str)) ut)
                exact ⟨_, rfl, e, b.cEd, dx, _, rfl, m3.at_, D.cl, D.no _ (by simp), lt m3 (by decide), after _ _ ⟨rfl, _, zs4, rises_of sz nd2 mem hk, m3.putT "names" (SqT.of upd_same) (by (first | (simp; done) | (simp; decide))) (by (first | (simp; done) | (simp; decide)))⟩⟩
            case after4 =>
              rintro _ H2 ⟨rfl, fs, zs4, rz4, m⟩
              -- marks
              refine seq_cut (fun σ1 H2 => σ1 = [some (.ref e), some (.ref p), some (.ref qd), some .non, none, none] ∧ ∃ fs zs5, Rises zs5 ((rs.filter gateB).map markR) ∧ Mid K b.cEd e dx H H2 fs 5 [("marks", zs5.map V.str), ("names", zs4.map V.str), ("drops", dz.map V.str), ("rows", xs)] [("first", .str (placeR r0))]) ?after5 fun after => ?go5
              case go5 =>
                have hR2 := rows_but he m.but hR
                refine seq_run rfl (But.sqA he m.but hs) fun J hJ DD un => scx_J gateB markR hJ hR2 few un (fun x r H3 Q3 hm hx s3 k => isi hx D.N.gate (k _ (Same.refl _))) (fun x r H3 Q3 hm ea hx s3 k => ?_) fun H3 S n s3 h3 hn hk => ?_
                · obtain ⟨y, dy, gs, rfl, hy, hf, hb⟩ := hx.ex
                  exact ⟨_, rfl, y, _, dy, gs, _, rfl, hy, R.cls _ (cls_mem r), T.no _ (cls_mem r) _ (by simp), fld_gate hf ea, k _ (Same.refl _)⟩
                · refine ⟨DD, S, n, rfl, h3, by omega, fun zs5 l sz nd2 mem ln ul => ⟨l, _, rfl, .inl ⟨SqL.of upd_same, fun t ut => ?_⟩⟩⟩
                  have m1 := m.move s3
                  have m2 := m1.move (same_new (o := .lst (zs5.map V.str)) ul)
                  have m3 := m2.move (same_new (o := .tup (zs5.map V.str)) ut)
                  exact ⟨_, rfl, e, b.cEd, dx, _, rfl, m3.at_, D.cl, D.no _ (by simp), lt m3 (by decide), after _ _ ⟨rfl, _, zs5, rises_of sz nd2 mem hk, m3.putT "marks" (SqT.of upd_same) (by (first | (simp; done) | (simp; decide))) (by (first | (simp; done) | (simp; decide)))⟩⟩
              case after5 =>
                rintro _ H2 ⟨rfl, fs, zs5, rz5, m⟩
                -- words
                refine seq_cut (fun σ1 H2 => σ1 = [some (.ref e), some (.ref p), some (.ref qd), some .non, none, none] ∧ ∃ fs zs6, Rises zs6 ((rs.filter noteB).map wordR) ∧ Mid K b.cEd e dx H H2 fs 6 [("words", zs6.map V.str), ("marks", zs5.map V.str), ("names", zs4.map V.str), ("drops", dz.map V.str), ("rows", xs)] [("first", .str (placeR r0))]) ?after6 fun after => ?go6
                case go6 =>
                  have hR2 := rows_but he m.but hR
                  refine seq_run rfl (But.sqA he m.but hs) fun J hJ DD un => scx_J noteB wordR hJ hR2 few un (fun x r H3 Q3 hm hx s3 k => isi hx D.N.note (k _ (Same.refl _))) (fun x r H3 Q3 hm ea hx s3 k => ?_) fun H3 S n s3 h3 hn hk => ?_
                  · obtain ⟨y, dy, gs, rfl, hy, hf, hb⟩ := hx.ex
                    exact ⟨_, rfl, y, _, dy, gs, _, rfl, hy, R.cls _ (cls_mem r), T.no _ (cls_mem r) _ (by simp), fld_note hf ea, k _ (Same.refl _)⟩
                  · refine ⟨DD, S, n, rfl, h3, by omega, fun zs6 l sz nd2 mem ln ul => ⟨l, _, rfl, .inl ⟨SqL.of upd_same, fun t ut => ?_⟩⟩⟩
                    have m1 := m.move s3
                    have m2 := m1.move (same_new (o := .lst (zs6.map V.str)) ul)
                    have m3 := m2.move (same_new (o := .tup (zs6.map V.str)) ut)
                    exact ⟨_, rfl, e, b.cEd, dx, _, rfl, m3.at_, D.cl, D.no _ (by simp), lt m3 (by decide), after _ _ ⟨rfl, _, zs6, rises_of sz nd2 mem hk, m3.putT "words" (SqT.of upd_same) (by (first | (simp; done) | (simp; decide))) (by (first | (simp; done) | (simp; decide)))⟩⟩
                case after6 =>
                  rintro _ H2 ⟨rfl, fs, zs6, rz6, m⟩
                  -- the table
                  refine seq_cut (fun σ1 H2 => σ1 = [some (.ref e), some (.ref p), some (.ref qd), some .non, none, none] ∧ ∃ fs DD, H2 DD = some (.dK (tabZ xs rs)) ∧ Mid K b.cEd e dx H H2 fs 7 [("words", zs6.map V.str), ("marks", zs5.map V.str), ("names", zs4.map V.str), ("drops", dz.map V.str), ("rows", xs)] [("_table", .ref DD), ("first", .str (placeR r0))]) ?after7 fun after => ?go7
                  case go7 =>
                    have hR2 := rows_but he m.but hR
                    refine seq_run rfl (But.sqA he m.but hs) fun J hJ DD un => dc_J hJ hR2 few un ndp (fun x r H3 Q3 hm hx s3 k => ?_) (fun x r H3 Q3 hm hx s3 k => ⟨_, rfl, k _ (Same.refl _)⟩) fun H3 s3 h3 => ?_
                    · obtain ⟨y, dy, gs, rfl, hy, hf, hb⟩ := hx.ex
                      exact ⟨_, rfl, y, _, dy, gs, _, rfl, hy, R.cls _ (cls_mem r), T.no _ (cls_mem r) _ (by simp), row_place (x := y) (dx := dy) hf, k _ (Same.refl _)⟩
                    · have m3 := m.move s3
                      have ne : DD ≠ e := fun z => by rw [z, m3.at_] at h3; cases h3
                      exact ⟨_, rfl, e, b.cEd, dx, _, rfl, m3.at_, D.cl, D.no _ (by simp), lt m3 (by decide), after _ _ ⟨rfl, _, DD, by rw [upd_ne ne]; exact h3, m3.putS "_table" (.ref DD) (by (first | (simp; done) | (simp; decide))) (by (first | (simp; done) | (simp; decide)))⟩⟩
                  case after7 =>
                    rintro _ H2 ⟨rfl, fs, DD, hDD, m⟩
                    -- the head
                    obtain ⟨td, ltd, htd⟩ := m.tup ("drops", dz.map V.str) (by simp)
                    have dzl : dz.length < 64 := by rw [pz.length_eq]; exact fz
                    have dzo : ∀ z ∈ dz, nameOk z = true := fun z hz => nzs z (pz.mem_iff.mp hz)
                    have sdz := sum_le (n := 4) (ys := dz) fun z hz => ok4 (dzo z hz)
                    have hsum : (("drops" :: dz : List Str).map (·.length)).sum ≤ 5 + 4 * 64 := by
                      rw [List.map_cons, List.sum_cons]
                      have e5 : ("drops" : Str).length = 5 := by decide
                      omega
                    have lhead : (Txt.join " " ("drops" :: dz)).length ≤ 1000 := by
                      have h1 := join_len " " ("drops" :: dz)
                      have e : (" " : Str).length = 1 := by decide
                      rw [e, List.length_cons] at h1
                      omega
                    refine ⟨⟨_, rfl⟩, _, rfl, e, b.cEd, dx, fs, _, rfl, m.at_, D.cl, D.no "drops" (by simp), ltd, td, _, rfl, .inl htd, ?_, fun l ul => ?_⟩
                    · rw [List.append_nil, List.length_cons, List.length_map]
                      exact Nat.le_trans (show dz.length + 1 ≤ 65 by omega) (by decide)
                    · rw [List.append_nil]
                      have m1 := m.move (same_new (o := .lst (V.str "drops" :: dz.map V.str)) ul)
                      refine ⟨_, l, "drops" :: dz, rfl, rfl, .inl (SqL.of upd_same), ?_, ?_⟩
                      · have e : (" " : Str).length = 1 := by decide
                        rw [e, List.length_cons]
                        omega
                      have hDD1 : (upd H2 l (.lst (V.str "drops" :: dz.map V.str))) DD = some (.dK (tabZ xs rs)) := (same_new ul) _ _ hDD
                      generalize (upd H2 l (.lst (V.str "drops" :: dz.map V.str))) = H3 at m1 hDD1 ⊢
                      dsimp only [gName, tNext]
                      have hR3 := rows_but he m1.but hR
                      refine ⟨⟨_, rfl⟩, _, rfl, ?_⟩
                      refine seq_run rfl (But.sqA he m1.but hs) fun J hJ D7 u7 => lc_of_J (rs.map fun r => some (.str (textR r))) hJ u7 (turnsRowsY (fun r => .str (textR r)) hR3 (by rw [hR3.len]; omega) fun x r H4 Q4 hm hx s4 k => ?_) mono_yes fun H4 s4 h4 => ?_
                      · obtain ⟨y, dy, gs, rfl, hy, hf, hb⟩ := hx.ex
                        exact ⟨_, rfl, y, _, dy, gs, rfl, hy, strAt _ (cls_mem r), y, _, dy, gs, _, rfl, hy, cls_mem r, fld_text hf, _, rfl, k _ (Same.refl _)⟩
                      · rw [outRows] at h4
                        refine ⟨D7, _, rfl, .inr (SqL.of h4), ?_, fun l2 ul2 => ?_⟩
                        · rw [List.append_nil, List.length_cons, List.length_map]
                          exact Nat.le_trans (show rs.length + 1 ≤ 61 by omega) (by decide)
                        · rw [List.append_nil]
                          have m2 := (m1.move s4).move (same_new (o := .lst (V.str (Txt.join " " ("drops" :: dz)) :: rs.map fun r => V.str (textR r))) ul2)
                          have hDD2 := (same_new (o := .lst (V.str (Txt.join " " ("drops" :: dz)) :: rs.map fun r => V.str (textR r))) ul2) _ _ (s4 _ _ hDD1)
                          have et : (V.str (Txt.join " " ("drops" :: dz)) :: rs.map fun r => V.str (textR r)) = (Txt.join " " ("drops" :: dz) :: rs.map textR).map V.str := by
                            rw [List.map_cons, List.map_map]
                            rfl
                          rw [et] at m2 hDD2 ⊢
                          refine ⟨_, l2, Txt.join " " ("drops" :: dz) :: rs.map textR, rfl, rfl, .inl (SqL.of upd_same), ?_, ?_⟩
                          · have h1 := sum_le (n := 100) (ys := rs.map textR) fun z hz => by
                              obtain ⟨r, hr, rfl⟩ := List.mem_map.mp hz
                              exact textR_len (gr r hr)
                            rw [List.length_map] at h1
                            have e : ("\n" : Str).length = 1 := by decide
                            rw [e, List.map_cons, List.sum_cons, List.length_cons, List.length_map]
                            omega
                          · have m3 := m2.putS "_text" (.str (Txt.join "\n" (Txt.join " " ("drops" :: dz) :: rs.map textR))) (by (first | (simp; done) | (simp; decide))) (by (first | (simp; done) | (simp; decide)))
                            have neD : DD ≠ e := fun z => by rw [z, m2.at_] at hDD2; cases hDD2
                            refine ⟨_, rfl, e, b.cEd, dx, _, rfl, m2.at_, D.cl, D.no "_text" (by simp), lt m2 (by decide), ?_⟩
                            refine kN ew _ _ m3.but m3.at_ ⟨m3.tup ("rows", xs) (by simp), ?_, ⟨r0, rest, ers, m3.sca ("first", _) (by simp)⟩, ?_, ?_, ?_, ⟨DD, m3.sca ("_table", _) (by simp), by rw [upd_ne neD]; exact hDD2⟩, m3.bare⟩
                            · obtain ⟨t, q1, q2⟩ := m3.tup ("drops", dz.map V.str) (by simp)
                              exact ⟨t, dz, q1, q2, rz, m3.sca ("_text", _) List.mem_cons_self⟩
                            · obtain ⟨t, q1, q2⟩ := m3.tup ("names", zs4.map V.str) (by simp)
                              exact ⟨t, zs4, q1, q2, rz4⟩
                            · obtain ⟨t, q1, q2⟩ := m3.tup ("marks", zs5.map V.str) (by simp)
                              exact ⟨t, zs5, q1, q2, rz5⟩
                            · obtain ⟨t, q1, q2⟩ := m3.tup ("words", zs6.map V.str) (by simp)
                              exact ⟨t, zs6, q1, q2, rz6⟩
end
end K2

set_option Elab.async false
set_option linter.all false
set_option maxRecDepth 100000
set_option maxHeartbeats 1000000
namespace Lw
theorem iteTb {A B : Prop} {b : Bool} (e : b = true) (h : A) : if b = true then A else B := by rw [if_pos e]; exact h
theorem iteFb {A B : Prop} {b : Bool} (e : b = false) (h : B) : if b = true then A else B := by rw [if_neg (by rw [e]; exact Bool.false_ne_true)]; exact h
end Lw
namespace K2
open PySem L2 Lw TL SxT
/-- the edition's methods and its class -/
structure EdM (K : PySem.W.Frag) (mg : Str → Option Value) (cEd fRow fLen fEq fStr : Addr) (dRow dLen dEq dStr : FuncData) : Prop where
  g : mg "Edition" = some (.ref cEd)
  cl : Cls K cEd
  no : ∀ n ∈ edFields, NoAttr K cEd n
  rowF : Fun K "row" "Edition.row" sEdRow fRow dRow
  rowB : Binds K dRow ["self", "place"] []
  lenF : Fun K "__len__" "Edition.__len__" sEdLen fLen dLen
  lenB : Binds K dLen ["self"] []
  eqF : Fun K "__eq__" "Edition.__eq__" sEdEq fEq dEq
  eqB : Binds K dEq ["self", "other"] []
  strF : Fun K "__str__" "Edition.__str__" sEdStr fStr dStr
  strB : Binds K dStr ["self"] []
  isA : PySem.W.findIn K (.ref cEd) "__class__" = some (some (.builtin "object.__class__"))
  get : PySem.W.specialIn K (.builtin "object.__class__") "__get__" = some (some (.builtin "getset_descriptor.__get__"))
  tak : PySem.W.takesIn K (.builtin "object.__class__") = some true
  obj : PySem.W.mroIn K cEd (.type "object") = some true
  own : PySem.W.kitOne K (.ref cEd) (.ref cEd) = some true
  noEd : ∀ T ∈ (["tuple", "str", "list"] : List String), PySem.W.kitOne K (.type T) (.ref cEd) = some false
def spEdStr (cEd : Addr) : Sp := fun vs H Q _ => ∃ (p dx : Addr) (fs : List (Str × V)) (z : Str), vs = [.ref p] ∧ H p = some (.ins cEd dx fs) ∧ fs.lookup ("_text" : Str) = some (.str z) ∧ Q (.str z) H
def spEdLen (K : PySem.W.Frag) (cEd : Addr) : Sp := fun vs H Q _ => ∃ (p dx t : Addr) (fs : List (Str × V)) (xs : List V), vs = [.ref p] ∧ H p = some (.ins cEd dx fs) ∧ fs.lookup ("rows" : Str) = some (.ref t) ∧ SqT K H t xs ∧ Q (.int xs.length) H
def spEdEq (K : PySem.W.Frag) (cEd : Addr) : Sp := fun vs H Q _ => ∃ (p dx : Addr) (fs : List (Str × V)) (z : Str) (y : V), vs = [.ref p, y] ∧ H p = some (.ins cEd dx fs) ∧ fs.lookup ("_text" : Str) = some (.str z) ∧
  ((∃ (q dy : Addr) (gs : List (Str × V)) (z' : Str), y = .ref q ∧ H q = some (.ins cEd dy gs) ∧ gs.lookup ("_text" : Str) = some (.str z') ∧ Q (.bl (decide (z = z'))) H) ∨
    ∃ T, T ∈ (["tuple", "str", "list"] : List String) ∧ TyX K H y (.type T) ∧ Q (.bl false) H)
/-- the row of a place that is there -/
def spEdRow (cEd : Addr) : Sp := fun vs H Q _ => ∃ (p dx t : Addr) (fs : List (Str × V)) (kvs : List (Key × V)) (z : Str) (x : V), vs = [.ref p, .str z] ∧ H p = some (.ins cEd dx fs) ∧ fs.lookup ("_table" : Str) = some (.ref t) ∧ H t = some (.dK kvs) ∧ valV kvs (Sum.inr z) = some x ∧ Q x H
section
variable {P : Program} {w : World} {K : PySem.W.Frag} {mg : Str → Option Value} {base : Heap} {a : Ad} {cEd fRow fLen fEq fStr : Addr} {dRow dLen dEq dStr : FuncData}
theorem tab_val {xs : List V} {rs : List Row0} {j : Nat} {x : V} {r : Row0} (nd : (rs.map placeR).Nodup) (h1 : xs[j]? = some x) (h2 : rs[j]? = some r) : valV (tabZ xs rs) (Sum.inr (placeR r)) = some x := by
  induction xs generalizing rs j with
  | nil => simp at h1
  | cons x0 xs ih =>
    cases rs with
    | nil => simp at h2
    | cons r0 rs =>
      rw [List.map_cons, List.nodup_cons] at nd
      cases j with
      | zero =>
        obtain rfl := Option.some.inj h1
        obtain rfl := Option.some.inj h2
        simp [tabZ, valV]
      | succ j =>
        have h1' : xs[j]? = some x := by simpa using h1
        have h2' : rs[j]? = some r := by simpa using h2
        have ne : placeR r0 ≠ placeR r := fun z => nd.1 (by rw [z]; exact List.mem_map_of_mem (List.mem_of_getElem? h2'))
        have z := ih nd.2 h1' h2'
        simp only [tabZ, valV, List.zipWith_cons_cons] at z ⊢
        rw [List.find?_cons_of_neg (by simp [ne])]
        exact z
theorem scEdRow : FnScope ["self", "place"] ["self", "place"] (defScope sEdRow) := ⟨rfl, rfl, rfl, by decide +kernel, rfl, by decide +kernel, by decide +kernel⟩
theorem scEdLen : FnScope ["self"] ["self"] (defScope sEdLen) := ⟨rfl, rfl, rfl, by decide +kernel, rfl, by decide +kernel, by decide +kernel⟩
theorem scEdEq : FnScope ["self", "other"] ["self", "other"] (defScope sEdEq) := ⟨rfl, rfl, rfl, by decide +kernel, rfl, by decide +kernel, by decide +kernel⟩
theorem scEdStr : FnScope ["self"] ["self"] (defScope sEdStr) := ⟨rfl, rfl, rfl, by decide +kernel, rfl, by decide +kernel, by decide +kernel⟩
theorem EdM.ty (M : EdM K mg cEd fRow fLen fEq fStr dRow dLen dEq dStr) {H : Hp} {p dx : Addr} {fs : List (Str × V)} (h : H p = some (.ins cEd dx fs)) : TyX K H (.ref p) (.ref cEd) := .base (.ins h M.cl M.isA M.get M.tak M.obj)
theorem EdM.okStr (M : EdM K mg cEd fRow fLen fEq fStr dRow dLen dEq dStr) (T : Txt K mg a) : FnOk P w K mg base CX0 1 fStr dStr ["self"] (spEdStr cEd) := by
  refine M.strF.ok scEdStr (fun vs H Q E h => ?_) (fun cdv A outer s H vs Q E hr h => ?_)
  · obtain ⟨p, dx, fs, z, rfl, _⟩ := h
    rfl
  · obtain ⟨p, dx, fs, z, rfl, hp, hz, fin⟩ := h
    exact ⟨_, pss_one (ps_ret (pe_callTy SkE.call_str_str (by rfl) T.tStr PyProof.Rows.boot_str (pa_cons (pe_fld (pv 0) rfl) pa_nil))), _, rfl, p, cEd, dx, fs, _, rfl, hp, M.cl, M.no "_text" (by simp), hz, _, rfl, fin⟩
theorem EdM.okLen (M : EdM K mg cEd fRow fLen fEq fStr dRow dLen dEq dStr) (T : Txt K mg a) : FnOk P w K mg base CX0 1 fLen dLen ["self"] (spEdLen K cEd) := by
  refine M.lenF.ok scEdLen (fun vs H Q E h => ?_) (fun cdv A outer s H vs Q E hr h => ?_)
  · obtain ⟨p, dx, t, fs, xs, rfl, _⟩ := h
    rfl
  · obtain ⟨p, dx, t, fs, xs, rfl, hp, hz, ht, fin⟩ := h
    exact ⟨_, pss_one (ps_ret (pe_callB call_len_seq (by rfl) T.tLen PySem.boot_len (pa_cons (pe_fld (pv 0) rfl) pa_nil))), _, rfl, p, cEd, dx, fs, _, rfl, hp, M.cl, M.no "rows" (by simp), hz, t, xs, rfl, .inr ht, fin⟩
theorem EdM.okEq (M : EdM K mg cEd fRow fLen fEq fStr dRow dLen dEq dStr) (T : Txt K mg a) : FnOk P w K mg base CX0 1 fEq dEq ["self", "other"] (spEdEq K cEd) := by
  refine M.eqF.ok scEdEq (fun vs H Q E h => ?_) (fun cdv A outer s H vs Q E hr h => ?_)
  · obtain ⟨p, dx, fs, z, y, rfl, _⟩ := h
    rfl
  · obtain ⟨p, dx, fs, z, y, rfl, hp, hz, alt⟩ := h
    have na : NoAttr K cEd "_text" := M.no "_text" (by simp)
    refine ⟨_, pss_one (ps_ret (pe_and (pe_callB call_isi (by rfl) T.tIs PyProof.Rows.boot_isinstance (pa_cons (pv 1) (pa_cons (pe_glob (v := .ref cEd) (by rfl) M.g rfl) pa_nil))) (pe_one (pe_cmpR op_eq (pe_fld (pv 0) rfl) (pe_fld (pv 1) rfl) (nomark _))))), ?_⟩
    rcases alt with ⟨q, dy, gs, z', rfl, hq, hz', fin⟩ | ⟨S, hS, ty, fin⟩
    · refine ⟨_, rfl, _, _, _, _, _, rfl, .own cEd, M.ty hq, M.own, _, rfl, ?_⟩
      refine iteT ⟨_, rfl, p, cEd, dx, fs, _, rfl, hp, M.cl, na, hz, _, rfl, q, cEd, dy, gs, _, rfl, hq, M.cl, na, hz', rfl, ?_⟩
      have e : decide (V.str z = V.str z') = decide (z = z') := decide_eq_decide.mpr ⟨fun h => by cases h; rfl, fun h => by rw [h]⟩
      rw [e]
      exact fin
    · refine ⟨_, rfl, _, _, _, _, _, rfl, .own cEd, ty, M.noEd S hS, _, rfl, ?_⟩
      exact iteF fin
theorem EdM.okRow (M : EdM K mg cEd fRow fLen fEq fStr dRow dLen dEq dStr) (T : Txt K mg a) : FnOk P w K mg base CX0 2 fRow dRow ["self", "place"] (spEdRow cEd) := by
  refine M.rowF.ok scEdRow (fun vs H Q E h => ?_) (fun cdv A outer s H vs Q E hr h => ?_)
  · obtain ⟨p, dx, t, fs, kvs, z, x, rfl, _⟩ := h
    rfl
  · obtain ⟨p, dx, t, fs, kvs, z, x, rfl, hp, ht, hd, hv, fin⟩ := h
    have hu : (A.deeper (PyProof.Rows.envOfC (Str.ofString "Edition.row") (defScope sEdRow) s.heap.objs.size fRow cdv)).units + 1 < cLine := by
      have := hr.units
      omega
    refine ⟨_, pss_cons (ps_if (PW.pt (pw_or (pt_not (pt_val (pe_callB call_isi (by rfl) T.tIs PyProof.Rows.boot_isinstance (pa_cons (pv 1) (pa_cons (pe_bltn (v := .ty "str") (by rfl) T.tStr PyProof.Rows.boot_str rfl) pa_nil)))))
        (pw_or1 (pt_cmp (pc_dnotin hu (pv 1) (pe_fld (pv 0) rfl)) rfl)))) (pss_one ps_dead) pss_nil)
      (pss_one (ps_ret (pe_dget hu (pe_fld (pv 0) rfl) (pv 1) (fun _ _ => rfl)))), ?_⟩
    refine ⟨_, rfl, _, _, _, _, _, rfl, .ty "str", ty_data (K := K) (H := H) (d := .str z) (.str z), kit_str (no_dict (K := K) (H := H) (.str z)), _, rfl, ?_⟩
    refine iteFb (by rfl) ⟨_, rfl, _, rfl, p, cEd, dx, fs, _, rfl, hp, M.cl, M.no "_table" (by simp), ht, t, some x, rfl, .inl ⟨kvs, Sum.inr z, .inl hd, rfl, hv.symm⟩, _, rfl, ?_⟩
    refine iteF ?_
    exact ⟨_, rfl, p, cEd, dx, fs, _, rfl, hp, M.cl, M.no "_table" (by simp), ht, _, rfl, t, x, rfl, .inl ⟨kvs, Sum.inr z, .inl hd, rfl, hv.symm⟩, fin⟩
end
end K2

set_option Elab.async false
set_option linter.all false
set_option maxRecDepth 100000
set_option maxHeartbeats 1000000
namespace Lw
open PySem PySem.Spec PyProof.Rows L2
/-! ### slices with a step -/
def pickV (xs : List V) (lo hi st : Option Int) : List V :=
  (sliceRange (sliceBounds lo hi st xs.length).1 (sliceBounds lo hi st xs.length).2.1 (sliceBounds lo hi st xs.length).2.2).filterMap (fun i => xs[i]?)
def tSl3 (K : PySem.W.Frag) (te : TE) (tl th ts : TO) : TE := fun σ H Q => te σ H fun x H1 => tl σ H1 fun l H2 => th σ H2 fun u H3 => ts σ H3 fun k H4 => ∃ (a : Addr) (xs : List V), x = .ref a ∧ SqL K H4 a xs ∧ k ≠ some 0 ∧ xs.length ≤ 1000 ∧
  ∀ p, H4 p = none → Q (.ref p) (upd H4 p (.lst (pickV xs l u k)))
theorem vals_pick {xs : List V} {its : List Value} (r : Vals xs its) : ∀ R : List Nat, Vals (R.filterMap fun i => xs[i]?) (R.filterMap fun i => its.toArray[i]?)
  | [] => .nil
  | i :: R => by
    have ih := vals_pick r R
    have e : its.toArray[i]? = its[i]? := by simp
    cases e1 : xs[i]? with
    | none =>
      have e2 : its[i]? = none := by
        rw [List.getElem?_eq_none_iff] at e1 ⊢
        have := r.length
        omega
      rw [List.filterMap_cons_none e1, List.filterMap_cons_none (by rw [e]; exact e2)]
      exact ih
    | some x =>
      obtain ⟨u, e2, ru⟩ := Vals.get r e1
      rw [List.filterMap_cons_some e1, List.filterMap_cons_some (by rw [e]; exact e2)]
      exact .cons ru ih
theorem slice_step {prog : Program} {w : World} {A : Around} {E : Value → Shared → Prop} {s : Shared} {env : Env} {value st : Expr} {lower upper : Option Expr} {p pos : Pos} {T id : String} {Q : Value → Shared → Prop}
    (hl : typeLookup (.type T) "__getitem__" = pure (some (.builtin id)))
    (h : wpAny (model prog w) A (eval value env) (fun o s₁ => wpAny (model prog w) A (eval (.Slice lower upper (some st) p) env) (fun i s₂ => s₂.TypeIs o T ∧ wpAny (model prog w) A (getItem o i) Q E s₂) E s₁) E s) :
    wpAny (model prog w) A (eval (.Subscript value (.Slice lower upper (some st) p) pos) env) Q E s := by
  rw [eval_Subscript]
  refine wpAny_bind (wpAny_mono h (fun o s₁ h₁ => wpAny_bind (wpAny_holding (wpAny_mono h₁ (fun i s₂ h₂ => wpAny_bind (wpAny_standAt ?_)) fun _ _ x => x)))
    fun _ _ x => x)
  have fin : wpAny (model prog w) A (operate [o, i] (getItem o i)) (fun r s₃ => wpAny (model prog w) A (letTemporaryGo value o r >>= fun _ => pure r) Q E s₃) E s₂ :=
    wpAny_operating (wpAny_mono h₂.2 (fun r s₃ h₃ => wpAny_bind (wpAny_letTemporaryGo (wpAny_pure h₃))) fun _ _ x => x)
  first
    | (refine wpAny_bind ?_
       rw [getitemInPython_of_ne h₂.1.not_modules]
       refine wpAny_bind (wpAny_specialOf h₂.1 hl ?_)
       first
         | exact wpAny_pure (wpAny_bind fin)
         | exact wpAny_bind (wpAny_pure (wpAny_bind fin))
         | exact wpAny_bind fin)
    | (refine wpAny_bind (wpAny_specialOf h₂.1 hl ?_)
       first
         | exact wpAny_bind (wpAny_pure (wpAny_bind fin))
         | exact wpAny_bind fin)
theorem pe_slice3 {X : Cx} {e : Expr} {te : TE} {lo hi : Option Expr} {st : Expr} {tl th ts : TO} {pos p2 : Pos} (he : PE X e te) (hl : PO X lo tl) (hh : PO X hi th) (hs : PO X (some st) ts) :
    PE X (e.Subscript (Expr.Slice lo hi (some st) p2) pos) (tSl3 X.K te tl th ts) := by
  refine ⟨fun pins s σ H Q I h => ?_⟩
  refine slice_step (T := "list") (id := "list.__getitem__") (by rfl) (thn (he.run pins s σ H _ I h) fun v s1 ⟨x, H1, I1, r1, q1⟩ => ?_)
  refine wpAny_Slice (thn (hl.run pins s1 σ H1 _ I1 q1) fun vl s2 ⟨l, H2, I2, pl, q2⟩ => thn (hh.run pins s2 σ H2 _ I2 q2) fun vu s3 ⟨u, H3, I3, pu, q3⟩ => thn (hs.run pins s3 σ H3 _ I3 q3) fun vk s4 ⟨k, H4, I4, pk, q4⟩ => ?_)
  obtain ⟨a, xs, rfl, hx, nz, few, q⟩ := q4
  obtain rfl : v = Value.ref a := r1
  have I5 := I4.kept (t' := s4.toks) fun b ob q => Heap.get?_push_of_some { cls := Value.type "slice", data := Data.fields #[vl, vu, vk] } q
  obtain ⟨its, r, ht, hz⟩ := I5.list hx
  have hl' := ht.isList
  refine ⟨?_, wpAny_getItem_list_slice hl' ⟨_, Heap.get?_push_size _ rfl, rfl, rfl⟩ pl pu pk nz ?_ ?_⟩
  · obtain ⟨o, n, h1, h2, _⟩ := ht
    exact ⟨o, h1, h2⟩
  · have len := r.length
    have sz : its.toArray.size = xs.length := by simp [len]
    have vp : Vals (pickV xs l u k) (slicePick its.toArray l u k).toList := by
      unfold pickV slicePick
      rw [sz]
      exact vals_pick r _
    have hlen : (pickV xs l u k).length ≤ sizeLine := by
      rw [vp.length, Array.length_toList]
      exact Nat.le_trans (slicePick_size_le _ _ _ _) (by rw [sz]; exact Nat.le_trans few (by decide))
    exact ⟨.ref _, _, I5.laid (o := .lst (pickV xs l u k)) (fun b ob q => Heap.get?_push_of_some _ q) (Nat.le_refl _) ⟨hlen, _, 0, vp, Heap.get?_push_size _ rfl⟩, rfl, q _ (I5.hok.fresh (Nat.le_refl _))⟩
  · have len := r.length
    show its.toArray.size ≤ sizeLine
    simp
    omega
end Lw

set_option Elab.async false
set_option linter.all false
set_option maxRecDepth 100000
set_option maxHeartbeats 4000000
namespace Lw
open PySem PySem.Spec PyProof.Rows L2
theorem cut_take {xs : List V} {m : Int} (h0 : 0 ≤ m) (h1 : m ≤ xs.length) : cutV xs none (some m) = xs.take m.toNat := by
  have e : HT.sIx xs.length xs.length (some m) = min m.toNat xs.length := by
    show (if m < 0 then _ else _) = _
    rw [if_neg (by omega)]
  have e2 : HT.sIx xs.length 0 none = 0 := rfl
  unfold cutV
  rw [e, e2, List.drop_zero, Nat.sub_zero, Nat.min_eq_left (by omega)]
theorem cut_drop {xs : List V} {m : Int} (h0 : 0 ≤ m) : cutV xs (some m) none = xs.drop m.toNat := by
  have e : HT.sIx xs.length 0 (some m) = min m.toNat xs.length := by
    show (if m < 0 then _ else _) = _
    rw [if_neg (by omega)]
  have e2 : HT.sIx xs.length xs.length none = xs.length := rfl
  unfold cutV
  rw [e, e2]
  by_cases h : m.toNat ≤ xs.length
  · rw [Nat.min_eq_left h, ← List.length_drop, List.take_length]
  · rw [Nat.min_eq_right (by omega), List.drop_length, List.drop_eq_nil_of_le (by omega), List.take_nil]
theorem perm_str {ys : List V} {zs : List Str} (h : ys.Perm (zs.map V.str)) : ∃ us : List Str, ys = us.map V.str ∧ us.Perm zs := by
  have all : ∀ y ∈ ys, ∃ z, y = V.str z := fun y hy => by
    obtain ⟨z, _, e⟩ := List.mem_map.mp (h.mem_iff.mp hy)
    exact ⟨z, e.symm⟩
  refine ⟨ys.map fun | .str z => z | _ => Str.empty, ?_, ?_⟩
  · rw [List.map_map]
    conv => lhs; rw [← List.map_id ys]
    refine List.map_congr_left fun y hy => ?_
    obtain ⟨z, rfl⟩ := all y hy
    rfl
  · have z := h.map (fun | .str z => z | _ => Str.empty : V → Str)
    rw [List.map_map] at z
    have e : zs.map ((fun | .str z => z | _ => Str.empty : V → Str) ∘ V.str) = zs := by
      conv => rhs; rw [← List.map_id zs]
      exact List.map_congr_left fun _ _ => rfl
    rwa [e] at z
end Lw

set_option Elab.async false
set_option linter.all false
set_option maxRecDepth 100000
set_option maxHeartbeats 1000000
namespace K2
open PySem L2 Lw TL SxT
def spBehind : Sp := fun vs H Q _ => ∃ (h z w : Str) (ws : List Str), vs = [.str h, .str z] ∧ z.length ≤ 100000 ∧ Txt.split z " " = w :: ws ∧ ws.length ≤ 1000 ∧ (∀ y ∈ ws, fine (.str y) = true) ∧
  (w = h → ws.all nameOk = true → ∀ H' l, Same H H' → H l = none → H' l = some (.lst (ws.map V.str)) → Q (.ref l) H') ∧ (¬ (w = h ∧ ws.all nameOk = true) → ∀ H', Same H H' → Q .non H')
section
variable {P : Program} {w : World} {K : PySem.W.Frag} {mg : Str → Option Value} {base : Heap} {a : Ad}
theorem scBehind : FnScope ["head", "line", "words", "word"] ["head", "line"] (defScope sBehind) := ⟨rfl, rfl, rfl, by decide +kernel, rfl, by decide +kernel, by decide +kernel⟩
theorem okBehind (T : Txt K mg a) {f : Addr} {fd : FuncData} (F : Fun K "names_behind" "names_behind" sBehind f fd) : FnOk P w K mg base CX0 2 f fd ["head", "line"] spBehind := by
  refine F.ok scBehind (fun vs H Q E h => ?_) (fun cdv A outer s H vs Q E hr h => ?_)
  · obtain ⟨h, z, w, ws, rfl, _⟩ := h
    rfl
  · obtain ⟨h, z, w, ws, rfl, len, sp, few, hf, good, bad⟩ := h
    refine ⟨_, pss_cons (ps_set (i := 2) scBehind.nd rfl (Or.inl rfl) (pe_split (pv 1) pe_str))
      (pss_cons (ps_if (PW.pt (pw_or (pt_cmpR op_ne (pe_ix ix_list (pv 2) pe_int (fun _ _ => rfl)) (pv 0) (nomark _))
        (pw_or1 (pt_not (pt_val (pe_callB (cr_all rfl) (by rfl) T.tAll PyProof.Rows.boot_all (pa_cons (pe_lc (own := [("word", 3)]) (g := gName 3) (tt := tYes) (by rfl) scBehind.nd (pi_list (pe_slice sl_list (pv 2) (po_some pe_int) po_none))
          (blkOk_by (own := [("word", 3)]) (N := ["head", "line", "words", "word"]) (sc := defScope sBehind) (by decide +kernel)) (fun _ _ _ _ _ => pg_name (i := 3) scBehind.nd rfl (Or.inl rfl)) (fun _ _ _ _ _ => pts_nil)
          (fun _ _ _ _ _ => pe_call T.okN hr rfl T.isName.g T.isName.F.kp T.isName.b .nil pass0 (pa_cons (pv 3) pa_nil))) pa_nil))))))) (pss_one (ps_ret pe_non)) pss_nil)
      (pss_one (ps_ret (pe_slice sl_list (pv 2) (po_some pe_int) po_none)))), ?_⟩
    refine ⟨_, rfl, ⟨_, rfl⟩, _, _, rfl, rfl, by decide +kernel, Nat.le_trans (Nat.add_le_add_right len 2) (by decide), fun p up => ?_⟩
    rw [sp]
    have s1 : Same H (upd H p (.lst ((w :: ws).map V.str))) := same_new up
    have hp : SqL K (upd H p (.lst ((w :: ws).map V.str))) p ((w :: ws).map V.str) := SqL.of upd_same
    generalize (upd H p (.lst ((w :: ws).map V.str))) = H1 at s1 hp ⊢
    dsimp only [gName, tNext]
    refine ⟨_, rfl, p, _, 0, _, rfl, rfl, hp, atI_nat (j := 0) rfl, _, rfl, rfl, _, rfl, ?_⟩
    have cut : cutV ((w :: ws).map V.str) (some 1) none = ws.map V.str := by
      rw [cut_drop (by decide)]
      rfl
    by_cases e : w = h
    · subst e
      rw [show (!decide (V.str w = V.str w)) = false from by simp]
      refine iteF ⟨_, rfl, _, rfl, p, _, rfl, hp, fun q uq => ⟨q, rfl, ⟨_, SqL.of upd_same⟩, fun D un => ?_⟩⟩
      have s2 := same_new (o := .lst (cutV ((w :: ws).map V.str) (some 1) none)) uq
      refine lc_of_list ((cutV ((w :: ws).map V.str) (some 1) none).map fun x => some (.bl (match x with | .str z => nameOk z | _ => false))) (SqL.of upd_same) un (turns_map _ (by rw [cut, List.length_map]; omega) fun x H2 Q2 hx s3 k => ?_) mono_yes fun H2 s3 h2 => ?_
      · rw [cut] at hx
        obtain ⟨y, hy, rfl⟩ := List.mem_map.mp hx
        exact ⟨_, rfl, .str y, .str y, rfl, .str y, hf y hy, fun H3 s4 => k H3 s4⟩
      · rw [out_map, cut] at h2
        have eb : (ws.map V.str).map (fun x => V.bl (match x with | .str z => nameOk z | _ => false)) = (ws.map nameOk).map V.bl := by
          rw [List.map_map, List.map_map]
          rfl
        rw [eb] at h2
        refine ⟨D, _, rfl, SqL.of h2, _, rfl, ?_⟩
        have S := s2.trans s3
        rw [show (ws.map nameOk).all id = ws.all nameOk from by rw [List.all_map]; rfl]
        cases ea : ws.all nameOk with
        | false => exact iteT (bad (fun z => by rw [ea] at z; cases z.2) _ (s1.trans S))
        | true =>
          refine iteF ⟨_, rfl, _, rfl, p, _, rfl, S.seq hp, fun l ul => ?_⟩
          rw [cut]
          exact good rfl ea _ l ((s1.trans S).trans (same_new ul)) ((s1.trans S).free ul) upd_same
    · rw [show (!decide (V.str w = V.str h)) = true from by simp [e]]
      exact iteT (iteT (bad (fun z => e z.1) _ s1))
end
end K2

set_option Elab.async false
set_option linter.all false
set_option maxRecDepth 100000
set_option maxHeartbeats 1000000
/-! list(zip(a, b)) of two lists: the list of the new pairs. -/
namespace PySem.F
theorem zip_no_len : typeLookup (.type "zip") "__len__" = pure none := am_miss_of_fast (by decide +kernel)
theorem zip_no_hint : typeLookup (.type "zip") "__length_hint__" = pure none := am_miss_of_fast (by decide +kernel)
end PySem.F
namespace Lw
open PySem PySem.Spec PyProof.Rows L2
/-- a zip of two lists, i items given out, the last one held -/
def ZSt (z TI TO i1 i2 l1 l2 q : Addr) (i : Nat) (h : Heap) : Prop :=
  (IsZip h z TI TO .none ∨ ∃ T f oT, IsZipHeld h z TI TO T f ∧ T ≠ q ∧ h.get? T = some oT) ∧ (∃ a b, IsPair h TO a b) ∧ IsPair h TI (.ref i1) (.ref i2) ∧ h.IsListIter i1 l1 i ∧ h.IsListIter i2 l2 i
theorem ZSt.type {z TI TO i1 i2 l1 l2 q : Addr} {i : Nat} {s : Shared} (st : ZSt z TI TO i1 i2 l1 l2 q i s.heap) : s.TypeIs (.ref z) "zip" := by
  rcases st.1 with hz | ⟨T, f, oT, hz, _⟩
  · exact ⟨_, hz, rfl⟩
  · exact ⟨_, hz, rfl⟩
theorem ZSt.kept {z TI TO i1 i2 l1 l2 q : Addr} {i : Nat} {h h' : Heap} (st : ZSt z TI TO i1 i2 l1 l2 q i h) (hn : ∀ c ∈ [z, TI, TO, i1, i2], c ≠ q) (k : ∀ b o, b ≠ q → h.get? b = some o → h'.get? b = some o) : ZSt z TI TO i1 i2 l1 l2 q i h' := by
  obtain ⟨hz, ⟨a, b, hTO⟩, hTI, h1, h2⟩ := st
  refine ⟨?_, ⟨a, b, k _ _ (hn _ (by simp)) hTO⟩, k _ _ (hn _ (by simp)) hTI, h1.at fun o e => k _ o (hn _ (by simp)) e, h2.at fun o e => k _ o (hn _ (by simp)) e⟩
  rcases hz with hz | ⟨T, f, oT, hz, ne, hT⟩
  · exact .inl (k _ _ (hn _ (by simp)) hz)
  · exact .inr ⟨T, f, oT, k _ _ (hn _ (by simp)) hz, ne, k _ _ ne hT⟩
theorem ZSt.lt {z TI TO i1 i2 l1 l2 q : Addr} {i : Nat} {h : Heap} (st : ZSt z TI TO i1 i2 l1 l2 q i h) : ∀ c ∈ [z, TI, TO, i1, i2], c < h.objs.size := fun c hcm => by
  obtain ⟨hz, ⟨a, b, hTO⟩, hTI, h1, h2⟩ := st
  have e' : c = z ∨ c = TI ∨ c = TO ∨ c = i1 ∨ c = i2 := by simpa using hcm
  rcases e' with e | e | e | e | e
  · rw [e]
    rcases hz with hz | ⟨T, f, oT, hz, _⟩
    · exact Heap.lt_size hz
    · exact Heap.lt_size hz
  · rw [e]; exact Heap.lt_size hTI
  · rw [e]; exact Heap.lt_size hTO
  · rw [e]; obtain ⟨_, e1, _⟩ := h1; exact Heap.lt_size e1
  · rw [e]; obtain ⟨_, e1, _⟩ := h2; exact Heap.lt_size e1
section
variable {X : Cx} {pins : List (Addr × Obj)} {σ : L2.St} {H : Hp} {s : Shared} {z TI TO i1 i2 l1 l2 q : Addr} {xs ys : List V}
theorem zs_item {A : Around} {E : Value → Shared → Prop} {Q : Option Value → Shared → Prop} {i : Nat} {x y : V} {acc : List V} (D : ZipApart z TI TO i1 i2 l1 l2) (I : Inv X pins σ H s) (hf : ∀ c ∈ [z, TI, TO, i1, i2], FpOk X pins H c)
    (st : ZSt z TI TO i1 i2 l1 l2 q i s.heap) (hq : H q = some (.lst acc)) (hx : SqL X.K H l1 xs) (hy : SqL X.K H l2 ys) (ex : xs[i]? = some x) (ey : ys[i]? = some y)
    (h : ∀ T s', Inv X pins σ (upd H T (.tup [x, y])) s' → H T = none → ZSt z TI TO i1 i2 l1 l2 q (i + 1) s'.heap → (∀ c ∈ [z, TI, TO, i1, i2], FpOk X pins (upd H T (.tup [x, y])) c) → Q (some (.ref T)) s') :
    wpAny (model X.prog X.w) A (pyNext (.ref z)) Q E s := by
  have lts := st.lt
  obtain ⟨hz, ⟨a, b, hTO⟩, hTI, h1, h2⟩ := st
  obtain ⟨its, rv, p, _⟩ := I.list hx
  obtain ⟨its2, rv2, p2, _⟩ := I.list hy
  obtain ⟨u, hu, ru⟩ := rv.get ex
  obtain ⟨u2, hu2, ru2⟩ := rv2.get ey
  obtain ⟨_, itq, nq, _, _, eq⟩ := I.lstM hq
  have hql : q < s.heap.objs.size := Heap.lt_size eq
  have fp : ∀ c ∈ [z, TI, TO, i1, i2], FpOk X pins (upd H s.heap.objs.size (.tup [x, y])) c := fun c hcm => ⟨by rw [upd_ne (Nat.ne_of_lt (lts c hcm))]; exact (hf c hcm).1, (hf c hcm).2⟩
  have new : ∀ h' : Heap, IsPair h' s.heap.objs.size u u2 → ObjOk X.prog X.w (upd H s.heap.objs.size (.tup [x, y])) h' s.heap.objs.size (.tup [x, y]) := fun h' hT => ⟨by show 2 ≤ sizeLine; decide, [u, u2], .cons ru (.cons ru2 .nil), ⟨_, hT, rfl, _, rfl⟩⟩
  rcases hz with hz | ⟨T, f, oT, hz, ne, hT⟩
  · refine wpAny_pyNext_zip_item D hz hTI hTO h1 h2 p.isList p2.isList (x := u) (y := u2) (by simpa using hu) (by simpa using hu2) fun h' z' TO' h1' h2' hT hsz hk => ?_
    have I1 : Inv X pins σ (upd H s.heap.objs.size (.tup [x, y])) { s with heap := h' } :=
      I.turnedNew (t' := s.toks) (ch := [z, TI, TO, i1, i2]) (fun c o hb w => hk c o (fun w' => hb (by simp [w'])) (fun w' => hb (by simp [w'])) (fun w' => hb (by simp [w'])) (fun w' => hb (by simp [w'])) w) hf (Nat.le_refl _) (new h' hT)
    exact h _ _ I1 (I.hok.fresh (Nat.le_refl _)) ⟨.inr ⟨_, false, _, z', Nat.ne_of_gt hql, hT⟩, ⟨_, _, TO'⟩, hk _ _ D.TIz D.TITO D.TIi1 D.TIi2 hTI, h1', h2'⟩ fp
  · refine wpAny_pyNext_zip_item_held D hz hT hTI h1 h2 p.isList p2.isList (x := u) (y := u2) (by simpa using hu) (by simpa using hu2) fun h' z' h1' h2' hN hsz hk => ?_
    have I1 : Inv X pins σ (upd H s.heap.objs.size (.tup [x, y])) { s with heap := h' } :=
      I.turnedNew (t' := s.toks) (ch := [z, TI, TO, i1, i2]) (fun c o hb w => hk c o (fun w' => hb (by simp [w'])) (fun w' => hb (by simp [w'])) (fun w' => hb (by simp [w'])) w) hf (Nat.le_refl _) (new h' hN)
    have hT' : ∃ o, h'.get? T = some o := by
      by_cases c1 : T = z
      · rw [c1]; exact ⟨_, z'⟩
      by_cases c2 : T = i1
      · obtain ⟨o, e, _⟩ := h1'; rw [c2]; exact ⟨o, e⟩
      by_cases c3 : T = i2
      · obtain ⟨o, e, _⟩ := h2'; rw [c3]; exact ⟨o, e⟩
      exact ⟨_, hk _ _ c1 c2 c3 hT⟩
    obtain ⟨o', hT'⟩ := hT'
    exact h _ _ I1 (I.hok.fresh (Nat.le_refl _)) ⟨.inr ⟨_, true, _, z', ne, hT'⟩, ⟨_, _, hk _ _ D.TOz D.TOi1 D.TOi2 hTO⟩, hk _ _ D.TIz D.TIi1 D.TIi2 hTI, h1', h2'⟩ fp
theorem zs_end {A : Around} {E : Value → Shared → Prop} {Q : Option Value → Shared → Prop} {i : Nat} (hh : A.handled = none) (D : ZipApart z TI TO i1 i2 l1 l2) (I : Inv X pins σ H s) (hf : ∀ c ∈ [z, TI, TO, i1, i2], FpOk X pins H c)
    (st : ZSt z TI TO i1 i2 l1 l2 q i s.heap) (hx : SqL X.K H l1 xs) (hy : SqL X.K H l2 ys) (he : xs.length ≤ i ∨ ys.length ≤ i)
    (h : ∀ s', Inv X pins σ H s' → Q none s') : wpAny (model X.prog X.w) A (pyNext (.ref z)) Q E s := by
  obtain ⟨hz, ⟨a, b, hTO⟩, hTI, h1, h2⟩ := st
  obtain ⟨its, rv, p, _⟩ := I.list hx
  obtain ⟨its2, rv2, p2, _⟩ := I.list hy
  have n1 := rv.length
  have n2 := rv2.length
  have he' : its.toArray[i]? = none ∨ its2.toArray[i]? = none := by
    rcases he with w | w
    · exact .inl (by simp; omega)
    · exact .inr (by simp; omega)
  rcases hz with hz | ⟨T, f, oT, hz, ne, hT⟩
  · exact wpAny_pyNext_zip_end hh D hz hTI hTO h1 h2 p.isList p2.isList he' fun h' hk => h _ (I.turnedL (t' := s.toks) (ch := [z, TI, TO, i1, i2]) (fun c o hb w => hk c o (fun w' => hb (by simp [w'])) (fun w' => hb (by simp [w'])) (fun w' => hb (by simp [w'])) (fun w' => hb (by simp [w'])) w) hf)
  · exact wpAny_pyNext_zip_end_held hh D hz hT hTI h1 h2 p.isList p2.isList he' fun h' hk => h _ (I.turnedL (t' := s.toks) (ch := [z, TI, TO, i1, i2]) (fun c o hb w => hk c o (fun w' => hb (by simp [w'])) (fun w' => hb (by simp [w'])) (fun w' => hb (by simp [w'])) w) hf)
/-- the pairs of two lists at these places -/
def Pairs (H : Hp) (as : List Addr) (xs ys : List V) : Prop := ∀ (j : Nat) (a : Addr), as[j]? = some a → ∃ x y, xs[j]? = some x ∧ ys[j]? = some y ∧ H a = some (.tup [x, y])
theorem zl_loop {A1 : Around} {Rs : Result → Shared → Prop} {G : Hp} (hh : A1.in1.handled = none) (D : ZipApart z TI TO i1 i2 l1 l2) (big : xs.length ≤ 100000) (hx0 : SqL X.K G l1 xs) (hy0 : SqL X.K G l2 ys) (Gq : G q = none)
    (hdone : ∀ (as : List Addr) H s, Inv X pins σ H s → H q = some (.lst (as.map V.ref)) → as.length = min xs.length ys.length → Pairs H as xs ys → Same G H → Rs (.ok (.ret .none)) s) :
    ∀ (m i : Nat) (as : List Addr) (H : Hp) (s : Shared), min xs.length ys.length = i + m → as.length = i → Inv X pins σ H s → H q = some (.lst (as.map V.ref)) → ZSt z TI TO i1 i2 l1 l2 q i s.heap →
      (∀ c ∈ [z, TI, TO, i1, i2], FpOk X pins H c) → Pairs H as xs ys → (∀ a ∈ as, a ≠ q) → Same G H → codeAny (model X.prog X.w) A1 (.builtin "list.extend.loop" ⟨[.ref q, .ref z, .none], []⟩) Rs s := by
  intro m
  induction m with
  | zero =>
    intro i as H s hm hl I hq st hf hp nq hG
    refine codeAny_builtin PySem.F.entry_extend_loop ?_
    rw [Around.under_plainId PySem.F.plain_extend_loop _]
    show wpAny _ A1.in1 (pyNext (.ref z) >>= _) _ _ s
    refine wpAny_bind (zs_end hh D I hf st (hG.seq hx0) (hG.seq hy0) (by omega) fun s' I' => ?_)
    exact wpAny_pure (hdone as H s' I' hq (by omega) hp hG)
  | succ m ih =>
    intro i as H s hm hl I hq st hf hp nq hG
    refine codeAny_builtin PySem.F.entry_extend_loop ?_
    rw [Around.under_plainId PySem.F.plain_extend_loop _]
    show wpAny _ A1.in1 (pyNext (.ref z) >>= _) _ _ s
    have lx : i < xs.length := by omega
    have ly : i < ys.length := by omega
    refine wpAny_bind (zs_item D I hf st hq (hG.seq hx0) (hG.seq hy0) (List.getElem?_eq_getElem lx) (List.getElem?_eq_getElem ly) fun T s' I' hT st' hf' => ?_)
    have neT : q ≠ T := fun e => by rw [e, hT] at hq; cases hq
    have hq' : (upd H T (.tup [xs[i], ys[i]])) q = some (.lst (as.map V.ref)) := by rw [upd_ne neT]; exact hq
    show wpAny _ A1.in1 (updateSeq q (·.push (.ref T)) >>= _) _ _ _
    obtain ⟨_, its, k, r2, hlen, e⟩ := I'.lstM hq'
    have il : its.length = i := by rw [← hlen, List.length_map, hl]
    have bi : i < 100000 := by omega
    have szl : 100001 ≤ sizeLine := by rw [sizeLine_eq]; decide
    refine wpAny_bind (wpAny_updateSeq e rfl (wpAny_pure ⟨plainId_quiet PySem.F.plain_extend_loop _, ?_⟩) (by rw [List.size_toArray]; omega) (by show (its.toArray.push _).size ≤ sizeLine + 1; rw [Array.size_push, List.size_toArray]; omega))
    have I2 := I'.lset (f := (·.push (Value.ref T))) (its' := its ++ [.ref T]) (ys := (as ++ [T]).map V.ref) (t' := s'.toks) hq' e (by simp) (by rw [List.map_append]; exact r2.append (.cons rfl .nil)) (by rw [List.length_map, List.length_append, List.length_singleton]; omega)
    have nqc : ∀ c ∈ [z, TI, TO, i1, i2], c ≠ q := fun c hcm w => by have := (hf' c hcm).1; rw [w, hq'] at this; cases this
    refine ih (i + 1) (as ++ [T]) _ _ (by omega) (by rw [List.length_append, hl]; rfl) I2 upd_same ?_ ?_ ?_ ?_ ?_
    · exact st'.kept nqc fun b o ne hb => (Heap.get?_update_other _ _ (Ne.symm ne)).trans hb
    · exact fun c hcm => ⟨by rw [upd_ne (nqc c hcm)]; exact (hf' c hcm).1, (hf' c hcm).2⟩
    · intro j a hj
      rw [List.getElem?_append] at hj
      split at hj
      · rename_i lj
        obtain ⟨x, y, e1, e2, e3⟩ := hp j a hj
        have na : a ≠ q := nq a (List.mem_of_getElem? hj)
        have nt : a ≠ T := fun w => by rw [w, hT] at e3; cases e3
        exact ⟨x, y, e1, e2, by rw [upd_ne na, upd_ne nt]; exact e3⟩
      · rename_i lj
        have ej : j = i := by
          have : j - as.length = 0 := by
            rcases Nat.eq_zero_or_pos (j - as.length) with w | w
            · exact w
            · rw [List.getElem?_eq_none (by simp; omega)] at hj; cases hj
          omega
        subst ej
        rw [hl, Nat.sub_self] at hj
        have : a = T := by simpa using hj.symm
        subst this
        exact ⟨xs[j], ys[j], List.getElem?_eq_getElem lx, List.getElem?_eq_getElem ly, by rw [upd_ne (Ne.symm neT), upd_same]⟩
    · intro a ha
      rcases List.mem_append.mp ha with w | w
      · exact nq a w
      · rw [List.mem_singleton.mp w]; exact Ne.symm neT
    · intro b o hb
      have ne : b ≠ q := fun w => by rw [w, Gq] at hb; cases hb
      rw [upd_ne ne]
      exact same_new hT _ _ (hG b o hb)
theorem call_listZip {Q : VK} (hc : X.calm = true) (D : ZipApart z TI TO i1 i2 l1 l2) (I : Inv X pins σ H s) (hf : ∀ c ∈ [z, TI, TO, i1, i2], FpOk X pins H c) (st : ZSt z TI TO i1 i2 l1 l2 s.heap.objs.size 0 s.heap)
    (hx : SqL X.K H l1 xs) (hy : SqL X.K H l2 ys) (big : xs.length ≤ 100000)
    (fin : ∀ (H' : Hp) (q : Addr) (as : List Addr), Same H H' → H q = none → H' q = some (.lst (as.map V.ref)) → as.length = min xs.length ys.length → Pairs H' as xs ys → Q (.ref q) H') :
    wpAny (model X.prog X.w) X.A (call (.type "list") [.ref z]) (EP X pins σ Q) X.xe s := by
  refine callType_codes (Q₁ := fun obj s₁ => obj = .ref s.heap.objs.size ∧ s₁ = { s with heap := s.heap.push { cls := .type "list", data := .seq #[] } }) PySem.F.called_list (PySem.F.typeCall_list_1 _) PySem.F.entry_list_init
    (code_list_new _ ⟨rfl, rfl⟩) fun obj s₁ h₁ => ?_
  obtain ⟨rfl, rfl⟩ := h₁
  have hS : (s.heap.push { cls := .type "list", data := .seq #[] }).get? s.heap.objs.size = some { cls := .type "list", data := .seq #[] } := Heap.get?_push_size _ rfl
  refine ⟨⟨_, hS, rfl⟩, PySem.F.args_list_init_2 _ _, ?_⟩
  have fr : H s.heap.objs.size = none := I.hok.fresh (Nat.le_refl _)
  have lts := st.lt
  generalize eq : s.heap.objs.size = q at *
  have nqc : ∀ c ∈ [z, TI, TO, i1, i2], c ≠ q := fun c hcm => Nat.ne_of_lt (lts c hcm)
  have I1 : Inv X pins σ (upd H q (.lst [])) { s with heap := s.heap.push { cls := .type "list", data := .seq #[] } } := eq ▸ I.lnew (its := []) (t' := s.toks) .nil (Nat.zero_le _)
  have st1 : ZSt z TI TO i1 i2 l1 l2 q 0 (s.heap.push { cls := .type "list", data := .seq #[] }) := st.kept nqc fun b o _ hb => Heap.get?_push_of_some _ hb
  show wpAny _ _ (do let old ← Builtin.List.listItems (.ref q); Builtin.List.listUpdate (.ref q) (fun _ => #[]); letGo old.toList.reverse; Builtin.List.listExtendWith (.ref q) (.ref z) .none) _ _ _
  refine wpAny_bind ?_
  unfold Builtin.List.listItems
  refine wpAny_bind (wpAny_seqItems hS rfl (wpAny_pure ?_))
  show wpAny _ _ (updateSeq q (fun _ => #[]) >>= fun _ => letGo (#[] : Array Value).toList.reverse >>= fun _ => Builtin.List.listExtendWith (.ref q) (.ref z) .none) _ _ _
  refine wpAny_bind (wpAny_updateSeq hS rfl ?_)
  have I2 := I1.lset (f := fun _ => #[]) (its := []) (its' := []) (ys := []) (t' := s.toks) upd_same hS rfl .nil (Nat.zero_le _)
  rw [upd_upd] at I2
  have st2 : ZSt z TI TO i1 i2 l1 l2 q 0 ((s.heap.push { cls := .type "list", data := .seq #[] }).update q (Obj.mapSeq fun _ => #[])) := st1.kept nqc fun b o ne hb => (Heap.get?_update_other _ _ (Ne.symm ne)).trans hb
  refine wpAny_bind (wpAny_letGo ?_)
  have hq2 : (upd H q (.lst [])) q = some (.lst []) := upd_same
  have hf2 : ∀ c ∈ [z, TI, TO, i1, i2], FpOk X pins (upd H q (.lst [])) c := fun c hcm => ⟨by rw [upd_ne (nqc c hcm)]; exact (hf c hcm).1, (hf c hcm).2⟩
  have s2 : Same H (upd H q (.lst [])) := same_new fr
  generalize (s.heap.push { cls := .type "list", data := .seq #[] }).update q (Obj.mapSeq fun _ => #[]) = hp2 at *
  unfold Builtin.List.listExtendWith
  have hT : (⟨hp2, s.gens, s.drawn, s.toks, s.os⟩ : Shared).TypeIs (.ref z) "zip" := ZSt.type (s := ⟨hp2, s.gens, s.drawn, s.toks, s.os⟩) st2
  refine wpAny_bind (wpAny_typeOf hT ?_)
  have h1 : Builtin.List.listSameRef (.ref q) (.ref z) = false := by simp [Builtin.List.listSameRef, Ne.symm (nqc z (by simp))]
  have h2 : (Value.type "zip" == Value.type "list") = false := by decide
  have h3 : (Value.type "zip" == Value.type "tuple") = false := by decide
  simp only [h1, h2, h3, Bool.or_false, Bool.false_eq_true, if_false]
  have hit : ∀ {A : Around} {E : Value → Shared → Prop} {Q : Value → Shared → Prop}, Q (.ref z) ⟨hp2, s.gens, s.drawn, s.toks, s.os⟩ → wpAny (model X.prog X.w) A (pyIter (.ref z)) Q E ⟨hp2, s.gens, s.drawn, s.toks, s.os⟩ := by
    intro A E Q h
    rcases st2.1 with hz | ⟨T, f, oT, hz, _⟩
    · exact wpAny_pyIter_zip hz h
    · refine wpAny_pyIter_slot hT F.slot_zip_iter (wpAny_call_entry F.slot_zip_iter hT F.entry_zip_iter ?_ (F.args_zip_iter_1 _))
      show wpAny _ _ (ret (.ref z)) _ _ _
      exact wpAny_pure ⟨_, rfl, "zip", _, hT, F.slot_zip_next.lookup, h⟩
  refine wpAny_bind (hit ?_)
  refine wpAny_bind (wpAny_holding ?_)
  unfold Builtin.List.listLengthHint
  refine wpAny_bind (wpAny_specialOf hT F.zip_no_len ?_)
  show wpAny _ _ (specialOf (Value.ref z) (Str.ofString "__length_hint__") >>= _) _ _ _
  refine wpAny_bind (wpAny_specialOf hT F.zip_no_hint ?_)
  refine wpAny_pure ?_
  show wpAny _ _ (rule "list.extend.makes-room" >>= fun _ => Builtin.List.listTouch (.ref q) >>= fun _ =>
    again (.builtin "list.extend.loop" ⟨[.ref q, .ref z, .none], []⟩)) _ _ _
  refine wpAny_bind (wpAny_rule ?_)
  refine wpAny_bind ?_
  show wpAny _ _ (updateSeq q (·.push .none) >>= fun _ => updateSeq q (·.pop)) _ _ _
  obtain ⟨z9, its3, k3, r3, hl3, e3⟩ := I2.lstM hq2
  cases r3
  refine wpAny_bind (wpAny_updateSeq e3 rfl ?_)
  have I3 := I2.lset (f := (·.push Value.none)) (its' := [Value.none]) (ys := [.non]) (t' := s.toks) hq2 e3 (by simp) (.cons rfl .nil) (by rw [List.length_singleton, sizeLine_eq]; decide)
  obtain ⟨z4, its4, k4, r4, hl4, e4⟩ := I3.lstM upd_same
  obtain ⟨u4, rfl, ru4⟩ := r4.one
  refine wpAny_updateSeq e4 rfl ?_ (by show 1 ≤ sizeLine; rw [sizeLine_eq]; decide) (by show 0 ≤ sizeLine + 1; exact Nat.zero_le _)
  have I4 := I3.lset (f := (·.pop)) (its := [u4]) (its' := []) (ys := []) (t' := s.toks) upd_same e4 (by rfl) .nil (Nat.zero_le _)
  rw [upd_upd, upd_upd] at I4
  refine wpAny_pure ⟨plainId_quiet PySem.F.plain_extend_loop _, ?_⟩
  refine zl_loop (A1 := X.A.in1) (Rs := wants (fun r s₂ => r = .none ∧ EP X pins σ Q (.ref q) s₂) X.xe) (G := H) (q := q) (xs := xs) (ys := ys) (show X.A.in1.in1.handled = none from I.ok.hd hc) D big hx hy fr (fun as H' s' I' hq' hl' hp' hs' => ?_) (min xs.length ys.length) 0 [] _ _ (by omega) rfl I4 upd_same ?_ hf2 (fun j a hj => by simp at hj) (fun a ha => nomatch ha) s2
  · exact ⟨rfl, .ref q, H', I', rfl, fin H' q as hs' fr hq' hl' hp'⟩
  · exact st2.kept nqc fun b o ne hb => (Heap.get?_update_other _ _ (Ne.symm ne)).trans ((Heap.get?_update_other _ _ (Ne.symm ne)).trans hb)
end
def tListZip (K : PySem.W.Frag) (ta : TA) : TE := fun σ H Q => ta σ H fun vs H1 => ∃ l1 l2 xs ys, vs = [.ref l1, .ref l2] ∧ SqL K H1 l1 xs ∧ SqL K H1 l2 ys ∧ xs.length ≤ 100000 ∧
  ∀ (H' : Hp) (q : Addr) (as : List Addr), Same H1 H' → H1 q = none → H' q = some (.lst (as.map V.ref)) → as.length = min xs.length ys.length → Pairs H' as xs ys → Q (.ref q) H'
theorem pe_listZip {X : Cx} {e e2 : Expr} {ta : TA} {p p2 q pos : Pos} (hg : Gl X "list") (hm : X.mg "list" = none) (hg2 : Gl X "zip") (hm2 : X.mg "zip" = none) (ha : PA X [e, e2] ta) (hc : X.calm = true := by rfl)
    (hs : starEach [e, e2] X.env = (false, eval e X.env) :: starEach [e2] X.env := by rfl) (hpl : (backTo q (starEach [e2] X.env)).any (·.1) = false := by rfl)
    (na : starEach [.Call (.Name "zip" p2) [e, e2] [] q] X.env = (false, eval (.Call (.Name "zip" p2) [e, e2] [] q) X.env) :: starEach [] X.env := by rfl) : PE X (.Call (.Name "list" p) [.Call (.Name "zip" p2) [e, e2] [] q] [] pos) (tListZip X.K ta) := by
  refine ⟨fun pins s σ H Q I h => ?_⟩
  refine Call_ (ld_blt I hg hm boot_list ?_)
  refine PyProof.Rows.callWith_type1 (PyProof.Rows.args_cons ?_ na) na rfl
  refine Call_ (ld_blt I hg2 hm2 PyProof.Rows.boot_zip (PyProof.Rows.callWith_type1 (thn (ha.run q pins s σ H _ I h) fun us s1 ⟨vs, H1, I1, r1, q1⟩ => ?_) hs hpl))
  obtain ⟨a, b, xs, ys, ex, hqx, hqy, big, fin⟩ := q1
  subst ex
  cases r1 with
  | cons r rr =>
    cases rr with
    | cons r' rr =>
      cases rr
      cases r
      cases r'
      have fresh5 : ∀ c, c ∈ [s1.heap.objs.size + 4, s1.heap.objs.size + 2, s1.heap.objs.size + 3, s1.heap.objs.size, s1.heap.objs.size + 1] → FpOk X pins H1 c := fun c hcm => by
        have e' : c = s1.heap.objs.size + 4 ∨ c = s1.heap.objs.size + 2 ∨ c = s1.heap.objs.size + 3 ∨ c = s1.heap.objs.size ∨ c = s1.heap.objs.size + 1 := by simpa using hcm
        have hle : s1.heap.objs.size ≤ c := by
          rcases e' with z | z | z | z | z
          · rw [z]; exact Nat.le_add_right _ _
          · rw [z]; exact Nat.le_add_right _ _
          · rw [z]; exact Nat.le_add_right _ _
          · rw [z]; exact Nat.le_refl _
          · rw [z]; exact Nat.le_add_right _ _
        exact I1.fpOk hle (I1.hok.fresh hle)
      obtain ⟨its, rv, p1, _⟩ := I1.list hqx
      obtain ⟨its2, rv2, p2', _⟩ := I1.list hqy
      refine call_zip_2 p1.isList p2'.isList fun h' hz hTI hTO h1 h2 hsz hk => PyProof.Rows.args_nil ?_
      have I2 : Inv X pins σ H1 { s1 with heap := h' } := I1.kept (t' := s1.toks) hk
      exact call_listZip hc (PySem.W.ktu_apart s1.heap.objs.size a b p1.lt p2'.lt) I2 fresh5 ⟨.inl hz, ⟨_, _, hTO⟩, hTI, h1, h2⟩ hqx hqy big fin
end Lw

set_option Elab.async false
set_option linter.all false
set_option maxRecDepth 100000
set_option maxHeartbeats 1000000
/-! enumerate(xs, start=k), xs a list. -/
namespace Lw
open PySem PySem.Spec PyProof.Rows L2
theorem callWith_type_kwB {M : Model} {A : Around} {E : Value → Shared → Prop} {s : Shared} {pos : Pos} {T : String} {first : List Value} {args : List (Bool × Sem Value)} {keywords : List (Option PySem.Str × Sem Value)} {Q : Value → Shared → Prop}
    (hplain : args.any (·.1) = false) (hkw : keywords.any (·.1.isNone) = false)
    (h : wpAny M A (evalArgs (.type T) true args keywords) (fun a s₁ => wpAny M A (call (.type T) (first ++ a.pos) a.kw) Q E s₁) E s) :
    wpAny M A (callWith pos (.type T) first args keywords) Q E s := by
  unfold callWith
  refine wpAny_bind (wpAny_holding (wpAny_mono h (fun a s₁ h₁ => wpAny_bind (wpAny_standAt ?_)) fun _ _ x => x))
  simp only [hplain, hkw, Bool.or_false]
  refine wpAny_bind (wpAny_pure ?_)
  exact wpAny_bind (wpAny_mono h₁ (fun r s₂ hr => wpAny_bind (wpAny_holding (wpAny_point (wpAny_pure hr)))) fun _ _ x => x)
/-- the list at a, each item in a new pair with a count from k -/
def Ites (K : PySem.W.Frag) (a : Addr) (k : Int) : It :=
  ⟨fun i H => ∃ (xs : List V) (x : V), SqL K H a xs ∧ xs[i]? = some x, fun i H v H' => ∃ T x, v = .ref T ∧ H T = none ∧ H' = upd H T (.tup [.int (k + (i : Nat)), x]) ∧ ∀ xs, SqL K H a xs → xs[i]? = some x, fun i H => ∃ xs : List V, SqL K H a xs ∧ xs.length = i⟩
theorem turn_enumS {P : Program} {w : World} {K : PySem.W.Frag} {elts : List Expr} {kk : Nat} {tpos : Pos} (k : Int) (a e it : Addr) :
    Turn P w K (.Tuple elts kk tpos) (Ites K a k) [e, it] e (fun i h => (∃ old, IsEnum h e it (k + ((i : Nat) : Int)) old) ∧ h.IsListIter it a i ∧ e ≠ it) where
  mem := by simp
  obj := fun i h st b hb => by
    obtain ⟨⟨old, isE⟩, ⟨o, ho, hc, hd⟩, _⟩ := st
    rcases (show b = e ∨ b = it by simpa using hb) with rfl | rfl
    · exact ⟨_, isE, fun v q => nomatch q⟩
    · exact ⟨o, ho, fun v q => by rw [hd] at q; cases q⟩
  keep := fun i h h' st k => by
    obtain ⟨⟨old, isE⟩, isI, ne⟩ := st
    exact ⟨⟨old, k e (by simp) _ isE⟩, isI.at fun o q => k it (by simp) o q, ne⟩
  item := by
    intro X hP hw hK hc i pins s σ H E I hf st hg
    subst hP hw hK
    obtain ⟨⟨old, isE⟩, isI, ne⟩ := st
    obtain ⟨xs, x, hq, hx⟩ := hg
    obtain ⟨its, rv, p, hz⟩ := I.list hq
    have isT : s.heap.IsList a its.toArray := p.isList
    obtain ⟨u, hu, ru⟩ := rv.get hx
    have inE : e < s.heap.objs.size := Heap.lt_size isE
    have inI : it < s.heap.objs.size := by obtain ⟨_, q, _⟩ := isI; exact Heap.lt_size q
    have neA : e ≠ a := fun z => by
      obtain ⟨o, q, qc, _⟩ := isT
      rw [← z, show s.heap.get? e = _ from isE] at q
      cases q
      exact absurd qc (by show ¬ Value.type "enumerate" = Value.type "list"; decide)
    have neI : a ≠ it := fun z => by
      obtain ⟨o, q, qc, _⟩ := isT
      obtain ⟨o', q', qc', _⟩ := isI
      rw [z, q'] at q
      cases q
      rw [qc'] at qc
      exact absurd qc (by decide)
    have few : i < its.toArray.size := by
      have := (List.getElem?_eq_some_iff.mp hu).1
      simpa using this
    refine wpAny_pyNext_enum_itemC (PySem.Draws.list (A := X.A.in1) (I.ok.hd hc) it a neI its.toArray) isE ⟨isI, isT⟩ few ne (by simp [ne, neA]) fun x2 h' tk hp2 out st2 hT hsz hk => ?_
    have e2 : x2 = u := by
      have hu' : its.toArray[i]? = some u := by simpa using hu
      rw [hu'] at hp2
      exact (Option.some.inj hp2).symm
    subst e2
    refine ⟨_, rfl, wpAny_letOwnedTupleGo_enum (s := { s with heap := h', toks := tk + 1 }) out fun h2 isE2 sb => ?_⟩
    have hT2 : h2.get? s.heap.objs.size = some { cls := .type "tuple", data := .seq #[.int (k + i) tk, x2] } := (sb.2 _ (Nat.ne_of_gt inE)).trans hT
    have new : ObjOk X.prog X.w (upd H s.heap.objs.size (.tup [.int (k + (i : Nat)), x])) h2 s.heap.objs.size (.tup [.int (k + (i : Nat)), x]) := ⟨by show 2 ≤ sizeLine; decide, [.int (k + i) tk, x2], .cons ⟨_, rfl⟩ (.cons ru .nil), ⟨_, hT2, rfl, _, rfl⟩⟩
    have I1 : Inv X pins σ (upd H s.heap.objs.size (.tup [.int (k + (i : Nat)), x])) { s with heap := h2, toks := tk + 1 } :=
      I.turnedNew (ch := [e, it]) (fun b ob hb q => (sb.2 b (fun z => hb (by simp [z]))).trans (hk b ob (fun z => hb (by simp [z])) (fun z => hb (by simp [z])) q)) hf (Nat.le_refl _) new
    refine ⟨.ref s.heap.objs.size, _, I1, rfl, ⟨_, x, rfl, I.hok.fresh (Nat.le_refl _), rfl, fun ys hy => by rw [I.list_inj hy hq]; exact hx⟩, ⟨⟨x2, ?_⟩, st2.1.at fun o q => (sb.2 it (Ne.symm ne)).trans q, ne⟩, fun b hb => ?_⟩
    · rw [show k + ((i + 1 : Nat) : Int) = k + (i : Int) + 1 by omega]
      exact isE2
    · have hb' : b < s.heap.objs.size := by
        rcases (show b = e ∨ b = it by simpa using hb) with rfl | rfl
        · exact inE
        · exact inI
      rw [upd_ne (Nat.ne_of_lt hb')]
      exact (hf b hb).1
  done := by
    intro X hP hw hK hc i pins s σ H E I hf st hg
    subst hP hw hK
    obtain ⟨⟨old, isE⟩, isI, ne⟩ := st
    obtain ⟨xs, hq, hx⟩ := hg
    obtain ⟨its, rv, p, hz⟩ := I.list hq
    have isT : s.heap.IsList a its.toArray := p.isList
    obtain ⟨f0, f1, f2, f3, f4, f5⟩ := hf it (by simp)
    have size : its.toArray.size = i := by rw [List.size_toArray, ← rv.length]; exact hx
    have neI : a ≠ it := fun z => by
      obtain ⟨o, q, qc, _⟩ := isT
      obtain ⟨o', q', qc', _⟩ := isI
      rw [z, q'] at q
      cases q
      rw [qc'] at qc
      exact absurd qc (by decide)
    exact wpAny_pyNext_enum_endD (PySem.Draws.list (A := X.A.in1) (I.ok.hd hc) it a neI its.toArray) isE ⟨by rw [size]; exact isI, isT⟩ fun h' eb => ⟨rfl, I.turned (t' := s.toks) (fun b o hb q => eb b o hb q) f0 f1 f3 f4 f5⟩
  self := fun A i s Q E st h => by
    obtain ⟨⟨_, isE⟩, _⟩ := st
    exact wpAny_pyIter_enum isE h
def iEnumS (K : PySem.W.Frag) (ta tk : TA) : TI := fun σ H R => ta σ H fun vs H1 => tk σ H1 fun zs H2 => ∃ a xs k, vs = [.ref a] ∧ zs = [.int k] ∧ 0 ≤ k ∧ k ≤ 100000 ∧ SqL K H2 a xs ∧ R (Ites K a k) H2
theorem pi_enumS {X : Cx} {e e2 : Expr} {ta tk : TA} {p pos kpos tpos : Pos} {elts : List Expr} {kk : Nat} (glob : Gl X "enumerate") (free : X.mg "enumerate" = none) (arg : PA X [e] ta) (kw : PK X [⟨some "start", e2, kpos⟩] tk)
    (he : starEach [e] X.env = (false, eval e X.env) :: starEach [] X.env := by rfl) :
    PI X (.Tuple elts kk tpos) (.Call (.Name "enumerate" p) [e] [⟨some "start", e2, kpos⟩] pos) (iEnumS X.K ta tk) := by
  constructor
  intro pins s σ H R I h
  refine wpAny_Call_Name_kw (ld_blt I glob free boot_enumerate ?_)
  refine callWith_type_kwB (by rw [he]; rfl) (by rfl) ?_
  rw [he]
  refine evalArgs_kwB (by rfl) ?_
  have run := arg.run pos pins s σ H _ I h
  rw [he] at run
  refine thn run fun us s1 ⟨vs, H1, I1, r1, q1⟩ => ?_
  refine thn (kw.run pos pins s1 σ H1 _ I1 q1) fun ws s2 ⟨zs, H2, I2, r2, q2⟩ => ?_
  obtain ⟨a, xs, k, rfl, rfl, k0, k1, hq, q⟩ := q2
  obtain ⟨u, rfl, ru⟩ := vals1 r1
  obtain ⟨u2, rfl, ru2⟩ := vals1 r2
  cases ru
  obtain ⟨t2, rfl⟩ := ru2
  obtain ⟨its, rv, p', hz⟩ := I2.list hq
  have isT : s2.heap.IsList a its.toArray := p'.isList
  show wpAny _ _ (call (.type "enumerate") [.ref a] [(Str.ofString "start", .int k t2)]) _ _ _
  refine enum_begins_start (begins_list a its.toArray) isT (by omega) (by omega) fun h' isE hit hsz hk => wpAny_pyIter_enum isE ?_
  have I3 : Inv X pins σ H2 { s2 with heap := h' } := I2.kept (t' := s2.toks) hk
  refine ⟨s2.heap.objs.size + 1, [s2.heap.objs.size + 1, s2.heap.objs.size], _, _, H2, rfl, I3, turn_enumS k a (s2.heap.objs.size + 1) s2.heap.objs.size, ⟨⟨.none, by rw [show k + ((0 : Nat) : Int) = k by omega]; exact isE⟩, ⟨_, hit, rfl, rfl⟩, Nat.succ_ne_self _⟩, fun b hb => ?_, q⟩
  have up : s2.heap.objs.size ≤ b := by
    rcases (show b = s2.heap.objs.size + 1 ∨ b = s2.heap.objs.size by simpa using hb) with rfl | rfl
    · exact Nat.le_succ _
    · exact Nat.le_refl _
  exact I2.fpOk up (I2.hok.fresh up)
/-- a comprehension over it -/
theorem lc_enumS {K : PySem.W.Frag} {a : Addr} {k : Int} {xs : List V} {g : TG} {tt : TT} {te : TE} {vs : List Nat} {σ : L2.St} {H1 : Hp} {D : Addr} {Qd : Hp → Prop} (Pv : Nat → Hp → Prop) (h0 : Pv 0 (upd H1 D (.lst []))) (hl : ∀ i H, Pv i H → SqL K H a xs)
    (hs : ∀ i x T H, xs[i]? = some x → Pv i H → H T = none → g (.ref T) (wipe σ vs) (upd H T (.tup [.int (k + (i : Nat)), x])) fun σ2 H2 => wipe σ2 vs = wipe σ vs ∧ tt σ2 H2 fun b H3 =>
      if b = true then te σ2 H3 fun y H4 => ∃ acc, H4 D = some (.lst acc) ∧ acc.length < sizeLine ∧ Pv (i + 1) (upd H4 D (.lst (acc ++ [y]))) else Pv (i + 1) H3) (hd : ∀ H, Pv xs.length H → Qd H) :
    ∃ W : Nat → Nat → Hp → Prop, (∃ m, W 0 m (upd H1 D (.lst []))) ∧ ∀ i m H, W i m H →
      ((Ites K a k).stop i H ∧ Qd H) ∨ ((Ites K a k).go i H ∧ ∃ Nx : Hp → Prop, (∀ H', Nx H' → ∃ m', m' < m ∧ W (i + 1) m' H') ∧ ∀ x H', (Ites K a k).yld i H x H' → g x (wipe σ vs) H' fun σ2 H2 => wipe σ2 vs = wipe σ vs ∧ tt σ2 H2 fun b H3 =>
        if b = true then te σ2 H3 fun y H4 => ∃ acc, H4 D = some (.lst acc) ∧ acc.length < sizeLine ∧ Nx (upd H4 D (.lst (acc ++ [y]))) else Nx H3) := by
  refine ⟨fun i m H => m = xs.length - i ∧ i ≤ xs.length ∧ Pv i H, ⟨xs.length, by simp, Nat.zero_le _, h0⟩, ?_⟩
  rintro i m H ⟨rfl, hi, p⟩
  have q := hl i H p
  by_cases hlt : i < xs.length
  · refine .inr ⟨⟨xs, xs[i], q, by simp [hlt]⟩, Pv (i + 1), fun H' p' => ⟨xs.length - (i + 1), by omega, rfl, hlt, p'⟩, fun x H' y => ?_⟩
    obtain ⟨T, x', rfl, hT, rfl, f⟩ := y
    exact hs i x' T H (f xs q) p hT
  · have e : i = xs.length := by omega
    subst e
    exact .inl ⟨⟨xs, q, rfl⟩, hd H p⟩
end Lw

set_option Elab.async false
set_option linter.all false
set_option maxRecDepth 100000
set_option maxHeartbeats 1000000
namespace Lw
open PySem PySem.Spec PyProof.Rows L2
/-- C(..), C held by a local -/
def tMakeL (i : Nat) (C : Addr) (sp : Sp) (dvs : List V) (E : XK) (t : TA) : TE := fun σ H Q => σ[i]? = some (some (.ref C)) ∧ tMake C sp dvs E t σ H Q
theorem pe_makeL {X : Cx} {CX : CXT} {k i : Nat} {C f : Addr} {fd : FuncData} {ps : List PySem.Str} {sp : Sp} {dvs : List V} {ds : List Value} {E : XK} {x : PySem.Str} {p pos : Pos} {e : Expr} {es : List Expr} {t : TA} (M : Mk X.K C f) (F : FnOk X.prog X.w X.K X.mg X.base CX k f fd ps sp) (hr : Room (k + 1) X.A)
    (hN : X.N[i]? = some x) (hv : Vis X.env.scope x) (hb : Binds X.K fd ps ds) (hd : Vals dvs ds) (hx : Passes CX X E) (ha : PA X (e :: es) t)
    (hdb : (x == ("__debug__" : PySem.Str)) = false := by decide) (hcd : (x == ("__classdict__" : PySem.Str)) = false := by decide)
    (he : starEach (e :: es) X.env = (false, eval e X.env) :: starEach es X.env := by rfl) (hpl : (backTo pos (starEach es X.env)).any (·.1) = false := by rfl) : PE X (.Call (.Name x p) (e :: es) [] pos) (tMakeL i C sp dvs E t) := by
  refine ⟨fun pins s σ H Q I h => ?_⟩
  obtain ⟨hs, ht⟩ := h
  refine wpAny_Call_Name_kw (thn ((pe_var (pos := p) hN hv hdb hcd).run pins s σ H (fun v H1 => v = .ref C ∧ H1 = H) I ⟨.ref C, hs, rfl, rfl⟩) fun u s1 ⟨v, H1, I1, r1, q1⟩ => ?_)
  obtain ⟨rfl, rfl⟩ := q1
  cases r1
  refine PySem.W.callWith_K (h₀ := X.base) I1.ok.mod.kin M.kp (thn (ha.run pos pins s1 σ _ _ I1 ht) fun us s2 ⟨vs, H2, I2, r, q⟩ => ⟨I2.kIn, ?_⟩) he hpl
  exact run_make M F hr hb hd hx I2 r q
end Lw
namespace K2
open PySem L2 Lw TL SxT
/-- what reads rows and editions -/
structure RdF (K : PySem.W.Frag) (mg : Str → Option Value) (a : Ad) (b : Ae) (fO fR fL fB fP fE : Addr) (dO dR dL dB dP dE : FuncData) (pR pE : Addr) : Prop where
  of : Top K mg "_row_of" sRowOf fO dO ["words"]
  rdF : Fun K "read" "Row.read" sRowRead fR dR
  rdB : Binds K dR ["cls", "text"] []
  rdM : ClX.CMet K a.cRow (.type "type") "read" pR fR
  line : Top K mg "_read_row" sReadRow fL dL ["line", "at"]
  behind : Top K mg "names_behind" sBehind fB dB ["head", "line"]
  parts : Top K mg "read_parts" sParts fP dP ["lines", "at"]
  edF : Fun K "read" "Edition.read" sEdRead fE dE
  edB : Binds K dE ["cls", "text"] []
  edR : ClX.CRead K b.cEd (.type "type")
  edM : ClX.CMet K b.cEd (.type "type") "read" pE fE
  edK : Mk K b.cEd b.fEd
  zip : mg "zip" = none
  enum : mg "enumerate" = none
def spRowOf (K : PySem.W.Frag) (a : Ad) : Sp := fun vs H Q _ => ∃ (l : Addr) (r : Row0), vs = [.ref l] ∧ SqL K H l ((wordsR r).map V.str) ∧ RowGood r ∧ ∀ (H' : Hp) (x : Addr), Same H H' → H x = none → RowAt K a H' (.ref x) r → Q (.ref x) H'
def spRowRead (K : PySem.W.Frag) (a : Ad) : Sp := fun vs H Q _ => ∃ (r : Row0), vs = [.ref a.cRow, .str (textR r)] ∧ RowGood r ∧ ∀ (H' : Hp) (x : Addr), Same H H' → H x = none → RowAt K a H' (.ref x) r → Q (.ref x) H'
def spReadRow (K : PySem.W.Frag) (a : Ad) : Sp := fun vs H Q _ => ∃ (r : Row0) (i : Int), vs = [.str (textR r), .int i] ∧ RowGood r ∧ ∀ (H' : Hp) (x : Addr), Same H H' → H x = none → RowAt K a H' (.ref x) r → Q (.ref x) H'
section
variable {P : Program} {w : World} {K : PySem.W.Frag} {mg : Str → Option Value} {base : Heap} {a : Ad} {b : Ae} {fO fR fL fB fP fE : Addr} {dO dR dL dB dP dE : FuncData} {pR pE : Addr}
theorem dp_pairs {H : Hp} : ∀ {as : List Addr} {ws : List (Str × Str)}, as.length = ws.length → (∀ (j : Nat) (x : Addr) (y : Str × Str), as[j]? = some x → ws[j]? = some y → H x = some (.tup [.str y.1, .str y.2])) → DpAll K H (as.map V.ref) (ws.map wayD)
  | [], [], _, _ => .nil
  | x :: as, y :: ws, h, f => .cons (.tup (SqT.of (f 0 x y rfl rfl)) (.cons (.str _) (.cons (.str _) .nil))) (dp_pairs (by simpa using h) fun j x' y' h1 h2 => f (j + 1) x' y' (by simpa using h1) (by simpa using h2))
  | [], _ :: _, h, _ => by simp at h
  | _ :: _, [], h, _ => by simp at h
theorem pick_one {p n : Str} : ∀ {ws : List (Str × Str)}, ws.length ≤ 3 → pickV ((wordsR (.ask p n ws)).map V.str) (some 3) none (some 2) = ws.map fun w => V.str w.1
  | [], _ => by
    show (sliceRange (sliceBounds (some 3) none (some 2) 3).1 (sliceBounds (some 3) none (some 2) 3).2.1 (sliceBounds (some 3) none (some 2) 3).2.2).filterMap _ = _
    rw [show sliceRange (sliceBounds (some 3) none (some 2) 3).1 (sliceBounds (some 3) none (some 2) 3).2.1 (sliceBounds (some 3) none (some 2) 3).2.2 = [] from by decide +kernel]
    rfl
  | [_], _ => by
    show (sliceRange (sliceBounds (some 3) none (some 2) 5).1 (sliceBounds (some 3) none (some 2) 5).2.1 (sliceBounds (some 3) none (some 2) 5).2.2).filterMap _ = _
    rw [show sliceRange (sliceBounds (some 3) none (some 2) 5).1 (sliceBounds (some 3) none (some 2) 5).2.1 (sliceBounds (some 3) none (some 2) 5).2.2 = [3] from by decide +kernel]
    rfl
  | [_, _], _ => by
    show (sliceRange (sliceBounds (some 3) none (some 2) 7).1 (sliceBounds (some 3) none (some 2) 7).2.1 (sliceBounds (some 3) none (some 2) 7).2.2).filterMap _ = _
    rw [show sliceRange (sliceBounds (some 3) none (some 2) 7).1 (sliceBounds (some 3) none (some 2) 7).2.1 (sliceBounds (some 3) none (some 2) 7).2.2 = [3, 5] from by decide +kernel]
    rfl
  | [_, _, _], _ => by
    show (sliceRange (sliceBounds (some 3) none (some 2) 9).1 (sliceBounds (some 3) none (some 2) 9).2.1 (sliceBounds (some 3) none (some 2) 9).2.2).filterMap _ = _
    rw [show sliceRange (sliceBounds (some 3) none (some 2) 9).1 (sliceBounds (some 3) none (some 2) 9).2.1 (sliceBounds (some 3) none (some 2) 9).2.2 = [3, 5, 7] from by decide +kernel]
    rfl
  | _ :: _ :: _ :: _ :: _, h => by simp at h
theorem pick_two {p n : Str} : ∀ {ws : List (Str × Str)}, ws.length ≤ 3 → pickV ((wordsR (.ask p n ws)).map V.str) (some 4) none (some 2) = ws.map fun w => V.str w.2
  | [], _ => by
    show (sliceRange (sliceBounds (some 4) none (some 2) 3).1 (sliceBounds (some 4) none (some 2) 3).2.1 (sliceBounds (some 4) none (some 2) 3).2.2).filterMap _ = _
    rw [show sliceRange (sliceBounds (some 4) none (some 2) 3).1 (sliceBounds (some 4) none (some 2) 3).2.1 (sliceBounds (some 4) none (some 2) 3).2.2 = [] from by decide +kernel]
    rfl
  | [_], _ => by
    show (sliceRange (sliceBounds (some 4) none (some 2) 5).1 (sliceBounds (some 4) none (some 2) 5).2.1 (sliceBounds (some 4) none (some 2) 5).2.2).filterMap _ = _
    rw [show sliceRange (sliceBounds (some 4) none (some 2) 5).1 (sliceBounds (some 4) none (some 2) 5).2.1 (sliceBounds (some 4) none (some 2) 5).2.2 = [4] from by decide +kernel]
    rfl
  | [_, _], _ => by
    show (sliceRange (sliceBounds (some 4) none (some 2) 7).1 (sliceBounds (some 4) none (some 2) 7).2.1 (sliceBounds (some 4) none (some 2) 7).2.2).filterMap _ = _
    rw [show sliceRange (sliceBounds (some 4) none (some 2) 7).1 (sliceBounds (some 4) none (some 2) 7).2.1 (sliceBounds (some 4) none (some 2) 7).2.2 = [4, 6] from by decide +kernel]
    rfl
  | [_, _, _], _ => by
    show (sliceRange (sliceBounds (some 4) none (some 2) 9).1 (sliceBounds (some 4) none (some 2) 9).2.1 (sliceBounds (some 4) none (some 2) 9).2.2).filterMap _ = _
    rw [show sliceRange (sliceBounds (some 4) none (some 2) 9).1 (sliceBounds (some 4) none (some 2) 9).2.1 (sliceBounds (some 4) none (some 2) 9).2.2 = [4, 6, 8] from by decide +kernel]
    rfl
  | _ :: _ :: _ :: _ :: _, h => by simp at h
theorem ask_many {p n : Str} : ∀ {ws : List (Str × Str)}, ws.length ≤ 3 → ((wordsR (.ask p n ws)).map V.str).length = 3 + 2 * ws.length
  | [], _ => rfl
  | [_], _ => rfl
  | [_, _], _ => rfl
  | [_, _, _], _ => rfl
  | _ :: _ :: _ :: _ :: _, h => by simp at h
theorem scRowOf : FnScope ["words", "kind"] ["words"] (defScope sRowOf) := ⟨rfl, rfl, rfl, by decide +kernel, rfl, by decide +kernel, by decide +kernel⟩
theorem okRowOf (T : Txt K mg a) (D : RdF K mg a b fO fR fL fB fP fE dO dR dL dB dP dE pR pE) : FnOk P w K mg base CX0 6 fO dO ["words"] (spRowOf K a) := by
  refine D.of.F.ok scRowOf (fun vs H Q E h => ?_) (fun cdv A outer s H vs Q E hr h => ?_)
  · obtain ⟨l, r, rfl, _⟩ := h
    rfl
  · obtain ⟨l, r, rfl, hs, gr, fin⟩ := h
    refine ⟨_, pss_cons (ps_set (i := 1) scRowOf.nd rfl (Or.inl rfl) (pe_ifExp (pt_cmpR op_gt (pe_callB call_len_seq (by rfl) T.tLen PySem.boot_len (pa_cons (pv 0) pa_nil)) pe_int (nomark _)) (pe_ix ix_list (pv 0) pe_int (fun _ _ => rfl)) pe_str))
      (pss_cons (ps_if (PW.pt (pw_and (pt_cmpR op_eq (pv 1) pe_str (nomark _)) (pw_and1 (pt_cmpR op_eq (pe_op op_mod (pe_callB call_len_seq (by rfl) T.tLen PySem.boot_len (pa_cons (pv 0) pa_nil)) pe_int) pe_int (nomark _)))))
        (pss_one (ps_ret (pe_make T.ask.mkd T.okAsk hr rfl T.ask.g T.ask.b .nil passL (pa_cons (pe_ix ix_list (pv 0) pe_int (fun _ _ => rfl)) (pa_cons (pe_ix ix_list (pv 0) pe_int (fun _ _ => rfl))
          (pa_cons (pe_listZip (by rfl) T.tList (by rfl) D.zip (pa_cons (pe_slice3 (pv 0) (po_some pe_int) po_none (po_some pe_int)) (pa_cons (pe_slice3 (pv 0) (po_some pe_int) po_none (po_some pe_int)) pa_nil))) pa_nil)))))) pss_nil)
      (pss_cons (ps_if (PW.pt (pw_and (pt_cmpR op_eq (pv 1) pe_str (nomark _)) (pw_and1 (pt_cmpR op_eq (pe_callB call_len_seq (by rfl) T.tLen PySem.boot_len (pa_cons (pv 0) pa_nil)) pe_int (nomark _)))))
        (pss_one (ps_ret (pe_make T.note.mkd T.okNote hr rfl T.note.g T.note.b .nil passL (pa_cons (pe_ix ix_list (pv 0) pe_int (fun _ _ => rfl)) (pa_cons (pe_ix ix_list (pv 0) pe_int (fun _ _ => rfl)) (pa_cons (pe_ix ix_list (pv 0) pe_int (fun _ _ => rfl)) pa_nil)))))) pss_nil)
      (pss_cons (ps_if (PW.pt (pw_and (pt_cmpR op_eq (pv 1) pe_str (nomark _)) (pw_and1 (pt_cmpR op_eq (pe_callB call_len_seq (by rfl) T.tLen PySem.boot_len (pa_cons (pv 0) pa_nil)) pe_int (nomark _)))))
        (pss_one (ps_ret (pe_make T.gate.mkd T.okGate hr rfl T.gate.g T.gate.b .nil passL (pa_cons (pe_ix ix_list (pv 0) pe_int (fun _ _ => rfl)) (pa_cons (pe_ix ix_list (pv 0) pe_int (fun _ _ => rfl)) (pa_cons (pe_ix ix_list (pv 0) pe_int (fun _ _ => rfl)) (pa_cons (pe_ix ix_list (pv 0) pe_int (fun _ _ => rfl)) pa_nil))))))) pss_nil)
      (pss_cons (ps_if (PW.pt (pw_and (pt_cmpR op_eq (pv 1) pe_str (nomark _)) (pw_and1 (pt_cmpR op_eq (pe_callB call_len_seq (by rfl) T.tLen PySem.boot_len (pa_cons (pv 0) pa_nil)) pe_int (nomark _)))))
        (pss_one (ps_ret (pe_make T.end_.mkd T.okEnd hr rfl T.end_.g T.end_.b .nil passL (pa_cons (pe_ix ix_list (pv 0) pe_int (fun _ _ => rfl)) pa_nil)))) pss_nil)
      (pss_one ps_dead))))), ?_⟩
    have fin' : ∀ (H' : Hp) (x dx : Addr) (fs : List (Str × V)), Same H H' → H x = none → H' x = some (.ins (clsR a r) dx fs) → fieldsOk K H' fs r → Bare fs → Q (.ref x) H' := fun H' x dx fs s hx h1 h2 h3 => fin H' x s hx ⟨x, dx, fs, rfl, h1, h2, h3⟩
    have eqT : ∀ z : Str, decide (V.str z = V.str z) = true := fun z => by simp
    cases r with
    | ask p n ws =>
      have few : ws.length ≤ 3 := gr.2.2.2.1
      have many := ask_many (p := p) (n := n) few
      refine ⟨_, rfl, l, _, rfl, .inl hs, _, _, rfl, rfl, _, rfl, ?_⟩
      refine iteTb (decide_eq_true (by rw [many]; omega)) ⟨_, rfl, l, _, 1, _, rfl, rfl, hs, atI_nat (j := 1) rfl, ?_⟩
      dsimp only [gName, tNext]
      refine ⟨_, rfl, rfl, _, rfl, iteTb (eqT _) ?_⟩
      refine ⟨_, rfl, l, _, rfl, .inl hs, _, _, rfl, rfl, (by show (0 : Int) < 2; decide), rfl, _, rfl, ?_⟩
      refine iteTb (decide_eq_true (by rw [many]; exact congrArg V.int (by omega))) ?_
      refine ⟨_, rfl, l, _, 0, _, rfl, rfl, hs, atI_nat (j := 0) rfl, _, rfl, l, _, 2, _, rfl, rfl, hs, atI_nat (j := 2) rfl, _, rfl, _, rfl, _, rfl, l, _, rfl, hs, by decide, by rw [many]; omega, fun q1 u1 => ?_⟩
      rw [pick_one few]
      have s1 := same_new (o := .lst (ws.map fun w => V.str w.1)) u1
      have h1 : (upd H q1 (.lst (ws.map fun w => V.str w.1))) q1 = some (.lst (ws.map fun w => V.str w.1)) := upd_same
      generalize (upd H q1 (.lst (ws.map fun w => V.str w.1))) = H1 at s1 h1 ⊢
      refine ⟨_, rfl, _, rfl, _, rfl, l, _, rfl, s1.seq hs, by decide, by rw [many]; omega, fun q2 u2 => ?_⟩
      rw [pick_two few]
      have s2 := same_new (o := .lst (ws.map fun w => V.str w.2)) u2
      have h2 : (upd H1 q2 (.lst (ws.map fun w => V.str w.2))) q2 = some (.lst (ws.map fun w => V.str w.2)) := upd_same
      generalize (upd H1 q2 (.lst (ws.map fun w => V.str w.2))) = H2 at s2 h2 ⊢
      refine ⟨q1, q2, _, _, rfl, SqL.of (s2 _ _ h1), SqL.of h2, by rw [List.length_map]; omega, fun H3 q as s3 uq hq la pa => ?_⟩
      have S := (s1.trans s2).trans s3
      rw [List.length_map, List.length_map, Nat.min_self] at la
      have hp : DpAll K H3 (as.map V.ref) (ws.map wayD) := dp_pairs la fun j x y e1 e2 => by
        obtain ⟨x', y', e3, e4, e5⟩ := pa j x e1
        rw [List.getElem?_map, e2] at e3 e4
        have e3 : V.str y.1 = x' := by simpa using e3
        have e4 : V.str y.2 = y' := by simpa using e4
        rw [e3, e4]
        exact e5
      exact make_list (σ := []) (ta := fun _ H Q => Q [.str p, .str n, .ref q] H) (fun Q z => z) (.cons (.str _) (.cons (.str _) (.cons (.lst (SqL.of hq) hp) .nil))) gr fun H' x dx fs s hx h1 h2 h3 => fin' H' x dx fs (S.trans s) (S.free hx) h1 h2 h3
    | note p w t =>
      refine ⟨_, rfl, l, _, rfl, .inl hs, _, _, rfl, rfl, _, rfl, ?_⟩
      refine iteTb rfl ⟨_, rfl, l, _, 1, _, rfl, rfl, hs, atI_nat (j := 1) rfl, ?_⟩
      dsimp only [gName, tNext]
      refine ⟨_, rfl, rfl, _, rfl, iteFb (by decide) (iteF ?_)⟩
      refine ⟨_, rfl, rfl, _, rfl, iteTb (eqT _) ?_⟩
      refine ⟨_, rfl, l, _, rfl, .inl hs, rfl, _, rfl, iteTb (by rfl) ?_⟩
      exact make_case (r := .note p w t) (fun Q q => ⟨_, rfl, l, _, 0, _, rfl, rfl, hs, atI_nat (j := 0) rfl, _, rfl, l, _, 2, _, rfl, rfl, hs, atI_nat (j := 2) rfl, _, rfl, l, _, 3, _, rfl, rfl, hs, atI_nat (j := 3) rfl, q⟩) (.cons (.str _) (.cons (.str _) (.cons (.str _) .nil))) (good_fine gr) rfl (good_due gr) fin'
    | gate p m n e =>
      refine ⟨_, rfl, l, _, rfl, .inl hs, _, _, rfl, rfl, _, rfl, ?_⟩
      refine iteTb rfl ⟨_, rfl, l, _, 1, _, rfl, rfl, hs, atI_nat (j := 1) rfl, ?_⟩
      dsimp only [gName, tNext]
      refine ⟨_, rfl, rfl, _, rfl, iteFb (by decide) (iteF ?_)⟩
      refine ⟨_, rfl, rfl, _, rfl, iteFb (by decide) (iteF ?_)⟩
      refine ⟨_, rfl, rfl, _, rfl, iteTb (eqT _) ?_⟩
      refine ⟨_, rfl, l, _, rfl, .inl hs, rfl, _, rfl, iteTb (by rfl) ?_⟩
      exact make_case (r := .gate p m n e) (fun Q q => ⟨_, rfl, l, _, 0, _, rfl, rfl, hs, atI_nat (j := 0) rfl, _, rfl, l, _, 2, _, rfl, rfl, hs, atI_nat (j := 2) rfl, _, rfl, l, _, 3, _, rfl, rfl, hs, atI_nat (j := 3) rfl, _, rfl, l, _, 4, _, rfl, rfl, hs, atI_nat (j := 4) rfl, q⟩) (.cons (.str _) (.cons (.str _) (.cons (.str _) (.cons (.str _) .nil)))) (good_fine gr) rfl (good_due gr) fin'
    | end_ p =>
      refine ⟨_, rfl, l, _, rfl, .inl hs, _, _, rfl, rfl, _, rfl, ?_⟩
      refine iteTb rfl ⟨_, rfl, l, _, 1, _, rfl, rfl, hs, atI_nat (j := 1) rfl, ?_⟩
      dsimp only [gName, tNext]
      refine ⟨_, rfl, rfl, _, rfl, iteFb (by decide) (iteF ?_)⟩
      refine ⟨_, rfl, rfl, _, rfl, iteFb (by decide) (iteF ?_)⟩
      refine ⟨_, rfl, rfl, _, rfl, iteFb (by decide) (iteF ?_)⟩
      refine ⟨_, rfl, rfl, _, rfl, iteTb (eqT _) ?_⟩
      refine ⟨_, rfl, l, _, rfl, .inl hs, rfl, _, rfl, iteTb (by rfl) ?_⟩
      exact make_case (r := .end_ p) (fun Q q => ⟨_, rfl, l, _, 0, _, rfl, rfl, hs, atI_nat (j := 0) rfl, q⟩) (.cons (.str _) .nil) (good_fine gr) rfl (good_due gr) fin'
theorem textR_short {r : Row0} (g : RowGood r) : (textR r).length ≤ 100 := textR_len g
theorem scRowRead : FnScope ["cls", "text", "words"] ["cls", "text"] (defScope sRowRead) := ⟨rfl, rfl, rfl, by decide +kernel, rfl, by decide +kernel, by decide +kernel⟩
theorem okRowRead (T : Txt K mg a) (D : RdF K mg a b fO fR fL fB fP fE dO dR dL dB dP dE pR pE) : FnOk P w K mg base CX0 7 fR dR ["cls", "text"] (spRowRead K a) := by
  refine D.rdF.ok scRowRead (fun vs H Q E h => ?_) (fun cdv A outer s H vs Q E hr h => ?_)
  · obtain ⟨r, rfl, _⟩ := h
    rfl
  · obtain ⟨r, rfl, gr, fin⟩ := h
    refine ⟨_, pss_cons (ps_set (i := 2) scRowRead.nd rfl (Or.inl rfl) (pe_split (pv 1) pe_str))
      (pss_one (ps_try_thru0 (pss_one (ps_ret (pe_call (okRowOf T D) hr rfl D.of.g D.of.F.kp D.of.b .nil pass0 (pa_cons (pv 2) pa_nil)))))), ?_⟩
    have lt := textR_len gr
    refine ⟨_, rfl, ⟨_, rfl⟩, _, _, rfl, rfl, by decide +kernel, Nat.le_trans (Nat.add_le_add_right lt 2) (by decide), fun p up => ?_⟩
    rw [good_split gr]
    dsimp only [gName, tNext]
    exact ⟨_, rfl, p, r, rfl, SqL.of upd_same, gr, fun H' x s hx hR => fin H' x ((same_new up).trans s) ((same_new up).free hx) hR⟩
theorem scReadRow : FnScope ["line", "at"] ["line", "at"] (defScope sReadRow) := ⟨rfl, rfl, rfl, by decide +kernel, rfl, by decide +kernel, by decide +kernel⟩
theorem okReadRow (T : Txt K mg a) (D : RdF K mg a b fO fR fL fB fP fE dO dR dL dB dP dE pR pE) : FnOk P w K mg base CX0 8 fL dL ["line", "at"] (spReadRow K a) := by
  refine D.line.F.ok scReadRow (fun vs H Q E h => ?_) (fun cdv A outer s H vs Q E hr h => ?_)
  · obtain ⟨r, i, rfl, _⟩ := h
    rfl
  · obtain ⟨r, i, rfl, gr, fin⟩ := h
    refine ⟨_, pss_one (ps_try_thru0 (pss_one (ps_ret (ClX.pe_cmeth (pe_glob (v := .ref a.cRow) (by rfl) T.row.g rfl) T.rowR D.rdM ((okRowRead T D).raw D.rdB .nil) hr pass0 (pa_cons (pv 0) pa_nil))))), ?_⟩
    exact ⟨rfl, _, rfl, r, rfl, gr, fin⟩
end
end K2

set_option Elab.async false
set_option linter.all false
set_option maxRecDepth 100000
set_option maxHeartbeats 1000000
namespace K2
open PySem L2 Lw TL SxT
section
variable {P : Program} {w : World} {K : PySem.W.Frag} {mg : Str → Option Value} {base : Heap} {a : Ad} {b : Ae} {fO fR fL fB fP fE : Addr} {dO dR dL dB dP dE : FuncData} {pR pE : Addr}
theorem EdT.bindAll (E : EdT K mg a b) : Binds K b.dEd ["self", "rows", "drops"] [] := by
  obtain ⟨ds, hv, hb⟩ := E.F.binds1 (ps := ["self", "rows", "drops"]) 3 1 (by simp) rfl (fun T kV doc pm an cdv ct us its hl hi => match us, hl, its, hi with | [_, _, _], _, [_], _ => ⟨_, rfl, rfl⟩)
  cases hv
  exact hb
theorem EdT.bindOne (E : EdT K mg a b) : ∃ ds, Vals [V.ref b.tD] ds ∧ Binds K b.dEd ["self", "rows", "drops"] ds :=
  E.F.binds1 (ps := ["self", "rows", "drops"]) 2 0 (by simp) rfl (fun T kV doc pm an cdv ct us its hl hi => match us, hl, its, hi with | [_, _], _, [_], _ => ⟨_, rfl, rfl⟩)
/-! ### rows made one by one -/
theorem row_off {H : Hp} {p : Addr} {ys : List V} {o : HO} {v : V} {r : Row0} (hp : H p = some (.lst ys)) (h : RowAt K a H v r) : RowAt K a (upd H p o) v r := by
  obtain ⟨x, dx, fs, e, hx, hf, hb⟩ := h.ex
  exact ⟨x, dx, fs, e, by rw [upd_ne (fun z => by rw [z, hp] at hx; cases hx)]; exact hx, fields_off hp hf, hb⟩
theorem rows_off {H : Hp} {p : Addr} {ys : List V} {o : HO} (hp : H p = some (.lst ys)) : ∀ {vs : List V} {rs : List Row0}, RowsAt K a H vs rs → RowsAt K a (upd H p o) vs rs
  | _, _, .nil => .nil
  | _, _, .cons h t => .cons (row_off hp h) (rows_off hp t)
def MadeR (K : PySem.W.Frag) (a : Ad) (H1 : Hp) (D : Addr) (rs : List Row0) (H' : Hp) : Prop := Same H1 H' ∧ ∃ acc, H' D = some (.lst acc) ∧ RowsAt K a H' acc rs
theorem MadeR.zero {H1 : Hp} {D : Addr} (u : H1 D = none) : MadeR K a H1 D [] (upd H1 D (.lst [])) := ⟨same_new u, [], upd_same, .nil⟩
theorem MadeR.mono {H1 H2 H3 : Hp} {D : Addr} {rs : List Row0} (h : MadeR K a H1 D rs H2) (s : Same H2 H3) : MadeR K a H1 D rs H3 := by
  obtain ⟨s1, acc, h1, h2⟩ := h
  exact ⟨s1.trans s, acc, s _ _ h1, h2.same s⟩
theorem MadeR.add {H1 H H4 : Hp} {D : Addr} {rs : List Row0} {r : Row0} {v : V} (h : MadeR K a H1 D rs H) (u : H1 D = none) (few : rs.length < 100000) (s : Same H H4) (hv : RowAt K a H4 v r) :
    ∃ acc, H4 D = some (.lst acc) ∧ acc.length < sizeLine ∧ MadeR K a H1 D (rs ++ [r]) (upd H4 D (.lst (acc ++ [v]))) := by
  obtain ⟨s1, acc, h1, h2⟩ := h
  have hD := s _ _ h1
  refine ⟨acc, hD, Nat.lt_of_le_of_lt (show acc.length ≤ 100000 by rw [h2.len]; omega) (by decide), fun b v eb => ?_, acc ++ [v], upd_same, ?_⟩
  · rw [upd_ne (ne_of_none eb u)]
    exact s _ _ (s1 _ _ eb)
  · exact rows_off hD ((h2.same s).app (.cons hv .nil))
def spParts (K : PySem.W.Frag) (a : Ad) : Sp := fun vs H Q _ => ∃ (p : Addr) (dz : List Str) (rs : List Row0) (i : Int), vs = [.ref p, .int i] ∧ SqL K H p ((Txt.join " " ("drops" :: dz) :: rs.map textR).map V.str) ∧ 0 ≤ i ∧ i ≤ 1000 ∧ (∀ z ∈ dz, nameOk z = true) ∧ dz.length ≤ 60 ∧ rs ≠ [] ∧ (∀ r ∈ rs, RowGood r) ∧ rs.length ≤ 60 ∧
  ∀ (H' : Hp) (t l q : Addr) (xs : List V), Same H H' → H t = none → H' t = some (.tup [.ref l, .ref q]) → H' l = some (.lst (dz.map V.str)) → H' q = some (.lst xs) → RowsAt K a H' xs rs → Q (.ref t) H'
theorem drops_split {dz : List Str} (h : ∀ z ∈ dz, nameOk z = true) : Txt.split (Txt.join " " ("drops" :: dz)) " " = ("drops" :: dz : List Str) := by
  refine split_join (s := 32) (S := []) (by decide +kernel) (by decide +kernel) (by simp) fun p hp => ?_
  rcases List.mem_cons.mp hp with rfl | hp
  · decide +kernel
  · exact name_no (h p hp) (by decide)
theorem head_len {dz : List Str} (h : ∀ z ∈ dz, nameOk z = true) (few : dz.length ≤ 60) : (Txt.join " " ("drops" :: dz)).length ≤ 400 := by
  have h1 := join_len " " ("drops" :: dz)
  have h2 := sum_le (n := 4) (ys := dz) fun z hz => ok4 (h z hz)
  have e : (" " : Str).length = 1 := by decide
  have e5 : ("drops" : Str).length = 5 := by decide
  rw [e, List.map_cons, List.sum_cons, List.length_cons, e5] at h1
  omega
abbrev nParts : List Str := ["lines", "at", "drops", "number", "line"]
theorem scParts : FnScope nParts ["lines", "at"] (defScope sParts) := ⟨rfl, rfl, rfl, by decide +kernel, rfl, by decide +kernel, by decide +kernel⟩
theorem okParts (T : Txt K mg a) (D : RdF K mg a b fO fR fL fB fP fE dO dR dL dB dP dE pR pE) : FnOk P w K mg base CX0 9 fP dP ["lines", "at"] (spParts K a) := by
  refine D.parts.F.ok scParts (fun vs H Q E h => ?_) (fun cdv A outer s H vs Q E hr h => ?_)
  · obtain ⟨p, dz, rs, i, rfl, _⟩ := h
    rfl
  · obtain ⟨p, dz, rs, i, rfl, hs, i0, i1, hz, fewz, ne, gr, few, fin⟩ := h
    have OB : FnOk P w K mg base CX0 2 fB dB ["head", "line"] spBehind := okBehind T D.behind.F
    have hr2 : Room 2 _ := hr.mono (by decide)
    refine ⟨_, pss_cons (ps_set (i := 2) scParts.nd rfl (Or.inl rfl) (pe_ifExp (pt_cmpR op_gt (pe_callB call_len_seq (by rfl) T.tLen PySem.boot_len (pa_cons (pv 0) pa_nil)) pe_int (nomark _)) (pe_call OB hr2 rfl D.behind.g D.behind.F.kp D.behind.b .nil pass0 (pa_cons pe_str (pa_cons (pe_ix ix_list (pv 0) pe_int (fun _ _ => rfl)) pa_nil))) pe_non))
      (pss_cons (ps_if (pt_cmpR op_isN (pv 2) pe_non rfl) (pss_one ps_dead) pss_nil)
      (pss_cons (ps_if (pt_cmpR op_eq (pe_callB call_len_seq (by rfl) T.tLen PySem.boot_len (pa_cons (pv 0) pa_nil)) pe_int (nomark _)) (pss_one ps_dead) pss_nil)
      (pss_one (ps_ret (pe_tup (pa_cons (pv 2) (pa_cons (pe_lc (own := [("number", 3), ("line", 4)]) (g := gTup K 2 (gCons (gName 3) (gCons (gName 4) gNil))) (tt := tYes) (te := tCall (spReadRow K a) [] E0 (tCons (tVar 4) (tCons (tVar 3) tNil))) (by rfl) scParts.nd
          (pi_enumS (by rfl) D.enum (pa_cons (pe_slice sl_list (pv 0) (po_some pe_int) po_none) pa_nil) (pk_cons (pe_op op_add (pv 1) pe_int) pk_nil))
          (blkOk_by (own := [("number", 3), ("line", 4)]) (N := nParts) (sc := defScope sParts) (by decide +kernel)) (fun _ _ _ _ _ => pg_tup rfl (pgs_cons (pg_name (i := 3) scParts.nd rfl (.inl rfl)) (pgs_cons (pg_name (i := 4) scParts.nd rfl (.inl rfl)) pgs_nil))) (fun _ _ _ _ _ => pts_nil)
          (fun _ _ _ _ _ => pe_call (okReadRow T D) hr rfl D.line.g D.line.F.kp D.line.b .nil pass0 (pa_cons (pv 4) (pa_cons (pv 3) pa_nil)))) pa_nil))))))), ?_⟩
    refine ⟨_, rfl, p, _, rfl, .inl hs, _, _, rfl, rfl, _, rfl, ?_⟩
    refine iteTb (decide_eq_true (by simp)) ⟨_, rfl, p, _, 0, _, rfl, rfl, hs, atI_nat (j := 0) rfl, ?_⟩
    have hl := head_len hz fewz
    refine ⟨_, _, "drops", dz, rfl, by omega, drops_split hz, by omega, fun y hy => name_fine (hz y hy), fun _ _ H1 l s1 ul hl1 => ?_, fun z => absurd ⟨rfl, List.all_eq_true.mpr hz⟩ z⟩
    dsimp only [gName, tNext]
    refine ⟨_, rfl, rfl, _, rfl, ?_⟩
    refine iteF ⟨_, rfl, p, _, rfl, .inl (s1.seq hs), rfl, _, rfl, ?_⟩
    refine iteFb (decide_eq_false fun z => ?_) ?_
    · simp only [V.int.injEq, List.length_map, List.length_cons] at z
      exact ne (List.length_eq_zero_iff.mp (by omega))
    refine ⟨_, rfl, _, rfl, _, rfl, p, _, rfl, s1.seq hs, fun q uq => ?_⟩
    have cut : cutV ((Txt.join " " ("drops" :: dz) :: rs.map textR).map V.str) (some 1) none = (rs.map textR).map V.str := by
      rw [cut_drop (by decide)]
      rfl
    rw [cut]
    have s2 := same_new (o := .lst ((rs.map textR).map V.str)) uq
    have hq : (upd H1 q (.lst ((rs.map textR).map V.str))) q = some (.lst ((rs.map textR).map V.str)) := upd_same
    generalize (upd H1 q (.lst ((rs.map textR).map V.str))) = H2 at s2 hq ⊢
    refine ⟨_, rfl, _, _, rfl, rfl, q, _, _, rfl, rfl, by omega, by omega, SqL.of hq, fun D0 un => lc_enumS (K := K) (a := q) (xs := (rs.map textR).map V.str) (fun j H' => MadeR K a H2 D0 (rs.take j) H') (MadeR.zero un) (fun j H' hv => hv.1.seq (SqL.of hq)) ?_ ?_⟩
    · intro j x t H3 hx hv ut
      rw [List.map_map, List.getElem?_map] at hx
      obtain ⟨r, er, rfl⟩ := Option.map_eq_some_iff.mp hx
      have gr1 := gr r (List.mem_of_getElem? er)
      refine ⟨t, _, rfl, SqT.of upd_same, rfl, _, _, rfl, _, _, rfl, rfl, ?_⟩
      refine ⟨rfl, ?_⟩
      dsimp only [tYes]
      have hv2 := hv.mono (same_new (o := .tup [.int (i + 1 + (j : Nat)), .str (textR r)]) ut)
      refine iteT ⟨_, rfl, _, rfl, r, _, rfl, gr1, fun H4 y s4 uy hy => ?_⟩
      rw [show rs.take (j + 1) = rs.take j ++ [r] from by rw [List.take_add_one, er]; rfl]
      exact hv2.add un (by rw [List.length_take]; omega) s4 hy
    · intro H3 hv
      rw [List.length_map, List.length_map, List.take_length] at hv
      obtain ⟨s3, acc, hD, hR⟩ := hv
      refine ⟨by show 2 ≤ sizeLine; decide, fun t ut => ?_⟩
      have s4 := same_new (o := .tup [.ref l, .ref D0]) ut
      have S := ((s1.trans s2).trans s3).trans s4
      exact fin _ t l D0 acc S (((s1.trans s2).trans s3).free ut) upd_same (s4 _ _ (s3 _ _ (s2 _ _ hl1))) (s4 _ _ hD) (hR.same s4)
end
end K2

set_option Elab.async false
set_option linter.all false
set_option maxRecDepth 100000
set_option maxHeartbeats 1000000
namespace K2
open PySem L2 Lw TL SxT
theorem mem_joinL {c : Nat} {S : List Nat} : ∀ {ps : List (List Nat)}, c ∈ joinL S ps → c ∈ S ∨ ∃ p ∈ ps, c ∈ p
  | [], h => by cases h
  | [p], h => .inr ⟨p, by simp, h⟩
  | p :: q :: r, h => by
    rcases List.mem_append.mp (show c ∈ p ++ (S ++ joinL S (q :: r)) from h) with h | h
    · exact .inr ⟨p, by simp, h⟩
    rcases List.mem_append.mp h with h | h
    · exact .inl h
    rcases mem_joinL h with h | ⟨z, hz, h⟩
    · exact .inl h
    · exact .inr ⟨z, List.mem_cons_of_mem _ hz, h⟩
theorem mem_join {c : Nat} {y : Str} {ps : List Str} (h : c ∈ tl (Txt.join y ps)) : c ∈ tl y ∨ ∃ p ∈ ps, c ∈ tl p := by
  rw [join_eq, tl_join] at h
  rcases mem_joinL h with h | ⟨p, hp, h⟩
  · exact .inl h
  · obtain ⟨z, hz, rfl⟩ := List.mem_map.mp hp
    exact .inr ⟨z, hz, h⟩
theorem row_no {r : Row0} (g : RowGood r) {c : Nat} (hc : c < 97) (h32 : c ≠ 32) : c ∉ tl (textR r) := fun m => by
  rcases mem_join m with m | ⟨p, hp, m⟩
  · have e : tl (" " : Str) = [32] := by decide +kernel
    rw [e] at m
    exact h32 (List.mem_singleton.mp m)
  · exact name_no (good_words g p hp) hc m
theorem head_no {dz : List Str} (h : ∀ z ∈ dz, nameOk z = true) {c : Nat} (hc : c < 97) (h32 : c ≠ 32) : c ∉ tl (Txt.join " " ("drops" :: dz : List Str)) := fun m => by
  rcases mem_join m with m | ⟨p, hp, m⟩
  · have e : tl (" " : Str) = [32] := by decide +kernel
    rw [e] at m
    exact h32 (List.mem_singleton.mp m)
  · rcases List.mem_cons.mp hp with rfl | hp
    · have e : tl ("drops" : Str) = [100, 114, 111, 112, 115] := by decide +kernel
      rw [e] at m
      simp at m
      omega
    · exact name_no (h p hp) hc m
theorem ed_split {rs : List Row0} {dz : List Str} (h : ∀ z ∈ dz, nameOk z = true) (g : ∀ r ∈ rs, RowGood r) : Txt.split (textE rs dz) "\n" = Txt.join " " ("drops" :: dz) :: rs.map textR := by
  refine split_join (s := 10) (S := []) (by decide +kernel) (by decide +kernel) (by simp) fun p hp => ?_
  rcases List.mem_cons.mp hp with rfl | hp
  · exact head_no h (by decide) (by decide)
  · obtain ⟨r, hr, rfl⟩ := List.mem_map.mp hp
    exact row_no (g r hr) (by decide) (by decide)
theorem ed_len {rs : List Row0} {dz : List Str} (h : ∀ z ∈ dz, nameOk z = true) (fewz : dz.length ≤ 60) (g : ∀ r ∈ rs, RowGood r) (few : rs.length ≤ 60) : (textE rs dz).length ≤ 10000 := by
  have h0 := head_len h fewz
  have h1 := join_len "\n" (Txt.join " " ("drops" :: dz) :: rs.map textR)
  have h2 := sum_le (n := 100) (ys := rs.map textR) fun z hz => by
    obtain ⟨r, hr, rfl⟩ := List.mem_map.mp hz
    exact textR_len (g r hr)
  have e : ("\n" : Str).length = 1 := by decide
  rw [e, List.map_cons, List.sum_cons, List.length_cons] at h1
  rw [List.length_map] at h1 h2
  unfold textE
  omega
def dropsD (dz : List Str) : PyData := .list (dz.map PyData.str)
theorem drops_of (dz : List Str) : dropsL (dropsD dz) = dz := by
  show (dz.map PyData.str).map strD = dz
  rw [List.map_map]
  conv => rhs; rw [← List.map_id dz]
  rfl
theorem drops_fine : ∀ {dz : List Str}, (∀ z ∈ dz, nameOk z = true) → fineAll (dz.map PyData.str) = true
  | [], _ => rfl
  | z :: dz, h => by
    rw [List.map_cons, fineAll, name_fine (h z (by simp)), drops_fine (dz := dz) fun y hy => h y (List.mem_cons_of_mem _ hy)]
    rfl
theorem strs_dp {K : PySem.W.Frag} {H : Hp} : ∀ zs : List Str, DpAll K H (zs.map V.str) (zs.map PyData.str)
  | [] => .nil
  | z :: zs => .cons (.str z) (strs_dp zs)
def spEdRead (K : PySem.W.Frag) (a : Ad) (b : Ae) : Sp := fun vs H Q E => ∃ (dz : List Str) (rs : List Row0), vs = [.ref b.cEd, .str (textE rs dz)] ∧ (∀ z ∈ dz, nameOk z = true) ∧ dz.length ≤ 60 ∧ rs ≠ [] ∧ (∀ r ∈ rs, RowGood r) ∧ rs.length ≤ 60 ∧
  (wrongF rs (dropsD dz) = none → ∀ (H' : Hp) (x dx : Addr) (fs : List (Str × V)) (xs : List V), Same H H' → H x = none → H' x = some (.ins b.cEd dx fs) → EdAt K H' fs xs rs (dropsD dz) → RowsAt K a H' xs rs → Q (.ref x) H') ∧
  (∀ z, wrongF rs (dropsD dz) = some z → ∀ (H' : Hp) (q : Addr), Same H H' → H q = none → H' q = some (.xd [("word", .str z)]) → E (.ref a.cIe) (some q) H')
section
variable {P : Program} {w : World} {K : PySem.W.Frag} {mg : Str → Option Value} {base : Heap} {a : Ad} {b : Ae} {fO fR fL fB fP fE : Addr} {dO dR dL dB dP dE : FuncData} {pR pE : Addr} {fEq fStr : Addr} {dEq dStr : FuncData} {lR lA lN lG : Addr} {eR eA eN eG : FuncData}
theorem scEdRead : FnScope ["cls", "text", "drops", "rows"] ["cls", "text"] (defScope sEdRead) := ⟨rfl, rfl, rfl, by decide +kernel, rfl, by decide +kernel, by decide +kernel⟩
theorem okEdRead (T : Txt K mg a) (R : RowF K a fEq fStr dEq dStr) (L : LeadsF K a lR lA lN lG eR eA eN eG) (M : EdT K mg a b) (strI : PySem.W.isFn K (.ref fStr) = true) (strAt : ∀ C ∈ rowCs a, PySem.W.findIn K (.ref C) "__str__" = some (some (.ref fStr)))
    (D : RdF K mg a b fO fR fL fB fP fE dO dR dL dB dP dE pR pE) : FnOk P w K mg base (L2.CX P w) 10 fE dE ["cls", "text"] (spEdRead K a b) := by
  refine D.edF.okX scEdRead (fun vs H Q E h => ?_) (fun cdv A outer s H vs Q E hr h => ?_)
  · obtain ⟨dz, rs, rfl, _⟩ := h
    rfl
  · obtain ⟨dz, rs, rfl, hz, fewz, ne, gr, few, good, bad⟩ := h
    have OE : FnOk P w K mg base (L2.CX P w) 5 b.fEd b.dEd ["self", "rows", "drops"] (spEd K a b) := M.okEd T R L strI strAt
    have OP : FnOk P w K mg base CX0 9 fP dP ["lines", "at"] (spParts K a) := okParts T D
    have hr6 : Room 6 _ := hr.mono (by decide)
    refine ⟨_, pss_cons (ps_asg (pe_call OP hr rfl D.parts.g D.parts.F.kp D.parts.b .nil pass0 (pa_cons (pe_split (pv 1) pe_str) (pa_cons pe_int pa_nil))) (pg_tup rfl (pgs_cons (pg_name (i := 2) scEdRead.nd rfl (.inl rfl)) (pgs_cons (pg_name (i := 3) scEdRead.nd rfl (.inl rfl)) pgs_nil))))
      (pss_one (ps_ret (pe_makeL (i := 0) (E := E) D.edK OE hr6 rfl (Or.inl rfl) M.bindAll .nil (passes_call (takes_of rfl rfl rfl rfl) fun _ _ _ _ z => z) (pa_cons (pv 3) (pa_cons (pv 2) pa_nil))))), ?_⟩
    have lt := ed_len hz fewz gr few
    refine ⟨_, rfl, ⟨_, rfl⟩, _, _, rfl, rfl, by decide +kernel, Nat.le_trans (Nat.add_le_add_right lt 2) (by decide), fun p up => ?_⟩
    rw [ed_split hz gr]
    refine ⟨p, dz, rs, 0, rfl, SqL.of upd_same, by decide, by decide, hz, fewz, ne, gr, few, fun H1 t l q xs s1 ut ht hl hq hR => ?_⟩
    have S1 := (same_new up).trans s1
    refine ⟨t, _, rfl, SqT.of ht, rfl, _, _, rfl, _, _, rfl, rfl, ?_⟩
    refine ⟨rfl, _, rfl, _, rfl, fun x dx nx nd nex => ?_⟩
    have s2 : Same H1 (upd H1 dx (.own x)) := same_new nd
    have nx' : (upd H1 dx (.own x)) x = none := by rw [upd_ne nex.symm]; exact nx
    have s3 : Same (upd H1 dx (.own x)) (upd (upd H1 dx (.own x)) x (.ins b.cEd dx [])) := same_new nx'
    have S := s2.trans s3
    have hd : Dp K H1 (.ref l) (dropsD dz) := .lst (SqL.of hl) (strs_dp dz)
    refine ⟨x, dx, q, .ref l, xs, rs, dropsD dz, rfl, upd_same, .inl (S.seq (SqL.of hq)), hR.same S, gr, few, dp_same S _ _ hd, ?_, by rw [drops_of]; omega, fun e H' fs kp hi ea => ⟨rfl, ?_⟩, fun z ez H' y sy uy hy => ?_⟩
    · show fine (.list (dz.map PyData.str)) = true
      rw [fine, drops_fine hz, Bool.and_true, List.length_map]
      exact decide_eq_true (by omega)
    · have sm := Same.made nx nd kp
      exact good e H' x dx fs xs (S1.trans sm) (S1.free nx) hi ea (hR.same sm)
    · exact bad z ez H' y ((S1.trans S).trans sy) ((S1.trans S).free uy) hy
end
end K2

set_option Elab.async false
set_option linter.all false
set_option maxRecDepth 100000
set_option maxHeartbeats 1000000
/-! sorted of a list of pairs of a text and a bool. -/
namespace SxT
open PySem PyProof.Rows L2 Lw
def wayE (w : PySem.Str × Bool) : PyData := .tuple [.str w.1, .bool w.2]
/-- as Python sorts them -/
def sortW (ws : List (PySem.Str × Bool)) : List (PySem.Str × Bool) := ws.mergeSort (PySem.W.dataLe false wayE)
def rSortedW (K : PySem.W.Frag) : List V → Hp → VK → Prop := fun vs H Q => ∃ (a : Addr) (xs : List V) (ws : List (PySem.Str × Bool)), vs = [V.ref a] ∧ SqL K H a xs ∧ DpAll K H xs (ws.map wayE) ∧ ws.length ≤ 1000 ∧
  ∀ (ys : List V) (p : Addr), DpAll K H ys ((sortW ws).map wayE) → H p = none → Q (.ref p) (upd H p (.lst ys))
section
variable {X : Cx} {pins : List (Addr × Obj)} {σ : L2.St} {H : Hp} {s : Shared}
theorem way_reads (I : Inv X pins σ H s) {v : V} {u : Value} {w : PySem.Str × Bool} (h : Dp X.K H v (wayE w)) (r : RelV v u) : ∃ as, Reads s.heap u (wayE w) as := by
  unfold wayE at h
  cases h with
  | @tup p xs _ hs ha =>
  cases ha with
  | cons h0 ha =>
  cases ha with
  | cons h1 ha =>
  cases ha
  cases h0
  cases h1
  cases r
  obtain ⟨its, rv, hl, hsz⟩ := I.tuple hs
  obtain ⟨o, ho, hc, n, hd⟩ := hl
  cases rv with
  | cons r0 rv =>
  cases rv with
  | cons r1 rv =>
  cases rv
  obtain ⟨t0, rfl⟩ := r0
  obtain rfl := r1
  exact ⟨_, .tuple ho hc hd (.cons (.str _ _) (.cons (.bool _) .nil))⟩
theorem each_ways (I : Inv X pins σ H s) : ∀ {xs : List V} {its : List Value} {ws : List (PySem.Str × Bool)}, Vals xs its → DpAll X.K H xs (ws.map wayE) →
    PySem.W.EachIs (fun v (b : V × PySem.Str × Bool) => RelV b.1 v ∧ Dp X.K H b.1 (wayE b.2)) its (xs.zip ws) ∧ PySem.W.EachIs (fun v (b : V × PySem.Str × Bool) => ∃ as, Reads s.heap v (wayE b.2) as) its (xs.zip ws) ∧ (xs.zip ws).map (·.2) = ws ∧ xs.length = ws.length
  | [], _, [], .nil, _ => ⟨.nil, .nil, rfl, rfl⟩
  | x :: xs, _, w :: ws, .cons r rs, h => by
    cases h with
    | cons h1 h2 =>
      obtain ⟨a, b, c, d⟩ := each_ways I rs h2
      exact ⟨.cons ⟨r, h1⟩ a, .cons (way_reads I h1 r) b, by rw [List.zip_cons_cons, List.map_cons, c], congrArg (· + 1) d⟩
  | [], _, _ :: _, _, h => by cases h
  | _ :: _, _, [], _, h => by cases h
theorem ways_back {K : PySem.W.Frag} : ∀ {out : List Value} {bs : List (V × PySem.Str × Bool)}, PySem.W.EachIs (fun v (b : V × PySem.Str × Bool) => RelV b.1 v ∧ Dp K H b.1 (wayE b.2)) out bs → Vals (bs.map (·.1)) out ∧ DpAll K H (bs.map (·.1)) ((bs.map (·.2)).map wayE)
  | _, _, .nil => ⟨.nil, .nil⟩
  | _, _, .cons h t => by
    obtain ⟨a, b⟩ := ways_back t
    exact ⟨.cons h.1 a, .cons h.2 b⟩
end
theorem cr_sortedW {X : Cx} (hu : X.A.units + 8 < cLine) : CallR X (.builtin "sorted") (rSortedW X.K) := by
  intro pins s σ H vs us Q I r h
  obtain ⟨a, xs, ws, rfl, hs, hd, few, q⟩ := h
  obtain ⟨its, rv, hl, hsz⟩ := I.list hs
  rw [Vals.ref1 r]
  obtain ⟨e1, e2, e3, e4⟩ := each_ways I rv hd
  have lb : (xs.zip ws).length = ws.length := by rw [List.length_zip, e4, Nat.min_self]
  refine PySem.W.sorted_data (enc := fun b : V × PySem.Str × Bool => wayE b.2) hl.isList e1 e2 (PySem.W.AllAlike.of fun b b' => rfl) (PySem.W.Sortable.tuples fun b => ⟨_, _, rfl⟩) (by rw [lb, sizeLine_eq]; omega) (fun b _ => ?_) fun out ho eo => ?_
  · show X.A.units + 2 + (wayE b.2).depth < cLine
    have : (wayE b.2).depth ≤ 2 := by simp [wayE, PyData.depth, PyData.depthAll]
    omega
  · obtain ⟨v1, d1⟩ := ways_back eo
    have em : ((xs.zip ws).mergeSort (PySem.W.dataLe false fun b : V × PySem.Str × Bool => wayE b.2)).map (·.2) = sortW ws := by
      have z := List.map_mergeSort (r := PySem.W.dataLe false fun b : V × PySem.Str × Bool => wayE b.2) (s := PySem.W.dataLe false wayE) (f := fun b : V × PySem.Str × Bool => b.2) (l := xs.zip ws) (fun a _ b _ => rfl)
      rw [e3] at z
      exact z
    rw [em] at d1
    obtain ⟨ep, he'⟩ := sortedAll_at s.heap its out.toArray
    have hlen : (((xs.zip ws).mergeSort (PySem.W.dataLe false fun b : V × PySem.Str × Bool => wayE b.2)).map (·.1)).length ≤ sizeLine := by
      rw [List.length_map, List.length_mergeSort, lb, sizeLine_eq]; omega
    exact ⟨.ref (s.heap.objs.size + 1), upd H (s.heap.objs.size + 1) (.lst _), I.laid (fun x x1 => sortedAll_old) (Nat.le_succ _) ⟨hlen, out, ep, v1, he'⟩, rfl, q _ _ d1 (I.hok.fresh (Nat.le_succ _))⟩
end SxT

set_option Elab.async false
set_option linter.all false
set_option maxRecDepth 100000
set_option maxHeartbeats 1000000
namespace K2
open PySem L2 Lw TL SxT
/-! ### where an edition goes -/
abbrev Wy := List (Str × Bool)
def rowF (rs : List Row0) (p : Str) : Option Row0 := rs.find? fun r => decide (placeR r = p)
def wayOf (ws : Wy) (m : Str) : Option Bool := (ws.find? fun w => decide (w.1 = m)).map (·.2)
def ledF (r : Row0) (ws : Wy) : Option Str :=
  match r with
  | .note _ _ t => some t
  | .gate _ m n e => (wayOf ws m).map fun b => if b = true then n else e
  | _ => none
def passF (rs : List Row0) (ws : Wy) : Nat → Str → List Str
  | 0, p => [p]
  | k + 1, p => p :: match (rowF rs p).bind fun r => ledF r ws with
    | some q => passF rs ws k q
    | none => []
def goF (rs : List Row0) (ws : Wy) (p : Str) : List Str := passF rs ws (rs.length + 1) p
theorem row_mem {rs : List Row0} {p : Str} {r : Row0} (h : rowF rs p = some r) : r ∈ rs ∧ placeR r = p := by
  have := List.find?_some h
  exact ⟨List.mem_of_find?_eq_some h, of_decide_eq_true this⟩
theorem row_of_place {rs : List Row0} {p : Str} (h : p ∈ rs.map placeR) : ∃ r, rowF rs p = some r := by
  obtain ⟨r, hr, e⟩ := List.mem_map.mp h
  cases z : rowF rs p with
  | some r => exact ⟨r, rfl⟩
  | none =>
    have := List.find?_eq_none.mp z r hr
    simp [e] at this
theorem led_on {r : Row0} {ws : Wy} {q : Str} (h : ledF r ws = some q) : onB r = true ∧ q ∈ leadsR r := by
  cases r with
  | ask p n w => cases h
  | note p w t =>
    have : t = q := by simpa [ledF] using h
    subst this
    exact ⟨rfl, by simp [leadsR]⟩
  | gate p m n e =>
    refine ⟨rfl, ?_⟩
    simp only [ledF, Option.map_eq_some_iff] at h
    obtain ⟨b, _, e2⟩ := h
    cases b with
    | true => simp at e2; simp [leadsR, e2]
    | false => simp at e2; simp [leadsR, e2]
  | end_ p => cases h
/-! ### rows without rings are ranked -/
theorem ranked : ∀ (n : Nat) (left : List Row0), ringN n left = false → ∃ rank : Str → Nat, (∀ p, rank p ≤ left.length) ∧ ∀ r ∈ left, ∀ z ∈ leadsR r, z ∈ left.map placeR → rank z < rank (placeR r)
  | 0, left, h => by
    have : left = [] := by
      have h' : (!left.isEmpty) = false := h
      cases left with
      | nil => rfl
      | cons _ _ => cases h'
    subst this
    exact ⟨fun _ => 0, fun _ => Nat.le_refl _, fun r hr => by cases hr⟩
  | n + 1, left, h => by
    rw [ringN] at h
    by_cases e : (keptF left).length = left.length
    · rw [if_pos e] at h
      have : left = [] := by
        cases left with
        | nil => rfl
        | cons _ _ => cases h
      subst this
      exact ⟨fun _ => 0, fun _ => Nat.le_refl _, fun r hr => by cases hr⟩
    · rw [if_neg e] at h
      obtain ⟨rank, h1, h2⟩ := ranked n (keptF left) h
      have hl := kept_le left
      refine ⟨fun p => if p ∈ (keptF left).map placeR then rank p + 1 else 0, fun p => ?_, fun r hr z hz hp => ?_⟩
      · show (if p ∈ (keptF left).map placeR then rank p + 1 else 0) ≤ _
        split
        · have := h1 p
          omega
        · omega
      · have hk : r ∈ keptF left := List.mem_filter.mpr ⟨hr, List.any_eq_true.mpr ⟨z, hz, decide_eq_true hp⟩⟩
        have hk2 : placeR r ∈ (keptF left).map placeR := List.mem_map_of_mem hk
        show (if z ∈ (keptF left).map placeR then rank z + 1 else 0) < (if placeR r ∈ (keptF left).map placeR then rank (placeR r) + 1 else 0)
        rw [if_pos hk2]
        split
        · have := h2 r hk z hz (by assumption)
          omega
        · omega
/-- how far it is from each place, and what is known of rows that are right -/
structure Right (rs : List Row0) : Prop where
  good : ∀ r ∈ rs, RowGood r
  few : rs.length ≤ 60
  ne : rs ≠ []
  nd : (rs.map placeR).Nodup
  to : ∀ r ∈ rs, ∀ z ∈ leadsR r, z ∈ rs.map placeR
  far : ∃ μ : Str → Nat, (∀ p, μ p ≤ rs.length + 1) ∧ ∀ p r ws q, rowF rs p = some r → ledF r ws = some q → μ q < μ p
theorem right_of {rs : List Row0} {d : PyData} (g : ∀ r ∈ rs, RowGood r) (few : rs.length ≤ 60) (h : wrongF rs d = none) : Right rs ∧ markB rs (dropsL d) = false := by
  obtain ⟨ne, _, nd⟩ := wrong_none h
  unfold wrongF at h
  rw [if_neg (by simpa using ne)] at h
  split at h
  · cases h
  split at h
  · cases h
  rename_i ht
  split at h
  · cases h
  rename_i hm
  split at h
  · cases h
  rename_i hr
  have ht' : thenB rs = true := by simpa using ht
  have hm' : markB rs (dropsL d) = false := by simpa using hm
  have hr' : ringF rs = false := by simpa using hr
  have to : ∀ r ∈ rs, ∀ z ∈ leadsR r, z ∈ rs.map placeR := fun r hr z hz => of_decide_eq_true (List.all_eq_true.mp ht' z (List.mem_flatten.mpr ⟨_, List.mem_map_of_mem hr, hz⟩))
  refine ⟨⟨g, few, ne, nd, to, ?_⟩, hm'⟩
  obtain ⟨rank, h1, h2⟩ := ranked _ _ hr'
  have lf : (rs.filter onB).length ≤ rs.length := List.length_filter_le _ _
  refine ⟨fun p => if p ∈ (rs.filter onB).map placeR then rank p + 1 else 0, fun p => ?_, fun p r ws q e1 e2 => ?_⟩
  · show (if p ∈ (rs.filter onB).map placeR then rank p + 1 else 0) ≤ _
    split
    · have := h1 p
      omega
    · omega
  · obtain ⟨hr, ep⟩ := row_mem e1
    obtain ⟨on, hq⟩ := led_on e2
    have hf : r ∈ rs.filter onB := List.mem_filter.mpr ⟨hr, on⟩
    have hp : p ∈ (rs.filter onB).map placeR := by rw [← ep]; exact List.mem_map_of_mem hf
    show (if q ∈ (rs.filter onB).map placeR then rank q + 1 else 0) < (if p ∈ (rs.filter onB).map placeR then rank p + 1 else 0)
    rw [if_pos hp]
    split
    · have := h2 r hf q hq (by assumption)
      rw [ep] at this
      omega
    · omega
theorem Right.led {rs : List Row0} (R : Right rs) {p q : Str} {r : Row0} {ws : Wy} (e : rowF rs p = some r) (h : ledF r ws = some q) : q ∈ rs.map placeR := R.to r (row_mem e).1 q (led_on h).2
/-- what it passes are places -/
theorem pass_places {rs : List Row0} (R : Right rs) {ws : Wy} : ∀ (k : Nat) {p : Str}, p ∈ rs.map placeR → ∀ q ∈ passF rs ws k p, q ∈ rs.map placeR
  | 0, p, hp, q, hq => by
    rw [passF, List.mem_singleton] at hq
    rw [hq]; exact hp
  | k + 1, p, hp, q, hq => by
    rw [passF] at hq
    rcases List.mem_cons.mp hq with rfl | hq
    · exact hp
    · obtain ⟨r, er⟩ := row_of_place hp
      rw [er, Option.bind_some] at hq
      cases e : ledF r ws with
      | none => rw [e] at hq; cases hq
      | some z =>
        rw [e] at hq
        exact pass_places R k (R.led er e) q hq
theorem pass_len {rs : List Row0} {ws : Wy} : ∀ (k : Nat) (p : Str), (passF rs ws k p).length ≤ k + 1
  | 0, p => by simp [passF]
  | k + 1, p => by
    rw [passF, List.length_cons]
    split
    · have := pass_len (rs := rs) (ws := ws) k (by assumption)
      omega
    · simp
theorem pass_ne {rs : List Row0} {ws : Wy} (k : Nat) (p : Str) : passF rs ws k p ≠ [] := by
  cases k <;> simp [passF]
/-- where it ends it stays -/
theorem pass_last {rs : List Row0} (R : Right rs) {ws : Wy} {μ : Str → Nat} (hμ : ∀ p r ws q, rowF rs p = some r → ledF r ws = some q → μ q < μ p) : ∀ (k : Nat) {p : Str}, μ p ≤ k → p ∈ rs.map placeR → ∃ q r, (passF rs ws k p).getLast? = some q ∧ rowF rs q = some r ∧ ledF r ws = none
  | 0, p, h, hp => by
    obtain ⟨r, er⟩ := row_of_place hp
    refine ⟨p, r, by simp [passF], er, ?_⟩
    cases e : ledF r ws with
    | none => rfl
    | some q => have := hμ p r ws q er e; omega
  | k + 1, p, h, hp => by
    obtain ⟨r, er⟩ := row_of_place hp
    cases e : ledF r ws with
    | none =>
      refine ⟨p, r, ?_, er, e⟩
      rw [passF, er, Option.bind_some, e]
      rfl
    | some q =>
      have := hμ p r ws q er e
      obtain ⟨z, r2, h1, h2, h3⟩ := pass_last R hμ k (p := q) (by omega) (R.led er e)
      refine ⟨z, r2, ?_, h2, h3⟩
      rw [passF, er, Option.bind_some, e]
      show (p :: passF rs ws k q).getLast? = some z
      rw [List.getLast?_cons, h1]
      rfl
theorem go_last {rs : List Row0} (R : Right rs) {ws : Wy} {p : Str} (hp : p ∈ rs.map placeR) : ∃ q r, (goF rs ws p).getLast? = some q ∧ rowF rs q = some r ∧ ledF r ws = none := by
  obtain ⟨μ, h1, h2⟩ := R.far
  exact pass_last R h2 _ (h1 p) hp
/-! ### stands -/
structure Stn where
  place : Str
  ways : Wy
  word : Option Str
def noteW (rs : List Row0) (p : Str) : Option Str := (rowF rs p).bind fun | .note _ w _ => some w | _ => none
def settleF (rs : List Row0) (p : Str) (ws : Wy) (w : Option Str) : Stn := ⟨(goF rs ws p).getLastD p, ws, (((goF rs ws p).filterMap (noteW rs)).getLast?).or w⟩
end K2

set_option Elab.async false
set_option linter.all false
set_option maxRecDepth 100000
set_option maxHeartbeats 1000000
namespace K2
open PySem L2 Lw TL SxT
/-- where the program's defs stand -/
structure Pa where
  a : Ad
  b : Ae
  fEq : Addr
  fStr : Addr
  dEq : FuncData
  dStr : FuncData
  lR : Addr
  lA : Addr
  lN : Addr
  lG : Addr
  eR : FuncData
  eA : FuncData
  eN : FuncData
  eG : FuncData
  fO : Addr
  fR : Addr
  fL : Addr
  fB : Addr
  fP : Addr
  fE : Addr
  dO : FuncData
  dR : FuncData
  dL : FuncData
  dB : FuncData
  dP : FuncData
  dE : FuncData
  pR : Addr
  pE : Addr
  fRow : Addr
  fLen : Addr
  gEq : Addr
  gStr : Addr
  dRow : FuncData
  dLen : FuncData
  hEq : FuncData
  hStr : FuncData
  fWo : Addr
  fWw : Addr
  fLd : Addr
  fPs : Addr
  fSt : Addr
  fFs : Addr
  fNs : Addr
  dWo : FuncData
  dWw : FuncData
  dLd : FuncData
  dPs : FuncData
  dSt : FuncData
  dFs : FuncData
  dNs : FuncData
/-- what stands there -/
structure PF (K : PySem.W.Frag) (mg : Str → Option Value) (p : Pa) : Prop where
  T : Txt K mg p.a
  R : RowF K p.a p.fEq p.fStr p.dEq p.dStr
  L : LeadsF K p.a p.lR p.lA p.lN p.lG p.eR p.eA p.eN p.eG
  E : EdT K mg p.a p.b
  D : RdF K mg p.a p.b p.fO p.fR p.fL p.fB p.fP p.fE p.dO p.dR p.dL p.dB p.dP p.dE p.pR p.pE
  M : EdM K mg p.b.cEd p.fRow p.fLen p.gEq p.gStr p.dRow p.dLen p.hEq p.hStr
  strI : PySem.W.isFn K (.ref p.fStr) = true
  strAt : ∀ C ∈ rowCs p.a, PySem.W.findIn K (.ref C) "__str__" = some (some (.ref p.fStr))
  mRow : Meth K p.b.cEd "row" p.fRow
  wayOf : Top K mg "way_of" sWayOf p.fWo p.dWo ["ways", "mark"]
  withWay : Top K mg "with_way" sWithWay p.fWw p.dWw ["ways", "mark", "newer"]
  led : Top K mg "_led" sLed p.fLd p.dLd ["row", "ways"]
  passed : Top K mg "passed" sPassed p.fPs p.dPs ["edition", "place", "ways"]
  settled : Top K mg "_settled" sSettled p.fSt p.dSt ["edition", "place", "ways", "word"]
  first : Top K mg "first_stand" sFirst p.fFs p.dFs ["edition"]
  next : Top K mg "next_stand" sNext p.fNs p.dNs ["edition", "stand", "entry"]
/-! ### an edition as it stands -/
section
variable {K : PySem.W.Frag} {H H' : Hp}
theorem EdAt.same {fs : List (Str × V)} {xs : List V} {rs : List Row0} {d : PyData} (h : EdAt K H fs xs rs d) (s : Same H H') : EdAt K H' fs xs rs d := by
  obtain ⟨⟨t1, a1, a2⟩, ⟨t2, dz, b1, b2, b3⟩, c, ⟨t3, z3, d1, d2, d3⟩, ⟨t4, z4, e1, e2, e3⟩, ⟨t5, z5, f1, f2, f3⟩, ⟨t6, g1, g2⟩, i⟩ := h
  exact ⟨⟨t1, a1, same_tup s a2⟩, ⟨t2, dz, b1, same_tup s b2, b3⟩, c, ⟨t3, z3, d1, same_tup s d2, d3⟩, ⟨t4, z4, e1, same_tup s e2, e3⟩, ⟨t5, z5, f1, same_tup s f2, f3⟩, ⟨t6, g1, s _ _ g2⟩, i⟩
structure EdOk (K : PySem.W.Frag) (a : Ad) (b : Ae) (H : Hp) (v : V) (rs : List Row0) (dz : List Str) : Prop where
  ex : ∃ (x dx : Addr) (fs : List (Str × V)) (xs : List V), v = .ref x ∧ H x = some (.ins b.cEd dx fs) ∧ EdAt K H fs xs rs (dropsD dz) ∧ RowsAt K a H xs rs
  right : Right rs
  marks : markB rs dz = false
  dzok : ∀ z ∈ dz, nameOk z = true
  fewz : dz.length ≤ 60
variable {a : Ad} {b : Ae}
theorem EdOk.same {v : V} {rs : List Row0} {dz : List Str} (h : EdOk K a b H v rs dz) (s : Same H H') : EdOk K a b H' v rs dz := by
  obtain ⟨x, dx, fs, xs, e, h1, h2, h3⟩ := h.ex
  exact ⟨⟨x, dx, fs, xs, e, s _ _ h1, h2.same s, h3.same s⟩, h.right, h.marks, h.dzok, h.fewz⟩
theorem RowsAt.back : ∀ {vs : List V} {rs : List Row0} {j : Nat} {r : Row0}, RowsAt K a H vs rs → rs[j]? = some r → ∃ v, vs[j]? = some v ∧ RowAt K a H v r
  | _, _, _, _, .nil, e => by simp at e
  | _, _, 0, _, .cons h _, e => by
    obtain rfl := Option.some.inj e
    exact ⟨_, rfl, h⟩
  | _, _, j + 1, _, .cons _ t, e => RowsAt.back (j := j) t (by simpa using e)
theorem tab_row {xs : List V} {rs : List Row0} {p : Str} {r : Row0} (hR : RowsAt K a H xs rs) (nd : (rs.map placeR).Nodup) (e : rowF rs p = some r) : ∃ x, valV (tabZ xs rs) (Sum.inr p) = some x ∧ RowAt K a H x r := by
  obtain ⟨hr, ep⟩ := row_mem e
  obtain ⟨j, hj⟩ := List.getElem?_of_mem hr
  obtain ⟨x, hx, h⟩ := hR.back hj
  exact ⟨x, by rw [← ep]; exact tab_val nd hx hj, h⟩
/-- edition.row(place) -/
theorem row_run {p : Pa} {rs : List Row0} {dz : List Str} {v : V} {z : Str} {r : Row0} {ta : TE} {t : TA} {σ : L2.St} {Q : VK} (h : EdOk K p.a p.b H v rs dz) (e : rowF rs z = some r) (ha : ∀ Q : VK, Q v H → ta σ H Q) (ht : ∀ Q : List V → Hp → Prop, Q [.str z] H → t σ H Q)
    (q : ∀ x : Addr, RowAt K p.a H (.ref x) r → Q (.ref x) H) : tMeth p.b.cEd "row" (spEdRow p.b.cEd) [] E0 ta t σ H Q := by
  obtain ⟨x, dx, fs, xs, rfl, h1, h2, h3⟩ := h.ex
  obtain ⟨y, hy, hR⟩ := tab_row h3 h.right.nd e
  obtain ⟨t6, g1, g2⟩ := h2.table
  obtain ⟨y', _, _, rfl, _⟩ := hR.ex
  refine ha _ ⟨x, dx, fs, rfl, h1, h2.bare _ (by decide), ht _ ?_⟩
  exact ⟨x, dx, t6, fs, _, z, .ref y', rfl, h1, g1, g2, hy, q y' hR⟩
end
def optV : Option Str → V
  | some z => .str z
  | none => .non
def optB : Option Bool → V
  | some z => .bl z
  | none => .non
def waysD2 (ws : Wy) : PyData := .tuple (ws.map wayE)
def spWayOf (K : PySem.W.Frag) : Sp := fun vs H Q _ => ∃ (wv : V) (m : Str) (ws : Wy), vs = [wv, .str m] ∧ Dp K H wv (waysD2 ws) ∧ Q (optB (wayOf ws m)) H
def spWithWay (K : PySem.W.Frag) : Sp := fun vs H Q _ => ∃ (wv : V) (m : Str) (n : Bool) (ws : Wy), vs = [wv, .str m, .bl n] ∧ Dp K H wv (waysD2 ws) ∧ ws.length ≤ 900 ∧ ∀ H' v', Same H H' → Dp K H' v' (waysD2 (sortW (ws ++ [(m, n)]))) → Q v' H'
def spLed (K : PySem.W.Frag) (a : Ad) : Sp := fun vs H Q _ => ∃ (x : Addr) (wv : V) (r : Row0) (ws : Wy), vs = [.ref x, wv] ∧ RowAt K a H (.ref x) r ∧ Dp K H wv (waysD2 ws) ∧ Q (optV (ledF r ws)) H
section
variable {P : Program} {w : World} {K : PySem.W.Frag} {mg : Str → Option Value} {base : Heap} {p : Pa}
theorem ways_at {H : Hp} : ∀ {xs : List V} {ws : Wy} {j : Nat} {x : V}, DpAll K H xs (ws.map wayE) → xs[j]? = some x → ∃ w t, ws[j]? = some w ∧ x = .ref t ∧ SqT K H t [.str w.1, .bl w.2]
  | [], _, _, _, _, e => by simp at e
  | x :: xs, [], _, _, h, _ => by cases h
  | x :: xs, y :: ws, 0, _, h, e => by
    obtain rfl := Option.some.inj e
    cases h with
    | cons h1 h2 =>
      unfold wayE at h1
      cases h1 with
      | @tup t zs _ hs ha =>
      cases ha with
      | cons g1 ha =>
      cases ha with
      | cons g2 ha =>
      cases ha
      cases g1
      cases g2
      exact ⟨y, t, rfl, rfl, hs⟩
  | x :: xs, y :: ws, j + 1, _, h, e => by
    cases h with
    | cons h1 h2 => 
      obtain ⟨w, t, e1, e2, e3⟩ := ways_at (j := j) h2 (by simpa using e)
      exact ⟨w, t, by simpa using e1, e2, e3⟩
theorem scWayOf : FnScope ["ways", "mark", "decided", "newer"] ["ways", "mark"] (defScope sWayOf) := ⟨rfl, rfl, rfl, by decide +kernel, rfl, by decide +kernel, by decide +kernel⟩
theorem PF.okWayOf (F : PF K mg p) : FnOk P w K mg base CX0 1 p.fWo p.dWo ["ways", "mark"] (spWayOf K) := by
  refine F.wayOf.F.ok scWayOf (fun vs H Q E h => ?_) (fun cdv A outer s H vs Q E hr h => ?_)
  · obtain ⟨wv, m, ws, rfl, _⟩ := h
    rfl
  · obtain ⟨wv, m, ws, rfl, hd, fin⟩ := h
    refine ⟨_, pss_cons (ps_for PassesOwn.never rfl (pi_tup (pv 0)) (pg_tup rfl (pgs_cons (pg_name (i := 2) scWayOf.nd rfl (.inl rfl)) (pgs_cons (pg_name (i := 3) scWayOf.nd rfl (.inl rfl)) pgs_nil)))
        (pss_one (ps_if (pt_cmpR op_eq (pv 2) (pv 1) (nomark _)) (pss_one (ps_ret (pv 3))) pss_nil)))
      (pss_one (ps_ret pe_non)), ?_⟩
    unfold waysD2 at hd
    cases hd with
    | @tup l xs _ hs ha =>
    refine ⟨_, rfl, l, rfl, ⟨_, hs⟩, for_tup (K := K) (a := l) (xs := xs) (fun i σ H' => ∃ x y, σ = [some (.ref l), some (.str m), x, y] ∧ H' = H ∧ (ws.take i).find? (fun w => decide (w.1 = m)) = none) ⟨_, _, rfl, rfl, rfl⟩ (fun i σ H' _ ⟨_, _, _, e, _⟩ => by rw [e]; exact hs) ?_ ?_⟩
    · rintro j x σ H1 hx ⟨_, _, rfl, rfl, fb⟩
      obtain ⟨w, t, ew, rfl, ht⟩ := ways_at ha hx
      refine ⟨_, _, rfl, ht, rfl, ?_⟩
      refine ⟨_, _, rfl, _, _, rfl, rfl, ?_⟩
      refine ⟨_, rfl, _, rfl, rfl, _, rfl, ?_⟩
      by_cases e : w.1 = m
      · refine iteTb (decide_eq_true (by rw [e])) ⟨_, rfl, ?_⟩
        have : K2.wayOf ws m = some w.2 := by
          unfold K2.wayOf
          rw [← List.take_append_drop j ws, List.find?_append, fb, Option.none_or]
          have : ws.drop j = w :: ws.drop (j + 1) := by
            rw [List.drop_eq_getElem?_toList_append, ew]
            rfl
          rw [this, List.find?_cons_of_pos (by simp [e])]
          rfl
        rw [this] at fin
        exact fin
      · refine iteFb (decide_eq_false fun z => e (V.str.inj z)) ⟨_, _, rfl, rfl, ?_⟩
        rw [List.take_add_one, ew, List.find?_append, fb, Option.none_or]
        simp [e]
    · rintro σ H1 ⟨_, _, rfl, rfl, fb⟩
      have lx : xs.length = ws.length := by rw [dpAll_len ha, List.length_map]
      rw [lx, List.take_length] at fb
      have : K2.wayOf ws m = none := by unfold K2.wayOf; rw [fb]; rfl
      rw [this] at fin
      exact fin
theorem scWithWay : FnScope ["ways", "mark", "newer"] ["ways", "mark", "newer"] (defScope sWithWay) := ⟨rfl, rfl, rfl, by decide +kernel, rfl, by decide +kernel, by decide +kernel⟩
theorem PF.okWithWay (F : PF K mg p) : FnOk P w K mg base CX0 1 p.fWw p.dWw ["ways", "mark", "newer"] (spWithWay K) := by
  refine F.withWay.F.ok scWithWay (fun vs H Q E h => ?_) (fun cdv A outer s H vs Q E hr h => ?_)
  · obtain ⟨wv, m, n, ws, rfl, _⟩ := h
    rfl
  · obtain ⟨wv, m, n, ws, rfl, hd, few, fin⟩ := h
    have hu : (A.deeper (PyProof.Rows.envOfC (Str.ofString "with_way") (defScope sWithWay) s.heap.objs.size p.fWw cdv)).units + 8 < cLine := by
      have := hr.units
      omega
    refine ⟨_, pss_one (ps_ret (pe_callTy call_tuple_of (by rfl) F.T.tTuple PyProof.Rows.boot_tuple (pa_cons (pe_callB (cr_sortedW hu) (by rfl) F.E.N.sorted PyProof.Rows.boot_sorted (pa_cons (pe_lst (StX.pa_star (pv 0) (pa_cons (pe_tup (pa_cons (pv 1) (pa_cons (pv 2) pa_nil))) pa_nil))) pa_nil)) pa_nil))), ?_⟩
    unfold waysD2 at hd
    cases hd with
    | @tup l xs _ hs ha =>
    have lx : xs.length = ws.length := by rw [dpAll_len ha, List.length_map]
    refine ⟨_, rfl, l, _, rfl, .inl hs, _, rfl, _, rfl, (by show 2 ≤ sizeLine; decide), fun t ut => ?_⟩
    have s1 := same_new (o := .tup [.str m, .bl n]) ut
    have ht : (upd H t (.tup [.str m, .bl n])) t = some (.tup [.str m, .bl n]) := upd_same
    generalize (upd H t (.tup [.str m, .bl n])) = H1 at s1 ht ⊢
    refine ⟨?_, fun l2 ul2 => ?_⟩
    · rw [List.length_append, List.length_singleton]
      exact Nat.le_trans (show xs.length + 1 ≤ 901 by omega) (by decide)
    have s2 := same_new (o := .lst (xs ++ [.ref t])) ul2
    have hl2 : (upd H1 l2 (.lst (xs ++ [.ref t]))) l2 = some (.lst (xs ++ [.ref t])) := upd_same
    generalize (upd H1 l2 (.lst (xs ++ [.ref t]))) = H2 at s2 hl2 ⊢
    have hd2 : DpAll K H2 (xs ++ [.ref t]) ((ws ++ [(m, n)]).map wayE) := by
      rw [List.map_append]
      exact dpAll_app (dpAll_same (s1.trans s2) _ _ ha) (.cons (.tup (SqT.of (s2 _ _ ht)) (.cons (.str _) (.cons (.bl _) .nil))) .nil)
    refine ⟨l2, _, ws ++ [(m, n)], rfl, SqL.of hl2, hd2, by rw [List.length_append, List.length_singleton]; omega, fun ys q dq uq => ?_⟩
    have s3 := same_new (o := .lst ys) uq
    have hq : (upd H2 q (.lst ys)) q = some (.lst ys) := upd_same
    generalize (upd H2 q (.lst ys)) = H3 at s3 hq ⊢
    refine ⟨q, ys, rfl, .inl ⟨SqL.of hq, fun v uv => ?_⟩⟩
    have s4 := same_new (o := .tup ys) uv
    exact fin _ _ (((s1.trans s2).trans s3).trans s4) (.tup (SqT.of upd_same) (dpAll_same (s3.trans s4) _ _ dq))
end
end K2

set_option Elab.async false
set_option linter.all false
set_option maxRecDepth 100000
set_option maxHeartbeats 1000000
namespace K2
open PySem L2 Lw TL SxT
section
variable {P : Program} {w : World} {K : PySem.W.Frag} {mg : Str → Option Value} {base : Heap} {p : Pa}
theorem PF.okRow (F : PF K mg p) : FnOk P w K mg base CX0 2 p.fRow p.dRow ["self", "place"] (spEdRow p.b.cEd) := F.M.okRow F.T
theorem scLed : FnScope ["row", "ways", "newer"] ["row", "ways"] (defScope sLed) := ⟨rfl, rfl, rfl, by decide +kernel, rfl, by decide +kernel, by decide +kernel⟩
theorem PF.okLed (F : PF K mg p) : FnOk P w K mg base CX0 2 p.fLd p.dLd ["row", "ways"] (spLed K p.a) := by
  refine F.led.F.ok scLed (fun vs H Q E h => ?_) (fun cdv A outer s H vs Q E hr h => ?_)
  · obtain ⟨x, wv, r, ws, rfl, _⟩ := h
    rfl
  · obtain ⟨x, wv, r, ws, rfl, hR, hd, fin⟩ := h
    refine ⟨_, pss_cons (ps_if (pt_val (pe_callB call_isi (by rfl) F.T.tIs PyProof.Rows.boot_isinstance (pa_cons (pv 0) (pa_cons (pe_glob (v := .ref p.a.cNote) (by rfl) F.T.note.g rfl) pa_nil)))) (pss_one (ps_ret (pe_fld (pv 0) rfl))) pss_nil)
      (pss_cons (ps_set (i := 2) scLed.nd rfl (Or.inl rfl) (pe_ifExp (pt_val (pe_callB call_isi (by rfl) F.T.tIs PyProof.Rows.boot_isinstance (pa_cons (pv 0) (pa_cons (pe_glob (v := .ref p.a.cGate) (by rfl) F.T.gate.g rfl) pa_nil)))) (pe_call F.okWayOf hr rfl F.wayOf.g F.wayOf.F.kp F.wayOf.b .nil pass0 (pa_cons (pv 1) (pa_cons (pe_fld (pv 0) rfl) pa_nil))) pe_non))
      (pss_cons (ps_if (pt_cmpR op_isN (pv 2) pe_non rfl) (pss_one (ps_ret pe_non)) pss_nil)
      (pss_one (ps_ret (pe_ifExp (pt_val (pv 2)) (pe_fld (pv 0) rfl) (pe_fld (pv 0) rfl)))))), ?_⟩
    obtain ⟨x', dx, fs, ex, hx, hf, hb⟩ := hR.ex
    obtain rfl : x = x' := V.ref.inj ex
    refine ⟨_, rfl, _, _, _, _, _, rfl, .own p.a.cNote, F.R.ty (cls_mem r) hx, F.E.N.note r, _, rfl, ?_⟩
    have cl := F.R.cls _ (cls_mem r)
    have no := F.T.no _ (cls_mem r)
    have fld : ∀ {f : Str} {v : V} {Q : VK} {σ : L2.St}, σ[0]? = some (some (.ref x)) → f ∈ (["place", "name", "ways", "word", "then", "mark", "newer", "elder", "_text"] : List Str) → fs.lookup f = some v → Q v H → tFld K (tVar 0) f σ H Q := fun {f v Q σ} e hf2 l q => ⟨_, e, x, _, dx, fs, _, rfl, hx, cl, no f hf2, l, q⟩
    cases r with
    | note q w' t =>
      exact iteT (fld rfl (by simp) hf.2.2.1 fin)
    | gate q m n e =>
      refine iteF ⟨_, rfl, _, _, _, _, _, rfl, .own p.a.cGate, F.R.ty (cls_mem (.gate q m n e)) hx, F.E.N.gate _, _, rfl, ?_⟩
      refine iteT ⟨_, rfl, fld rfl (by simp) hf.2.1 ⟨wv, m, ws, rfl, hd, ?_⟩⟩
      dsimp only [gName, tNext]
      cases ew : K2.wayOf ws m with
      | none =>
        rw [show ledF (.gate q m n e) ws = none from by simp [ledF, ew]] at fin
        refine ⟨_, rfl, rfl, _, rfl, iteT ?_⟩
        exact fin
      | some bb =>
        rw [show ledF (.gate q m n e) ws = some (if bb = true then n else e) from by simp [ledF, ew]] at fin
        refine ⟨_, rfl, rfl, _, rfl, iteF ⟨_, rfl, _, rfl, ?_⟩⟩
        cases bb with
        | true => exact iteT (fld rfl (by simp) hf.2.2.1 fin)
        | false => exact iteF (fld rfl (by simp) hf.2.2.2.1 fin)
    | ask q n w' =>
      refine iteF ⟨_, rfl, _, _, _, _, _, rfl, .own p.a.cGate, F.R.ty (cls_mem (.ask q n w')) hx, F.E.N.gate _, _, rfl, ?_⟩
      refine iteF ?_
      dsimp only [gName, tNext]
      refine ⟨_, rfl, rfl, _, rfl, iteT ?_⟩
      exact fin
    | end_ q =>
      refine iteF ⟨_, rfl, _, _, _, _, _, rfl, .own p.a.cGate, F.R.ty (cls_mem (.end_ q)) hx, F.E.N.gate _, _, rfl, ?_⟩
      refine iteF ?_
      dsimp only [gName, tNext]
      refine ⟨_, rfl, rfl, _, rfl, iteT ?_⟩
      exact fin
def spPassed (K : PySem.W.Frag) (p : Pa) : Sp := fun vs H Q _ => ∃ (ev wv : V) (rs : List Row0) (dz : List Str) (q : Str) (ws : Wy), vs = [ev, .str q, wv] ∧ EdOk K p.a p.b H ev rs dz ∧ q ∈ rs.map placeR ∧ Dp K H wv (waysD2 ws) ∧
  ∀ (H' : Hp) (l : Addr), Same H H' → H l = none → H' l = some (.lst ((goF rs ws q).map V.str)) → Q (.ref l) H'
theorem scPassed : FnScope ["edition", "place", "ways", "places"] ["edition", "place", "ways"] (defScope sPassed) := ⟨rfl, rfl, rfl, by decide +kernel, rfl, by decide +kernel, by decide +kernel⟩
theorem PF.okPassed (F : PF K mg p) : FnOk P w K mg base CX0 3 p.fPs p.dPs ["edition", "place", "ways"] (spPassed K p) := by
  refine F.passed.F.ok scPassed (fun vs H Q E h => ?_) (fun cdv A outer s H vs Q E hr h => ?_)
  · obtain ⟨ev, wv, rs, dz, q, ws, rfl, _⟩ := h
    rfl
  · obtain ⟨ev, wv, rs, dz, q, ws, rfl, hE, hq, hd, fin⟩ := h
    have OR : FnOk P w K mg base CX0 2 p.fRow p.dRow ["self", "place"] (spEdRow p.b.cEd) := F.okRow
    have OL : FnOk P w K mg base CX0 2 p.fLd p.dLd ["row", "ways"] (spLed K p.a) := F.okLed
    refine ⟨_, pss_cons (ps_set (i := 3) scPassed.nd rfl (Or.inl rfl) (pe_lst pa_nil))
      (pss_cons (ps_while PassesOwn.never (pt_cmpR op_notN (pv 1) pe_non rfl)
        (pss_cons (ps_expr (pe_bm PySem.F.plainAttrs_list PySem.F.slot_list_append PySem.F.type_list_append mt_append (pv 3) (pa_cons (pv 1) pa_nil)))
          (pss_one (ps_set (i := 1) scPassed.nd rfl (Or.inl rfl) (pe_call OL hr rfl F.led.g F.led.F.kp F.led.b .nil pass0 (pa_cons (pe_meth (pv 0) F.M.cl F.mRow OR hr F.M.rowB .nil pass0 (pa_cons (pv 1) pa_nil)) (pa_cons (pv 2) pa_nil)))))))
      (pss_one (ps_ret (pv 3)))), ?_⟩
    obtain ⟨μ, hμ1, hμ2⟩ := hE.right.far
    refine ⟨(by show 0 ≤ sizeLine; decide), fun l ul => ?_⟩
    dsimp only [gName, tNext]
    refine seq_cut (fun σ1 H1 => ∃ c, σ1 = [some ev, some c, some wv, some (.ref l)] ∧ Same H H1 ∧ H1 l = some (.lst ((goF rs ws q).map V.str))) ?after fun after => ?loop
    case after =>
      rintro _ H1 ⟨c, rfl, s1, h1⟩
      exact ⟨_, rfl, fin H1 l s1 ul h1⟩
    case loop =>
      refine ⟨fun c σ H1 => ∃ (cur : Option Str) (ps : List Str), σ = [some ev, some (optV cur), some wv, some (.ref l)] ∧ Same H H1 ∧ H1 l = some (.lst (ps.map V.str)) ∧
        (match cur with | none => c = 0 ∧ ps = goF rs ws q | some z => ∃ k, c = k + 1 ∧ μ z ≤ k ∧ z ∈ rs.map placeR ∧ ps ++ passF rs ws k z = goF rs ws q), ⟨rs.length + 2, some q, [], rfl, same_new ul, upd_same, rs.length + 1, rfl, hμ1 q, hq, rfl⟩, ?_⟩
      rintro c _ H1 ⟨cur, ps, rfl, s1, h1, hc⟩
      cases cur with
      | none =>
        obtain ⟨rfl, rfl⟩ := hc
        exact ⟨_, rfl, rfl, _, rfl, iteF (after _ _ ⟨_, rfl, s1, h1⟩)⟩
      | some z =>
        obtain ⟨k, rfl, hk, hz, hp⟩ := hc
        have lps : ps.length ≤ 62 := by
          have h2 := congrArg List.length hp
          have h3 := pass_len (rs := rs) (ws := ws) (rs.length + 1) q
          have := hE.right.few
          rw [List.length_append] at h2
          unfold goF at h2
          omega
        refine ⟨_, rfl, rfl, _, rfl, iteT ?_⟩
        refine ⟨fun σ H1 => ∃ (cur : Option Str) (ps : List Str) (c : Nat), c < k + 1 ∧ σ = [some ev, some (optV cur), some wv, some (.ref l)] ∧ Same H H1 ∧ H1 l = some (.lst (ps.map V.str)) ∧
          (match cur with | none => c = 0 ∧ ps = goF rs ws q | some z => ∃ k, c = k + 1 ∧ μ z ≤ k ∧ z ∈ rs.map placeR ∧ ps ++ passF rs ws k z = goF rs ws q), ?_, ?_⟩
        · rintro σ H3 ⟨cur, ps, c, lt, z1, z2, z3, z4⟩
          exact ⟨c, lt, cur, ps, z1, z2, z3, z4⟩
        · refine ⟨_, rfl, .inl ⟨rfl, _, SqL.of h1⟩, _, rfl, l, _, _, rfl, rfl, h1, ?_, ?_⟩
          · rw [List.length_map]
            exact Nat.lt_of_le_of_lt lps (by decide)
          · have s2 : Same H (upd H1 l (.lst (ps.map V.str ++ [.str z]))) := fun b o e => by
              rw [upd_ne (ne_of_none e ul)]
              exact s1 _ _ e
            have h2 : (upd H1 l (.lst (ps.map V.str ++ [.str z]))) l = some (.lst ((ps ++ [z]).map V.str)) := by rw [upd_same, List.map_append]; rfl
            rw [show optV (some z) = V.str z from rfl]
            generalize (upd H1 l (.lst (ps.map V.str ++ [.str z]))) = H2 at s2 h2 ⊢
            obtain ⟨r, er⟩ := row_of_place hz
            dsimp only [gName, tNext, tAsg, tCall, tCons]
            refine row_run (p := p) (ta := tVar 0) (t := fun σ H Q => tVar 1 σ H fun x H1 => tNil σ H1 fun xs H2 => Q (x :: xs) H2) (hE.same s2) er (fun Q q => ⟨_, rfl, q⟩) (fun Q q => ⟨_, rfl, q⟩) fun x hx => ?_
            refine ⟨_, rfl, x, wv, r, ws, rfl, hx, dp_same s2 _ _ hd, ?_⟩
            cases el : ledF r ws with
            | none =>
              refine ⟨none, ps ++ [z], 0, by omega, rfl, s2, h2, rfl, ?_⟩
              rw [← hp]
              cases k with
              | zero => rfl
              | succ k => rw [passF, er, Option.bind_some, el]
            | some z2 =>
              have lt := hμ2 z r ws z2 er el
              cases k with
              | zero => omega
              | succ k =>
                refine ⟨some z2, ps ++ [z], k + 1, by omega, rfl, s2, h2, k, rfl, by omega, hE.right.led er el, ?_⟩
                rw [← hp, passF, er, Option.bind_some, el, List.append_assoc]
                rfl
end
end K2

set_option Elab.async false
set_option linter.all false
set_option maxRecDepth 100000
set_option maxHeartbeats 1000000
namespace K2
open PySem L2 Lw TL SxT
def rowsOf (rs : List Row0) (ps : List Str) : List Row0 := ps.filterMap (rowF rs)
theorem rowsOf_cons {rs : List Row0} {q : Str} {ps : List Str} {r : Row0} (e : rowF rs q = some r) : rowsOf rs (q :: ps) = r :: rowsOf rs ps := by
  unfold rowsOf
  rw [List.filterMap_cons, e]
theorem outZ_map (c : Row0 → Bool) (g : Row0 → V) : ∀ {xs : List V} {rs : List Row0}, xs.length = rs.length → outOf (outZ c (fun _ r => g r) xs rs) = (rs.filter c).map g
  | [], [], _ => rfl
  | x :: xs, r :: rs, h => by
    have ih := outZ_map c g (xs := xs) (rs := rs) (by simpa using h)
    unfold outOf at ih ⊢
    rw [outZ]
    cases e : c r with
    | true => simp [e, ih]
    | false => simp [e, ih]
  | [], _ :: _, h => by simp at h
  | _ :: _, [], h => by simp at h
theorem note_words {rs : List Row0} : ∀ {ps : List Str}, (∀ q ∈ ps, q ∈ rs.map placeR) → (((rowsOf rs ps).filter noteB).map wordR) = ps.filterMap (noteW rs)
  | [], _ => rfl
  | q :: ps, h => by
    obtain ⟨r, er⟩ := row_of_place (h q (by simp))
    have ih := note_words (rs := rs) (ps := ps) fun z hz => h z (List.mem_cons_of_mem _ hz)
    rw [rowsOf_cons er, List.filterMap_cons]
    cases r with
    | note a b c => 
      rw [show noteW rs q = some b from by simp [noteW, er], List.filter_cons_of_pos (by rfl), List.map_cons, ih]
      rfl
    | ask a b c => rw [show noteW rs q = none from by simp [noteW, er], List.filter_cons_of_neg (by simp [noteB]), ih]
    | gate a b c d => rw [show noteW rs q = none from by simp [noteW, er], List.filter_cons_of_neg (by simp [noteB]), ih]
    | end_ a => rw [show noteW rs q = none from by simp [noteW, er], List.filter_cons_of_neg (by simp [noteB]), ih]
/-- a stand as a value -/
structure StnAt (K : PySem.W.Frag) (H : Hp) (v : V) (s : Stn) : Prop where
  ex : ∃ (t : Addr) (wv : V), v = .ref t ∧ SqT K H t [.str s.place, wv, optV s.word] ∧ Dp K H wv (waysD2 s.ways)
theorem StnAt.same {K : PySem.W.Frag} {H H' : Hp} {v : V} {s : Stn} (h : StnAt K H v s) (m : Same H H') : StnAt K H' v s := by
  obtain ⟨t, wv, e, h1, h2⟩ := h.ex
  exact ⟨t, wv, e, same_tup m h1, dp_same m _ _ h2⟩
def spSettled (K : PySem.W.Frag) (p : Pa) : Sp := fun vs H Q _ => ∃ (ev wv : V) (rs : List Row0) (dz : List Str) (q : Str) (ws : Wy) (wd : Option Str), vs = [ev, .str q, wv, optV wd] ∧ EdOk K p.a p.b H ev rs dz ∧ q ∈ rs.map placeR ∧ Dp K H wv (waysD2 ws) ∧
  ∀ (H' : Hp) (t : Addr), Same H H' → H' t = some (.tup [.str (settleF rs q ws wd).place, wv, optV (settleF rs q ws wd).word]) → Q (.ref t) H'
theorem atI_neg {xs : List V} {v : V} (h : xs.getLast? = some v) : atI xs (-1) = some v := by
  cases xs with
  | nil => cases h
  | cons x xs =>
    unfold atI ixN
    rw [if_neg (by decide), if_pos (by simp only [List.length_cons]; omega)]
    rw [List.getLast?_eq_getElem?] at h
    rw [Option.bind_some]
    have e : ((-1 : Int) + ((x :: xs).length : Nat)).toNat = (x :: xs).length - 1 := by
      rw [List.length_cons]; omega
    rw [e]
    exact h
section
variable {P : Program} {w : World} {K : PySem.W.Frag} {mg : Str → Option Value} {base : Heap} {p : Pa}
abbrev nSettled : List Str := ["edition", "place", "ways", "word", "places", "rows", "words", "on", "row"]
theorem scSettled : FnScope nSettled ["edition", "place", "ways", "word"] (defScope sSettled) := ⟨rfl, rfl, rfl, by decide +kernel, rfl, by decide +kernel, by decide +kernel⟩
theorem PF.okSettled (F : PF K mg p) : FnOk P w K mg base CX0 4 p.fSt p.dSt ["edition", "place", "ways", "word"] (spSettled K p) := by
  refine F.settled.F.ok scSettled (fun vs H Q E h => ?_) (fun cdv A outer s H vs Q E hr h => ?_)
  · obtain ⟨ev, wv, rs, dz, q, ws, wd, rfl, _⟩ := h
    rfl
  · obtain ⟨ev, wv, rs, dz, q, ws, wd, rfl, hE, hq, hd, fin⟩ := h
    have OR : FnOk P w K mg base CX0 2 p.fRow p.dRow ["self", "place"] (spEdRow p.b.cEd) := F.okRow
    have OP : FnOk P w K mg base CX0 3 p.fPs p.dPs ["edition", "place", "ways"] (spPassed K p) := F.okPassed
    have hr2 : Room 2 _ := hr.mono (by decide)
    refine ⟨_, pss_cons (ps_set (i := 4) scSettled.nd rfl (Or.inl rfl) (pe_call OP hr rfl F.passed.g F.passed.F.kp F.passed.b .nil pass0 (pa_cons (pv 0) (pa_cons (pv 1) (pa_cons (pv 2) pa_nil)))))
      (pss_cons (ps_setLc (i := 5) (own := [("on", 7)]) (g := gName 7) (tt := tYes) (te := tMeth p.b.cEd "row" (spEdRow p.b.cEd) [] E0 (tVar 0) (tCons (tVar 7) tNil)) (by rfl) scSettled.nd rfl rfl (sw_true rfl rfl rfl (by decide +kernel)) (pi_list (pv 4))
          (blkOk_by (own := [("on", 7)]) (N := nSettled) (sc := defScope sSettled) (by decide +kernel)) (fun _ _ _ _ _ => pg_name (i := 7) scSettled.nd rfl (Or.inl rfl)) (fun _ _ _ _ _ => pts_nil)
          (fun _ _ _ _ _ => pe_meth (pv 0) F.M.cl F.mRow OR hr2 F.M.rowB .nil pass0 (pa_cons (pv 7) pa_nil)))
      (pss_cons (ps_setLc (i := 6) (own := [("row", 8)]) (g := gName 8) (tt := tIsi K 8 p.a.cNote) (te := tFld K (tVar 8) "word") (by rfl) scSettled.nd rfl rfl (sw_true rfl rfl rfl (by decide +kernel)) (pi_list (pv 5))
          (blkOk_by (own := [("row", 8)]) (N := nSettled) (sc := defScope sSettled) (by decide +kernel)) (fun _ _ _ _ _ => pg_name (i := 8) scSettled.nd rfl (Or.inl rfl))
          (fun _ _ _ _ _ => pts_one (pt_val (pe_callB call_isi (by rfl) F.T.tIs PyProof.Rows.boot_isinstance (pa_cons (pv 8) (pa_cons (pe_glob (v := .ref p.a.cNote) (by rfl) F.T.note.g rfl) pa_nil))))) (fun _ _ _ _ _ => pe_fld (pv 8) rfl))
      (pss_one (ps_ret (pe_tup (pa_cons (pe_ix ix_list (pv 4) (pe_un un_neg pe_int) (fun _ _ => rfl)) (pa_cons (pv 2) (pa_cons (pe_ifExp (pt_cmpR op_gt (pe_callB call_len_seq (by rfl) F.T.tLen PySem.boot_len (pa_cons (pv 6) pa_nil)) pe_int (nomark _)) (pe_ix ix_list (pv 6) (pe_un un_neg pe_int) (fun _ _ => rfl)) (pv 3)) pa_nil)))))))), ?_⟩
    refine ⟨_, rfl, _, rfl, _, rfl, ev, wv, rs, dz, q, ws, rfl, hE, hq, hd, fun H1 l s1 ul h1 => ?_⟩
    dsimp only [gName, tNext]
    have hE1 := hE.same s1
    have pl : ∀ z ∈ goF rs ws q, z ∈ rs.map placeR := pass_places hE.right _ hq
    have gl : (goF rs ws q).length ≤ 62 := by
      have h3 := pass_len (rs := rs) (ws := ws) (rs.length + 1) q
      have := hE.right.few
      unfold goF
      omega
    obtain ⟨lq, lr, hl1, hl2, hl3⟩ := go_last hE.right (ws := ws) hq
    obtain ⟨x, dx, fs, xs, rfl, e1, e2, e3⟩ := hE1.ex
    let fV : V → V := fun v => match v with | .str z => (valV (tabZ xs rs) (Sum.inr z)).getD .non | _ => .non
    refine ⟨_, rfl, l, rfl, ⟨_, SqL.of h1⟩, fun D un => lc_of_list (((goF rs ws q).map V.str).map fun v => some (fV v)) (SqL.of h1) un (turns_map fV (by rw [List.length_map]; omega) fun v H2 Q2 hv s2 k => ?_) mono_yes fun H2 s2 h2 => ?_⟩
    · obtain ⟨z, hz, rfl⟩ := List.mem_map.mp hv
      obtain ⟨r, er⟩ := row_of_place (pl z hz)
      have hE2 := hE1.same s2
      obtain ⟨x', dx', fs', xs', ex', f1, f2, f3⟩ := hE2.ex
      obtain rfl := V.ref.inj ex'
      have g1 := s2 _ _ e1
      rw [f1] at g1
      obtain ⟨g2, g3⟩ : fs' = fs ∧ dx' = dx := by cases g1; exact ⟨rfl, rfl⟩
      subst g2 g3
      obtain ⟨t1, a1, a2⟩ := e2.table
      obtain ⟨y, hy, hR⟩ := tab_row e3 hE.right.nd er
      obtain ⟨y', _, _, rfl, _⟩ := hR.ex
      have ef : fV (.str z) = .ref y' := by show (valV (tabZ xs rs) (Sum.inr z)).getD .non = _; rw [hy]; rfl
      rw [ef] at k
      exact ⟨_, rfl, x, dx', fs', rfl, f1, e2.bare _ (by decide), _, rfl, x, dx', t1, fs', _, z, .ref y', rfl, f1, a1, s2 _ _ a2, hy, k _ (Same.refl _)⟩
    rw [out_map] at h2
    have hR2 : RowsAt K p.a H2 (((goF rs ws q).map V.str).map fV) (rowsOf rs (goF rs ws q)) := by
      have : ∀ ps : List Str, (∀ z ∈ ps, z ∈ rs.map placeR) → RowsAt K p.a H2 ((ps.map V.str).map fV) (rowsOf rs ps) := by
        intro ps
        induction ps with
        | nil => intro _; exact .nil
        | cons z ps ih =>
          intro h
          obtain ⟨r, er⟩ := row_of_place (h z (by simp))
          obtain ⟨y, hy, hR⟩ := tab_row e3 hE.right.nd er
          rw [rowsOf_cons er]
          refine .cons ?_ (ih fun z hz => h z (List.mem_cons_of_mem _ hz))
          have ef : fV (.str z) = y := by show (valV (tabZ xs rs) (Sum.inr z)).getD .non = _; rw [hy]; rfl
          rw [ef]
          exact hR.same s2
      exact this _ pl
    have lR := hR2.len
    have few2 : (rowsOf rs (goF rs ws q)).length ≤ 62 := by
      have := List.length_filterMap_le (rowF rs) (goF rs ws q)
      unfold rowsOf
      omega
    refine ⟨_, rfl, D, rfl, ⟨_, SqL.of h2⟩, fun D2 u2 => rows_J noteB (fun _ r => .str (wordR r)) (.l (SqL.of h2)) hR2 (by omega) u2 (fun x r H3 R3 hm hx s3 k => ?_) (fun x r H3 Q3 hm en hx s3 k => ?_) fun H3 s3 h3 => ?_⟩
    · obtain ⟨y, dy, gs, rfl, hy, hf, hb⟩ := hx.ex
      exact ⟨_, rfl, _, _, _, _, _, rfl, .own p.a.cNote, F.R.ty (cls_mem r) hy, F.E.N.note r, _, rfl, k _ (Same.refl _)⟩
    · obtain ⟨y, dy, gs, rfl, hy, hf, hb⟩ := hx.ex
      exact ⟨_, rfl, y, _, dy, gs, _, rfl, hy, F.R.cls _ (cls_mem r), F.T.no _ (cls_mem r) _ (by simp), fld_note hf en, k _ (Same.refl _)⟩
    rw [outZ_map noteB (fun r => .str (wordR r)) lR] at h3
    have ew : ((rowsOf rs (goF rs ws q)).filter noteB).map (fun r => V.str (wordR r)) = ((goF rs ws q).filterMap (noteW rs)).map V.str := by
      rw [← note_words pl, List.map_map]
      rfl
    rw [ew] at h3
    have S := (s1.trans s2).trans s3
    have hL := s3 _ _ (s2 _ _ h1)
    refine ⟨_, rfl, _, rfl, l, _, -1, _, rfl, rfl, SqL.of hL, atI_neg (v := .str lq) (by rw [List.getLast?_map, hl1]; rfl), _, rfl, ?_⟩
    refine ⟨_, rfl, D2, _, rfl, .inl (SqL.of h3), _, _, rfl, rfl, _, rfl, ?_⟩
    have epl : (settleF rs q ws wd).place = lq := by
      show (goF rs ws q).getLastD q = lq
      rw [List.getLastD_eq_getLast?, hl1]
      rfl
    have ewd : (settleF rs q ws wd).word = (((goF rs ws q).filterMap (noteW rs)).getLast?).or wd := rfl
    cases ez : ((goF rs ws q).filterMap (noteW rs)).getLast? with
    | none =>
      have en : (goF rs ws q).filterMap (noteW rs) = [] := List.getLast?_eq_none_iff.mp ez
      refine iteFb (decide_eq_false (by rw [en]; decide)) ⟨_, rfl, by show 3 ≤ sizeLine; decide, fun t ut => ?_⟩
      rw [ez, Option.none_or] at ewd
      refine fin _ t (S.trans (same_new ut)) ?_
      rw [upd_same, epl, ewd]
    | some z =>
      have en : 0 < ((goF rs ws q).filterMap (noteW rs)).length := by
        cases e : (goF rs ws q).filterMap (noteW rs) with
        | nil => rw [e] at ez; cases ez
        | cons _ _ => simp
      refine iteTb (decide_eq_true (by rw [List.length_map]; omega)) ⟨_, rfl, _, rfl, D2, _, -1, _, rfl, rfl, SqL.of h3, atI_neg (v := .str z) (by rw [List.getLast?_map, ez]; rfl), by show 3 ≤ sizeLine; decide, fun t ut => ?_⟩
      rw [ez, Option.some_or] at ewd
      refine fin _ t (S.trans (same_new ut)) ?_
      rw [upd_same, epl, ewd]
      rfl
end
end K2

set_option Elab.async false
set_option linter.all false
set_option maxRecDepth 100000
set_option maxHeartbeats 1000000
namespace K2
open PySem L2 Lw TL SxT
/-! ### entries -/
/-- a good entry -/
structure EntOk (e : List Str) : Prop where
  lo : 1 ≤ e.length
  hi : e.length ≤ 2
  ok : ∀ z ∈ e, nameOk z = true
def entD (e : List Str) : PyData := .tuple (e.map PyData.str)
theorem strs_depth2 (e : List Str) : PyData.depthAll (e.map PyData.str) = 0 := strs_depth e
theorem ent_shape {e : List Str} (h : ∀ z ∈ e, nameOk z = true) : SeqAt.shaped (entD e) = true := by
  unfold entD
  simp [SeqAt.shaped, PyData.canLay0, PyData.depth, strs_lay e fun z hz => name_strOk (h z hz), strs_depth]
theorem ent_eqv {e f : List Str} (he : ∀ z ∈ e, nameOk z = true) (hl : e.length ≤ 2) : PyData.eqv (entD e) (entD f) = decide (e = f) := by
  by_cases h : e = f
  · subst h
    rw [decide_eq_true rfl, eqvSelf]
    unfold entD
    rw [fine, drops_fine he, List.length_map, Bool.and_true]
    exact decide_eq_true (by omega)
  · rw [decide_eq_false h]
    cases q : PyData.eqv (entD e) (entD f) with
    | false => rfl
    | true =>
      have z := eqv_txt (by show txtAll (e.map PyData.str) = true; exact txtAll_strs e) (by show txtAll (f.map PyData.str) = true; exact txtAll_strs f) q
      have z2 : e.map PyData.str = f.map PyData.str := PyData.tuple.inj z
      exact absurd ((List.map_inj_right fun a b h => PyData.str.inj h).mp z2) h
/-! ### one more entry -/
def und (rs : List Row0) (ws : Wy) : Nat := ((rs.filter gateB).filter fun r => (wayOf ws (markR r)).isNone).length
def firstP : List Row0 → Str
  | r :: _ => placeR r
  | [] => Str.empty
def firstF (rs : List Row0) : Stn := settleF rs (firstP rs) [] none
def gateF (rs : List Row0) (e : List Str) : Nat → Stn → Stn × Bool
  | 0, s => (s, false)
  | k + 1, s => match rowF rs s.place with
    | some (.gate _ m _ _) => if e = [m] then (settleF rs s.place (sortW (s.ways ++ [(m, true)])) s.word, true) else gateF rs e k (settleF rs s.place (sortW (s.ways ++ [(m, false)])) s.word)
    | _ => (s, false)
def askF (rs : List Row0) (e : List Str) (s : Stn) : Stn × Bool :=
  match rowF rs s.place with
  | some (.ask _ n ws) => match e with
    | [x, y] => if x = n then match ws.find? (fun w => decide (w.1 = y)) with
        | some w => (settleF rs w.2 s.ways s.word, true)
        | none => (s, false)
      else (s, false)
    | _ => (s, false)
  | _ => (s, false)
def dropB (dz e : List Str) : Bool :=
  match e with
  | [x] => decide (x ∈ dz)
  | _ => false
def nextF (rs : List Row0) (dz : List Str) (e : List Str) (s : Stn) : Stn × Bool :=
  if dropB dz e = true then (s, true) else if (gateF rs e (rs.length + 1) s).2 = true then gateF rs e (rs.length + 1) s else askF rs e (gateF rs e (rs.length + 1) s).1
theorem sortW_perm (ws : Wy) : (sortW ws).Perm ws := List.mergeSort_perm ..
theorem sortW_len (ws : Wy) : (sortW ws).length = ws.length := (sortW_perm ws).length_eq
theorem way_none {ws : Wy} {m : Str} : (wayOf ws m).isNone = true ↔ ∀ w ∈ ws, w.1 ≠ m := by
  unfold wayOf
  rw [Option.isNone_map, Option.isNone_iff_eq_none, List.find?_eq_none]
  simp
theorem way_sort {ws : Wy} {m m' : Str} {b : Bool} : (wayOf (sortW (ws ++ [(m, b)])) m').isNone = true ↔ m ≠ m' ∧ (wayOf ws m').isNone = true := by
  rw [way_none, way_none]
  constructor
  · intro h
    refine ⟨h (m, b) ((sortW_perm _).mem_iff.mpr (by simp)), fun w hw => h w ((sortW_perm _).mem_iff.mpr (by simp [hw]))⟩
  · rintro ⟨h1, h2⟩ w hw
    rcases List.mem_append.mp ((sortW_perm _).mem_iff.mp hw) with hw | hw
    · exact h2 w hw
    · rw [List.mem_singleton.mp hw]; exact h1
theorem filter_lt {α : Type} {f g : α → Bool} : ∀ {l : List α}, (∀ x ∈ l, g x = true → f x = true) → (∃ x ∈ l, f x = true ∧ g x = false) → (l.filter g).length < (l.filter f).length
  | [], _, ⟨_, h, _⟩ => by cases h
  | x :: l, h, ex => by
    have hl : ∀ y ∈ l, g y = true → f y = true := fun y hy => h y (List.mem_cons_of_mem _ hy)
    have le : (l.filter g).length ≤ (l.filter f).length := by
      rw [← List.countP_eq_length_filter, ← List.countP_eq_length_filter]
      exact List.countP_mono_left hl
    by_cases hx : f x = true ∧ g x = false
    · rw [List.filter_cons_of_pos hx.1, List.filter_cons_of_neg (by rw [hx.2]; decide), List.length_cons]
      omega
    · obtain ⟨y, hy, h1, h2⟩ := ex
      rcases List.mem_cons.mp hy with rfl | hy
      · exact absurd ⟨h1, h2⟩ hx
      have ih := filter_lt hl ⟨y, hy, h1, h2⟩
      cases e1 : g x with
      | true =>
        rw [List.filter_cons_of_pos e1, List.filter_cons_of_pos (h x (by simp) e1), List.length_cons, List.length_cons]
        omega
      | false =>
        rw [List.filter_cons_of_neg (by rw [e1]; decide)]
        cases e2 : f x with
        | true => rw [List.filter_cons_of_pos e2, List.length_cons]; omega
        | false => rw [List.filter_cons_of_neg (by rw [e2]; decide)]; exact ih
theorem und_lt {rs : List Row0} {p m n e : Str} {q : Str} {ws : Wy} {b : Bool} (h : rowF rs p = some (.gate q m n e)) (hn : wayOf ws m = none) : und rs (sortW (ws ++ [(m, b)])) < und rs ws := by
  unfold und
  refine filter_lt (fun r _ hr => (way_sort.mp hr).2) ⟨.gate q m n e, List.mem_filter.mpr ⟨(row_mem h).1, rfl⟩, by show (wayOf ws m).isNone = true; rw [hn]; rfl, ?_⟩
  show (wayOf (sortW (ws ++ [(m, b)])) m).isNone = false
  cases z : (wayOf (sortW (ws ++ [(m, b)])) m).isNone with
  | false => rfl
  | true => exact absurd rfl (way_sort.mp z).1
theorem und_le (rs : List Row0) (ws : Wy) : und rs ws ≤ rs.length := Nat.le_trans (List.length_filter_le _ _) (List.length_filter_le _ _)
/-- where it can stand -/
structure Still (rs : List Row0) (s : Stn) : Prop where
  at_ : ∃ r, rowF rs s.place = some r ∧ ledF r s.ways = none
  few : s.ways.length + und rs s.ways ≤ rs.length
theorem settle_still {rs : List Row0} (R : Right rs) {p : Str} {ws : Wy} {w : Option Str} (hp : p ∈ rs.map placeR) (few : ws.length + und rs ws ≤ rs.length) : Still rs (settleF rs p ws w) := by
  obtain ⟨q, r, h1, h2, h3⟩ := go_last R (ws := ws) hp
  refine ⟨⟨r, ?_, h3⟩, few⟩
  show rowF rs ((goF rs ws p).getLastD p) = some r
  rw [List.getLastD_eq_getLast?, h1]
  exact h2
theorem row_place_mem {rs : List Row0} {p : Str} {r : Row0} (h : rowF rs p = some r) : p ∈ rs.map placeR := by
  obtain ⟨h1, h2⟩ := row_mem h
  rw [← h2]
  exact List.mem_map_of_mem h1
theorem first_mem {rs : List Row0} (R : Right rs) : firstP rs ∈ rs.map placeR := by
  cases rs with
  | nil => exact absurd rfl R.ne
  | cons r rs => exact List.mem_cons_self
theorem first_still {rs : List Row0} (R : Right rs) : Still rs (firstF rs) := settle_still R (first_mem R) (by rw [List.length_nil, Nat.zero_add]; exact und_le _ _)
theorem gate_still {rs : List Row0} (R : Right rs) {s : Stn} (h : Still rs s) {q m n e : Str} (hr : rowF rs s.place = some (.gate q m n e)) (b : Bool) :
    wayOf s.ways m = none ∧ Still rs (settleF rs s.place (sortW (s.ways ++ [(m, b)])) s.word) ∧ und rs (sortW (s.ways ++ [(m, b)])) < und rs s.ways := by
  obtain ⟨r, h1, h2⟩ := h.at_
  rw [hr] at h1
  obtain rfl := Option.some.inj h1
  have hn : wayOf s.ways m = none := by
    simp only [ledF, Option.map_eq_none_iff] at h2
    exact h2
  have lt := und_lt (b := b) hr hn
  refine ⟨hn, settle_still R (row_place_mem hr) ?_, lt⟩
  rw [sortW_len, List.length_append, List.length_singleton]
  have := h.few
  omega
theorem gate_stop {rs : List Row0} {e : List Str} {s : Stn} {r : Row0} (hr : rowF rs s.place = some r) (hg : gateB r = false) : ∀ k, gateF rs e k s = (s, false)
  | 0 => rfl
  | k + 1 => by
    rw [gateF, hr]
    cases r with
    | gate _ _ _ _ => cases hg
    | _ => rfl
theorem gate_all {rs : List Row0} (R : Right rs) {e : List Str} : ∀ (k : Nat) {s : Stn}, Still rs s → und rs s.ways < k → Still rs (gateF rs e k s).1 ∧ ((gateF rs e k s).2 = false → ∃ r, rowF rs (gateF rs e k s).1.place = some r ∧ gateB r = false)
  | 0, s, _, h => by omega
  | k + 1, s, hs, h => by
    obtain ⟨r, h1, h2⟩ := hs.at_
    cases hg : gateB r with
    | false => rw [gate_stop h1 hg]; exact ⟨hs, fun _ => ⟨r, h1, hg⟩⟩
    | true =>
      cases r with
      | gate q m n el =>
        rw [gateF, h1]
        dsimp only
        by_cases ee : e = [m]
        · rw [if_pos ee]
          exact ⟨(gate_still R hs h1 true).2.1, fun z => by cases z⟩
        · rw [if_neg ee]
          obtain ⟨_, g2, g3⟩ := gate_still R hs h1 false
          exact gate_all R k g2 (by show und rs (sortW _) < k; omega)
      | _ => cases hg
theorem ask_still {rs : List Row0} (R : Right rs) {e : List Str} {s : Stn} (hs : Still rs s) : Still rs (askF rs e s).1 := by
  unfold askF
  split
  · rename_i p n ws hr
    split
    · split
      · split
        · rename_i w hw
          exact settle_still R (R.to _ (row_mem hr).1 _ (List.mem_map_of_mem (List.mem_of_find?_eq_some hw))) hs.few
        · exact hs
      · exact hs
    · exact hs
  · exact hs
theorem next_still {rs : List Row0} (R : Right rs) {dz e : List Str} {s : Stn} (hs : Still rs s) : Still rs (nextF rs dz e s).1 := by
  have g := gate_all R (e := e) (rs.length + 1) hs (Nat.lt_succ_of_le (und_le _ _))
  unfold nextF
  split
  · exact hs
  split
  · exact g.1
  · exact ask_still R g.1
end K2

set_option Elab.async false
set_option linter.all false
set_option maxRecDepth 100000
set_option maxHeartbeats 2000000
namespace K2
open PySem L2 Lw TL SxT
def spFirst (K : PySem.W.Frag) (p : Pa) : Sp := fun vs H Q _ => ∃ (ev : V) (rs : List Row0) (dz : List Str), vs = [ev] ∧ EdOk K p.a p.b H ev rs dz ∧ ∀ (H' : Hp) (v : V), Same H H' → StnAt K H' v (firstF rs) → Q v H'
def spNext (K : PySem.W.Frag) (p : Pa) : Sp := fun vs H Q _ => ∃ (ev sv xv : V) (rs : List Row0) (dz : List Str) (s : Stn) (e : List Str), vs = [ev, sv, xv] ∧ EdOk K p.a p.b H ev rs dz ∧ StnAt K H sv s ∧ Still rs s ∧ Dp K H xv (entD e) ∧ EntOk e ∧
  ∀ (H' : Hp) (t : Addr) (v : V), Same H H' → H' t = some (.tup [v, .bl (nextF rs dz e s).2]) → StnAt K H' v (nextF rs dz e s).1 → Q (.ref t) H'
section
variable {P : Program} {w : World} {K : PySem.W.Frag} {mg : Str → Option Value} {base : Heap} {p : Pa}
theorem scFirst : FnScope ["edition"] ["edition"] (defScope sFirst) := ⟨rfl, rfl, rfl, by decide +kernel, rfl, by decide +kernel, by decide +kernel⟩
theorem PF.okFirst (F : PF K mg p) : FnOk P w K mg base CX0 5 p.fFs p.dFs ["edition"] (spFirst K p) := by
  refine F.first.F.ok scFirst (fun vs H Q E h => ?_) (fun cdv A outer s H vs Q E hr h => ?_)
  · obtain ⟨ev, rs, dz, rfl, _⟩ := h
    rfl
  · obtain ⟨ev, rs, dz, rfl, hE, fin⟩ := h
    have OS : FnOk P w K mg base CX0 4 p.fSt p.dSt ["edition", "place", "ways", "word"] (spSettled K p) := F.okSettled
    refine ⟨_, pss_one (ps_ret (pe_call OS hr rfl F.settled.g F.settled.F.kp F.settled.b .nil pass0 (pa_cons (pv 0) (pa_cons (pe_fld (pv 0) rfl) (pa_cons (pe_tup pa_nil) (pa_cons pe_non pa_nil)))))), ?_⟩
    obtain ⟨x, dx, fs, xs, rfl, e1, e2, e3⟩ := hE.ex
    obtain ⟨r, rest, er, el⟩ := e2.first
    refine ⟨_, rfl, _, rfl, x, _, dx, fs, _, rfl, e1, F.M.cl, F.M.no _ (by simp), el, (by show 0 ≤ sizeLine; decide), fun t ut => ?_⟩
    have s1 := same_new (o := .tup []) ut
    have ht : (upd H t (.tup [])) t = some (.tup []) := upd_same
    generalize (upd H t (.tup [])) = H1 at s1 ht ⊢
    have ep : firstP rs = placeR r := by rw [er]; rfl
    refine ⟨.ref x, .ref t, rs, dz, placeR r, [], none, rfl, hE.same s1, by rw [← ep]; exact first_mem hE.right, .tup (SqT.of ht) .nil, fun H2 t2 s2 h2 => ?_⟩
    refine fin H2 _ (s1.trans s2) ⟨t2, .ref t, rfl, ?_, ?_⟩
    · unfold firstF
      rw [ep]
      exact SqT.of h2
    · exact .tup (SqT.of (s2 _ _ ht)) .nil
theorem ways2_at {H : Hp} : ∀ {xs : List V} {ws : List (Str × Str)} {j : Nat} {x : V}, DpAll K H xs (ws.map wayD) → xs[j]? = some x → ∃ w t, ws[j]? = some w ∧ x = .ref t ∧ SqT K H t [.str w.1, .str w.2]
  | [], _, _, _, _, e => by simp at e
  | x :: xs, [], _, _, h, _ => by cases h
  | x :: xs, y :: ws, 0, _, h, e => by
    obtain rfl := Option.some.inj e
    cases h with
    | cons h1 h2 =>
      unfold wayD at h1
      cases h1 with
      | @tup t zs _ hs ha =>
      cases ha with
      | cons g1 ha =>
      cases ha with
      | cons g2 ha =>
      cases ha
      cases g1
      cases g2
      exact ⟨y, t, rfl, rfl, hs⟩
  | x :: xs, y :: ws, j + 1, _, h, e => by
    cases h with
    | cons h1 h2 =>
      obtain ⟨w, t, e1, e2, e3⟩ := ways2_at (j := j) h2 (by simpa using e)
      exact ⟨w, t, by simpa using e1, e2, e3⟩
abbrev nNext : List Str := ["edition", "stand", "entry", "place", "ways", "word", "row", "newer", "answer", "then"]
theorem scNext : FnScope nNext ["edition", "stand", "entry"] (defScope sNext) := ⟨rfl, rfl, rfl, by decide +kernel, rfl, by decide +kernel, by decide +kernel⟩
theorem PF.okNext (F : PF K mg p) : FnOk P w K mg base CX0 5 p.fNs p.dNs ["edition", "stand", "entry"] (spNext K p) := by
  refine F.next.F.ok scNext (fun vs H Q E h => ?_) (fun cdv A outer s0 H vs Q E hr h => ?_)
  · obtain ⟨ev, sv, xv, rs, dz, s, e, rfl, _⟩ := h
    rfl
  · obtain ⟨ev, sv, xv, rs, dz, s, e, rfl, hE, hS, hst, hx, he, fin⟩ := h
    have hu : (A.deeper (PyProof.Rows.envOfC (Str.ofString "next_stand") (defScope sNext) s0.heap.objs.size p.fNs cdv)).units + 64 < cLine := hr.units
    have OS : FnOk P w K mg base CX0 4 p.fSt p.dSt ["edition", "place", "ways", "word"] (spSettled K p) := F.okSettled
    have OR : FnOk P w K mg base CX0 2 p.fRow p.dRow ["self", "place"] (spEdRow p.b.cEd) := F.okRow
    have OW : FnOk P w K mg base CX0 1 p.fWw p.dWw ["ways", "mark", "newer"] (spWithWay K) := F.okWithWay
    have hr2 : Room 2 _ := hr.mono (by decide)
    have hr1 : Room 1 _ := hr.mono (by decide)
    refine ⟨_, pss_cons (ps_if (PW.pt (pw_and (pt_cmpR op_eq (pe_callB call_len_seq (by rfl) F.T.tLen PySem.boot_len (pa_cons (pv 2) pa_nil)) pe_int (nomark _)) (pw_and1 (pt_cmpR op_in_seq (pe_ix ix_tup (pv 2) pe_int (fun _ _ => rfl)) (pe_fld (pv 0) rfl) rfl)))) (pss_one (ps_ret (pe_tup (pa_cons (pv 1) (pa_cons pe_bl pa_nil))))) pss_nil)
      (pss_cons (ps_asg (pv 1) (pg_tup rfl (pgs_cons (pg_name (i := 3) scNext.nd rfl (.inl rfl)) (pgs_cons (pg_name (i := 4) scNext.nd rfl (.inl rfl)) (pgs_cons (pg_name (i := 5) scNext.nd rfl (.inl rfl)) pgs_nil)))))
      (pss_cons (ps_set (i := 6) scNext.nd rfl (Or.inl rfl) (pe_meth (pv 0) F.M.cl F.mRow OR hr2 F.M.rowB .nil pass0 (pa_cons (pv 3) pa_nil)))
      (pss_cons (ps_while PassesOwn.never (pt_val (pe_callB call_isi (by rfl) F.T.tIs PyProof.Rows.boot_isinstance (pa_cons (pv 6) (pa_cons (pe_glob (v := .ref p.a.cGate) (by rfl) F.T.gate.g rfl) pa_nil))))
        (pss_cons (ps_set (i := 7) scNext.nd rfl (Or.inl rfl) (pe_cmpR (op_eqD hu) (pv 2) (pe_tup (pa_cons (pe_fld (pv 6) rfl) pa_nil)) (nomark _)))
        (pss_cons (ps_set (i := 4) scNext.nd rfl (Or.inl rfl) (pe_call OW hr1 rfl F.withWay.g F.withWay.F.kp F.withWay.b .nil pass0 (pa_cons (pv 4) (pa_cons (pe_fld (pv 6) rfl) (pa_cons (pv 7) pa_nil)))))
        (pss_cons (ps_asg (pe_call OS hr rfl F.settled.g F.settled.F.kp F.settled.b .nil pass0 (pa_cons (pv 0) (pa_cons (pv 3) (pa_cons (pv 4) (pa_cons (pv 5) pa_nil))))) (pg_tup rfl (pgs_cons (pg_name (i := 3) scNext.nd rfl (.inl rfl)) (pgs_cons (pg_name (i := 4) scNext.nd rfl (.inl rfl)) (pgs_cons (pg_name (i := 5) scNext.nd rfl (.inl rfl)) pgs_nil)))))
        (pss_cons (ps_if (pt_val (pv 7)) (pss_one (ps_ret (pe_tup (pa_cons (pe_tup (pa_cons (pv 3) (pa_cons (pv 4) (pa_cons (pv 5) pa_nil)))) (pa_cons pe_bl pa_nil))))) pss_nil)
        (pss_one (ps_set (i := 6) scNext.nd rfl (Or.inl rfl) (pe_meth (pv 0) F.M.cl F.mRow OR hr2 F.M.rowB .nil pass0 (pa_cons (pv 3) pa_nil)))))))))
      (pss_cons (ps_if (PW.pt (pw_and (pt_val (pe_callB call_isi (by rfl) F.T.tIs PyProof.Rows.boot_isinstance (pa_cons (pv 6) (pa_cons (pe_glob (v := .ref p.a.cAsk) (by rfl) F.T.ask.g rfl) pa_nil))))
          (pw_and (pt_cmpR op_eq (pe_callB call_len_seq (by rfl) F.T.tLen PySem.boot_len (pa_cons (pv 2) pa_nil)) pe_int (nomark _)) (pw_and1 (pt_cmpR op_eq (pe_ix ix_tup (pv 2) pe_int (fun _ _ => rfl)) (pe_fld (pv 6) rfl) (nomark _))))))
        (pss_one (ps_for PassesOwn.never rfl (pi_tup (pe_fld (pv 6) rfl)) (pg_tup rfl (pgs_cons (pg_name (i := 8) scNext.nd rfl (.inl rfl)) (pgs_cons (pg_name (i := 9) scNext.nd rfl (.inl rfl)) pgs_nil)))
          (pss_one (ps_if (pt_cmpR op_eq (pv 8) (pe_ix ix_tup (pv 2) pe_int (fun _ _ => rfl)) (nomark _)) (pss_one (ps_ret (pe_tup (pa_cons (pe_call OS hr rfl F.settled.g F.settled.F.kp F.settled.b .nil pass0 (pa_cons (pv 0) (pa_cons (pv 9) (pa_cons (pv 4) (pa_cons (pv 5) pa_nil))))) (pa_cons pe_bl pa_nil))))) pss_nil)))) pss_nil)
      (pss_one (ps_ret (pe_tup (pa_cons (pe_tup (pa_cons (pv 3) (pa_cons (pv 4) (pa_cons (pv 5) pa_nil)))) (pa_cons pe_bl pa_nil))))))))), ?_⟩
    have hx0 := hx
    unfold entD at hx
    cases hx with
    | @tup te ys _ hxe hxa =>
    have ey := strs_of hxa
    subst ey
    obtain ⟨ts, wv, rfl, hts, hw⟩ := hS.ex
    obtain ⟨x, dx, fs, xs, rfl, e1, e2, e3⟩ := hE.ex
    obtain ⟨td, dz', d1, d2, d3, _⟩ := e2.drops
    obtain ⟨r0, er0, el0⟩ := hst.at_
    have big2 : 2 ≤ sizeLine := by decide
    have big3 : 3 ≤ sizeLine := by decide
    have two : ∀ {P : Prop}, (∀ a, e = [a] → P) → (∀ a b, e = [a, b] → P) → P := fun {P} h1 h2 => by
      have lo := he.lo
      have hi := he.hi
      match e, lo, hi with
      | [a], _, _ => exact h1 a rfl
      | [a, b], _, _ => exact h2 a b rfl
      | _ :: _ :: _ :: _, _, hi => simp at hi
    refine seq_cut (fun σ1 H1 => σ1 = [some (.ref x), some (.ref ts), some (.ref te), none, none, none, none, none, none, none] ∧ H1 = H ∧ dropB dz e = false) ?after1 fun after => ?go1
    case go1 =>
      refine ⟨_, rfl, te, _, rfl, .inr hxe, rfl, _, rfl, ?_⟩
      refine two (fun a ea => ?_) fun a b ea => ?_
      · subst ea
        refine iteTb (decide_eq_true rfl) ⟨_, rfl, te, _, 0, _, rfl, rfl, hxe, atI_nat (j := 0) rfl, _, rfl, x, _, dx, fs, _, rfl, e1, F.M.cl, F.M.no _ (by simp), d1, td, _, rfl, .inr d2, rfl, flat_strs _, _, rfl, ?_⟩
        rw [show (if false = true then !inV (V.str a) (dz'.map V.str) else inV (V.str a) (dz'.map V.str)) = inV (V.str a) (dz'.map V.str) from rfl, inV_strs]
        have mem := d3.2.2 a
        rw [drops_of] at mem
        by_cases ha : a ∈ dz
        · refine iteTb (decide_eq_true (mem.mpr ha)) ⟨_, rfl, big2, fun t ut => ?_⟩
          have en : nextF rs dz [a] s = (s, true) := by unfold nextF; exact if_pos (show dropB dz [a] = true from decide_eq_true ha)
          refine fin _ t (.ref ts) (same_new ut) ?_ ?_
          · rw [upd_same, en]
          · rw [en]; exact hS.same (same_new ut)
        · exact iteFb (decide_eq_false fun z => ha (mem.mp z)) (after _ _ ⟨rfl, rfl, decide_eq_false ha⟩)
      · subst ea
        exact iteFb (decide_eq_false (by simp)) (iteF (after _ _ ⟨rfl, rfl, rfl⟩))
    case after1 =>
      rintro _ H9 ⟨rfl, hH, hdrop⟩
      rw [hH]
      refine ⟨_, rfl, ts, _, rfl, hts, rfl, _, _, rfl, _, _, rfl, _, _, rfl, rfl, ?_⟩
      dsimp only [gName, tNext, tAsg]
      refine row_run (p := p) (ta := tVar 0) (t := tCons (tVar 3) tNil) hE er0 (fun Q q => ⟨_, rfl, q⟩) (fun Q q => ⟨_, rfl, q⟩) fun y0 hy0 => ?_
      have isi : ∀ {C : Addr} {H4 : Hp} {σ : L2.St} {v : V} {r : Row0} {f : Row0 → Bool} {Q : Bool → Hp → Prop}, σ[6]? = some (some v) → RowAt K p.a H4 v r → (∀ r, PySem.W.kitOne K (.ref (clsR p.a r)) (.ref C) = some (f r)) → Q (f r) H4 → tIsi K 6 C σ H4 Q := fun {C H4 σ v r f Q} eσ hy kt q => by
        obtain ⟨y, dy, gs, rfl, hy1, hf, hb⟩ := hy.ex
        exact ⟨_, eσ, _, _, _, _, _, rfl, .own C, F.R.ty (cls_mem r) hy1, kt r, _, rfl, q⟩
      have fld : ∀ {g : Str} {H4 : Hp} {σ : L2.St} {v : V} {r : Row0} {Q : VK}, σ[6]? = some (some v) → RowAt K p.a H4 v r → g ∈ (["place", "name", "ways", "word", "then", "mark", "newer", "elder", "_text"] : List Str) → (∀ gs : List (Str × V), fieldsOk K H4 gs r → ∃ z, gs.lookup g = some z ∧ Q z H4) → tFld K (tVar 6) g σ H4 Q := fun {g H4 σ v r Q} eσ hy hg q => by
        obtain ⟨y, dy, gs, rfl, hy1, hf, hb⟩ := hy.ex
        obtain ⟨z, hz, qz⟩ := q gs hf
        exact ⟨_, eσ, y, _, dy, gs, _, rfl, hy1, F.R.cls _ (cls_mem r), F.T.no _ (cls_mem r) _ hg, hz, qz⟩
      have fewW : ∀ {s1 : Stn}, Still rs s1 → s1.ways.length ≤ 900 := fun {s1} h => by have := h.few; have := hE.right.few; omega
      dsimp only [gName, tNext]
      refine seq_cut (fun σ1 H1 => ∃ (s1 : Stn) (wv1 v : V) (r : Row0) (nw : Option V), σ1 = [some (.ref x), some (.ref ts), some (.ref te), some (.str s1.place), some wv1, some (optV s1.word), some v, nw, none, none] ∧ Same H H1 ∧ Dp K H1 wv1 (waysD2 s1.ways) ∧ rowF rs s1.place = some r ∧ gateB r = false ∧ RowAt K p.a H1 v r ∧ Still rs s1 ∧ gateF rs e (rs.length + 1) s = (s1, false)) ?after2 fun after => ?go2
      case go2 =>
        refine ⟨fun c σ1 H1 => ∃ (s1 : Stn) (wv1 v : V) (r : Row0) (nw : Option V), σ1 = [some (.ref x), some (.ref ts), some (.ref te), some (.str s1.place), some wv1, some (optV s1.word), some v, nw, none, none] ∧ Same H H1 ∧ Dp K H1 wv1 (waysD2 s1.ways) ∧ rowF rs s1.place = some r ∧ RowAt K p.a H1 v r ∧ Still rs s1 ∧ und rs s1.ways < c ∧ gateF rs e c s1 = gateF rs e (rs.length + 1) s,
          ⟨rs.length + 1, s, wv, .ref y0, r0, none, rfl, Same.refl H, hw, er0, hy0, hst, Nat.lt_succ_of_le (und_le _ _), rfl⟩, ?_⟩
        rintro c _ H1 ⟨s1, wv1, v, r, nw, rfl, s01, hw1, er, hy, hst1, lt, eg⟩
        refine isi rfl hy F.E.N.gate ?_
        cases hg : gateB r with
        | false => exact iteF (after _ _ ⟨s1, wv1, v, r, nw, rfl, s01, hw1, er, hg, hy, hst1, by rw [← eg, gate_stop er hg]⟩)
        | true =>
          cases r with
          | gate q m n el =>
            obtain ⟨k, rfl⟩ : ∃ k, c = k + 1 := ⟨c - 1, by omega⟩
            have nm : nameOk m = true := (hE.right.good _ (row_mem er).1).2.1
            refine iteT ⟨fun σ1 H1 => ∃ (c : Nat) (s1 : Stn) (wv1 v : V) (r : Row0) (nw : Option V), c < k + 1 ∧ σ1 = [some (.ref x), some (.ref ts), some (.ref te), some (.str s1.place), some wv1, some (optV s1.word), some v, nw, none, none] ∧ Same H H1 ∧ Dp K H1 wv1 (waysD2 s1.ways) ∧ rowF rs s1.place = some r ∧ RowAt K p.a H1 v r ∧ Still rs s1 ∧ und rs s1.ways < c ∧ gateF rs e c s1 = gateF rs e (rs.length + 1) s, fun σ2 H2 ⟨c, a1, a2, a3, a4, a5, a6, a7⟩ => ⟨c, a6, a1, a2, a3, a4, a5, a7⟩, ?_⟩
            refine ⟨_, rfl, fld rfl hy (by simp) fun gs hf => ⟨_, hf.2.1, (by show 1 ≤ sizeLine; decide), fun t ut => ⟨entD e, entD [m], ?_, .tup (SqT.of upd_same) (.cons (.str _) .nil), ent_shape he.ok, ent_shape (by simpa using nm), ?_⟩⟩⟩
            · exact dp_same (s01.trans (same_new ut)) _ _ hx0
            rw [ent_eqv he.ok he.hi]
            have s12 := same_new (o := .tup [.str m]) ut
            generalize (upd H1 t (.tup [.str m])) = H2 at s12 ⊢
            dsimp only [gName, tNext]
            have hy2 := hy.same s12
            refine ⟨_, rfl, fld rfl hy2 (by simp) fun gs hf => ⟨_, hf.2.1, _, rfl, wv1, m, decide (e = [m]), s1.ways, rfl, dp_same s12 _ _ hw1, fewW hst1, fun H3 v3 s23 hw3 => ?_⟩⟩
            have s03 := (s01.trans s12).trans s23
            obtain ⟨hn, hst2, lt2⟩ := gate_still hE.right hst1 er (decide (e = [m]))
            refine ⟨_, rfl, _, rfl, _, rfl, _, rfl, .ref x, v3, rs, dz, s1.place, _, s1.word, rfl, hE.same s03, row_place_mem er, hw3, fun H4 t4 s34 h4 => ?_⟩
            have s04 := s03.trans s34
            have hw4 := dp_same s34 _ _ hw3
            refine ⟨t4, _, rfl, SqT.of h4, rfl, _, _, rfl, _, _, rfl, _, _, rfl, rfl, ?_⟩
            dsimp only [gName, tNext]
            by_cases em : e = [m]
            · have eb : decide (e = [m]) = true := decide_eq_true em
              rw [eb] at hst2 lt2 hw4 h4 ⊢
              have en : nextF rs dz e s = (settleF rs s1.place (sortW (s1.ways ++ [(m, true)])) s1.word, true) := by
                have eg2 : gateF rs e (rs.length + 1) s = (settleF rs s1.place (sortW (s1.ways ++ [(m, true)])) s1.word, true) := by
                  rw [← eg, gateF, er]
                  exact if_pos em
                unfold nextF
                rw [hdrop, if_neg Bool.false_ne_true, eg2]
                rfl
              refine ⟨_, rfl, _, rfl, iteT ⟨_, rfl, _, rfl, _, rfl, big3, fun t5 u5 => ⟨big2, fun t6 u6 => ?_⟩⟩⟩
              have s45 := same_new (o := .tup [.str (settleF rs s1.place (sortW (s1.ways ++ [(m, true)])) s1.word).place, v3, optV (settleF rs s1.place (sortW (s1.ways ++ [(m, true)])) s1.word).word]) u5
              have s56 := same_new (o := .tup [.ref t5, .bl true]) u6
              refine fin _ t6 (.ref t5) ((s04.trans s45).trans s56) ?_ ?_
              · rw [upd_same, en]
              · rw [en]
                exact ⟨t5, v3, rfl, SqT.of (s56 _ _ upd_same), dp_same (s45.trans s56) _ _ hw4⟩
            · have eb : decide (e = [m]) = false := decide_eq_false em
              rw [eb] at hst2 lt2 hw4 h4 ⊢
              refine ⟨_, rfl, _, rfl, iteF ?_⟩
              dsimp only [gName, tNext, tAsg]
              obtain ⟨r2, er2, _⟩ := hst2.at_
              refine row_run (p := p) (ta := tVar 0) (t := tCons (tVar 3) tNil) (hE.same s04) er2 (fun Q q => ⟨_, rfl, q⟩) (fun Q q => ⟨_, rfl, q⟩) fun y2 hy2 => ?_
              refine ⟨k, settleF rs s1.place (sortW (s1.ways ++ [(m, false)])) s1.word, v3, .ref y2, r2, _, by omega, rfl, s04, hw4, er2, hy2, hst2, by show und rs (sortW _) < k; omega, ?_⟩
              rw [← eg, gateF, er]
              exact (if_neg em).symm
          | _ => cases hg
      case after2 =>
        rintro _ H1 ⟨s1, wv1, v, r, nw, rfl, s01, hw1, er, hg, hy, hst1, eg⟩
        have en : nextF rs dz e s = askF rs e s1 := by
          unfold nextF
          rw [hdrop, if_neg Bool.false_ne_true, eg]
          rfl
        have hxe1 := same_tup s01 hxe
        refine seq_cut (fun σ2 H2 => ∃ (a7 a8 a9 : Option V), σ2 = [some (.ref x), some (.ref ts), some (.ref te), some (.str s1.place), some wv1, some (optV s1.word), some v, a7, a8, a9] ∧ H2 = H1 ∧ askF rs e s1 = (s1, false)) ?after3 fun after => ?go3
        case after3 =>
          rintro _ _ ⟨a7, a8, a9, rfl, rfl, ea⟩
          rw [ea] at en
          refine ⟨_, rfl, _, rfl, _, rfl, big3, fun t5 u5 => ⟨big2, fun t6 u6 => ?_⟩⟩
          have s45 := same_new (o := .tup [.str s1.place, wv1, optV s1.word]) u5
          have s56 := same_new (o := .tup [.ref t5, .bl false]) u6
          refine fin _ t6 (.ref t5) ((s01.trans s45).trans s56) ?_ ?_
          · rw [upd_same, en]
          · rw [en]
            exact ⟨t5, wv1, rfl, SqT.of (s56 _ _ upd_same), dp_same (s45.trans s56) _ _ hw1⟩
        case go3 =>
          refine isi rfl hy F.E.N.ask ?_
          cases r with
          | ask q n ws =>
            refine iteT ⟨_, rfl, te, _, rfl, .inr hxe1, rfl, _, rfl, ?_⟩
            refine two (fun a ea => ?_) fun a b ea => ?_
            · subst ea
              exact iteFb (decide_eq_false (by simp)) (iteF (after _ _ ⟨_, _, _, rfl, rfl, by simp [askF, er]⟩))
            · subst ea
              refine iteTb (decide_eq_true rfl) ⟨_, rfl, te, _, 0, _, rfl, rfl, hxe1, atI_nat (j := 0) rfl, fld rfl hy (by simp) fun gs hf => ⟨_, hf.2.1, rfl, _, rfl, ?_⟩⟩
              by_cases ean : a = n
              · subst ean
                refine iteTb (decide_eq_true rfl) ?_
                obtain ⟨y, dy, gs, rfl, hy1, hf, hb⟩ := hy.ex
                obtain ⟨wa, hwa, hwd⟩ := hf.2.2.1
                cases hwd with
                | @tup _ zs _ hws hwl =>
                have lz : zs.length = ws.length := by rw [dpAll_len hwl, List.length_map]
                refine ⟨_, rfl, y, _, dy, gs, _, rfl, hy1, F.R.cls _ (cls_mem (.ask q a ws)), F.T.no _ (cls_mem (.ask q a ws)) _ (by simp), hwa, wa, rfl, ⟨_, hws⟩, for_tup (K := K) (a := wa) (xs := zs) (fun i σ2 H2 => ∃ (a8 a9 : Option V), σ2 = [some (.ref x), some (.ref ts), some (.ref te), some (.str s1.place), some wv1, some (optV s1.word), some (.ref y), nw, a8, a9] ∧ H2 = H1 ∧ (ws.take i).find? (fun w => decide (w.1 = b)) = none) ⟨_, _, rfl, rfl, rfl⟩ (fun i σ' H' _ ⟨_, _, _, eq, _⟩ => by rw [eq]; exact hws) ?_ ?_⟩
                · rintro j z σ2 H2 hz ⟨_, _, rfl, rfl, fb⟩
                  obtain ⟨w', t7, ew, rfl, ht7⟩ := ways2_at hwl hz
                  refine ⟨_, _, rfl, ht7, rfl, ?_⟩
                  refine ⟨_, _, rfl, _, _, rfl, rfl, ?_⟩
                  refine ⟨_, rfl, _, rfl, te, _, 1, _, rfl, rfl, hxe1, atI_nat (j := 1) rfl, rfl, _, rfl, ?_⟩
                  by_cases eb : w'.1 = b
                  · have ef : ws.find? (fun w => decide (w.1 = b)) = some w' := by
                      rw [← List.take_append_drop j ws, List.find?_append, fb, Option.none_or]
                      have : ws.drop j = w' :: ws.drop (j + 1) := by
                        rw [List.drop_eq_getElem?_toList_append, ew]
                        rfl
                      rw [this, List.find?_cons_of_pos (by simp [eb])]
                    have ea : askF rs [a, b] s1 = (settleF rs w'.2 s1.ways s1.word, true) := by simp [askF, er, ef]
                    rw [ea] at en
                    have hm : w'.2 ∈ rs.map placeR := hE.right.to _ (row_mem er).1 _ (List.mem_map_of_mem (List.mem_of_find?_eq_some ef))
                    refine iteTb (decide_eq_true (by rw [eb])) ⟨_, rfl, _, rfl, _, rfl, _, rfl, .ref x, wv1, rs, dz, w'.2, s1.ways, s1.word, rfl, hE.same s01, hm, hw1, fun H4 t4 s34 h4 => ⟨big2, fun t6 u6 => ?_⟩⟩
                    have s56 := same_new (o := .tup [.ref t4, .bl true]) u6
                    refine fin _ t6 (.ref t4) ((s01.trans s34).trans s56) ?_ ?_
                    · rw [upd_same, en]
                    · rw [en]
                      exact ⟨t4, wv1, rfl, SqT.of (s56 _ _ h4), dp_same (s34.trans s56) _ _ hw1⟩
                  · refine iteFb (decide_eq_false fun z => eb (V.str.inj z)) ⟨_, _, rfl, rfl, ?_⟩
                    rw [List.take_add_one, ew, List.find?_append, fb, Option.none_or]
                    simp [eb]
                · rintro σ2 H2 ⟨a8, a9, rfl, rfl, fb⟩
                  rw [lz, List.take_length] at fb
                  exact after _ _ ⟨_, _, _, rfl, rfl, by simp [askF, er, fb]⟩
              · exact iteFb (decide_eq_false fun z => ean (V.str.inj z)) (after _ _ ⟨_, _, _, rfl, rfl, by simp [askF, er, ean]⟩)
          | note _ _ _ => exact iteF (iteF (after _ _ ⟨_, _, _, rfl, rfl, by simp [askF, er]⟩))
          | gate _ _ _ _ => cases hg
          | end_ _ => exact iteF (iteF (after _ _ ⟨_, _, _, rfl, rfl, by simp [askF, er]⟩))
end
end K2

set_option Elab.async false
set_option linter.all false
set_option maxRecDepth 100000
set_option maxHeartbeats 1000000
namespace K2
open PySem L2 Lw TL SxT
structure Lg where
  fE : Addr
  fX : Addr
  dE : FuncData
  dX : FuncData
structure LgF (K : PySem.W.Frag) (mg : Str → Option Value) (a : Ad) (g : Lg) : Prop where
  T : Txt K mg a
  enum : mg "enumerate" = none
  expLog : Top K mg "expect_log" sExpLog g.fX g.dX ["value"]
  isEntry : Top K mg "_is_entry" sIsEntry g.fE g.dE ["value"]
section
variable {P : Program} {w : World} {K : PySem.W.Frag} {mg : Str → Option Value} {base : Heap} {a : Ad} {g : Lg}
/-! ### an entry -/
def entryOk : PyData → Bool
  | .tuple ds => decide ((1 : Int) ≤ (ds.length : Int)) && decide ((ds.length : Int) ≤ 2) && ds.all nameD
  | _ => false
def spEntry (K : PySem.W.Frag) : Sp := fun vs H Q _ => ∃ (v : V) (d : PyData), vs = [v] ∧ Dp K H v d ∧ fine d = true ∧ ∀ H', Same H H' → Q (.bl (entryOk d)) H'
theorem scEnt : FnScope ["value", "name"] ["value"] (defScope sIsEntry) := ⟨rfl, rfl, rfl, by decide +kernel, rfl, by decide +kernel, by decide +kernel⟩
theorem LgF.okE (G : LgF K mg a g) : FnOk P w K mg base CX0 2 g.fE g.dE ["value"] (spEntry K) := by
  refine G.isEntry.F.ok scEnt (fun vs H Q E h => ?_) (fun cdv A outer s H vs Q E hr h => ?_)
  · obtain ⟨v, d, rfl, _⟩ := h
    rfl
  · obtain ⟨v, d, rfl, hd, hz, fin⟩ := h
    refine ⟨_, pss_one (ps_ret (pe_and (pe_callB call_isi (by rfl) G.T.tIs PyProof.Rows.boot_isinstance (pa_cons (pv 0) (pa_cons (pe_bltn (v := .ty "tuple") (by rfl) G.T.tTuple PyProof.Rows.boot_tuple rfl) pa_nil)))
      (pe_and (pe_chain op_le op_le pe_int (pe_callB call_len_seq (by rfl) G.T.tLen PySem.boot_len (pa_cons (pv 0) pa_nil)) pe_int)
      (pe_one (pe_callB (cr_all rfl) (by rfl) G.T.tAll PyProof.Rows.boot_all (pa_cons (pe_lc (own := [("name", 1)]) (g := gName 1) (tt := tYes) (by rfl) scEnt.nd (pi_tup (pv 0))
          (blkOk_by (own := [("name", 1)]) (N := ["value", "name"]) (sc := defScope sIsEntry) (by decide +kernel)) (fun _ _ _ _ _ => pg_name (i := 1) scEnt.nd rfl (Or.inl rfl)) (fun _ _ _ _ _ => pts_nil)
          (fun _ _ _ _ _ => pe_call G.T.okN hr rfl G.T.isName.g G.T.isName.F.kp G.T.isName.b .nil pass0 (pa_cons (pv 1) pa_nil))) pa_nil)))))), ?_⟩
    refine ⟨_, rfl, _, _, _, _, _, rfl, .ty "tuple", ty_data hd, kit_tup (no_dict hd), _, rfl, ?_⟩
    cases d with
    | tuple ds =>
      cases hd with
      | @tup p xs _ hs ha =>
        have el := dpAll_len ha
        obtain ⟨few, hf⟩ := fineTup hz
        refine iteT ⟨_, rfl, p, xs, rfl, .inr hs, _, _, rfl, rfl, _, rfl, ?_⟩
        rw [el]
        have ee : entryOk (.tuple ds) = (decide ((1 : Int) ≤ (ds.length : Int)) && decide ((ds.length : Int) ≤ 2) && ds.all nameD) := rfl
        cases e1 : decide ((1 : Int) ≤ (ds.length : Int)) with
        | false =>
          have z := fin H (Same.refl H)
          rw [ee, e1, Bool.false_and, Bool.false_and] at z
          exact iteF ⟨_, rfl, iteF z⟩
        | true =>
          refine iteT ⟨_, _, rfl, rfl, _, rfl, ?_⟩
          cases e2 : decide ((ds.length : Int) ≤ 2) with
          | false =>
            have z := fin H (Same.refl H)
            rw [ee, e1, e2, Bool.true_and, Bool.false_and] at z
            exact iteF z
          | true =>
            refine iteT ⟨_, rfl, p, rfl, ⟨_, hs⟩, fun D un => ?_⟩
            refine lc_of_tup (ds.map fun d => some (.bl (nameD d))) hs un (turnsData (fun d => .bl (nameD d)) ha (by omega) fun x d H2 Q2 _ hm hx _ q => ?_) mono_yes fun H1 s1 h1 => ?_
            · exact ⟨_, rfl, x, d, rfl, hx, fineAll_mem hf hm, q⟩
            · rw [outData] at h1
              have e3 : ds.map (fun d => V.bl (nameD d)) = (ds.map nameD).map V.bl := by rw [List.map_map]; rfl
              rw [e3] at h1
              refine ⟨D, _, rfl, SqL.of h1, ?_⟩
              have e4 : (ds.map nameD).all id = entryOk (.tuple ds) := by
                rw [ee, e1, e2, List.all_map]
                rfl
              rw [e4]
              exact fin _ s1
    | _ => exact iteF (fin H (Same.refl H))
/-! ### logs -/
def entT (e : List Str) : Str := Txt.join " " e
def logT (es : List (List Str)) : Str := Txt.join "; " (es.map entT)
theorem ent_fine {e : List Str} (h : EntOk e) : fine (entD e) = true := by
  unfold entD
  rw [fine, List.length_map, Bool.and_eq_true_iff]
  refine ⟨decide_eq_true (by have := h.hi; omega), fineAll_of fun d hd => ?_⟩
  obtain ⟨z, hz, rfl⟩ := List.mem_map.mp hd
  exact name_fine (h.ok z hz)
theorem ent_ok {e : List Str} (h : EntOk e) : entryOk (entD e) = true := by
  show (decide ((1 : Int) ≤ ((e.map PyData.str).length : Int)) && decide (((e.map PyData.str).length : Int) ≤ 2) && (e.map PyData.str).all nameD) = true
  rw [List.length_map, List.all_map]
  have h1 := h.lo
  have h2 := h.hi
  simp only [Bool.and_eq_true, decide_eq_true_eq]
  refine ⟨⟨by omega, by omega⟩, List.all_eq_true.mpr fun z hz => ?_⟩
  exact h.ok z hz
def LogOk (es : List (List Str)) : Prop := es.length ≤ 100 ∧ ∀ e ∈ es, EntOk e
theorem log_fine {es : List (List Str)} (h : LogOk es) : fineAll (es.map entD) = true ∧ (es.map entD).length ≤ 1000 := by
  refine ⟨fineAll_of fun d hd => ?_, by rw [List.length_map]; have := h.1; omega⟩
  obtain ⟨e, he, rfl⟩ := List.mem_map.mp hd
  exact ent_fine (h.2 e he)
/-- a log, a list or a tuple -/
structure IsLog (K : PySem.W.Frag) (H : Hp) (v : V) (es : List (List Str)) : Prop where
  ok : LogOk es
  d : ∃ (p : Addr) (xs : List V), v = .ref p ∧ SqA K H p xs ∧ DpAll K H xs (es.map entD)
theorem IsLog.same {H H' : Hp} {v : V} {es : List (List Str)} (h : IsLog K H v es) (s : Same H H') : IsLog K H' v es := by
  obtain ⟨p, xs, e, hs, ha⟩ := h.d
  exact ⟨h.ok, p, xs, e, hs.same s, dpAll_same s _ _ ha⟩
theorem IsLog.dp {H : Hp} {v : V} {es : List (List Str)} (h : IsLog K H v es) : ∃ d, Dp K H v d ∧ (d = .list (es.map entD) ∨ d = .tuple (es.map entD)) := by
  obtain ⟨p, xs, rfl, hs, ha⟩ := h.d
  rcases hs with hs | hs
  · exact ⟨_, .lst hs ha, .inl rfl⟩
  · exact ⟨_, .tup hs ha, .inr rfl⟩
def spExp (K : PySem.W.Frag) : Sp := fun vs H Q _ => ∃ (v : V) (es : List (List Str)), vs = [v] ∧ IsLog K H v es ∧ ∀ H', Same H H' → Q .non H'
theorem scXl : FnScope ["value", "at", "entry"] ["value"] (defScope sExpLog) := ⟨rfl, rfl, rfl, by decide +kernel, rfl, by decide +kernel, by decide +kernel⟩
theorem LgF.okX (G : LgF K mg a g) : FnOk P w K mg base CX0 3 g.fX g.dX ["value"] (spExp K) := by
  refine G.expLog.F.ok scXl (fun vs H Q E h => ?_) (fun cdv A outer s H vs Q E hr h => ?_)
  · obtain ⟨v, d, rfl, _⟩ := h
    rfl
  · obtain ⟨v, es, rfl, hL, fin⟩ := h
    refine ⟨_, pss_cons (ps_if (pt_not (pt_val (pe_callB call_isiT (by rfl) G.T.tIs PyProof.Rows.boot_isinstance (pa_cons (pv 0) (pa_cons (pe_tup (pa_cons (pe_bltn (v := .ty "list") (by rfl) G.T.tList PyProof.Rows.boot_list rfl) (pa_cons (pe_bltn (v := .ty "tuple") (by rfl) G.T.tTuple PyProof.Rows.boot_tuple rfl) pa_nil))) pa_nil))))) (pss_one ps_dead) pss_nil)
      (pss_one (ps_for PassesOwn.never rfl (pi_enumA (by rfl) G.enum (pa_cons (pv 0) pa_nil)) (pg_tup rfl (pgs_cons (pg_name (i := 1) scXl.nd rfl (.inl rfl)) (pgs_cons (pg_name (i := 2) scXl.nd rfl (.inl rfl)) pgs_nil)))
        (pss_one (ps_if (pt_not (pt_val (pe_call G.okE hr rfl G.isEntry.g G.isEntry.F.kp G.isEntry.b .nil pass0 (pa_cons (pv 2) pa_nil)))) (pss_one ps_dead) pss_nil)))), ?_⟩
    refine ⟨_, rfl, (by show 2 ≤ sizeLine; decide), fun tp hp => ?_⟩
    have s0 : Same H (upd H tp (.tup [.ty "list", .ty "tuple"])) := same_new hp
    have hL0 := hL.same s0
    obtain ⟨d, hd, ed⟩ := hL0.dp
    refine ⟨v, tp, _, _, _, _, rfl, upd_same, .cons (.ty "list") (.cons (.ty "tuple") .nil), ty_data hd, kit_seq (no_dict hd), _, rfl, ?_⟩
    rw [show isSeq d = true from by rcases ed with rfl | rfl <;> rfl]
    obtain ⟨p, xs, rfl, hs, ha⟩ := hL0.d
    refine iteF (enum_run rfl hs fun J hJ => for_JE hJ (fun i σ H' => ∃ x y, σ = [some (.ref p), x, y] ∧ Same (upd H tp (.tup [.ty "list", .ty "tuple"])) H') ⟨_, _, rfl, Same.refl _⟩ (fun i σ' H' ⟨_, _, _, s1⟩ => s1) ?_ ?_)
    · rintro i x σ1 H1 t hx ⟨_, _, rfl, s1⟩ ut
      obtain ⟨dx, edx, hdx⟩ := dpAll_at ha hx
      obtain ⟨e, he, rfl⟩ := List.mem_map.mp (List.mem_of_getElem? edx)
      have s2 : Same H1 (upd H1 t (.tup [.int (i : Nat), x])) := same_new ut
      refine ⟨_, _, rfl, SqT.of upd_same, rfl, ?_⟩
      refine ⟨_, _, rfl, _, _, rfl, rfl, ?_⟩
      refine ⟨_, rfl, _, entD e, rfl, dp_same s2 _ _ (dp_same s1 _ _ hdx), ent_fine (hL.ok.2 e he), fun H2 s3 => ⟨_, rfl, ?_⟩⟩
      rw [ent_ok (hL.ok.2 e he)]
      exact iteF ⟨_, _, rfl, (s1.trans s2).trans s3⟩
    · rintro σ1 H1 ⟨_, _, rfl, s1⟩
      exact fin _ (s0.trans s1)
end
end K2

set_option Elab.async false
set_option linter.all false
set_option maxRecDepth 100000
set_option maxHeartbeats 1000000
namespace K2
open PySem L2 Lw TL SxT
/-! ### a log played -/
def playN (rs : List Row0) (dz : List Str) : Nat → List (List Str) → Stn → Stn × Option Nat
  | _, [], s => (s, none)
  | i, e :: es, s => if (nextF rs dz e s).2 = true then playN rs dz (i + 1) es (nextF rs dz e s).1 else ((nextF rs dz e s).1, some i)
def playF (rs : List Row0) (dz : List Str) (es : List (List Str)) : Stn × Option Nat := playN rs dz 0 es (firstF rs)
def optI : Option Nat → V
  | some i => .int (i : Nat)
  | none => .non
structure Pl where
  g : Lg
  cP : Addr
  fP : Addr
  fRp : Addr
  dP : FuncData
  dRp : FuncData
structure PlF (K : PySem.W.Frag) (mg : Str → Option Value) (p : Pa) (q : Pl) : Prop where
  F : PF K mg p
  G : LgF K mg p.a q.g
  clsG : mg "Played" = some (.ref q.cP)
  cl : Cls K q.cP
  mkd : Mk K q.cP q.fP
  no : ∀ n ∈ (["place", "ways", "word", "stuck"] : List Str), NoAttr K q.cP n
  plF : Fun K "__init__" "Played.__init__" sPlayed q.fP q.dP
  plB : Binds K q.dP ["self", "stand", "stuck"] []
  rep : Top K mg "replay" sReplay q.fRp q.dRp ["edition", "log"]
/-- what it tells of a log played -/
structure PlayAt (K : PySem.W.Frag) (q : Pl) (H : Hp) (v : V) (r : Stn × Option Nat) : Prop where
  ex : ∃ (x dx : Addr) (fs : List (Str × V)) (wv : V), v = .ref x ∧ H x = some (.ins q.cP dx fs) ∧ fs.lookup ("place" : Str) = some (.str r.1.place) ∧ fs.lookup ("ways" : Str) = some wv ∧ Dp K H wv (waysD2 r.1.ways) ∧ fs.lookup ("word" : Str) = some (optV r.1.word) ∧ fs.lookup ("stuck" : Str) = some (optI r.2)
theorem PlayAt.same {K : PySem.W.Frag} {q : Pl} {H H' : Hp} {v : V} {r : Stn × Option Nat} (h : PlayAt K q H v r) (s : Same H H') : PlayAt K q H' v r := by
  obtain ⟨x, dx, fs, wv, e, h1, h2, h3, h4, h5⟩ := h.ex
  exact ⟨x, dx, fs, wv, e, s _ _ h1, h2, h3, dp_same s _ _ h4, h5⟩
def spPlayed (K : PySem.W.Frag) (q : Pl) : Sp := fun vs H Q _ => ∃ (x dx t : Addr) (kv wv : V) (s : Stn), vs = [.ref x, .ref t, kv] ∧ H x = some (.ins q.cP dx []) ∧ SqT K H t [.str s.place, wv, optV s.word] ∧
  ∀ (H' : Hp) (fs : List (Str × V)), But x H H' → H' x = some (.ins q.cP dx fs) → fs.lookup ("place" : Str) = some (.str s.place) → fs.lookup ("ways" : Str) = some wv → fs.lookup ("word" : Str) = some (optV s.word) → fs.lookup ("stuck" : Str) = some kv → Q .non H'
def spReplay (K : PySem.W.Frag) (p : Pa) (q : Pl) : Sp := fun vs H Q _ => ∃ (ev lv : V) (rs : List Row0) (dz : List Str) (es : List (List Str)), vs = [ev, lv] ∧ EdOk K p.a p.b H ev rs dz ∧ IsLog K H lv es ∧
  ∀ (H' : Hp) (v : V), Same H H' → PlayAt K q H' v (playF rs dz es) → Q v H'
section
variable {P : Program} {w : World} {K : PySem.W.Frag} {mg : Str → Option Value} {base : Heap} {p : Pa} {q : Pl}
theorem scPlayed : FnScope ["self", "stand", "stuck", "place", "ways", "word"] ["self", "stand", "stuck"] (defScope sPlayed) := ⟨rfl, rfl, rfl, by decide +kernel, rfl, by decide +kernel, by decide +kernel⟩
theorem PlF.okPlayed (F : PlF K mg p q) : FnOk P w K mg base CX0 1 q.fP q.dP ["self", "stand", "stuck"] (spPlayed K q) := by
  refine F.plF.ok scPlayed (fun vs H Q E h => ?_) (fun cdv A outer s0 H vs Q E hr h => ?_)
  · obtain ⟨x, dx, t, kv, wv, s, rfl, _⟩ := h
    rfl
  · obtain ⟨x, dx, t, kv, wv, s, rfl, hx, ht, fin⟩ := h
    refine ⟨_, pss_cons (ps_asg (pv 1) (pg_tup rfl (pgs_cons (pg_name (i := 3) scPlayed.nd rfl (.inl rfl)) (pgs_cons (pg_name (i := 4) scPlayed.nd rfl (.inl rfl)) (pgs_cons (pg_name (i := 5) scPlayed.nd rfl (.inl rfl)) pgs_nil)))))
      (pss_cons (ps_fld (pv 0) (pv 3) rfl) (pss_cons (ps_fld (pv 0) (pv 4) rfl) (pss_cons (ps_fld (pv 0) (pv 5) rfl) (pss_one (ps_fld (pv 0) (pv 2) rfl))))), ?_⟩
    refine ⟨_, rfl, t, _, rfl, ht, rfl, _, _, rfl, _, _, rfl, _, _, rfl, rfl, ?_⟩
    have no := F.no
    refine ⟨_, rfl, _, rfl, x, _, dx, _, rfl, hx, F.cl, no _ (by simp), by decide, ?_⟩
    refine ⟨_, rfl, _, rfl, x, _, dx, _, rfl, upd_same, F.cl, no _ (by simp), Nat.lt_of_le_of_lt (length_putF ..) (by decide), ?_⟩
    refine ⟨_, rfl, _, rfl, x, _, dx, _, rfl, upd_same, F.cl, no _ (by simp), Nat.lt_of_le_of_lt (Nat.le_trans (length_putF ..) (Nat.succ_le_succ (length_putF ..))) (by decide), ?_⟩
    refine ⟨_, rfl, _, rfl, x, _, dx, _, rfl, upd_same, F.cl, no _ (by simp), Nat.lt_of_le_of_lt (Nat.le_trans (length_putF ..) (Nat.succ_le_succ (Nat.le_trans (length_putF ..) (Nat.succ_le_succ (length_putF ..))))) (by decide), ?_⟩
    rw [upd_upd, upd_upd, upd_upd]
    refine fin _ _ (fun b o e ne => by rw [upd_ne ne]; exact e) upd_same ?_ ?_ ?_ ?_
    · rw [lookup_putF, if_neg (by decide), lookup_putF, if_neg (by decide), lookup_putF, if_neg (by decide), lookup_putF, if_pos rfl]
    · rw [lookup_putF, if_neg (by decide), lookup_putF, if_neg (by decide), lookup_putF, if_pos rfl]
    · rw [lookup_putF, if_neg (by decide), lookup_putF, if_pos rfl]
    · rw [lookup_putF, if_pos rfl]
abbrev nReplay : List Str := ["edition", "log", "stand", "at", "entry", "used"]
theorem scReplay : FnScope nReplay ["edition", "log"] (defScope sReplay) := ⟨rfl, rfl, rfl, by decide +kernel, rfl, by decide +kernel, by decide +kernel⟩
theorem PlF.okReplay (F : PlF K mg p q) : FnOk P w K mg base CX0 6 q.fRp q.dRp ["edition", "log"] (spReplay K p q) := by
  refine F.rep.F.ok scReplay (fun vs H Q E h => ?_) (fun cdv A outer s0 H vs Q E hr h => ?_)
  · obtain ⟨ev, lv, rs, dz, es, rfl, _⟩ := h
    rfl
  · obtain ⟨ev, lv, rs, dz, es, rfl, hE, hL, fin⟩ := h
    have OX : FnOk P w K mg base CX0 3 q.g.fX q.g.dX ["value"] (spExp K) := F.G.okX
    have OF : FnOk P w K mg base CX0 5 p.fFs p.dFs ["edition"] (spFirst K p) := F.F.okFirst
    have ON : FnOk P w K mg base CX0 5 p.fNs p.dNs ["edition", "stand", "entry"] (spNext K p) := F.F.okNext
    have OP : FnOk P w K mg base CX0 1 q.fP q.dP ["self", "stand", "stuck"] (spPlayed K q) := F.okPlayed
    have hr3 : Room 3 _ := hr.mono (by decide)
    have hr2 : Room 2 _ := hr.mono (by decide)
    refine ⟨_, pss_cons (ps_expr (pe_call OX hr3 rfl F.G.expLog.g F.G.expLog.F.kp F.G.expLog.b .nil pass0 (pa_cons (pv 1) pa_nil)))
      (pss_cons (ps_set (i := 2) scReplay.nd rfl (Or.inl rfl) (pe_call OF hr rfl F.F.first.g F.F.first.F.kp F.F.first.b .nil pass0 (pa_cons (pv 0) pa_nil)))
      (pss_cons (ps_for PassesOwn.never rfl (pi_enumA (by rfl) F.G.enum (pa_cons (pv 1) pa_nil)) (pg_tup rfl (pgs_cons (pg_name (i := 3) scReplay.nd rfl (.inl rfl)) (pgs_cons (pg_name (i := 4) scReplay.nd rfl (.inl rfl)) pgs_nil)))
        (pss_cons (ps_asg (pe_call ON hr rfl F.F.next.g F.F.next.F.kp F.F.next.b .nil pass0 (pa_cons (pv 0) (pa_cons (pv 2) (pa_cons (pv 4) pa_nil)))) (pg_tup rfl (pgs_cons (pg_name (i := 2) scReplay.nd rfl (.inl rfl)) (pgs_cons (pg_name (i := 5) scReplay.nd rfl (.inl rfl)) pgs_nil))))
          (pss_one (ps_if (pt_not (pt_val (pv 5))) (pss_one (ps_ret (pe_make F.mkd OP hr2 rfl F.clsG F.plB .nil pass0 (pa_cons (pv 2) (pa_cons (pv 3) pa_nil))))) pss_nil))))
      (pss_one (ps_ret (pe_make F.mkd OP hr2 rfl F.clsG F.plB .nil pass0 (pa_cons (pv 2) (pa_cons pe_non pa_nil))))))), ?_⟩
    have mk : ∀ {H1 : Hp} {sv : V} {s : Stn} {k : Option Nat}, Same H H1 → StnAt K H1 sv s → playF rs dz es = (s, k) → ∀ (x dx : Addr), H1 x = none → H1 dx = none → dx ≠ x →
        spPlayed K q [.ref x, sv, optI k] (upd (upd H1 dx (.own x)) x (.ins q.cP dx [])) (fun v H2 => v = .non ∧ Q (.ref x) H2) E0 := fun {H1 sv s k} s1 hS eP x dx nx nd ne => by
      obtain ⟨t, wv, rfl, ht, hw⟩ := hS.ex
      have sa : Same H1 (upd H1 dx (.own x)) := same_new nd
      have nx' : (upd H1 dx (.own x)) x = none := by rw [upd_ne ne.symm]; exact nx
      have sb : Same (upd H1 dx (.own x)) (upd (upd H1 dx (.own x)) x (.ins q.cP dx [])) := same_new nx'
      refine ⟨x, dx, t, optI k, wv, s, rfl, upd_same, same_tup (sa.trans sb) ht, fun H' fs kp hi l1 l2 l3 l4 => ⟨rfl, ?_⟩⟩
      have sm := Same.made nx nd kp
      refine fin H' (.ref x) (s1.trans sm) ⟨x, dx, fs, wv, rfl, hi, ?_, l2, ?_, ?_, ?_⟩
      · rw [eP]; exact l1
      · rw [eP]; exact dp_same sm _ _ hw
      · rw [eP]; exact l3
      · rw [eP]; exact l4
    refine ⟨_, rfl, lv, es, rfl, hL, fun H1 s1 => ?_⟩
    refine ⟨_, rfl, ev, rs, dz, rfl, hE.same s1, fun H2 sv s2 hS => ?_⟩
    dsimp only [gName, tNext]
    have s02 := s1.trans s2
    obtain ⟨lp, xs, rfl, hls, hla⟩ := (hL.same s02).d
    have lx : xs.length = es.length := by rw [dpAll_len hla, List.length_map]
    refine enum_run rfl hls fun J hJ => for_JE hJ (fun i σ H' => ∃ (sv : V) (s : Stn) (a3 a4 a5 : Option V), σ = [some ev, some (.ref lp), some sv, a3, a4, a5] ∧ Same H2 H' ∧ StnAt K H' sv s ∧ Still rs s ∧ playN rs dz i (es.drop i) s = playF rs dz es) ⟨sv, _, _, _, _, rfl, Same.refl _, hS, first_still hE.right, rfl⟩ (fun i σ' H' ⟨_, _, _, _, _, _, z, _⟩ => z) ?_ ?_
    · rintro i x σ1 H3 t hx ⟨sv1, s1', a3, a4, a5, rfl, s23, hS1, hst, eP⟩ ut
      obtain ⟨dx, edx, hdx⟩ := dpAll_at hla hx
      rw [List.getElem?_map] at edx
      obtain ⟨e, he, rfl⟩ := Option.map_eq_some_iff.mp edx
      have s34 : Same H3 (upd H3 t (.tup [.int (i : Nat), x])) := same_new ut
      refine ⟨_, _, rfl, SqT.of upd_same, rfl, ?_⟩
      refine ⟨_, _, rfl, _, _, rfl, rfl, ?_⟩
      generalize (upd H3 t (.tup [.int (i : Nat), x])) = H4 at s34 ⊢
      have s04 := (s02.trans s23).trans s34
      have ed : es.drop i = e :: es.drop (i + 1) := by rw [List.drop_eq_getElem?_toList_append, he]; rfl
      rw [ed, playN] at eP
      refine ⟨_, rfl, _, rfl, _, rfl, ev, sv1, x, rs, dz, s1', e, rfl, hE.same s04, hS1.same s34, hst, dp_same (s23.trans s34) _ _ hdx, hL.ok.2 e (List.mem_of_getElem? he), fun H5 t5 v5 s45 h5 hS5 => ?_⟩
      refine ⟨t5, _, rfl, SqT.of h5, rfl, _, _, rfl, _, _, rfl, rfl, ?_⟩
      dsimp only [gName, tNext]
      have s05 := s04.trans s45
      cases eb : (nextF rs dz e s1').2 with
      | true =>
        rw [if_pos eb] at eP
        refine ⟨_, rfl, _, rfl, iteF ?_⟩
        exact ⟨v5, _, _, _, _, rfl, (s23.trans s34).trans s45, hS5, next_still hE.right hst, eP⟩
      | false =>
        rw [if_neg (by rw [eb]; decide)] at eP
        refine ⟨_, rfl, _, rfl, iteT ⟨_, rfl, _, rfl, ?_⟩⟩
        exact mk (k := some i) s05 hS5 eP.symm
    · rintro σ1 H3 ⟨sv1, s1', a3, a4, a5, rfl, s23, hS1, hst, eP⟩
      rw [lx, List.drop_length, playN] at eP
      exact ⟨_, rfl, mk (k := none) (s02.trans s23) hS1 eP.symm⟩
end
end K2

set_option Elab.async false
set_option linter.all false
set_option maxRecDepth 100000
set_option maxHeartbeats 4000000
/-! What the top leaves of the program, told by names. -/
namespace K2
open PySem PySem.Spec PyProof.Rows L2 Lw TL SxT Hd
section
variable {K : PySem.W.Frag} {h : Heap} {mg : Str → Option Value} {fas : List He.Fa} {fns : List He5.DefA}
theorem fa_mem (c : He5.SaysA fas fns K) {f : He.Fa} (m : f ∈ fas) : f.ok K = true := by
  obtain ⟨i, e⟩ := List.getElem?_of_mem m
  exact c.fact i e
theorem fun_mem (c : He5.SaysA fas fns K) {d : He5.DefA} {x qual : Str} {st : Stmt} {f : Addr} (m : d ∈ fns) (ha : d.at_ K = f) (e : d = ⟨d.at_, x, qual, defArgs st, defBody st, defScope st, [], []⟩) : Fun K x qual st f (fdOf K f) := by
  obtain ⟨i, ei⟩ := List.getElem?_of_mem m
  obtain ⟨fd, F⟩ := c.def_ i ei
  rw [ha] at F
  rw [e] at F
  have F1 : Fun K x qual st f fd := He5.fun_of (st := st) F
  have ed := fdOf_eq F1
  rw [← ed] at F1
  exact F1
theorem topA (X : K.In h) (G : h.Ns mainGlobals mg) (c : He5.SaysA fas fns K) {x : Str} {st : Stmt} {ps : List Str} (md : dTop x st ∈ fns) (mf : He.Fa.glo x ∈ fas)
    (hb : ∀ (kV doc pm : Value) (an : Option Addr) (cdv ct : Value) (us : List Value), us.length = ps.length → bindArgs (PySem.W.fnOf x x (defArgs st) (defBody st) (defScope st) .none kV doc pm an cdv ct) ⟨us, []⟩ = pure (ps.zip us)) : K2.Top K mg x st (He.ga K x) (fdOf K (He.ga K x)) ps := by
  have F := fun_mem c (st := st) md rfl rfl
  exact ⟨F, He.glo_ok X G (fa_mem c mf), F.binds hb⟩
theorem inA (c : He5.SaysA fas fns K) {C m qual : Str} {st : Stmt} (md : dIn C m qual st ∈ fns) : Fun K m qual st (He.ma K (He.ga K C) m) (fdOf K (He.ma K (He.ga K C) m)) := fun_mem c (st := st) md rfl rfl
theorem cmA (c : He5.SaysA fas fns K) {C m qual : Str} {st : Stmt} (md : dCm C m qual st ∈ fns) : Fun K m qual st (He5.wf K (He.ga K C) "classmethod" m) (fdOf K (He5.wf K (He.ga K C) "classmethod" m)) := fun_mem c (st := st) md rfl rfl
theorem cmB_ok {C m : Str} (q : cmB K C m = true) : ClX.CMet K (He.ga K C) (.type "type") m (He.ma K (He.ga K C) m) (He5.wf K (He.ga K C) "classmethod" m) := by
  unfold cmB at q
  simp only [Bool.and_eq_true] at q
  exact He5.cmet_of q.1 q.2
end
noncomputable def adK (K : PySem.W.Frag) : Ad :=
  let g := He.ga K
  let m := fun x => He.ma K (He.ga K x) "__init__"
  let d := fun x => fdOf K (He.ga K x)
  let e := fun x => fdOf K (He.ma K (He.ga K x) "__init__")
  { cLog := g "LogError", cIr := g "InvalidRow", cIe := g "InvalidEdition", cRow := g "Row", cAsk := g "Ask", cNote := g "Note", cGate := g "Gate", cEnd := g "End", fIr := m "InvalidRow", fRow := m "Row", fAsk := m "Ask", fNote := m "Note", fGate := m "Gate", fEnd := m "End", fN := g "is_name", fX := g "_expect_names", fWs := g "_are_ways", fW := g "_is_way", fDeal := g "law", fDraw := g "law", fPick := g "law", fThing := g "law", fTitle := g "law", fHeard := g "law", fPairs := g "law", fDue := g "law", fOdd := g "law", fLaw := g "law", dIr := e "InvalidRow", dRow := e "Row", dAsk := e "Ask", dNote := e "Note", dGate := e "Gate", dEnd := e "End", dN := d "is_name", dX := d "_expect_names", dWs := d "_are_ways", dW := d "_is_way", dDeal := d "law", dDraw := d "law", dPick := d "law", dThing := d "law", dTitle := d "law", dHeard := d "law", dPairs := d "law", dDue := d "law", dOdd := d "law", dLaw := d "law" }
noncomputable def aeK (K : PySem.W.Frag) : Ae :=
  let g := He.ga K
  let m := fun x => He.ma K (He.ga K x) "__init__"
  let d := fun x => fdOf K (He.ga K x)
  { cEd := g "Edition", fEd := m "Edition", dEd := fdOf K (m "Edition"), fIe := m "InvalidEdition", dIe := fdOf K (m "InvalidEdition"), gA := g "_are_rows", eA := d "_are_rows", gU := g "are_unlike_names", eU := d "are_unlike_names", gR := g "_has_ring", eR := d "_has_ring", gW := g "_wrong", eW := d "_wrong", tD := He.dflAt ("Edition", some "__init__") 0 K }
noncomputable def paK (K : PySem.W.Frag) : Pa :=
  let g := He.ga K
  let m := fun x y => He.ma K (He.ga K x) y
  let d := fun x => fdOf K (He.ga K x)
  let e := fun x y => fdOf K (He.ma K (He.ga K x) y)
  let r := fun x => He5.wf K (He.ga K x) "classmethod" "read"
  { a := adK K, b := aeK K, fEq := m "Row" "__eq__", fStr := m "Row" "__str__", dEq := e "Row" "__eq__", dStr := e "Row" "__str__", lR := m "End" "leads", lA := m "Ask" "leads", lN := m "Note" "leads", lG := m "Gate" "leads", eR := e "End" "leads", eA := e "Ask" "leads", eN := e "Note" "leads", eG := e "Gate" "leads",
    fO := g "_row_of", fR := r "Row", fL := g "_read_row", fB := g "names_behind", fP := g "read_parts", fE := r "Edition", dO := d "_row_of", dR := fdOf K (r "Row"), dL := d "_read_row", dB := d "names_behind", dP := d "read_parts", dE := fdOf K (r "Edition"), pR := m "Row" "read", pE := m "Edition" "read",
    fRow := m "Edition" "row", fLen := m "Edition" "__len__", gEq := m "Edition" "__eq__", gStr := m "Edition" "__str__", dRow := e "Edition" "row", dLen := e "Edition" "__len__", hEq := e "Edition" "__eq__", hStr := e "Edition" "__str__",
    fWo := g "way_of", fWw := g "with_way", fLd := g "_led", fPs := g "passed", fSt := g "_settled", fFs := g "first_stand", fNs := g "next_stand", dWo := d "way_of", dWw := d "with_way", dLd := d "_led", dPs := d "passed", dSt := d "_settled", dFs := d "first_stand", dNs := d "next_stand" }
noncomputable def plK (K : PySem.W.Frag) : Pl :=
  let g := He.ga K
  let d := fun x => fdOf K (He.ga K x)
  { g := { fE := g "_is_entry", fX := g "expect_log", dE := d "_is_entry", dX := d "expect_log" },
    cP := g "Played", fP := He.ma K (He.ga K "Played") "__init__", fRp := g "replay", dP := fdOf K (He.ma K (He.ga K "Played") "__init__"), dRp := d "replay" }
theorem of_rows {K : PySem.W.Frag} {q : Addr → Prop} (f : ∀ x ∈ rowsN, q (He.ga K x)) : ∀ C ∈ rowCs (adK K), q C := by
  intro C hC
  have e : rowCs (adK K) = [He.ga K "Ask", He.ga K "Note", He.ga K "Gate", He.ga K "End"] := rfl
  rw [e] at hC
  simp only [List.mem_cons, List.not_mem_nil, or_false] at hC
  rcases hC with rfl | rfl | rfl | rfl
  · exact f "Ask" (by simp [rowsN])
  · exact f "Note" (by simp [rowsN])
  · exact f "Gate" (by simp [rowsN])
  · exact f "End" (by simp [rowsN])
section
variable {K : PySem.W.Frag} {h : Heap} {mg : Str → Option Value} {fas : List He.Fa} {fns : List He5.DefA}

theorem plF_of (hfa : ∀ f ∈ fasP, f ∈ fas) (hfn : ∀ d ∈ fnsP, d ∈ fns) (X : K.In h) (G : h.Ns mainGlobals mg) (c : He5.SaysA fas fns K) (ex : extraP K = true) : PlF K mg (paK K) (plK K) := by
  unfold extraP at ex
  simp only [Bool.and_eq_true] at ex
  obtain ⟨x1, x2, x3, x4, x5, x6, x7⟩ := ex
  have er := errB_ok x1
  have er2 := errB_ok x2
  have rw_ := rowsB_ok x3
  obtain ⟨ri1, ri2⟩ := rowI_ok x4
  have ed := edB_ok x5
  have m1 := cmB_ok x6
  have m2 := cmB_ok x7
  have T : Txt K mg (adK K) := {
    tStr := He.free_ok X G (fa_mem c (hfa _ (in_free (List.mem_of_getElem? (i := 0) rfl))))
    tLen := He.free_ok X G (fa_mem c (hfa _ (in_free (List.mem_of_getElem? (i := 1) rfl))))
    tAll := He.free_ok X G (fa_mem c (hfa _ (in_free (List.mem_of_getElem? (i := 2) rfl))))
    tIs := He.free_ok X G (fa_mem c (hfa _ (in_free (List.mem_of_getElem? (i := 3) rfl))))
    tTuple := He.free_ok X G (fa_mem c (hfa _ (in_free (List.mem_of_getElem? (i := 4) rfl))))
    tList := He.free_ok X G (fa_mem c (hfa _ (in_free (List.mem_of_getElem? (i := 5) rfl))))
    tSet := He.free_ok X G (fa_mem c (hfa _ (in_free (List.mem_of_getElem? (i := 6) rfl))))
    abc := He.str_ok X G (fa_mem c (hfa _ List.mem_cons_self))
    isName := topA X G c (hfn _ (List.mem_of_getElem? (i := 1) rfl)) (hfa _ (in_glo (List.mem_of_getElem? (i := 0) rfl))) (fun _ _ _ _ _ _ us hl => match us, hl with | [_], _ => rfl)
    expect := topA X G c (hfn _ (List.mem_of_getElem? (i := 2) rfl)) (hfa _ (in_glo (List.mem_of_getElem? (i := 1) rfl))) (fun _ _ _ _ _ _ us hl => match us, hl with | [_], _ => rfl)
    areWays := topA X G c (hfn _ (List.mem_of_getElem? (i := 3) rfl)) (hfa _ (in_glo (List.mem_of_getElem? (i := 2) rfl))) (fun _ _ _ _ _ _ us hl => match us, hl with | [_], _ => rfl)
    isWay := topA X G c (hfn _ (List.mem_of_getElem? (i := 4) rfl)) (hfa _ (in_glo (List.mem_of_getElem? (i := 3) rfl))) (fun _ _ _ _ _ _ us hl => match us, hl with | [_], _ => rfl)
    gLog := He.glo_ok X G (fa_mem c (hfa _ (in_glo (List.mem_of_getElem? (i := 22) rfl))))
    gIr := He.glo_ok X G (fa_mem c (hfa _ (in_glo (List.mem_of_getElem? (i := 23) rfl))))
    ir := er.ex
    irF := inA c (hfn _ (List.mem_of_getElem? (i := 23) rfl))
    irB := (inA c (hfn _ (List.mem_of_getElem? (i := 23) rfl))).binds (fun _ _ _ _ _ _ us hl => match us, hl with | [_, _], _ => rfl)
    irI := er.I
    irT := er.T
    irW := er.W
    irX := er.X
    row := ⟨inA c (hfn _ (List.mem_of_getElem? (i := 24) rfl)), (inA c (hfn _ (List.mem_of_getElem? (i := 24) rfl))).binds (fun _ _ _ _ _ _ us hl => match us, hl with | [_, _], _ => rfl), He.glo_ok X G (fa_mem c (hfa _ (in_glo (List.mem_of_getElem? (i := 25) rfl)))), He.cls_ok (fa_mem c (hfa _ (in_cls (List.mem_of_getElem? (i := 0) rfl)))), He.mkr_ok (fa_mem c (hfa _ (in_mkr (List.mem_of_getElem? (i := 0) rfl))))⟩
    ask := ⟨inA c (hfn _ (List.mem_of_getElem? (i := 25) rfl)), (inA c (hfn _ (List.mem_of_getElem? (i := 25) rfl))).binds (fun _ _ _ _ _ _ us hl => match us, hl with | [_, _, _, _], _ => rfl), He.glo_ok X G (fa_mem c (hfa _ (in_glo (List.mem_of_getElem? (i := 26) rfl)))), He.cls_ok (fa_mem c (hfa _ (in_cls (List.mem_of_getElem? (i := 1) rfl)))), He.mkr_ok (fa_mem c (hfa _ (in_mkr (List.mem_of_getElem? (i := 1) rfl))))⟩
    note := ⟨inA c (hfn _ (List.mem_of_getElem? (i := 26) rfl)), (inA c (hfn _ (List.mem_of_getElem? (i := 26) rfl))).binds (fun _ _ _ _ _ _ us hl => match us, hl with | [_, _, _, _], _ => rfl), He.glo_ok X G (fa_mem c (hfa _ (in_glo (List.mem_of_getElem? (i := 27) rfl)))), He.cls_ok (fa_mem c (hfa _ (in_cls (List.mem_of_getElem? (i := 2) rfl)))), He.mkr_ok (fa_mem c (hfa _ (in_mkr (List.mem_of_getElem? (i := 2) rfl))))⟩
    gate := ⟨inA c (hfn _ (List.mem_of_getElem? (i := 27) rfl)), (inA c (hfn _ (List.mem_of_getElem? (i := 27) rfl))).binds (fun _ _ _ _ _ _ us hl => match us, hl with | [_, _, _, _, _], _ => rfl), He.glo_ok X G (fa_mem c (hfa _ (in_glo (List.mem_of_getElem? (i := 28) rfl)))), He.cls_ok (fa_mem c (hfa _ (in_cls (List.mem_of_getElem? (i := 3) rfl)))), He.mkr_ok (fa_mem c (hfa _ (in_mkr (List.mem_of_getElem? (i := 3) rfl))))⟩
    end_ := ⟨inA c (hfn _ (List.mem_of_getElem? (i := 28) rfl)), (inA c (hfn _ (List.mem_of_getElem? (i := 28) rfl))).binds (fun _ _ _ _ _ _ us hl => match us, hl with | [_, _], _ => rfl), He.glo_ok X G (fa_mem c (hfa _ (in_glo (List.mem_of_getElem? (i := 29) rfl)))), He.cls_ok (fa_mem c (hfa _ (in_cls (List.mem_of_getElem? (i := 4) rfl)))), He.mkr_ok (fa_mem c (hfa _ (in_mkr (List.mem_of_getElem? (i := 4) rfl))))⟩
    rowR := ri1
    rowI := ri2
    no := of_rows (q := fun C => ∀ n ∈ Hd.attrsN, NoAttr K C n) fun x hx n hn => by
      simp only [rowsN, List.mem_cons, List.not_mem_nil, or_false] at hx
      rcases hx with rfl | rfl | rfl | rfl
      · exact (fun n hn => He.noat_ok (fa_mem c (hfa _ (in_noat (List.mem_of_getElem? (i := 0) rfl) hn)))) n hn
      · exact (fun n hn => He.noat_ok (fa_mem c (hfa _ (in_noat (List.mem_of_getElem? (i := 1) rfl) hn)))) n hn
      · exact (fun n hn => He.noat_ok (fa_mem c (hfa _ (in_noat (List.mem_of_getElem? (i := 2) rfl) hn)))) n hn
      · exact (fun n hn => He.noat_ok (fa_mem c (hfa _ (in_noat (List.mem_of_getElem? (i := 3) rfl) hn)))) n hn
  }
  have R : RowF K (adK K) (paK K).fEq (paK K).fStr (paK K).dEq (paK K).dStr := {
    eqF := inA c (hfn _ (List.mem_of_getElem? (i := 29) rfl))
    eqB := (inA c (hfn _ (List.mem_of_getElem? (i := 29) rfl))).binds (fun _ _ _ _ _ _ us hl => match us, hl with | [_, _], _ => rfl)
    eqI := rw_.eqI
    strF := inA c (hfn _ (List.mem_of_getElem? (i := 30) rfl))
    strB := (inA c (hfn _ (List.mem_of_getElem? (i := 30) rfl))).binds (fun _ _ _ _ _ _ us hl => match us, hl with | [_], _ => rfl)
    cls := of_rows (q := fun C => Cls K C) fun x hx => He.cls_ok (fa_mem c (hfa _ (in_cls (show x ∈ clssP from List.mem_cons_of_mem _ (List.mem_append_left (as := rowsN) (["Edition", "Played"] : List Str) hx)))))
    isA := of_rows (q := fun C => PySem.W.findIn K (.ref C) "__class__" = _) rw_.isA
    get := rw_.get
    tak := rw_.tak
    obj := of_rows (q := fun C => PySem.W.mroIn K C (.type "object") = _) rw_.obj
    row := of_rows (q := fun C => PySem.W.kitOne K (.ref C) (.ref (He.ga K "Row")) = _) rw_.row
    noRow := rw_.noRow
    eqAt := of_rows (q := fun C => PySem.W.findIn K (.ref C) "__eq__" = _) rw_.eqAt
    neAt := of_rows (q := fun C => PySem.W.findIn K (.ref C) "__ne__" = _) rw_.neAt
    first := of_rows (q := fun C => ∀ D ∈ rowCs (adK K), PySem.W.notFirst K C (.ref D) = true) fun x hx => of_rows (q := fun D => PySem.W.notFirst K (He.ga K x) (.ref D) = true) fun y hy => rw_.first x hx y hy
    firstT := of_rows (q := fun C => ∀ t ∈ (["tuple", "str", "int"] : List String), PySem.W.notFirst K C (.type t) = true) fun x hx t ht => rw_.firstT x hx t ht }
  have Ld : LeadsF K (adK K) (paK K).lR (paK K).lA (paK K).lN (paK K).lG (paK K).eR (paK K).eA (paK K).eN (paK K).eG := {
    rF := inA c (hfn _ (List.mem_of_getElem? (i := 31) rfl))
    rB := (inA c (hfn _ (List.mem_of_getElem? (i := 31) rfl))).binds (fun _ _ _ _ _ _ us hl => match us, hl with | [_], _ => rfl)
    rM := He.meth_ok (fa_mem c (hfa _ (in_meth (List.mem_of_getElem? (i := 0) rfl))))
    aF := inA c (hfn _ (List.mem_of_getElem? (i := 32) rfl))
    aB := (inA c (hfn _ (List.mem_of_getElem? (i := 32) rfl))).binds (fun _ _ _ _ _ _ us hl => match us, hl with | [_], _ => rfl)
    aM := He.meth_ok (fa_mem c (hfa _ (in_meth (List.mem_of_getElem? (i := 1) rfl))))
    nF := inA c (hfn _ (List.mem_of_getElem? (i := 33) rfl))
    nB := (inA c (hfn _ (List.mem_of_getElem? (i := 33) rfl))).binds (fun _ _ _ _ _ _ us hl => match us, hl with | [_], _ => rfl)
    nM := He.meth_ok (fa_mem c (hfa _ (in_meth (List.mem_of_getElem? (i := 2) rfl))))
    gF := inA c (hfn _ (List.mem_of_getElem? (i := 34) rfl))
    gB := (inA c (hfn _ (List.mem_of_getElem? (i := 34) rfl))).binds (fun _ _ _ _ _ _ us hl => match us, hl with | [_], _ => rfl)
    gM := He.meth_ok (fa_mem c (hfa _ (in_meth (List.mem_of_getElem? (i := 3) rfl))))
  }
  have own : ∀ x ∈ rowsN, ∀ y ∈ rowsN, PySem.W.kitOne K (.ref (He.ga K x)) (.ref (He.ga K y)) = some (decide (x = y)) := rw_.own
  have i1 : ("Ask" : Str) ∈ rowsN := by simp [rowsN]
  have i2 : ("Note" : Str) ∈ rowsN := by simp [rowsN]
  have i3 : ("Gate" : Str) ∈ rowsN := by simp [rowsN]
  have i4 : ("End" : Str) ∈ rowsN := by simp [rowsN]
  have N : EdN K mg (adK K) := {
    any := He.free_ok X G (fa_mem c (hfa _ (in_free (List.mem_of_getElem? (i := 7) rfl))))
    sorted := He.free_ok X G (fa_mem c (hfa _ (in_free (List.mem_of_getElem? (i := 8) rfl))))
    note := fun r => by
      cases r with
      | ask _ _ _ => exact (own "Ask" i1 "Note" i2).trans (show some (decide (("Ask" : Str) = "Note")) = some false by decide +kernel)
      | note _ _ _ => exact (own "Note" i2 "Note" i2).trans (show some (decide (("Note" : Str) = "Note")) = some true by decide +kernel)
      | gate _ _ _ _ => exact (own "Gate" i3 "Note" i2).trans (show some (decide (("Gate" : Str) = "Note")) = some false by decide +kernel)
      | end_ _ => exact (own "End" i4 "Note" i2).trans (show some (decide (("End" : Str) = "Note")) = some false by decide +kernel)
    gate := fun r => by
      cases r with
      | ask _ _ _ => exact (own "Ask" i1 "Gate" i3).trans (show some (decide (("Ask" : Str) = "Gate")) = some false by decide +kernel)
      | note _ _ _ => exact (own "Note" i2 "Gate" i3).trans (show some (decide (("Note" : Str) = "Gate")) = some false by decide +kernel)
      | gate _ _ _ _ => exact (own "Gate" i3 "Gate" i3).trans (show some (decide (("Gate" : Str) = "Gate")) = some true by decide +kernel)
      | end_ _ => exact (own "End" i4 "Gate" i3).trans (show some (decide (("End" : Str) = "Gate")) = some false by decide +kernel)
    ask := fun r => by
      cases r with
      | ask _ _ _ => exact (own "Ask" i1 "Ask" i1).trans (show some (decide (("Ask" : Str) = "Ask")) = some true by decide +kernel)
      | note _ _ _ => exact (own "Note" i2 "Ask" i1).trans (show some (decide (("Note" : Str) = "Ask")) = some false by decide +kernel)
      | gate _ _ _ _ => exact (own "Gate" i3 "Ask" i1).trans (show some (decide (("Gate" : Str) = "Ask")) = some false by decide +kernel)
      | end_ _ => exact (own "End" i4 "Ask" i1).trans (show some (decide (("End" : Str) = "Ask")) = some false by decide +kernel)
  }
  have hI : ∃ fd, FunD K "__init__" "Edition.__init__" (defArgs sEd) (defBody sEd) (defScope sEd) [.ref (aeK K).tD] [] (aeK K).fEd fd := by
    obtain ⟨i, ei⟩ := List.getElem?_of_mem (hfn _ (List.mem_of_getElem? (i := 0) rfl))
    exact c.def_ i ei
  have hI2 : FunD K "__init__" "Edition.__init__" (defArgs sEd) (defBody sEd) (defScope sEd) [.ref (aeK K).tD] [] (aeK K).fEd (aeK K).dEd := by
    obtain ⟨fd, F⟩ := hI
    have e : fdOf K (aeK K).fEd = fd := by
      obtain ⟨oc, od, dV, kV, doc, pm, an, cdv, ct, osl, h1, h2, h3⟩ := F.ex
      unfold Hd.fdOf
      rw [h2]
    rw [← e] at F
    exact F
  have E : EdT K mg (adK K) (aeK K) := {
    N := N
    are := topA X G c (hfn _ (List.mem_of_getElem? (i := 5) rfl)) (hfa _ (in_glo (List.mem_of_getElem? (i := 4) rfl))) (fun _ _ _ _ _ _ us hl => match us, hl with | [_], _ => rfl)
    unl := topA X G c (hfn _ (List.mem_of_getElem? (i := 6) rfl)) (hfa _ (in_glo (List.mem_of_getElem? (i := 5) rfl))) (fun _ _ _ _ _ _ us hl => match us, hl with | [_], _ => rfl)
    ring := topA X G c (hfn _ (List.mem_of_getElem? (i := 7) rfl)) (hfa _ (in_glo (List.mem_of_getElem? (i := 6) rfl))) (fun _ _ _ _ _ _ us hl => match us, hl with | [_], _ => rfl)
    wrong := topA X G c (hfn _ (List.mem_of_getElem? (i := 8) rfl)) (hfa _ (in_glo (List.mem_of_getElem? (i := 7) rfl))) (fun _ _ _ _ _ _ us hl => match us, hl with | [_, _], _ => rfl)
    F := hI2
    dT := tupB_ok ed.tD
    cl := He.cls_ok (fa_mem c (hfa _ (in_cls (List.mem_of_getElem? (i := 5) rfl))))
    no := (fun n hn => He.noat_ok (fa_mem c (hfa _ (in_noat (List.mem_of_getElem? (i := 4) rfl) hn))))
    gIe := He.glo_ok X G (fa_mem c (hfa _ (in_glo (List.mem_of_getElem? (i := 24) rfl))))
    ie := er2.ex
    ieF := inA c (hfn _ (List.mem_of_getElem? (i := 35) rfl))
    ieB := (inA c (hfn _ (List.mem_of_getElem? (i := 35) rfl))).binds (fun _ _ _ _ _ _ us hl => match us, hl with | [_, _], _ => rfl)
    ieI := er2.I
    ieT := er2.T
    ieW := er2.W }
  have D : RdF K mg (adK K) (aeK K) (paK K).fO (paK K).fR (paK K).fL (paK K).fB (paK K).fP (paK K).fE (paK K).dO (paK K).dR (paK K).dL (paK K).dB (paK K).dP (paK K).dE (paK K).pR (paK K).pE := {
    of := topA X G c (hfn _ (List.mem_of_getElem? (i := 9) rfl)) (hfa _ (in_glo (List.mem_of_getElem? (i := 8) rfl))) (fun _ _ _ _ _ _ us hl => match us, hl with | [_], _ => rfl)
    rdF := cmA c (hfn _ (List.mem_of_getElem? (i := 41) rfl))
    rdB := (cmA c (hfn _ (List.mem_of_getElem? (i := 41) rfl))).binds (fun _ _ _ _ _ _ us hl => match us, hl with | [_, _], _ => rfl)
    rdM := m1
    line := topA X G c (hfn _ (List.mem_of_getElem? (i := 10) rfl)) (hfa _ (in_glo (List.mem_of_getElem? (i := 9) rfl))) (fun _ _ _ _ _ _ us hl => match us, hl with | [_, _], _ => rfl)
    behind := topA X G c (hfn _ (List.mem_of_getElem? (i := 11) rfl)) (hfa _ (in_glo (List.mem_of_getElem? (i := 10) rfl))) (fun _ _ _ _ _ _ us hl => match us, hl with | [_, _], _ => rfl)
    parts := topA X G c (hfn _ (List.mem_of_getElem? (i := 12) rfl)) (hfa _ (in_glo (List.mem_of_getElem? (i := 11) rfl))) (fun _ _ _ _ _ _ us hl => match us, hl with | [_, _], _ => rfl)
    edF := cmA c (hfn _ (List.mem_of_getElem? (i := 42) rfl))
    edB := (cmA c (hfn _ (List.mem_of_getElem? (i := 42) rfl))).binds (fun _ _ _ _ _ _ us hl => match us, hl with | [_, _], _ => rfl)
    edR := ed.rd
    edM := m2
    edK := He.mkr_ok (fa_mem c (hfa _ (in_mkr (List.mem_of_getElem? (i := 5) rfl))))
    zip := He.free_ok X G (fa_mem c (hfa _ (in_free (List.mem_of_getElem? (i := 9) rfl))))
    enum := He.free_ok X G (fa_mem c (hfa _ (in_free (List.mem_of_getElem? (i := 10) rfl)))) }
  have M : EdM K mg (aeK K).cEd (paK K).fRow (paK K).fLen (paK K).gEq (paK K).gStr (paK K).dRow (paK K).dLen (paK K).hEq (paK K).hStr := {
    g := He.glo_ok X G (fa_mem c (hfa _ (in_glo (List.mem_of_getElem? (i := 30) rfl))))
    cl := He.cls_ok (fa_mem c (hfa _ (in_cls (List.mem_of_getElem? (i := 5) rfl))))
    no := (fun n hn => He.noat_ok (fa_mem c (hfa _ (in_noat (List.mem_of_getElem? (i := 4) rfl) hn))))
    rowF := inA c (hfn _ (List.mem_of_getElem? (i := 36) rfl))
    rowB := (inA c (hfn _ (List.mem_of_getElem? (i := 36) rfl))).binds (fun _ _ _ _ _ _ us hl => match us, hl with | [_, _], _ => rfl)
    lenF := inA c (hfn _ (List.mem_of_getElem? (i := 37) rfl))
    lenB := (inA c (hfn _ (List.mem_of_getElem? (i := 37) rfl))).binds (fun _ _ _ _ _ _ us hl => match us, hl with | [_], _ => rfl)
    eqF := inA c (hfn _ (List.mem_of_getElem? (i := 38) rfl))
    eqB := (inA c (hfn _ (List.mem_of_getElem? (i := 38) rfl))).binds (fun _ _ _ _ _ _ us hl => match us, hl with | [_, _], _ => rfl)
    strF := inA c (hfn _ (List.mem_of_getElem? (i := 39) rfl))
    strB := (inA c (hfn _ (List.mem_of_getElem? (i := 39) rfl))).binds (fun _ _ _ _ _ _ us hl => match us, hl with | [_], _ => rfl)
    isA := ed.isA
    get := rw_.get
    tak := rw_.tak
    obj := ed.obj
    own := ed.own
    noEd := ed.no }
  have F : PF K mg (paK K) := {
    T := T
    R := R
    L := Ld
    E := E
    D := D
    M := M
    strI := rw_.strI
    strAt := of_rows (q := fun C => PySem.W.findIn K (.ref C) "__str__" = _) rw_.strAt
    mRow := He.meth_ok (fa_mem c (hfa _ (in_meth (List.mem_of_getElem? (i := 4) rfl))))
    wayOf := topA X G c (hfn _ (List.mem_of_getElem? (i := 13) rfl)) (hfa _ (in_glo (List.mem_of_getElem? (i := 12) rfl))) (fun _ _ _ _ _ _ us hl => match us, hl with | [_, _], _ => rfl)
    withWay := topA X G c (hfn _ (List.mem_of_getElem? (i := 14) rfl)) (hfa _ (in_glo (List.mem_of_getElem? (i := 13) rfl))) (fun _ _ _ _ _ _ us hl => match us, hl with | [_, _, _], _ => rfl)
    led := topA X G c (hfn _ (List.mem_of_getElem? (i := 15) rfl)) (hfa _ (in_glo (List.mem_of_getElem? (i := 14) rfl))) (fun _ _ _ _ _ _ us hl => match us, hl with | [_, _], _ => rfl)
    passed := topA X G c (hfn _ (List.mem_of_getElem? (i := 16) rfl)) (hfa _ (in_glo (List.mem_of_getElem? (i := 15) rfl))) (fun _ _ _ _ _ _ us hl => match us, hl with | [_, _, _], _ => rfl)
    settled := topA X G c (hfn _ (List.mem_of_getElem? (i := 17) rfl)) (hfa _ (in_glo (List.mem_of_getElem? (i := 16) rfl))) (fun _ _ _ _ _ _ us hl => match us, hl with | [_, _, _, _], _ => rfl)
    first := topA X G c (hfn _ (List.mem_of_getElem? (i := 18) rfl)) (hfa _ (in_glo (List.mem_of_getElem? (i := 17) rfl))) (fun _ _ _ _ _ _ us hl => match us, hl with | [_], _ => rfl)
    next := topA X G c (hfn _ (List.mem_of_getElem? (i := 19) rfl)) (hfa _ (in_glo (List.mem_of_getElem? (i := 18) rfl))) (fun _ _ _ _ _ _ us hl => match us, hl with | [_, _, _], _ => rfl)
  }
  have Lf : LgF K mg (adK K) (plK K).g := {
    T := T
    enum := He.free_ok X G (fa_mem c (hfa _ (in_free (List.mem_of_getElem? (i := 10) rfl))))
    expLog := topA X G c (hfn _ (List.mem_of_getElem? (i := 20) rfl)) (hfa _ (in_glo (List.mem_of_getElem? (i := 19) rfl))) (fun _ _ _ _ _ _ us hl => match us, hl with | [_], _ => rfl)
    isEntry := topA X G c (hfn _ (List.mem_of_getElem? (i := 21) rfl)) (hfa _ (in_glo (List.mem_of_getElem? (i := 20) rfl))) (fun _ _ _ _ _ _ us hl => match us, hl with | [_], _ => rfl)
  }
  exact {
    F := F
    G := Lf
    clsG := He.glo_ok X G (fa_mem c (hfa _ (in_glo (List.mem_of_getElem? (i := 31) rfl))))
    cl := He.cls_ok (fa_mem c (hfa _ (in_cls (List.mem_of_getElem? (i := 6) rfl))))
    mkd := He.mkr_ok (fa_mem c (hfa _ (in_mkr (List.mem_of_getElem? (i := 6) rfl))))
    no := (fun n hn => He.noat_ok (fa_mem c (hfa _ (in_noat (List.mem_of_getElem? (i := 5) rfl) hn))))
    plF := inA c (hfn _ (List.mem_of_getElem? (i := 40) rfl))
    plB := (inA c (hfn _ (List.mem_of_getElem? (i := 40) rfl))).binds (fun _ _ _ _ _ _ us hl => match us, hl with | [_, _, _], _ => rfl)
    rep := topA X G c (hfn _ (List.mem_of_getElem? (i := 22) rfl)) (hfa _ (in_glo (List.mem_of_getElem? (i := 21) rfl))) (fun _ _ _ _ _ _ us hl => match us, hl with | [_, _], _ => rfl) }
end
end K2

set_option Elab.async false
set_option linter.all false
set_option maxRecDepth 100000
set_option maxHeartbeats 1000000
namespace K2
open PySem L2 Lw TL SxT
/-- a row in the place of the one that stands there -/
def putF (rs : List Row0) (r : Row0) : List Row0 := rs.map fun o => if placeR o = placeR r then r else o
theorem drops_tup (dz : List Str) : dropsL (.tuple (dz.map PyData.str)) = dz := by
  show (dz.map PyData.str).map strD = dz
  rw [List.map_map]
  conv => rhs; rw [← List.map_id dz]
  rfl
theorem nodup_le {α : Type} [DecidableEq α] : ∀ {l m : List α}, l.Nodup → (∀ x ∈ l, x ∈ m) → l.length ≤ m.length
  | [], _, _, _ => Nat.zero_le _
  | x :: r, m, nd, h => by
    have hx := h x List.mem_cons_self
    obtain ⟨n1, n2⟩ := List.nodup_cons.mp nd
    have z := nodup_le (l := r) (m := m.erase x) n2 fun y hy => by
      have ne : y ≠ x := fun e => n1 (e ▸ hy)
      exact (List.mem_erase_of_ne ne).mpr (h y (List.mem_cons_of_mem _ hy))
    have e := List.length_erase_of_mem hx
    have pos : 0 < m.length := List.length_pos_iff.mpr fun e => by rw [e] at hx; cases hx
    rw [List.length_cons]
    omega
theorem rises_names {dz : List Str} {d : PyData} (u : unlikeD d = true) (h : Rises dz (dropsL d)) (few : (dropsL d).length < 64) : (∀ z ∈ dz, nameOk z = true) ∧ dz.length < 64 := by
  have hn : ∀ z ∈ dropsL d, nameOk z = true := by
    have go : ∀ ds : List PyData, unlikeL ds = true → ∀ z ∈ ds.map strD, nameOk z = true := fun ds e z hz => by
      rw [unlikeL, Bool.and_eq_true] at e
      have h1 := names_are e.1
      have h2 := e.1
      rw [h1, List.all_map, List.all_eq_true] at h2
      exact h2 z hz
    cases d with
    | list ds => exact go ds u
    | tuple ds => exact go ds u
    | _ => cases u
  refine ⟨fun z hz => hn z ((h.2.2 z).mp hz), ?_⟩
  have := nodup_le h.2.1 fun z hz => (h.2.2 z).mp hz
  omega
end K2

set_option Elab.async false
set_option linter.all false
set_option maxRecDepth 100000
set_option maxHeartbeats 1000000
/-! rows that lead on in some order -/
namespace K2
open PySem L2 Lw TL SxT
/-- rows in an order in which notes and gates lead on -/
structure Onward (rs : List Row0) (spots : List Str) : Prop where
  nd : spots.Nodup
  at_ : ∀ (j : Nat) (r : Row0), rs[j]? = some r → spots[j]? = some (placeR r) ∧ (∀ z ∈ leadsR r, z ∈ spots) ∧ (onB r = true → ∀ z ∈ leadsR r, z ∈ spots.drop (j + 1))
theorem climb {rs : List Row0} {spots : List Str} (O : Onward rs spots) {left : List Row0} (ne : left ≠ []) (sub : ∀ r ∈ left, r ∈ rs ∧ onB r = true) (all : ∀ r ∈ left, ((leadsR r).any fun z => decide (z ∈ left.map placeR)) = true) : ∀ k : Nat, ∃ r ∈ left, ∃ j, k ≤ j ∧ rs[j]? = some r
  | 0 => by
    cases left with
    | nil => exact absurd rfl ne
    | cons r l =>
      obtain ⟨j, hj⟩ := List.getElem?_of_mem (sub r (by simp)).1
      exact ⟨r, by simp, j, Nat.zero_le _, hj⟩
  | k + 1 => by
    obtain ⟨r, hr, j, hk, hj⟩ := climb O ne sub all k
    obtain ⟨z, hz, e⟩ := List.any_eq_true.mp (all r hr)
    have e := of_decide_eq_true e
    obtain ⟨r2, hr2, rfl⟩ := List.mem_map.mp e
    obtain ⟨j2, hj2⟩ := List.getElem?_of_mem (sub r2 hr2).1
    refine ⟨r2, hr2, j2, ?_, hj2⟩
    have h1 := (O.at_ j r hj).2.2 (sub r hr).2 _ hz
    obtain ⟨i, hi⟩ := List.getElem?_of_mem h1
    rw [List.getElem?_drop] at hi
    have h2 := (O.at_ j2 r2 hj2).1
    have lt : j2 < spots.length := (List.getElem?_eq_some_iff.mp h2).1
    have := (List.getElem?_inj lt O.nd).mp (h2.trans hi.symm)
    omega
theorem ring_none {rs : List Row0} {spots : List Str} (O : Onward rs spots) : ∀ (n : Nat) (left : List Row0), left.length ≤ n → (∀ r ∈ left, r ∈ rs ∧ onB r = true) → ringN n left = false
  | 0, left, h, _ => by
    obtain rfl : left = [] := List.eq_nil_of_length_eq_zero (by omega)
    rfl
  | n + 1, left, h, sub => by
    rw [ringN]
    by_cases e : (keptF left).length = left.length
    · rw [if_pos e]
      cases left with
      | nil => rfl
      | cons r l =>
        exfalso
        have all := List.length_filter_eq_length_iff.mp e
        obtain ⟨r2, _, j, hk, hj⟩ := climb O (by simp) sub all rs.length
        have := (List.getElem?_eq_some_iff.mp hj).1
        omega
    · rw [if_neg e]
      have := kept_le left
      exact ring_none O n (keptF left) (by omega) fun r hr => sub r (List.mem_filter.mp hr).1
theorem marks_names : ∀ z ∈ (["m", "n", "mark", "k"] : List Str), nameOk z = true := by decide +kernel
def posL : List Str → Str → Nat
  | [], _ => 0
  | x :: l, p => if x = p then 0 else posL l p + 1
theorem posL_at : ∀ {l : List Str} {j : Nat} {p : Str}, l.Nodup → l[j]? = some p → posL l p = j
  | [], j, p, _, h => by simp at h
  | x :: l, 0, p, _, h => by
    have e : x = p := by simpa using h
    unfold posL
    rw [if_pos e]
  | x :: l, j + 1, p, nd, h => by
    have h : l[j]? = some p := by simpa using h
    obtain ⟨n1, n2⟩ := List.nodup_cons.mp nd
    have ne : x ≠ p := fun e => n1 (e ▸ List.mem_of_getElem? h)
    unfold posL
    rw [if_neg ne, posL_at n2 h]
/-- rows that lead on in some order, marks that are let by -/
structure Gd (rs : List Row0) (ps : List Str) : Prop where
  on : ∃ rs0 : List Row0, Onward rs0 (rs0.map placeR) ∧ rs.Perm rs0
  ne : rs ≠ []
  good : ∀ r ∈ rs, RowGood r
  few : rs.length ≤ 60
  ndp : ps.Nodup
  four : ∀ p ∈ ps, p ∈ (["m", "n", "mark", "k"] : List Str)
  not : ∀ p n e m, Row0.gate p m n e ∈ rs → m ∉ ps
theorem Gd.ok {rs : List Row0} {ps : List Str} (G : Gd rs ps) : wrongF rs (.tuple (ps.map PyData.str)) = none := by
  obtain ⟨rs0, O, pm⟩ := G.on
  have pp : (rs.map placeR).Perm (rs0.map placeR) := pm.map placeR
  have e1 : ¬ (rs.isEmpty = true) := fun z => G.ne (List.isEmpty_iff.mp z)
  have e2 : unlikeD (.tuple (ps.map PyData.str)) = true := by
    show unlikeL (ps.map PyData.str) = true
    rw [unlikeL, Bool.and_eq_true, decide_eq_true_iff]
    constructor
    · rw [List.all_eq_true]
      intro x hx
      obtain ⟨z, hz, rfl⟩ := List.mem_map.mp hx
      exact marks_names z (G.four z hz)
    · have e : (ps.map PyData.str).map strD = ps := by
        rw [List.map_map]
        exact List.map_id _
      rw [e]
      exact G.ndp
  have e3 : (rs.map placeR).Nodup := pp.nodup_iff.mpr O.nd
  have e4 : thenB rs = true := by
    rw [thenB, List.all_eq_true]
    intro z hz
    obtain ⟨l, hl2, hz⟩ := List.mem_flatten.mp hz
    obtain ⟨r, hr, rfl⟩ := List.mem_map.mp hl2
    obtain ⟨j, hj⟩ := List.getElem?_of_mem (pm.mem_iff.mp hr)
    exact decide_eq_true (pp.mem_iff.mpr ((O.at_ j r hj).2.1 z hz))
  have e5 : markB rs (dropsL (.tuple (ps.map PyData.str))) = false := by
    rw [Bool.eq_false_iff, drops_tup]
    intro h
    obtain ⟨r, hr, e⟩ := List.any_eq_true.mp h
    obtain ⟨hr, g⟩ := List.mem_filter.mp hr
    have e := of_decide_eq_true e
    cases r with
    | gate p m n o => exact G.not p n o m hr e
    | ask p n ws => cases g
    | note p w t => cases g
    | end_ p => cases g
  have e6 : ringF rs = false := ring_none O _ _ (Nat.le_refl _) fun r hr => ⟨pm.mem_iff.mp (List.mem_filter.mp hr).1, (List.mem_filter.mp hr).2⟩
  rw [wrongF, if_neg e1, if_neg (by rw [e2]; decide), if_pos e3, if_neg (by rw [e4]; decide), if_neg (by rw [e5]; decide), if_neg (by rw [e6]; decide)]
theorem Gd.right {rs : List Row0} {ps : List Str} (G : Gd rs ps) : Right rs := (right_of G.good G.few G.ok).1
/-- how far a place is from the last one -/
theorem Gd.rank {rs : List Row0} {ps : List Str} (G : Gd rs ps) : ∃ ν : Str → Nat, (∀ p, ν p < rs.length) ∧ ∀ r ∈ rs, onB r = true → ∀ z ∈ leadsR r, ν z < ν (placeR r) := by
  obtain ⟨rs0, O, pm⟩ := G.on
  have len := pm.length_eq
  have pos : 0 < rs.length := List.length_pos_iff.mpr G.ne
  refine ⟨fun p => rs.length - 1 - posL (rs0.map placeR) p, fun p => by show rs.length - 1 - _ < rs.length; omega, fun r hr on z hz => ?_⟩
  obtain ⟨j, hj⟩ := List.getElem?_of_mem (pm.mem_iff.mp hr)
  obtain ⟨a1, _, a3⟩ := O.at_ j r hj
  have h := a3 on z hz
  obtain ⟨i, hi⟩ := List.getElem?_of_mem h
  rw [List.getElem?_drop] at hi
  have lt : j + 1 + i < (rs0.map placeR).length := (List.getElem?_eq_some_iff.mp hi).1
  rw [List.length_map] at lt
  show rs.length - 1 - posL (rs0.map placeR) z < rs.length - 1 - posL (rs0.map placeR) (placeR r)
  rw [posL_at O.nd hi, posL_at O.nd a1]
  omega
/-- rows that lead on in some order -/
structure Gs (rs : List Row0) : Prop where
  on : ∃ rs0 : List Row0, Onward rs0 (rs0.map placeR) ∧ rs.Perm rs0
  ne : rs ≠ []
  good : ∀ r ∈ rs, RowGood r
theorem Gs.perm {rs rs' : List Row0} (h : Gs rs) (p : rs'.Perm rs) : Gs rs' := by
  obtain ⟨rs0, O, pm⟩ := h.on
  exact ⟨⟨rs0, O, p.trans pm⟩, fun e => h.ne (by rw [e] at p; exact (List.nil_perm.mp p)), fun r hr => h.good r (p.mem_iff.mp hr)⟩
theorem Gs.gate {rs : List Row0} (h : Gs rs) {s m n e : Str} (new : s ∉ rs.map placeR) (ns : nameOk s = true) (nm : nameOk m = true) (hn : n ∈ rs.map placeR) (he : e ∈ rs.map placeR) : Gs (.gate s m n e :: rs) := by
  obtain ⟨rs0, O, pm⟩ := h.on
  have pp := pm.map placeR
  have hn0 := pp.mem_iff.mp hn
  have he0 := pp.mem_iff.mp he
  have names : ∀ z ∈ rs.map placeR, nameOk z = true := fun z hz => by
    obtain ⟨r, hr, rfl⟩ := List.mem_map.mp hz
    have g := h.good r hr
    cases r with
    | ask _ _ _ => exact g.1
    | note _ _ _ => exact g.1
    | gate _ _ _ _ => exact g.1
    | end_ _ => exact g
  refine ⟨⟨.gate s m n e :: rs0, ⟨?_, fun j r hj => ?_⟩, pm.cons _⟩, by simp, fun r hr => ?_⟩
  · rw [List.map_cons, List.nodup_cons]
    exact ⟨fun z => new (pp.mem_iff.mpr z), O.nd⟩
  · cases j with
    | zero =>
      obtain rfl : Row0.gate s m n e = r := by simpa using hj
      refine ⟨rfl, fun z hz => ?_, fun _ z hz => ?_⟩
      · have hz : z = n ∨ z = e := by simpa [leadsR] using hz
        rcases hz with rfl | rfl
        · exact List.mem_cons_of_mem _ hn0
        · exact List.mem_cons_of_mem _ he0
      · have hz : z = n ∨ z = e := by simpa [leadsR] using hz
        rcases hz with rfl | rfl
        · exact hn0
        · exact he0
    | succ j =>
      have hj : rs0[j]? = some r := by simpa using hj
      obtain ⟨a, b, c⟩ := O.at_ j r hj
      exact ⟨a, fun z hz => List.mem_cons_of_mem _ (b z hz), c⟩
  · rcases List.mem_cons.mp hr with rfl | hr
    · exact ⟨ns, nm, names n hn, names e he⟩
    · exact h.good r hr
end K2

set_option Elab.async false
set_option linter.all false
set_option maxRecDepth 100000
set_option maxHeartbeats 1000000
namespace Lw
open PySem PySem.Spec PyProof.Rows L2
/-! what is no list stays beside a deal -/
/-- a heap without its lists -/
def hard (H : Hp) : Hp := fun b => match H b with
  | some (.lst _) => none
  | o => o
theorem hard_of {H : Hp} {b : Addr} {o : HO} (h : H b = some o) (n : ∀ xs, o ≠ .lst xs) : hard H b = some o := by
  unfold hard
  rw [h]
  cases o <;> first | rfl | exact absurd rfl (n _)
theorem hard_lst {H : Hp} {b : Addr} {xs : List V} (h : H b = some (.lst xs)) : hard H b = none := by
  unfold hard
  rw [h]
theorem hard_sub {H : Hp} : Same (hard H) H := fun b o e => by
  unfold hard at e
  cases h : H b with
  | none => rw [h] at e; cases e
  | some u =>
    rw [h] at e
    cases u <;> first | exact e | cases e
def plus (G H : Hp) : Hp := fun b => match G b with
  | some o => some o
  | none => hard H b
theorem plus_left {G H : Hp} : Same G (plus G H) := fun b o e => by
  unfold plus
  rw [e]
theorem plus_right {G H : Hp} (s : Same G H) : Same (hard H) (plus G H) := fun b o e => by
  unfold plus
  cases h : G b with
  | none => exact e
  | some u =>
    have a := s b u h
    have c := hard_sub b o e
    rw [a] at c
    exact c
theorem Deal.wide {G H : Hp} {d l : Addr} (D : Deal G H d l) : Deal (plus G H) H d l := by
  obtain ⟨ns, m, a⟩ := D.it
  refine ⟨fun b o e => ?_, ?_, ?_, D.ne, ns, m, a⟩
  · unfold plus at e
    cases h : G b with
    | none => rw [h] at e; exact hard_sub b o e
    | some u => rw [h] at e; rw [← e]; exact D.same b u h
  · unfold plus
    rw [D.gd]
    exact hard_lst a.hd
  · unfold plus
    rw [D.gl]
    exact hard_lst a.hl
theorem hard_tup {K : PySem.W.Frag} {H : Hp} {a : Addr} {xs : List V} (h : SqT K H a xs) : SqT K (hard H) a xs := by
  rcases h with (h | ⟨o, h⟩) | h
  · exact .inl (.inl (hard_of h fun _ z => by cases z))
  · exact .inl (.inr ⟨o, hard_of h fun _ z => by cases z⟩)
  · exact .inr h
mutual
def noL : PyData → Bool
  | .list _ => false
  | .tuple ds => noLs ds
  | _ => true
def noLs : List PyData → Bool
  | [] => true
  | d :: ds => noL d && noLs ds
end
mutual
theorem dp_hard {K : PySem.W.Frag} {H : Hp} : ∀ (d : PyData) (v : V), noL d = true → Dp K H v d → Dp K (hard H) v d
  | .none, _, _, h => by cases h; exact .non
  | .bool b, _, _, h => by cases h; exact .bl b
  | .int i, _, _, h => by cases h; exact .int i
  | .str x, _, _, h => by cases h; exact .str x
  | .list ds, _, n, h => by cases n
  | .tuple ds, _, n, h => by
    cases h with
    | tup h1 h2 => exact .tup (hard_tup h1) (dpAll_hard ds _ (by simpa [noL] using n) h2)
  | .dict _, _, _, h => by cases h
theorem dpAll_hard {K : PySem.W.Frag} {H : Hp} : ∀ (ds : List PyData) (vs : List V), noLs ds = true → DpAll K H vs ds → DpAll K (hard H) vs ds
  | [], _, _, h => by cases h; exact .nil
  | d :: ds, _, n, h => by
    rw [noLs, Bool.and_eq_true] at n
    cases h with
    | cons h1 h2 => exact .cons (dp_hard d _ n.1 h1) (dpAll_hard ds _ n.2 h2)
end
theorem ways_noL : ∀ ws : List (Str × Str), noLs (ws.map wayD) = true
  | [] => rfl
  | w :: ws => by
    rw [List.map_cons, noLs, ways_noL ws, Bool.and_true]
    rfl
end Lw

set_option Elab.async false
set_option linter.all false
set_option maxRecDepth 100000
set_option maxHeartbeats 1000000
namespace Lw
open PySem PySem.Spec PyProof.Rows L2
/-! comprehensions over data -/
theorem hard_upd {H : Hp} {D : Addr} {xs : List V} {o : HO} (h : H D = some (.lst xs)) : Same (hard H) (upd H D o) := fun b u e => by
  have ne : b ≠ D := fun z => by rw [z, hard_lst h] at e; cases e
  rw [upd_ne ne]
  exact hard_sub b u e
theorem noLs_of {α : Type} {g : α → PyData} : ∀ {as : List α}, (∀ a ∈ as, noL (g a) = true) → noLs (as.map g) = true
  | [], _ => rfl
  | a :: as, h => by
    rw [List.map_cons, noLs, h a List.mem_cons_self, Bool.true_and]
    exact noLs_of fun x hx => h x (List.mem_cons_of_mem _ hx)
theorem dat_J {K : PySem.W.Frag} {α : Type} {H1 : Hp} {p D : Addr} {vs : List Nat} {gT : TG} {σ : L2.St} {xs : List V} {as : List α} {e : α → PyData} {J : L2.It} {Qd : Hp → Prop} {tt : TT} {te : TE} (c : α → Bool) (g : α → PyData)
    (hJ : JA K H1 p xs J) (hR : DpAll K H1 xs (as.map e)) (few : as.length ≤ 1000) (un : H1 D = none) (nl : ∀ a ∈ as, noL (g a) = true)
    (turn : ∀ (x : V) (a : α) (H : Hp) (Y : VK) (N : Hp → Prop), a ∈ as → Dp K H x (e a) → Same H1 H → (c a = true → ∀ H' v, Same H H' → Dp K H' v (g a) → Y v H') → (c a = false → ∀ H', Same H H' → N H') →
      gT x (wipe σ vs) H fun σ2 H2 => wipe σ2 vs = wipe σ vs ∧ tt σ2 H2 fun b H3 => if b = true then te σ2 H3 Y else N H3)
    (fin : ∀ H' acc, Same H1 H' → H' D = some (.lst acc) → DpAll K H' acc ((as.filter c).map g) → Qd H') :
    ∃ W : Nat → Nat → Hp → Prop, (∃ m, W 0 m (upd H1 D (.lst []))) ∧ ∀ i' m H, W i' m H →
      (J.stop i' H ∧ Qd H) ∨ (J.go i' H ∧ ∃ Nx : Hp → Prop, (∀ H', Nx H' → ∃ m', m' < m ∧ W (i' + 1) m' H') ∧ ∀ x H', J.yld i' H x H' → gT x (wipe σ vs) H' fun σ2 H2 => wipe σ2 vs = wipe σ vs ∧ tt σ2 H2 fun b H3 =>
        if b = true then te σ2 H3 fun y H4 => ∃ acc, H4 D = some (.lst acc) ∧ acc.length < sizeLine ∧ Nx (upd H4 D (.lst (acc ++ [y]))) else Nx H3) := by
  have len : xs.length = as.length := by rw [dpAll_len hR, List.length_map]
  have go : ∀ (j : Nat) (x : V) (H : Hp), xs[j]? = some x → (Same H1 H ∧ ∃ acc, H D = some (.lst acc) ∧ DpAll K H acc (((as.take j).filter c).map g)) →
      gT x (wipe σ vs) H fun σ2 H2 => wipe σ2 vs = wipe σ vs ∧ tt σ2 H2 fun b H3 =>
        if b = true then te σ2 H3 fun y H4 => ∃ acc, H4 D = some (.lst acc) ∧ acc.length < sizeLine ∧ (Same H1 (upd H4 D (.lst (acc ++ [y]))) ∧ ∃ ac2, (upd H4 D (.lst (acc ++ [y]))) D = some (.lst ac2) ∧ DpAll K (upd H4 D (.lst (acc ++ [y]))) ac2 (((as.take (j + 1)).filter c).map g))
        else (Same H1 H3 ∧ ∃ acc, H3 D = some (.lst acc) ∧ DpAll K H3 acc (((as.take (j + 1)).filter c).map g)) := by
    rintro j x H hx ⟨s1, acc, hD, hacc⟩
    obtain ⟨d, ed, hd⟩ := dpAll_at hR hx
    rw [List.getElem?_map] at ed
    obtain ⟨a, ea, rfl⟩ := Option.map_eq_some_iff.mp ed
    have hm := List.mem_of_getElem? ea
    have tk : as.take (j + 1) = as.take j ++ [a] := by rw [List.take_add_one, ea]; rfl
    refine turn x a H _ _ hm (dp_same s1 _ _ hd) s1 (fun ec H4 v s4 hv => ?_) fun ec H3 s3 => ?_
    · have h4 := s4 _ _ hD
      have acl : acc.length ≤ as.length := by
        rw [dpAll_len hacc, List.length_map]
        have a1 := List.length_filter_le c (as.take j)
        have a2 := List.length_take_le j as
        have a3 : (as.take j).length ≤ as.length := by rw [List.length_take]; omega
        omega
      have nl1 : noLs (((as.take j).filter c).map g) = true := noLs_of fun z hz => nl z (List.mem_of_mem_take (List.mem_filter.mp hz).1)
      have k1 := dpAll_same (hard_upd (o := .lst (acc ++ [v])) h4) _ _ (dpAll_hard _ _ nl1 (dpAll_same s4 _ _ hacc))
      have k2 := dp_same (hard_upd (o := .lst (acc ++ [v])) h4) _ _ (dp_hard _ _ (nl a hm) hv)
      refine ⟨acc, h4, Nat.lt_of_le_of_lt (show acc.length ≤ 1000 by omega) (by decide), fun b o eb => ?_, acc ++ [v], upd_same, ?_⟩
      · rw [upd_ne (ne_of_none eb un)]
        exact s4 _ _ (s1 _ _ eb)
      · rw [tk, List.filter_append, List.map_append]
        have e1 : [a].filter c = [a] := by simp [ec]
        rw [e1]
        exact dpAll_app k1 (.cons k2 .nil)
    · refine ⟨s1.trans s3, acc, s3 _ _ hD, ?_⟩
      rw [tk, List.filter_append]
      have e1 : [a].filter c = [] := by simp [ec]
      rw [e1, List.append_nil]
      exact dpAll_same s3 _ _ hacc
  have zero : Same H1 (upd H1 D (.lst [])) ∧ ∃ acc, (upd H1 D (.lst [])) D = some (.lst acc) ∧ DpAll K (upd H1 D (.lst [])) acc (((as.take 0).filter c).map g) := ⟨same_new un, [], upd_same, .nil⟩
  have last : ∀ H, (Same H1 H ∧ ∃ acc, H D = some (.lst acc) ∧ DpAll K H acc (((as.take xs.length).filter c).map g)) → Qd H := by
    rintro H ⟨s, acc, hD, ha⟩
    rw [len, List.take_length] at ha
    exact fin H acc s hD ha
  cases hJ with
  | l hl => exact lc_list (K := K) (a := p) (xs := xs) (fun j H => Same H1 H ∧ ∃ acc, H D = some (.lst acc) ∧ DpAll K H acc (((as.take j).filter c).map g)) zero (fun j H _ q => q.1.seq hl) (fun j x H hx q => go j x H hx q) last
  | t hl => exact lc_tup (K := K) (a := p) (xs := xs) (fun j H => Same H1 H ∧ ∃ acc, H D = some (.lst acc) ∧ DpAll K H acc (((as.take j).filter c).map g)) zero (fun j H _ q => same_tup q.1 hl) (fun j x H hx q => go j x H hx q) last
/-- texts among data -/
theorem dp_strs {K : PySem.W.Frag} {H : Hp} : ∀ {xs : List V} {zs : List Str}, DpAll K H xs (zs.map PyData.str) → xs = zs.map V.str
  | [], [], _ => rfl
  | [], _ :: _, h => by cases h
  | x :: xs, z :: zs, h => by
    cases h with
    | cons a r =>
      cases a
      rw [List.map_cons, dp_strs r]
  | x :: xs, [], h => by cases h
theorem line_noL (r : Row0) : noL (lineD r) = true := by
  cases r with
  | ask p n ws =>
    show noLs [.str "ask", .str p, .str n, .tuple (ws.map wayD)] = true
    simp only [noLs, noL, ways_noL, Bool.and_true]
  | note p w t => rfl
  | gate p m n e => rfl
  | end_ p => rfl
/-! ### what stands beside a deal -/
theorem Deal.apart {G H : Hp} {d l L : Addr} (D : Deal G H d l) (u : H L = none) : L ≠ d ∧ L ≠ l := by
  obtain ⟨ns, m, a⟩ := D.it
  exact ⟨fun e => (by rw [e, a.hd] at u; cases u), fun e => (by rw [e, a.hl] at u; cases u)⟩
theorem Deal.grab {G H : Hp} {d l L : Addr} {o : HO} (D : Deal G H d l) (h : H L = some o) (n : L ≠ d ∧ L ≠ l) : Deal (upd G L o) H d l ∧ Same G (upd G L o) := by
  obtain ⟨ns, m, a⟩ := D.it
  refine ⟨⟨fun b u e => ?_, by rw [upd_ne n.1.symm]; exact D.gd, by rw [upd_ne n.2.symm]; exact D.gl, D.ne, ns, m, a⟩, fun b u e => ?_⟩
  · by_cases q : b = L
    · subst q
      rw [upd_same] at e
      rw [h, ← e]
    · rw [upd_ne q] at e
      exact D.same b u e
  · by_cases q : b = L
    · subst q
      rw [upd_same, ← h, D.same b u e]
    · rw [upd_ne q]
      exact e
theorem str_mem {x : V} {zs : List PySem.Str} (h : x ∈ zs.map V.str) : ∃ z, z ∈ zs ∧ x = V.str z := by
  obtain ⟨z, hz, e⟩ := List.mem_map.mp h
  exact ⟨z, hz, e.symm⟩
theorem Deal.lay {G H : Hp} {d l L : Addr} (D : Deal G H d l) (u : H L = none) (o : HO) : ∃ G1 H1 : Hp, H1 = upd H L o ∧ Deal G1 H1 d l ∧ G1 L = some o ∧ Same G G1 ∧ Same H H1 := ⟨_, _, rfl, D.put u, upd_same, same_new (D.same.free u), same_new u⟩
theorem cut_strs (zs : List PySem.Str) (hi : Option Int) : ∃ k, cutV (zs.map V.str) none hi = (zs.take k).map V.str := by
  unfold cutV
  rw [HT.sIx_none, List.drop_zero]
  exact ⟨_, (List.map_take ..).symm⟩
/-- a list of the base written anew -/
theorem Deal.edit {G H : Hp} {d l F : Addr} {o u : HO} (D : Deal G H d l) (h : G F = some u) : Deal (upd G F o) (upd H F o) d l := by
  have nd : d ≠ F := fun e => by have := D.gd; rw [e, h] at this; cases this
  have nl : l ≠ F := fun e => by have := D.gl; rw [e, h] at this; cases this
  obtain ⟨ns, m, a⟩ := D.it
  refine ⟨fun b v e => ?_, by rw [upd_ne nd]; exact D.gd, by rw [upd_ne nl]; exact D.gl, D.ne, ns, m, ⟨by rw [upd_ne nd]; exact a.hd, by rw [upd_ne nl]; exact a.hl, a.len, a.nn, a.m0, a.m1⟩⟩
  by_cases q : b = F
  · subst q
    rw [upd_same] at e ⊢
    exact e
  · rw [upd_ne q] at e ⊢
    exact D.same b v e
theorem same_edit {G0 G : Hp} {F : Addr} {o : HO} (s : Same G0 G) (n : G0 F = none) : Same G0 (upd G F o) := fun b u e => by
  have q : b ≠ F := fun z => by rw [z, n] at e; cases e
  rw [upd_ne q]
  exact s b u e
theorem for_enumL {K : PySem.W.Frag} {a : Addr} {xs : List V} {σ : L2.St} {H : Hp} {g : TG} {t : TS} {D : Ends} (Pv : Nat → L2.St → Hp → Prop) (h0 : Pv 0 σ H) (keep : ∀ i σ' H', Pv i σ' H' → SqL K H' a xs)
    (turn : ∀ i x σ' H' T, xs[i]? = some x → Pv i σ' H' → H' T = none → g (.ref T) σ' (upd H' T (.tup [.int (i : Nat), x])) fun σ2 H2 => t { D with nx := Pv (i + 1), ct := Pv (i + 1), bk := D.nx } σ2 H2) (done : ∀ σ' H', Pv xs.length σ' H' → D.nx σ' H') :
    ∃ W : Nat → Nat → L2.St → Hp → Prop, (∃ m, W 0 m σ H) ∧ ∀ i m σ H, W i m σ H →
      ((Ite K a).stop i H ∧ D.nx σ H) ∨ ((Ite K a).go i H ∧ ∃ N : L2.St → Hp → Prop, (∀ σ' H', N σ' H' → ∃ m', m' < m ∧ W (i + 1) m' σ' H') ∧ ∀ x H', (Ite K a).yld i H x H' → g x σ H' fun σ2 H2 => t { D with nx := N, ct := N, bk := D.nx } σ2 H2) := by
  refine ⟨fun j m s' h' => m = xs.length - j ∧ j ≤ xs.length ∧ Pv j s' h', ⟨xs.length, (Nat.sub_zero _).symm, Nat.zero_le _, h0⟩, ?_⟩
  intro j m s' h' hw
  obtain ⟨em, jle, pj⟩ := hw
  have src : SqL K h' a xs := keep j s' h' pj
  rcases Nat.lt_or_ge j xs.length with jlt | jge
  · refine .inr ⟨⟨xs, xs[j], src, List.getElem?_eq_getElem jlt⟩, Pv (j + 1), fun s2 h2 p2 => ⟨xs.length - (j + 1), by omega, rfl, jlt, p2⟩, ?_⟩
    rintro x h2 ⟨T, y, rfl, hT, rfl, look⟩
    exact turn j y s' h' T (look xs src) pj hT
  · obtain rfl : j = xs.length := Nat.le_antisymm jle jge
    exact .inl ⟨⟨xs, src, Nat.le_refl _⟩, done s' h' pj⟩
theorem cut_upto (zs : List PySem.Str) (k : Nat) : cutV (zs.map V.str) none (some (k : Int)) = (zs.take k).map V.str := by
  unfold cutV
  rw [HT.sIx_none, List.drop_zero, HT.sIx_nat, Nat.sub_zero, List.length_map, List.map_take]
  rcases Nat.le_total k zs.length with h | h
  · rw [Nat.min_eq_left h]
  · rw [Nat.min_eq_right h, List.take_of_length_le (by rw [List.length_map]; exact Nat.le_refl _), List.take_of_length_le (by rw [List.length_map]; exact h)]
theorem cut_init (zs : List PySem.Str) : cutV (zs.map V.str) none (some (-1)) = (zs.take (zs.length - 1)).map V.str := by
  unfold cutV
  have e : HT.sIx (zs.map V.str).length (zs.map V.str).length (some (-1)) = zs.length - 1 := by
    show (if (-1 : Int) < 0 then ((-1 : Int) + ((zs.map V.str).length : Int)).toNat else min (-1 : Int).toNat (zs.map V.str).length) = _
    rw [if_pos (by decide), List.length_map]
    omega
  rw [HT.sIx_none, List.drop_zero, e, Nat.sub_zero, List.map_take]
end Lw

set_option Elab.async false
set_option linter.all false
set_option maxHeartbeats 1000000
namespace Lw
open PySem PySem.Spec PyProof.Rows
/-! sorted texts, each once, are told by what is among them -/
def leS (x y : PySem.Str) : Prop := ltCps y.cps.toList x.cps.toList = false
theorem leS_iff {x y : PySem.Str} : leS x y ↔ x.cps.toList ≤ y.cps.toList := by
  unfold leS
  rw [ltCps_eq, decide_eq_false_iff_not]
  exact Iff.rfl
theorem leS_trans {x y z : PySem.Str} (h1 : leS x y) (h2 : leS y z) : leS x z := leS_iff.mpr (List.le_trans (leS_iff.mp h1) (leS_iff.mp h2))
theorem leS_anti {x y : PySem.Str} (h1 : leS x y) (h2 : leS y x) : x = y := by
  have z : x.cps.toList = y.cps.toList := List.le_antisymm (leS_iff.mp h1) (leS_iff.mp h2)
  cases x
  cases y
  simp only [Str.mk.injEq]
  exact Array.toList_inj.mp z
theorem rising_pair : ∀ {l : List PySem.Str} {p : PySem.Str}, risingS p l = true → (p :: l).Pairwise leS
  | [], p, _ => by simp
  | x :: r, p, h => by
    have h : (!ltCps x.cps.toList p.cps.toList && risingS x r) = true := h
    rw [Bool.and_eq_true, Bool.not_eq_true'] at h
    have ih := rising_pair h.2
    have px : leS p x := h.1
    refine List.pairwise_cons.mpr ⟨fun y hy => ?_, ih⟩
    rcases List.mem_cons.mp hy with rfl | hy
    · exact px
    · exact leS_trans px ((List.pairwise_cons.mp ih).1 y hy)
theorem sorted_pair : ∀ {l : List PySem.Str}, sortedS l = true → l.Pairwise leS
  | [], _ => .nil
  | x :: r, h => rising_pair (l := r) (p := x) h
theorem sorted_eq : ∀ {l m : List PySem.Str}, l.Pairwise leS → m.Pairwise leS → l.Nodup → m.Nodup → (∀ k, k ∈ l ↔ k ∈ m) → l = m
  | [], [], _, _, _, _, _ => rfl
  | [], y :: m, _, _, _, _, h => by have := (h y).mpr List.mem_cons_self; cases this
  | x :: l, [], _, _, _, _, h => by have := (h x).mp List.mem_cons_self; cases this
  | x :: l, y :: m, hl, hm, nl, nm, h => by
    obtain ⟨a1, a2⟩ := List.pairwise_cons.mp hl
    obtain ⟨b1, b2⟩ := List.pairwise_cons.mp hm
    obtain ⟨c1, c2⟩ := List.nodup_cons.mp nl
    obtain ⟨d1, d2⟩ := List.nodup_cons.mp nm
    have e : x = y := by
      rcases List.mem_cons.mp ((h x).mp List.mem_cons_self) with e | hx
      · exact e
      · rcases List.mem_cons.mp ((h y).mpr List.mem_cons_self) with e | hy
        · exact e.symm
        · exact leS_anti (a1 y hy) (b1 x hx)
    subst e
    rw [sorted_eq a2 b2 c2 d2 fun k => ?_]
    constructor
    · intro hk
      rcases List.mem_cons.mp ((h k).mp (List.mem_cons_of_mem _ hk)) with rfl | z
      · exact absurd hk c1
      · exact z
    · intro hk
      rcases List.mem_cons.mp ((h k).mpr (List.mem_cons_of_mem _ hk)) with rfl | z
      · exact absurd hk d1
      · exact z
end Lw

set_option Elab.async false
set_option linter.all false
set_option maxRecDepth 100000
set_option maxHeartbeats 1000000
namespace Lw
open PySem PySem.Spec PyProof.Rows L2 TL
/-! texts by their signs -/
theorem str_ext {x y : PySem.Str} (h : tl x = tl y) : x = y := by
  cases x
  cases y
  simp only [Str.mk.injEq]
  exact Array.toList_inj.mp h
theorem joinL_head (S c b : List Nat) : ∀ t : List (List Nat), joinL S ((c ++ b) :: t) = c ++ joinL S (b :: t)
  | [] => rfl
  | x :: t => by
    show (c ++ b) ++ (S ++ joinL S (x :: t)) = c ++ (b ++ (S ++ joinL S (x :: t)))
    rw [List.append_assoc]
theorem joinL_pairs (S : List Nat) : ∀ (l : List (List Nat × List Nat)) (x : List Nat), joinL S (x :: l.map fun w => w.1 ++ (S ++ w.2)) = joinL S (x :: (l.map fun w => [w.1, w.2]).flatten)
  | [], x => rfl
  | w :: l, x => by
    have ih := joinL_pairs S l w.2
    show x ++ (S ++ joinL S ((w.1 ++ (S ++ w.2)) :: l.map fun w => w.1 ++ (S ++ w.2))) = x ++ (S ++ (w.1 ++ (S ++ joinL S (w.2 :: (l.map fun w => [w.1, w.2]).flatten))))
    rw [← ih]
    have e1 := joinL_head S w.1 (S ++ w.2) (l.map fun w => w.1 ++ (S ++ w.2))
    have e2 := joinL_head S S w.2 (l.map fun w => w.1 ++ (S ++ w.2))
    rw [e1, e2]
theorem tl_join2 (y : PySem.Str) (l : List PySem.Str) : tl (Txt.join y l) = joinL (tl y) (l.map tl) := by
  have e : Txt.join y l = y.join l := by
    show Builtin.Str.glued y l = _
    exact StrLaws.glued_eq_join ..
  rw [e, tl_join]
theorem tl_sp : tl (" " : PySem.Str) = [32] := by decide +kernel
/-- the ways as words, or two by two -/
theorem join_ways (p q n : PySem.Str) (ws : List (PySem.Str × PySem.Str)) : Txt.join " " (p :: q :: n :: ws.map fun w => w.1 ++ (" " : PySem.Str) ++ w.2) = Txt.join " " (p :: q :: n :: (ws.map fun w => [w.1, w.2]).flatten) := by
  refine str_ext ?_
  rw [tl_join2, tl_join2, tl_sp]
  have e1 : (ws.map fun w => w.1 ++ (" " : PySem.Str) ++ w.2).map tl = (ws.map fun w => (tl w.1, tl w.2)).map fun w => w.1 ++ ([32] ++ w.2) := by
    rw [List.map_map, List.map_map]
    refine List.map_congr_left fun w _ => ?_
    show tl (w.1 ++ (" " : PySem.Str) ++ w.2) = tl w.1 ++ ([32] ++ tl w.2)
    rw [tl_append, tl_append, tl_sp, List.append_assoc]
  have e2 : ((ws.map fun w => [w.1, w.2]).flatten).map tl = ((ws.map fun w => (tl w.1, tl w.2)).map fun w => [w.1, w.2]).flatten := by
    rw [List.map_flatten, List.map_map, List.map_map]
    rfl
  have h := joinL_pairs [32] (ws.map fun w => (tl w.1, tl w.2)) (tl n)
  show tl p ++ ([32] ++ (tl q ++ ([32] ++ joinL [32] (tl n :: (ws.map fun w => w.1 ++ (" " : PySem.Str) ++ w.2).map tl)))) = tl p ++ ([32] ++ (tl q ++ ([32] ++ joinL [32] (tl n :: ((ws.map fun w => [w.1, w.2]).flatten).map tl))))
  rw [e1, e2, h]
/-- two words -/
theorem join_two (p q : PySem.Str) : Txt.join " " [p, q] = p ++ ((" " : PySem.Str) ++ q) := by
  refine str_ext ?_
  rw [tl_join2, tl_append, tl_append]
  rfl
end Lw

set_option Elab.async false
set_option linter.all false
set_option maxRecDepth 100000
set_option maxHeartbeats 1000000
/-! told editions: rows as tuples, the marks that are let by as a list; their texts -/
namespace K2
open PySem L2 Lw TL SxT
structure Told (K : PySem.W.Frag) (H : Hp) (v : V) (rs : List Row0) (ps : List Str) : Prop where
  ex : ∃ (q lp tp : Addr) (xs : List V), v = .ref q ∧ SqT K H q [.ref lp, .ref tp] ∧ SqL K H lp xs ∧ DpAll K H xs (rs.map lineD) ∧ SqL K H tp (ps.map V.str)
  good : ∀ r ∈ rs, RowGood r
  few : rs.length ≤ 20
  names : ∀ z ∈ ps, nameOk z = true
  fewp : ps.length ≤ 20
theorem Told.same {K : PySem.W.Frag} {H H' : Hp} {v : V} {rs : List Row0} {ps : List Str} (h : Told K H v rs ps) (s : Same H H') : Told K H' v rs ps := by
  obtain ⟨⟨q, lp, tp, xs, e, h1, h2, h3, h4⟩, a, b, c, d⟩ := h
  exact ⟨⟨q, lp, tp, xs, e, same_tup s h1, s.seq h2, dpAll_same s _ _ h3, s.seq h4⟩, a, b, c, d⟩
/-- a told edition that is new beside G -/
structure ToldN (K : PySem.W.Frag) (G G' : Hp) (v : V) (rs : List Row0) (ps : List Str) : Prop where
  ex : ∃ (q lp tp : Addr) (xs : List V), v = .ref q ∧ SqT K G' q [.ref lp, .ref tp] ∧ G' lp = some (.lst xs) ∧ DpAll K G' xs (rs.map lineD) ∧ G' tp = some (.lst (ps.map V.str)) ∧ G lp = none ∧ G tp = none
  good : ∀ r ∈ rs, RowGood r
  few : rs.length ≤ 20
  names : ∀ z ∈ ps, nameOk z = true
  fewp : ps.length ≤ 20
theorem ToldN.told {K : PySem.W.Frag} {G G' : Hp} {v : V} {rs : List Row0} {ps : List Str} (h : ToldN K G G' v rs ps) : Told K G' v rs ps := by
  obtain ⟨q, lp, tp, xs, e, h1, h2, h3, h4, _⟩ := h.ex
  exact ⟨⟨q, lp, tp, xs, e, h1, SqL.of h2, h3, SqL.of h4⟩, h.good, h.few, h.names, h.fewp⟩
theorem ToldN.hide {K : PySem.W.Frag} {G G' : Hp} {v : V} {rs : List Row0} {ps : List Str} (h : ToldN K G G' v rs ps) {kd : Addr} {o : HO} {ys : List V} (g : G kd = some o) (g' : G' kd = some (.lst ys)) : Told K (Lw.hide kd G') v rs ps := by
  obtain ⟨q, lp, tp, xs, e, h1, h2, h3, h4, n1, n2⟩ := h.ex
  have k : Same (hard G') (Lw.hide kd G') := fun b o eb => by
    have nb : b ≠ kd := fun z => by rw [z, hard_lst g'] at eb; cases eb
    rw [hide_ne nb]
    exact hard_sub _ _ eb
  have m1 : lp ≠ kd := fun z => by rw [z, g] at n1; cases n1
  have m2 : tp ≠ kd := fun z => by rw [z, g] at n2; cases n2
  exact ⟨⟨q, lp, tp, xs, e, same_tup k (hard_tup h1), SqL.of (by rw [hide_ne m1]; exact h2), dpAll_same k _ _ (dpAll_hard _ _ (noLs_of fun r _ => line_noL r) h3), SqL.of (by rw [hide_ne m2]; exact h4)⟩, h.good, h.few, h.names, h.fewp⟩
def kindR : Row0 → Str
  | .ask _ _ _ => "ask"
  | .note _ _ _ => "note"
  | .gate _ _ _ _ => "mark"
  | .end_ _ => "end"
section
variable {K : PySem.W.Frag} {H : Hp} {x : V}
theorem line_ask {p n : Str} {ws : List (Str × Str)} (h : Dp K H x (lineD (.ask p n ws))) : ∃ t y, x = .ref t ∧ SqT K H t [.str "ask", .str p, .str n, y] ∧ Dp K H y (.tuple (ws.map wayD)) := by
  cases h with
  | @tup t xs _ h1 h2 =>
    cases h2 with
    | cons a0 h2 => cases h2 with
      | cons a1 h2 => cases h2 with
        | cons a2 h2 => cases h2 with
          | cons a3 h2 =>
            cases h2
            cases a0; cases a1; cases a2
            exact ⟨t, _, rfl, h1, a3⟩
theorem line_note {p w z : Str} (h : Dp K H x (lineD (.note p w z))) : ∃ t, x = .ref t ∧ SqT K H t [.str "note", .str p, .str w, .str z] := by
  cases h with
  | @tup t xs _ h1 h2 => exact ⟨t, rfl, by rw [Lw.dp_strs (zs := ["note", p, w, z]) h2] at h1; exact h1⟩
theorem line_gate {p m n e : Str} (h : Dp K H x (lineD (.gate p m n e))) : ∃ t, x = .ref t ∧ SqT K H t [.str "mark", .str p, .str m, .str n, .str e] := by
  cases h with
  | @tup t xs _ h1 h2 => exact ⟨t, rfl, by rw [Lw.dp_strs (zs := ["mark", p, m, n, e]) h2] at h1; exact h1⟩
theorem line_end {p : Str} (h : Dp K H x (lineD (.end_ p))) : ∃ t, x = .ref t ∧ SqT K H t [.str "end", .str p] := by
  cases h with
  | @tup t xs _ h1 h2 => exact ⟨t, rfl, by rw [Lw.dp_strs (zs := ["end", p]) h2] at h1; exact h1⟩
theorem line_all : ∀ {r : Row0}, Dp K H x (lineD r) → ∃ t ys, x = .ref t ∧ SqT K H t ys ∧ ys[0]? = some (.str (kindR r)) ∧ ys[1]? = some (.str (placeR r))
  | .ask p n ws, h => by
    obtain ⟨t, y, e, h1, _⟩ := line_ask h
    exact ⟨t, _, e, h1, rfl, rfl⟩
  | .note p w z, h => by
    obtain ⟨t, e, h1⟩ := line_note h
    exact ⟨t, _, e, h1, rfl, rfl⟩
  | .gate p m n e0, h => by
    obtain ⟨t, e, h1⟩ := line_gate h
    exact ⟨t, _, e, h1, rfl, rfl⟩
  | .end_ p, h => by
    obtain ⟨t, e, h1⟩ := line_end h
    exact ⟨t, _, e, h1, rfl, rfl⟩
end
theorem find_filter {α : Type} {c : α → Bool} : ∀ {l : List α} {r : α}, l.find? c = some r → ∃ rest, l.filter c = r :: rest
  | [], r, h => by cases h
  | x :: l, r, h => by
    cases e : c x with
    | true =>
      rw [List.find?_cons_of_pos e] at h
      rw [List.filter_cons_of_pos e]
      exact ⟨_, by rw [Option.some.inj h]⟩
    | false =>
      rw [List.find?_cons_of_neg (by simp [e])] at h
      rw [List.filter_cons_of_neg (by simp [e])]
      exact find_filter h
theorem dec_str (a b : Str) : decide (V.str a = V.str b) = decide (a = b) := decide_eq_decide.mpr ⟨fun h => V.str.inj h, fun h => by rw [h]⟩
abbrev rAddS : R2 := fun x y H Q => ∃ i j, x = .str i ∧ y = .str j ∧ i.length + j.length ≤ sizeLine ∧ Q (.str (i ++ j)) H
theorem app_len (x y : Str) : (x ++ y).length = x.length + y.length := by
  have e : ∀ z : Str, z.length = (tl z).length := fun z => by
    unfold tl
    rw [Array.length_toList]
    rfl
  rw [e, e, e, tl_append, List.length_append]
def spRowText (K : PySem.W.Frag) : Sp := fun vs H Q _ => ∃ (x : V) (r : Row0), vs = [x] ∧ Dp K H x (lineD r) ∧ RowGood r ∧ ∀ H', Same H H' → Q (.str (textR r)) H'
def spToldText (K : PySem.W.Frag) : Sp := fun vs H Q _ => ∃ (v : V) (rs : List Row0) (ps : List Str), vs = [v] ∧ Told K H v rs ps ∧ ∀ H' dz, Same H H' → dz.Perm ps → PyProof.Rows.sortedS dz = true → Q (.str (textE rs dz)) H'
section
variable {P : Program} {w : World} {K : PySem.W.Frag} {mg : Str → Option Value} {base : Heap}
abbrev nRowText : List Str := ["_law_row", "_law_ways", "_law_answer", "_law_spot"]
theorem scRowText : FnScope nRowText ["_law_row"] (defScope sRowText) := ⟨rfl, rfl, rfl, by decide +kernel, rfl, by decide +kernel, by decide +kernel⟩
theorem sum_names {l : List Str} (h : ∀ z ∈ l, nameOk z = true) (few : l.length ≤ 100) : (l.map (·.length)).sum + l.length * (" " : Str).length ≤ 16777216 := by
  have h2 := sum_le (n := 4) (ys := l) fun z hz => ok4 (h z hz)
  have e : (" " : Str).length = 1 := by decide
  rw [e]
  omega
theorem okRowText {f : Addr} {fd : FuncData} (F : Fun K "_law_row_text" "_law_row_text" sRowText f fd) (tL : mg "list" = none) : FnOk P w K mg base CX0 1 f fd ["_law_row"] (spRowText K) := by
  refine F.ok scRowText (fun vs H Q E h => ?_) (fun cdv A outer s H vs Q E hr h => ?_)
  · obtain ⟨x, r, rfl, _⟩ := h
    rfl
  · obtain ⟨x, r, rfl, hx, g, fin⟩ := h
    refine ⟨_, pss_cons (ps_if (pt_cmpR op_eq (pe_ix ix_tup (pv 0) pe_int (fun _ _ => rfl)) pe_str (nomark _))
        (pss_cons (ps_setLc (i := 1) (own := [("_law_answer", 2), ("_law_spot", 3)]) (g := gTup K 2 (gCons (gName 2) (gCons (gName 3) gNil))) (tt := tYes) (te := tOp rAddS (tOp rAddS (tVar 2) (tC (.str " "))) (tVar 3)) (by rfl) scRowText.nd rfl rfl (sw_true rfl rfl rfl (by decide +kernel)) (pi_tup (pe_ix ix_tup (pv 0) pe_int (fun _ _ => rfl)))
          (blkOk_by (own := [("_law_answer", 2), ("_law_spot", 3)]) (N := nRowText) (sc := defScope sRowText) (by decide +kernel)) (fun _ _ _ _ _ => pg_tup rfl (pgs_cons (pg_name (i := 2) scRowText.nd rfl (Or.inl rfl)) (pgs_cons (pg_name (i := 3) scRowText.nd rfl (Or.inl rfl)) pgs_nil))) (fun _ _ _ _ _ => pts_nil)
          (fun _ _ _ _ _ => pe_op op_add_str (pe_op op_add_str (pv 2) pe_str) (pv 3)))
        (pss_one (ps_ret (pe_join pe_str (pe_op op_cat (pe_lst (pa_cons (pe_ix ix_tup (pv 0) pe_int (fun _ _ => rfl)) (pa_cons pe_str (pa_cons (pe_ix ix_tup (pv 0) pe_int (fun _ _ => rfl)) pa_nil)))) (pv 1)))))) pss_nil)
      (pss_cons (ps_if (pt_cmpR op_eq (pe_ix ix_tup (pv 0) pe_int (fun _ _ => rfl)) pe_str (nomark _))
        (pss_one (ps_ret (pe_op op_add_str (pe_ix ix_tup (pv 0) pe_int (fun _ _ => rfl)) pe_str))) pss_nil)
      (pss_one (ps_ret (pe_join pe_str (pe_op op_cat (pe_lst (pa_cons (pe_ix ix_tup (pv 0) pe_int (fun _ _ => rfl)) (pa_cons (pe_ix ix_tup (pv 0) pe_int (fun _ _ => rfl)) pa_nil))) (pe_callTy call_list_of (by rfl) tL PyProof.Rows.boot_list (pa_cons (pe_slice sl_tup (pv 0) (po_some pe_int) po_none) pa_nil))))))), ?_⟩
    have gw := good_words g
    cases r with
    | ask p n ws =>
      obtain ⟨t, y, rfl, h1, hy⟩ := line_ask hx
      cases hy with
      | @tup wa zs _ hw ha =>
        refine ⟨_, rfl, t, _, 0, _, rfl, rfl, h1, atI_nat (j := 0) rfl, rfl, _, rfl, ?_⟩
        rw [dec_str]
        refine iteT ?_
        dsimp only [gName, tNext]
        have few : ws.length ≤ 3 := g.2.2.2.1
        have wok := g.2.2.2.2.2
        refine ⟨_, rfl, t, _, 3, _, rfl, rfl, h1, atI_nat (j := 3) rfl, wa, rfl, ⟨_, hw⟩, fun D uD => dat_J (fun _ => true) (fun w => .str (w.1 ++ (" " : Str) ++ w.2)) (.t hw) ha (by omega) uD (fun _ _ => rfl) (fun x w H3 Y N hm hdx s3 y n => ?_) fun H3 acc s3 hD3 hacc => ?_⟩
        · obtain ⟨n1, n2⟩ := wok w hm
          cases hdx with
          | tup ht2 hy =>
            cases hy with
            | cons k1 hy =>
              cases k1
              cases hy with
              | cons k2 hy =>
                cases k2
                cases hy
                refine ⟨_, _, rfl, ht2, rfl, _, _, rfl, _, _, rfl, rfl, ?_⟩
                refine ⟨rfl, ?_⟩
                dsimp only [tYes]
                have l1 := ok4 n1
                have l2 := ok4 n2
                have l0 : (" " : Str).length = 1 := by decide
                refine iteT ⟨_, rfl, _, _, rfl, rfl, Nat.le_trans (show _ ≤ 5 by omega) (by decide), _, rfl, _, _, rfl, rfl, Nat.le_trans (show _ ≤ 9 by rw [app_len]; omega) (by decide), ?_⟩
                exact y rfl _ _ (Same.refl _) (.str _)
        · rw [List.filter_eq_self.mpr (fun _ _ => rfl)] at hacc
          have ea := Lw.dp_strs (zs := ws.map fun w => w.1 ++ (" " : Str) ++ w.2) (by rw [List.map_map]; exact hacc)
          subst ea
          refine ⟨⟨_, rfl⟩, _, rfl, t, _, 1, _, rfl, rfl, same_tup s3 h1, atI_nat (j := 1) rfl, _, rfl, t, _, 2, _, rfl, rfl, same_tup s3 h1, atI_nat (j := 2) rfl, by show 3 ≤ sizeLine; decide, fun l1 u1 => ?_⟩
          have s4 := same_new (o := .lst [.str p, .str "ask", .str n]) u1
          have h4 : (upd H3 l1 (.lst [.str p, .str "ask", .str n])) l1 = some (.lst [.str p, .str "ask", .str n]) := upd_same
          generalize (upd H3 l1 (.lst [.str p, .str "ask", .str n])) = H4 at s4 h4 ⊢
          refine ⟨_, rfl, l1, D, _, _, rfl, rfl, h4, s4 _ _ hD3, ?_, fun p3 u3 => ?_⟩
          · exact Nat.le_trans (show _ ≤ 6 by rw [List.length_map, List.length_map]; simp only [List.length_cons, List.length_nil]; omega) (by decide)
          · have s5 := same_new (o := .lst ([.str p, .str "ask", .str n] ++ (ws.map fun w => w.1 ++ (" " : Str) ++ w.2).map V.str)) u3
            refine ⟨_, p3, p :: "ask" :: n :: ws.map fun w => w.1 ++ (" " : Str) ++ w.2, rfl, rfl, .inl (SqL.of upd_same), ?_, ?_⟩
            · have l9 : ∀ z ∈ (p :: "ask" :: n :: ws.map fun w => w.1 ++ (" " : Str) ++ w.2), z.length ≤ 9 := fun z hz => by
                simp only [List.mem_cons] at hz
                rcases hz with rfl | rfl | rfl | hz
                · have := ok4 g.1
                  omega
                · decide
                · have := ok4 g.2.1
                  omega
                · obtain ⟨w, hm, rfl⟩ := List.mem_map.mp hz
                  obtain ⟨n1, n2⟩ := wok w hm
                  have := ok4 n1
                  have := ok4 n2
                  have l0 : (" " : Str).length = 1 := by decide
                  rw [app_len, app_len]
                  omega
              have h2 := sum_le (n := 9) l9
              have e : (" " : Str).length = 1 := by decide
              have len : (p :: "ask" :: n :: ws.map fun w => w.1 ++ (" " : Str) ++ w.2).length ≤ 6 := by
                simp only [List.length_cons, List.length_map]
                omega
              rw [e]
              omega
            · rw [join_ways]
              exact fin _ (s3.trans (s4.trans s5))
    | note p wd z =>
      obtain ⟨t, rfl, h1⟩ := line_note hx
      refine ⟨_, rfl, t, _, 0, _, rfl, rfl, h1, atI_nat (j := 0) rfl, rfl, _, rfl, ?_⟩
      rw [dec_str]
      refine iteF ⟨_, rfl, t, _, 0, _, rfl, rfl, h1, atI_nat (j := 0) rfl, rfl, _, rfl, ?_⟩
      rw [dec_str]
      refine iteF ⟨⟨_, rfl⟩, _, rfl, t, _, 1, _, rfl, rfl, h1, atI_nat (j := 1) rfl, _, rfl, t, _, 0, _, rfl, rfl, h1, atI_nat (j := 0) rfl, by show 2 ≤ sizeLine; decide, fun l1 u1 => ?_⟩
      have s4 := same_new (o := .lst [.str p, .str "note"]) u1
      have h4 : (upd H l1 (.lst [.str p, .str "note"])) l1 = some (.lst [.str p, .str "note"]) := upd_same
      generalize (upd H l1 (.lst [.str p, .str "note"])) = H4 at s4 h4 ⊢
      refine ⟨_, rfl, _, rfl, t, _, rfl, same_tup s4 h1, (show ¬(HT.sIx 4 0 (some 2) = 0 ∧ HT.sIx 4 4 none = 4) by decide), fun c uc => ?_⟩
      have s5 := same_new (o := .tup (cutV [.str "note", .str p, .str wd, .str z] (some 2) none)) uc
      have hc : (upd H4 c (.tup (cutV [.str "note", .str p, .str wd, .str z] (some 2) none))) c = some (.tup [.str wd, .str z]) := upd_same
      generalize (upd H4 c (.tup (cutV [.str "note", .str p, .str wd, .str z] (some 2) none))) = H5 at s5 hc ⊢
      refine ⟨c, _, rfl, .inr (SqT.of hc), fun l2 u2 => ?_⟩
      have s6 := same_new (o := .lst [.str wd, .str z]) u2
      refine ⟨l1, l2, _, _, rfl, rfl, s6 _ _ (s5 _ _ h4), upd_same, by show 4 ≤ sizeLine; decide, fun p3 u3 => ?_⟩
      have s7 := same_new (o := .lst ([.str p, .str "note"] ++ [.str wd, .str z])) u3
      exact ⟨_, p3, wordsR (.note p wd z), rfl, rfl, .inl (SqL.of upd_same), sum_names gw (by show 4 ≤ 100; decide), fin _ (s4.trans (s5.trans (s6.trans s7)))⟩
    | gate p mk nw el =>
      obtain ⟨t, rfl, h1⟩ := line_gate hx
      refine ⟨_, rfl, t, _, 0, _, rfl, rfl, h1, atI_nat (j := 0) rfl, rfl, _, rfl, ?_⟩
      rw [dec_str]
      refine iteF ⟨_, rfl, t, _, 0, _, rfl, rfl, h1, atI_nat (j := 0) rfl, rfl, _, rfl, ?_⟩
      rw [dec_str]
      refine iteF ⟨⟨_, rfl⟩, _, rfl, t, _, 1, _, rfl, rfl, h1, atI_nat (j := 1) rfl, _, rfl, t, _, 0, _, rfl, rfl, h1, atI_nat (j := 0) rfl, by show 2 ≤ sizeLine; decide, fun l1 u1 => ?_⟩
      have s4 := same_new (o := .lst [.str p, .str "mark"]) u1
      have h4 : (upd H l1 (.lst [.str p, .str "mark"])) l1 = some (.lst [.str p, .str "mark"]) := upd_same
      generalize (upd H l1 (.lst [.str p, .str "mark"])) = H4 at s4 h4 ⊢
      refine ⟨_, rfl, _, rfl, t, _, rfl, same_tup s4 h1, (show ¬(HT.sIx 5 0 (some 2) = 0 ∧ HT.sIx 5 5 none = 5) by decide), fun c uc => ?_⟩
      have s5 := same_new (o := .tup (cutV [.str "mark", .str p, .str mk, .str nw, .str el] (some 2) none)) uc
      have hc : (upd H4 c (.tup (cutV [.str "mark", .str p, .str mk, .str nw, .str el] (some 2) none))) c = some (.tup [.str mk, .str nw, .str el]) := upd_same
      generalize (upd H4 c (.tup (cutV [.str "mark", .str p, .str mk, .str nw, .str el] (some 2) none))) = H5 at s5 hc ⊢
      refine ⟨c, _, rfl, .inr (SqT.of hc), fun l2 u2 => ?_⟩
      have s6 := same_new (o := .lst [.str mk, .str nw, .str el]) u2
      refine ⟨l1, l2, _, _, rfl, rfl, s6 _ _ (s5 _ _ h4), upd_same, by show 5 ≤ sizeLine; decide, fun p3 u3 => ?_⟩
      have s7 := same_new (o := .lst ([.str p, .str "mark"] ++ [.str mk, .str nw, .str el])) u3
      exact ⟨_, p3, wordsR (.gate p mk nw el), rfl, rfl, .inl (SqL.of upd_same), sum_names gw (by show 5 ≤ 100; decide), fin _ (s4.trans (s5.trans (s6.trans s7)))⟩
    | end_ p =>
      obtain ⟨t, rfl, h1⟩ := line_end hx
      refine ⟨_, rfl, t, _, 0, _, rfl, rfl, h1, atI_nat (j := 0) rfl, rfl, _, rfl, ?_⟩
      rw [dec_str]
      refine iteF ⟨_, rfl, t, _, 0, _, rfl, rfl, h1, atI_nat (j := 0) rfl, rfl, _, rfl, ?_⟩
      rw [dec_str]
      have l4 := ok4 (show nameOk p = true from g)
      have le : (" end" : Str).length = 4 := by decide
      refine iteT ⟨_, rfl, t, _, 1, _, rfl, rfl, h1, atI_nat (j := 1) rfl, _, _, rfl, rfl, Nat.le_trans (show _ ≤ 8 by omega) (by decide), ?_⟩
      have e : p ++ (" end" : Str) = textR (.end_ p) := by
        show p ++ (" end" : Str) = Txt.join " " [p, "end"]
        rw [join_two]
        rfl
      rw [e]
      exact fin _ (Same.refl _)
end
end K2

set_option Elab.async false
set_option linter.all false
set_option maxRecDepth 100000
set_option maxHeartbeats 1000000
namespace K2
open PySem L2 Lw TL SxT
/-- an edition made of a told one's text, as the program keeps it -/
def spToldMade (K : PySem.W.Frag) (a : Ad) (b : Ae) : Sp := fun vs H Q _ => ∃ (v : V) (rs : List Row0) (ps : List Str), vs = [v] ∧ Told K H v rs ps ∧ rs ≠ [] ∧ (∀ dz : List Str, dz.Perm ps → wrongF rs (dropsD dz) = none) ∧
  ∀ (H' : Hp) (x dx : Addr) (fs : List (Str × V)) (xs : List V) (dz : List Str), Same H H' → H' x = some (.ins b.cEd dx fs) → EdAt K H' fs xs rs (dropsD dz) → RowsAt K a H' xs rs → dz.Perm ps → PyProof.Rows.sortedS dz = true → Q (.ref x) H'
theorem join_small2 {dz : List Str} (h : ∀ z ∈ dz, nameOk z = true) (few : dz.length ≤ 60) : (("drops" :: dz : List Str).map (·.length)).sum + ("drops" :: dz : List Str).length * (" " : Str).length ≤ 16777216 := by
  have h2 := sum_le (n := 4) (ys := dz) fun z hz => ok4 (h z hz)
  have e : (" " : Str).length = 1 := by decide
  have e2 : ("drops" : Str).length = 5 := by decide
  rw [e, List.map_cons, List.sum_cons, List.length_cons, e2]
  omega
section
variable {P : Program} {w : World} {K : PySem.W.Frag} {mg : Str → Option Value} {base : Heap}
abbrev nToldText : List Str := ["_law_told_here", "_law_lines", "_law_one", "_law_row"]
theorem scToldText : FnScope nToldText ["_law_told_here"] (defScope sToldText) := ⟨rfl, rfl, rfl, by decide +kernel, rfl, by decide +kernel, by decide +kernel⟩
theorem okToldText {f fR : Addr} {fd fdR : FuncData} (F : Fun K "_law_text" "_law_text" sToldText f fd) (OR : FnOk P w K mg base CX0 1 fR fdR ["_law_row"] (spRowText K)) (kR : PySem.W.keepIn K (.ref fR) = true) (gR : mg "_law_row_text" = some (.ref fR)) (bR : Binds K fdR ["_law_row"] [])
    (tS : mg "sorted" = none) (tStr : mg "str" = none) : FnOk P w K mg base CX0 2 f fd ["_law_told_here"] (spToldText K) := by
  refine F.ok scToldText (fun vs H Q E h => ?_) (fun cdv A outer s H vs Q E hr h => ?_)
  · obtain ⟨v, rs, ps, rfl, _⟩ := h
    rfl
  · obtain ⟨v, rs, ps, rfl, hD, fin⟩ := h
    obtain ⟨q, lp, tp, xs, rfl, hq, hl, hx, ht⟩ := hD.ex
    have few := hD.few
    have fewp := hD.fewp
    refine ⟨_, pss_cons (ps_set (i := 1) scToldText.nd rfl (Or.inl rfl) (pe_lst (pa_cons (pe_join pe_str (pe_op op_cat (pe_lst (pa_cons pe_str pa_nil)) (pe_callB cr_sortedA (by rfl) tS PyProof.Rows.boot_sorted (pa_cons (pe_lc (own := [("_law_one", 2)]) (g := gName 2) (tt := tYes) (te := tCB (fun xs H Q => ∃ a, xs = [V.str a] ∧ Q (.str a) H) (tCons (tVar 2) tNil)) (by rfl) scToldText.nd (pi_list (pe_ix ix_tup (pv 0) pe_int (fun _ _ => rfl)))
          (blkOk_by (own := [("_law_one", 2)]) (N := nToldText) (sc := defScope sToldText) (by decide +kernel)) (fun _ _ _ _ _ => pg_name (i := 2) scToldText.nd rfl (Or.inl rfl)) (fun _ _ _ _ _ => pts_nil)
          (fun _ _ _ _ _ => pe_callTy SkE.call_str_str (by rfl) tStr PyProof.Rows.boot_str (pa_cons (pv 2) pa_nil))) pa_nil)))) pa_nil)))
      (pss_one (ps_ret (pe_join pe_str (pe_op op_cat (pv 1) (pe_lc (own := [("_law_row", 3)]) (g := gName 3) (tt := tYes) (te := tCall (spRowText K) [] E0 (tCons (tVar 3) tNil)) (by rfl) scToldText.nd (pi_list (pe_ix ix_tup (pv 0) pe_int (fun _ _ => rfl)))
          (blkOk_by (own := [("_law_row", 3)]) (N := nToldText) (sc := defScope sToldText) (by decide +kernel)) (fun _ _ _ _ _ => pg_name (i := 3) scToldText.nd rfl (Or.inl rfl)) (fun _ _ _ _ _ => pts_nil)
          (fun _ _ _ _ _ => pe_call OR hr rfl gR kR bR .nil pass0 (pa_cons (pv 3) pa_nil))))))), ?_⟩
    dsimp only [gName]
    refine seq_cut (fun σ1 H1 => ∃ (dz : List Str) (L1 : Addr), σ1 = [some (.ref q), some (.ref L1), none, none] ∧ Same H H1 ∧ H1 L1 = some (.lst [.str (Txt.join " " ("drops" :: dz))]) ∧ dz.Perm ps ∧ PyProof.Rows.sortedS dz = true) ?after fun after => ?go
    case go =>
      refine ⟨⟨_, rfl⟩, by show 1 ≤ sizeLine; decide, fun l1 u1 => ?_⟩
      have s1 := same_new (o := .lst [.str "drops"]) u1
      have h1 : (upd H l1 (.lst [.str "drops"])) l1 = some (.lst [.str "drops"]) := upd_same
      generalize (upd H l1 (.lst [.str "drops"])) = H1 at s1 h1 ⊢
      refine ⟨_, rfl, q, _, 1, _, rfl, rfl, same_tup s1 hq, atI_nat (j := 1) rfl, tp, rfl, ⟨_, s1.seq ht⟩, fun D un => dat_J (fun _ => true) PyData.str (.l (s1.seq ht)) (strs_dp ps) (by omega) un (fun _ _ => rfl) (fun x z H2 Y N hm hdx s2 y n => ?_) fun H2 acc s2 hD2 hacc => ?_⟩
      · cases hdx
        refine ⟨rfl, ?_⟩
        dsimp only [tYes]
        exact iteT ⟨_, rfl, z, rfl, y rfl _ _ (Same.refl _) (.str _)⟩
      · rw [List.filter_eq_self.mpr (fun _ _ => rfl)] at hacc
        have ea := Lw.dp_strs hacc
        subst ea
        refine ⟨D, ps, rfl, .inl (SqL.of hD2), by omega, fun dz pz hpz hsz upz => ?_⟩
        have s3 := same_new (o := .lst (dz.map V.str)) upz
        refine ⟨l1, pz, _, _, rfl, rfl, s3 _ _ (s2 _ _ h1), upd_same, ?_, fun p3 u3 => ?_⟩
        · have := hpz.length_eq
          exact Nat.le_trans (show _ ≤ 100 by rw [List.length_map]; simp only [List.length_cons, List.length_nil]; omega) (by decide)
        · have s4 := same_new (o := .lst ([V.str "drops"] ++ dz.map V.str)) u3
          have nz : ∀ z ∈ dz, nameOk z = true := fun z hz => hD.names z (hpz.mem_iff.mp hz)
          refine ⟨_, p3, "drops" :: dz, rfl, rfl, .inl (SqL.of upd_same), join_small2 nz (by have := hpz.length_eq; omega), by show 1 ≤ sizeLine; decide, fun l5 u5 => ?_⟩
          have s5 := same_new (o := .lst [.str (Txt.join " " ("drops" :: dz))]) u5
          exact after _ _ ⟨dz, l5, rfl, s1.trans (s2.trans (s3.trans (s4.trans s5))), upd_same, hpz, hsz⟩
    case after =>
      rintro _ H1 ⟨dz, L1, rfl, s1, hL1, hpz, hsz⟩
      have nz : ∀ z ∈ dz, nameOk z = true := fun z hz => hD.names z (hpz.mem_iff.mp hz)
      refine ⟨⟨_, rfl⟩, _, rfl, _, rfl, q, _, 0, _, rfl, rfl, same_tup s1 hq, atI_nat (j := 0) rfl, lp, rfl, ⟨_, s1.seq hl⟩, fun D un => dat_J (fun _ => true) (fun r => .str (textR r)) (.l (s1.seq hl)) (dpAll_same s1 _ _ hx) (by omega) un (fun _ _ => rfl) (fun x r H2 Y N hm hdx s2 y n => ?_) fun H4 acc s4 hD4 hacc => ?_⟩
      · refine ⟨rfl, ?_⟩
        dsimp only [tYes]
        exact iteT ⟨_, rfl, x, r, rfl, hdx, hD.good r hm, fun H' s' => y rfl _ _ s' (.str _)⟩
      · rw [List.filter_eq_self.mpr (fun _ _ => rfl)] at hacc
        have ea := Lw.dp_strs (zs := rs.map textR) (by rw [List.map_map]; exact hacc)
        subst ea
        refine ⟨L1, D, _, _, rfl, rfl, s4 _ _ hL1, hD4, ?_, fun p3 u3 => ?_⟩
        · exact Nat.le_trans (show _ ≤ 100 by rw [List.length_map, List.length_map]; simp only [List.length_cons, List.length_nil]; omega) (by decide)
        · have s5 := same_new (o := .lst ([V.str (Txt.join " " ("drops" :: dz))] ++ (rs.map textR).map V.str)) u3
          have z := fin _ dz (s1.trans (s4.trans s5)) hpz hsz
          refine ⟨_, p3, Txt.join " " ("drops" :: dz) :: rs.map textR, rfl, rfl, .inl (SqL.of upd_same), ?_, z⟩
          have h0 := head_len nz (by have := hpz.length_eq; omega)
          have h2 := sum_le (n := 100) (ys := rs.map textR) fun z hz => by
            obtain ⟨r, hr, rfl⟩ := List.mem_map.mp hz
            exact textR_len (hD.good r hr)
          rw [List.length_map] at h2
          have e : ("\n" : Str).length = 1 := by decide
          rw [e, List.map_cons, List.sum_cons, List.length_cons, List.length_map]
          exact Nat.le_trans (show _ ≤ 10000 by omega) (by decide)
theorem scToldMade : FnScope ["_law_told_here"] ["_law_told_here"] (defScope sToldMade) := ⟨rfl, rfl, rfl, by decide +kernel, rfl, by decide +kernel, by decide +kernel⟩
theorem okToldMade {a : Ad} {b : Ae} {f fT fE : Addr} {fd fdT dE : FuncData} {pE : Addr} (F : Fun K "_law_made" "_law_made" sToldMade f fd) (OT : FnOk P w K mg base CX0 2 fT fdT ["_law_told_here"] (spToldText K)) (kT : PySem.W.keepIn K (.ref fT) = true) (gT : mg "_law_text" = some (.ref fT)) (bT : Binds K fdT ["_law_told_here"] [])
    (gE : mg "Edition" = some (.ref b.cEd)) (rE : ClX.CRead K b.cEd (.type "type")) (mE : ClX.CMet K b.cEd (.type "type") "read" pE fE) (OE : FnOk P w K mg base (L2.CX P w) 10 fE dE ["cls", "text"] (spEdRead K a b)) (bE : Binds K dE ["cls", "text"] []) :
    FnOk P w K mg base CX0 11 f fd ["_law_told_here"] (spToldMade K a b) := by
  refine F.ok scToldMade (fun vs H Q E h => ?_) (fun cdv A outer s H vs Q E' hr h => ?_)
  · obtain ⟨v, rs, ps, rfl, _⟩ := h
    rfl
  · obtain ⟨v, rs, ps, rfl, hD, ne, right, fin⟩ := h
    refine ⟨_, pss_one (ps_ret (ClX.pe_cmeth (E := E0) (pe_glob (v := .ref b.cEd) (by rfl) gE rfl) rE mE (OE.raw bE .nil) hr passL (pa_cons (pe_call OT (hr.mono (by decide)) rfl gT kT bT .nil pass0 (pa_cons (pv 0) pa_nil)) pa_nil))), ?_⟩
    refine ⟨rfl, _, rfl, v, rs, ps, rfl, hD, fun H1 dz s1 pz sz => ?_⟩
    have nz : ∀ z ∈ dz, nameOk z = true := fun z hz => hD.names z (pz.mem_iff.mp hz)
    refine ⟨dz, rs, rfl, nz, by have := pz.length_eq; have := hD.fewp; omega, ne, hD.good, by have := hD.few; omega, fun _ H' x dx fs xs s2 ux hx hE hR => fin _ x dx fs xs dz (s1.trans s2) hx hE hR pz sz, fun z ez => ?_⟩
    rw [right dz pz] at ez
    cases ez
end
end K2

set_option Elab.async false
set_option linter.all false
set_option maxRecDepth 100000
set_option maxHeartbeats 1000000
namespace K2
open PySem L2 Lw TL SxT
def spOnw (K : PySem.W.Frag) : Sp := fun vs H Q _ => ∃ (G : Hp) (d l S : Addr) (zs : List Str) (i : Nat), vs = [.ref d, .ref S, .int (i : Nat)] ∧ Deal G H d l ∧ SqL K G S (zs.map V.str) ∧ i + 1 < zs.length ∧ zs.length ≤ 20 ∧ ∀ H' z, Deal G H' d l → z ∈ zs.drop (i + 1) → Q (.str z) H'
/-- marks of drawn gates -/
structure Mk3 (rs : List Row0) : Prop where
  ok : ∀ p m n e, Row0.gate p m n e ∈ rs → m ∈ (["m", "n", "k"] : List Str)
def spToldDrawn (K : PySem.W.Frag) : Sp := fun vs H Q _ => ∃ (G : Hp) (d l : Addr) (many : Nat), vs = [.ref d, .int (many : Nat)] ∧ Deal G H d l ∧ 2 ≤ many ∧ many ≤ 8 ∧
  ∀ (G' H' : Hp) (v : V) (rs : List Row0), Same G G' → Deal G' H' d l → ToldN K G G' v rs [] → Gs rs → Mk3 rs → rs.length ≤ 8 → Q v H'
abbrev eight : List Str := ["a", "b", "c", "d", "e", "f", "g", "h"]
theorem eight_names : ∀ z ∈ eight, nameOk z = true := by decide +kernel
theorem k3_names : ∀ z ∈ (["m", "n", "k"] : List Str), nameOk z = true := by decide +kernel
theorem uv_names : ∀ z ∈ (["u", "v"] : List Str), nameOk z = true := by decide +kernel
theorem xyz_names : ∀ z ∈ (["x", "y", "z", "x", "y", "m"] : List Str), nameOk z = true := by decide +kernel
theorem mnk_in : ∀ z ∈ (["m", "n", "m", "n", "k"] : List Str), z ∈ (["m", "n", "k"] : List Str) := by decide +kernel
/-- the row at the j-th of these places -/
structure RowIx (zs : List Str) (j : Nat) (r : Row0) : Prop where
  at_ : zs[j]? = some (placeR r)
  to : ∀ z ∈ leadsR r, z ∈ zs
  on : onB r = true → ∀ z ∈ leadsR r, z ∈ zs.drop (j + 1)
  good : RowGood r
  mark : ∀ p m n e, r = .gate p m n e → m ∈ (["m", "n", "k"] : List Str)
theorem RowIx.note {zs : List Str} {j : Nat} {z w og : Str} (at_ : zs[j]? = some z) (m : og ∈ zs.drop (j + 1)) (nz : nameOk z = true) (nw : nameOk w = true) (no : nameOk og = true) : RowIx zs j (.note z w og) := by
  refine ⟨at_, fun y hy => ?_, fun _ y hy => ?_, ⟨nz, nw, no⟩, fun p m n e h => by cases h⟩
  · rw [show y = og by simpa [leadsR] using hy]
    exact List.mem_of_mem_drop m
  · rw [show y = og by simpa [leadsR] using hy]
    exact m
theorem RowIx.gate {zs : List Str} {j : Nat} {z k a b : Str} (at_ : zs[j]? = some z) (ma : a ∈ zs.drop (j + 1)) (mb : b ∈ zs.drop (j + 1)) (nz : nameOk z = true) (hk : k ∈ (["m", "n", "k"] : List Str)) (na : nameOk a = true) (nb : nameOk b = true) : RowIx zs j (.gate z k a b) := by
  have q : ∀ y ∈ leadsR (.gate z k a b), y ∈ zs.drop (j + 1) := fun y hy => by
    have : y = a ∨ y = b := by simpa [leadsR] using hy
    rcases this with rfl | rfl
    · exact ma
    · exact mb
  exact ⟨at_, fun y hy => List.mem_of_mem_drop (q y hy), fun _ => q, ⟨nz, k3_names k hk, na, nb⟩, fun p m n e h => by cases h; exact hk⟩
theorem RowIx.ask {zs : List Str} {j : Nat} {z n : Str} {ws : List (Str × Str)} (at_ : zs[j]? = some z) (nm : ∀ z ∈ zs, nameOk z = true) (nn : nameOk n = true) (ne : ws ≠ []) (sub : (ws.map (·.1)).Sublist (["yes", "no", "x"] : List Str)) (to : ∀ w ∈ ws, w.2 ∈ zs) : RowIx zs j (.ask z n ws) := by
  refine ⟨at_, fun y hy => ?_, fun h => (by cases h), ⟨nm z (List.mem_of_getElem? at_), nn, ne, ?_, sub.nodup (by decide +kernel), fun w hw => ⟨?_, nm _ (to w hw)⟩⟩, fun p m n e h => by cases h⟩
  · obtain ⟨w, hw, rfl⟩ : ∃ w ∈ ws, w.2 = y := by simpa [leadsR] using hy
    exact to w hw
  · have := sub.length_le
    simpa using this
  · have h : w.1 ∈ (["yes", "no", "x"] : List Str) := sub.subset (List.mem_map_of_mem hw)
    exact (show ∀ z ∈ (["yes", "no", "x"] : List Str), nameOk z = true by decide +kernel) _ h
theorem RowIx.end_ {zs : List Str} {j : Nat} {z : Str} (at_ : zs[j]? = some z) (nz : nameOk z = true) : RowIx zs j (.end_ z) :=
  ⟨at_, fun y hy => (by simp [leadsR] at hy), fun h => (by cases h), nz, fun p m n e h => by cases h⟩
theorem rows_ix {zs : List Str} {rs : List Row0} (nd : zs.Nodup) (ne : zs ≠ []) (len : rs.length = zs.length) (h : ∀ j r, rs[j]? = some r → RowIx zs j r) : Gs rs ∧ Mk3 rs := by
  have places : rs.map placeR = zs := by
    refine List.ext_getElem? fun j => ?_
    rw [List.getElem?_map]
    cases e : rs[j]? with
    | none =>
      rw [List.getElem?_eq_none_iff] at e
      exact (List.getElem?_eq_none_iff.mpr (by omega)).symm
    | some r => exact (h j r e).at_.symm
  refine ⟨⟨⟨rs, ⟨places ▸ nd, fun j r hj => ?_⟩, List.Perm.refl _⟩, fun e => ?_, fun r hr => ?_⟩, ⟨fun p m n e hr => ?_⟩⟩
  · rw [places]
    have q := h j r hj
    exact ⟨q.at_, q.to, q.on⟩
  · rw [e] at len
    exact ne (List.eq_nil_of_length_eq_zero len.symm)
  · obtain ⟨j, hj⟩ := List.getElem?_of_mem hr
    exact (h j r hj).good
  · obtain ⟨j, hj⟩ := List.getElem?_of_mem hr
    exact (h j _ hj).mark _ _ _ _ rfl
theorem atI_last2 {xs : List V} {v : V} (h : xs.getLast? = some v) : atI xs (-1) = some v := by
  cases xs with
  | nil => cases h
  | cons x xs =>
    unfold atI ixN
    rw [if_neg (by decide), if_pos (by simp only [List.length_cons]; omega)]
    rw [List.getLast?_eq_getElem?] at h
    rw [Option.bind_some]
    have e : ((-1 : Int) + ((x :: xs).length : Nat)).toNat = (x :: xs).length - 1 := by
      rw [List.length_cons]; omega
    rw [e]
    exact h
section
variable {P : Program} {w : World} {K : PySem.W.Frag} {mg : Str → Option Value} {base : Heap}
abbrev nOnw : List Str := ["_law_deal_here", "_law_spots", "_law_at", "_law_far"]
theorem scOnw : FnScope nOnw ["_law_deal_here", "_law_spots", "_law_at"] (defScope sOnw) := ⟨rfl, rfl, rfl, by decide +kernel, rfl, by decide +kernel, by decide +kernel⟩
theorem okOnw {f fD : Addr} {fd fdD : FuncData} (F : Fun K "_law_onward" "_law_onward" sOnw f fd) (GD : FnOk P w K mg base CX0 1 fD fdD ["_law_deal_here", "_law_many"] spDraw) (kD : PySem.W.keepIn K (.ref fD) = true) (gD : mg "_law_draw" = some (.ref fD)) (bD : Binds K fdD ["_law_deal_here", "_law_many"] [])
    (tI : mg "int" = none) (tLen : mg "len" = none) (tMin : mg "min" = none) : FnOk P w K mg base CX0 2 f fd ["_law_deal_here", "_law_spots", "_law_at"] (spOnw K) := by
  refine F.ok scOnw (fun vs H Q E h => ?_) (fun cdv A outer s H vs Q E hr h => ?_)
  · obtain ⟨G, d, l, S, zs, i, rfl, _⟩ := h
    rfl
  · obtain ⟨G, d, l, S, zs, i, rfl, D, hS, lt, few, fin⟩ := h
    refine ⟨_, pss_cons (ps_set (i := 3) scOnw.nd rfl (Or.inl rfl) (pe_callB (call_min2 rfl) (by rfl) tMin (by decide +kernel) (pa_cons pe_int (pa_cons (pe_callTy call_int1 (by rfl) tI PyProof.Rows.boot_int (pa_cons (pe_op op_sub (pe_op op_sub (pe_callB call_len_seq (by rfl) tLen PySem.boot_len (pa_cons (pv 1) pa_nil)) pe_int) (pv 2)) pa_nil)) pa_nil))))
      (pss_one (ps_ret (pe_ix ix_list (pv 1) (pe_op op_add (pe_op op_add (pv 2) pe_int) (pe_ifExp (pt_cmpR op_gt (pe_call GD hr rfl gD kD bD .nil pass0 (pa_cons (pv 0) (pa_cons pe_int pa_nil))) pe_int (nomark _)) pe_int (pe_call GD hr rfl gD kD bD .nil pass0 (pa_cons (pv 0) (pa_cons (pv 3) pa_nil))))) (fun _ _ => rfl)))), ?_⟩
    have hSH := D.same.seq hS
    have zl : ((zs.map V.str).length : Int) = (zs.length : Nat) := by rw [List.length_map]
    have last : ∀ (H' : Hp) (k : Int), Deal G H' d l → 0 ≤ k → k < (zs.length : Int) - 1 - (i : Nat) → ∃ (a : Addr) (ys : List V) (j : Int) (x : V), V.ref S = .ref a ∧ V.int ((i : Nat) + 1 + k) = .int j ∧ SqL K H' a ys ∧ atI ys j = some x ∧ Q x H' := fun H' k D' k0 k1 => by
      obtain ⟨n, rfl⟩ : ∃ n : Nat, k = (n : Nat) := ⟨k.toNat, by omega⟩
      have lt2 : i + 1 + n < zs.length := by omega
      refine ⟨S, _, _, .str zs[i + 1 + n], rfl, rfl, D'.same.seq hS, ?_, fin _ _ D' ?_⟩
      · have e : (((i : Nat) : Int) + 1 + ((n : Nat) : Int)) = ((i + 1 + n : Nat) : Int) := by omega
        rw [e]
        exact atI_nat (by rw [List.getElem?_map, List.getElem?_eq_getElem lt2]; rfl)
      · refine List.mem_of_getElem? (i := n) ?_
        rw [List.getElem?_drop, List.getElem?_eq_getElem lt2]
    refine ⟨_, rfl, S, _, rfl, .inl hSH, _, _, rfl, rfl, _, rfl, _, _, rfl, rfl, ?_⟩
    rw [zl]
    refine .inl ⟨_, rfl, _, _, rfl, ?_⟩
    generalize hfar : (if ((zs.length : Nat) : Int) - 1 - ((i : Nat) : Int) < 3 then ((zs.length : Nat) : Int) - 1 - ((i : Nat) : Int) else 3) = far
    have f1 : 1 ≤ far ∧ far ≤ ((zs.length : Nat) : Int) - 1 - ((i : Nat) : Int) ∧ far ≤ 3 := by
      rw [← hfar]
      split <;> omega
    dsimp only [gName, tNext]
    refine ⟨_, rfl, _, rfl, _, _, rfl, rfl, _, rfl, G, d, l, 3, rfl, D, by decide, by decide, fun H1 r D1 r0 r1 => ⟨_, _, rfl, rfl, _, rfl, ?_⟩⟩
    refine ite2 (fun _ => ?_) fun _ => ?_
    · exact ⟨_, _, rfl, rfl, last H1 0 D1 (by decide) (by omega)⟩
    · exact ⟨_, rfl, _, rfl, G, d, l, far, rfl, D1, by omega, by omega, fun H2 r' D2 q0 q1 => ⟨_, _, rfl, rfl, last H2 r' D2 q0 (by omega)⟩⟩
abbrev nTDrawn : List Str := ["_law_deal_here", "_law_many", "_law_spots", "_law_found", "_law_at", "_law_spot", "_law_form", "_law_onward_here", "_law_mark", "_law_ways"]
theorem scTDrawn : FnScope nTDrawn ["_law_deal_here", "_law_many"] (defScope sToldDrawn) := ⟨rfl, rfl, rfl, by decide +kernel, rfl, by decide +kernel, by decide +kernel⟩
theorem okToldDrawn {f fP fD fO : Addr} {fd fdP fdD fdO : FuncData} (F : Fun K "_law_drawn" "_law_drawn" sToldDrawn f fd) (GP : FnOk P w K mg base CX0 2 fP fdP ["_law_deal_here", "_law_some"] (spPick K)) (kP : PySem.W.keepIn K (.ref fP) = true) (gP : mg "_law_pick" = some (.ref fP)) (bP : Binds K fdP ["_law_deal_here", "_law_some"] [])
    (GD : FnOk P w K mg base CX0 1 fD fdD ["_law_deal_here", "_law_many"] spDraw) (kD : PySem.W.keepIn K (.ref fD) = true) (gD : mg "_law_draw" = some (.ref fD)) (bD : Binds K fdD ["_law_deal_here", "_law_many"] [])
    (GO : FnOk P w K mg base CX0 2 fO fdO ["_law_deal_here", "_law_spots", "_law_at"] (spOnw K)) (kO : PySem.W.keepIn K (.ref fO) = true) (gO : mg "_law_onward" = some (.ref fO)) (bO : Binds K fdO ["_law_deal_here", "_law_spots", "_law_at"] []) (tT : mg "tuple" = none) (tE : mg "enumerate" = none) :
    FnOk P w K mg base CX0 3 f fd ["_law_deal_here", "_law_many"] (spToldDrawn K) := by
  refine F.ok scTDrawn (fun vs H Q E h => ?_) (fun cdv A outer s H vs Q E hr h => ?_)
  · obtain ⟨G, d, l, many, rfl, _⟩ := h
    rfl
  · obtain ⟨G, d, l, many, rfl, D0, m2, m8, fin⟩ := h
    have hr1 : Room 1 _ := hr.mono (by decide)
    refine ⟨_, pss_cons (ps_par (i := 2) (j := 3) (by rfl) scTDrawn.nd rfl rfl (by decide) rfl rfl (pa_cons (pe_slice sl_list (pe_lst (pa_cons pe_str (pa_cons pe_str (pa_cons pe_str (pa_cons pe_str (pa_cons pe_str (pa_cons pe_str (pa_cons pe_str (pa_cons pe_str pa_nil))))))))) po_none (po_some (pv 1))) (pa_cons (pe_lst pa_nil) pa_nil)) (by rfl))
      (pss_cons (ps_for PassesOwn.never rfl (pi_enum (by rfl) tE (pa_cons (pe_slice sl_list (pv 2) po_none (po_some (pe_un un_neg pe_int))) pa_nil)) (pg_tup rfl (pgs_cons (pg_name (i := 4) scTDrawn.nd rfl (Or.inl rfl)) (pgs_cons (pg_name (i := 5) scTDrawn.nd rfl (Or.inl rfl)) pgs_nil)))
        (pss_cons (ps_par (i := 6) (j := 7) (by rfl) scTDrawn.nd rfl rfl (by decide) rfl rfl (pa_cons (pe_call GD hr1 rfl gD kD bD .nil pass0 (pa_cons (pv 0) (pa_cons pe_int pa_nil))) (pa_cons (pe_call GO hr rfl gO kO bO .nil pass0 (pa_cons (pv 0) (pa_cons (pv 2) (pa_cons (pv 4) pa_nil)))) pa_nil)) (by rfl))
        (pss_one (ps_if (pt_cmpR op_eq (pv 6) pe_int (nomark _))
          (pss_one (ps_expr (pe_bm PySem.F.plainAttrs_list PySem.F.slot_list_append PySem.F.type_list_append mt_append (pv 3) (pa_cons (pe_tup (pa_cons pe_str (pa_cons (pv 5) (pa_cons (pe_call GP hr rfl gP kP bP .nil pass0 (pa_cons (pv 0) (pa_cons (pe_lst (pa_cons pe_str (pa_cons pe_str pa_nil))) pa_nil))) (pa_cons (pv 7) pa_nil))))) pa_nil))))
          (pss_one (ps_if (pt_cmpR op_eq (pv 6) pe_int (nomark _))
            (pss_cons (ps_set (i := 8) scTDrawn.nd rfl (Or.inl rfl) (pe_call GP hr rfl gP kP bP .nil pass0 (pa_cons (pv 0) (pa_cons (pe_lst (pa_cons pe_str (pa_cons pe_str (pa_cons pe_str (pa_cons pe_str (pa_cons pe_str pa_nil)))))) pa_nil))))
            (pss_one (ps_expr (pe_bm PySem.F.plainAttrs_list PySem.F.slot_list_append PySem.F.type_list_append mt_append (pv 3) (pa_cons (pe_tup (pa_cons pe_str (pa_cons (pv 5) (pa_cons (pv 8) (pa_cons (pv 7) (pa_cons (pe_call GO hr rfl gO kO bO .nil pass0 (pa_cons (pv 0) (pa_cons (pv 2) (pa_cons (pv 4) pa_nil)))) pa_nil)))))) pa_nil)))))
            (pss_cons (ps_set (i := 9) scTDrawn.nd rfl (Or.inl rfl) (pe_op op_cat (pe_lst (pa_cons (pe_tup (pa_cons pe_str (pa_cons (pv 7) pa_nil))) pa_nil)) (pe_ifExp (pt_cmpR op_lt (pv 6) pe_int (nomark _)) (pe_lst (pa_cons (pe_tup (pa_cons pe_str (pa_cons (pe_call GP hr rfl gP kP bP .nil pass0 (pa_cons (pv 0) (pa_cons (pv 2) pa_nil))) pa_nil))) pa_nil)) (pe_lst pa_nil))))
            (pss_cons (ps_set (i := 9) scTDrawn.nd rfl (Or.inl rfl) (pe_op op_cat (pv 9) (pe_ifExp (pt_cmpR op_eq (pv 6) pe_int (nomark _)) (pe_lst (pa_cons (pe_tup (pa_cons pe_str (pa_cons (pe_call GP hr rfl gP kP bP .nil pass0 (pa_cons (pv 0) (pa_cons (pv 2) pa_nil))) pa_nil))) pa_nil)) (pe_lst pa_nil))))
            (pss_one (ps_expr (pe_bm PySem.F.plainAttrs_list PySem.F.slot_list_append PySem.F.type_list_append mt_append (pv 3) (pa_cons (pe_tup (pa_cons pe_str (pa_cons (pv 5) (pa_cons (pe_call GP hr rfl gP kP bP .nil pass0 (pa_cons (pv 0) (pa_cons (pe_lst (pa_cons pe_str (pa_cons pe_str (pa_cons pe_str (pa_cons pe_str (pa_cons pe_str (pa_cons pe_str pa_nil))))))) pa_nil))) (pa_cons (pe_callTy call_tuple_of (by rfl) tT PyProof.Rows.boot_tuple (pa_cons (pv 9) pa_nil)) pa_nil))))) pa_nil))))))))))))
      (pss_one (ps_ret (pe_tup (pa_cons (pe_op op_cat (pv 3) (pe_lst (pa_cons (pe_tup (pa_cons pe_str (pa_cons (pe_ix ix_list (pv 2) (pe_un un_neg pe_int) (fun _ _ => rfl)) pa_nil))) pa_nil))) (pa_cons (pe_lst pa_nil) pa_nil)))))), ?_⟩
    have zs_nd : (eight.take many).Nodup := (List.take_sublist _ _).nodup (by decide +kernel)
    have zs_len : (eight.take many).length = many := by
      rw [List.length_take]
      exact Nat.min_eq_left m8
    have zs_nm : ∀ z ∈ eight.take many, nameOk z = true := fun z hz => eight_names z (List.mem_of_mem_take hz)
    generalize hzs : eight.take many = zs at zs_nd zs_len zs_nm
    dsimp only [gName, tNext]
    refine seq_cut (fun σ1 H1 => ∃ (S Fd : Addr) (G1 : Hp), σ1 = [some (.ref d), some (.int (many : Nat)), some (.ref S), some (.ref Fd), none, none, none, none, none, none] ∧ Same G (hide Fd G1) ∧ Deal G1 H1 d l ∧ G1 Fd = some (.lst []) ∧ S ≠ Fd ∧ G1 S = some (.lst (zs.map V.str))) ?after1 fun after => ?go1
    case go1 =>
      refine ⟨by show 8 ≤ sizeLine; decide, fun l1 u1 => ?_⟩
      obtain ⟨G2, H2, e2, D2, h2, k2, s2⟩ := D0.lay u1 (.lst (eight.map V.str))
      rw [show upd H l1 (.lst [V.str "a", V.str "b", V.str "c", V.str "d", V.str "e", V.str "f", V.str "g", V.str "h"]) = H2 from e2.symm]
      refine ⟨_, rfl, _, rfl, l1, _, rfl, SqL.of (D2.same _ _ h2), fun c uc => ?_⟩
      rw [cut_upto, hzs]
      obtain ⟨G3, H3, e3, D3, h3, k3, s3⟩ := D2.lay uc (.lst (zs.map V.str))
      rw [← e3]
      refine ⟨by show 0 ≤ sizeLine; decide, fun Fd uF => ?_⟩
      obtain ⟨G4, H4, e4, D4, h4, k4, s4⟩ := D3.lay uF (.lst [])
      rw [← e4]
      have gF : G3 Fd = none := D3.same.free uF
      refine ⟨_, _, rfl, after _ _ ⟨c, Fd, G4, rfl, fun b o e => ?_, D4, h4, ne_of_none h3 gF, k4 _ _ h3⟩⟩
      have e' := (k2.trans k3) _ _ e
      rw [hide_ne (ne_of_none e' gF)]
      exact k4 _ _ e'
    case after1 =>
      rintro _ H1 ⟨S, Fd, G1, rfl, k1, D1, hF, nSF, hS⟩
      refine seq_cut (fun σ1 H2 => ∃ (G2 : Hp) (acc : List V) (rs : List Row0) (v4 v5 v6 v7 v8 v9 : Option V), σ1 = [some (.ref d), some (.int (many : Nat)), some (.ref S), some (.ref Fd), v4, v5, v6, v7, v8, v9] ∧ Same G G2 ∧ Deal G2 H2 d l ∧ G2 S = some (.lst (zs.map V.str)) ∧ G2 Fd = some (.lst acc) ∧ DpAll K G2 acc (rs.map lineD) ∧ rs.length + 1 = zs.length ∧ ∀ j r, rs[j]? = some r → RowIx zs j r) ?after2 fun after => ?go2
      case go2 =>
        refine ⟨_, rfl, _, rfl, _, rfl, S, _, rfl, SqL.of (D1.same _ _ hS), fun c uc => ?_⟩
        have ec : cutV (zs.map V.str) none (some (-1)) = (zs.take (zs.length - 1)).map V.str := cut_init zs
        obtain ⟨G3, H3, e3, D3, h3, k3, s3⟩ := D1.lay uc (.lst ((zs.take (zs.length - 1)).map V.str))
        have e3' : upd H1 c (.lst (cutV (zs.map V.str) none (some (-1)))) = H3 := by rw [ec]; exact e3.symm
        have nFd : (hide Fd G3) Fd = none := hide_same
        have nS3 : S ≠ Fd := nSF
        have nc3 : c ≠ Fd := fun e => by rw [e, D1.same _ _ hF] at uc; cases uc
        have G0S : (hide Fd G3) S = some (.lst (zs.map V.str)) := by rw [hide_ne nS3]; exact k3 _ _ hS
        have G0c : (hide Fd G3) c = some (.lst ((zs.take (zs.length - 1)).map V.str)) := by rw [hide_ne nc3]; exact h3
        have kG : Same G (hide Fd G3) := fun b o e => by
          have h := k1 b o e
          have nb : b ≠ Fd := fun z => by rw [z, hide_same] at h; cases h
          rw [hide_ne nb] at h ⊢
          exact k3 _ _ h
        have kH : Same (hide Fd G3) G3 := fun b o e => by
          have nb : b ≠ Fd := fun z => by rw [z, hide_same] at e; cases e
          rw [hide_ne nb] at e
          exact e
        generalize hide Fd G3 = G0 at nFd G0S G0c kG kH
        have tl : (zs.take (zs.length - 1)).length = zs.length - 1 := by
          rw [List.length_take]
          omega
        refine ⟨c, _, rfl, SqL.of (show (upd H1 c (.lst (cutV (zs.map V.str) none (some (-1))))) c = some (.lst ((zs.take (zs.length - 1)).map V.str)) by rw [ec]; exact upd_same), ?_⟩
        rw [show upd H1 c (.lst (cutV (zs.map V.str) none (some (-1)))) = H3 from e3']
        refine for_enumL (K := K) (a := c) (xs := (zs.take (zs.length - 1)).map V.str) (fun j σ1 H4 => ∃ (G4 : Hp) (acc : List V) (rs : List Row0) (v4 v5 v6 v7 v8 v9 : Option V), σ1 = [some (.ref d), some (.int (many : Nat)), some (.ref S), some (.ref Fd), v4, v5, v6, v7, v8, v9] ∧ Same G0 G4 ∧ Deal G4 H4 d l ∧ G4 Fd = some (.lst acc) ∧ DpAll K G4 acc (rs.map lineD) ∧ rs.length = j ∧ ∀ j r, rs[j]? = some r → RowIx zs j r)
          ⟨G3, [], [], _, _, _, _, _, _, rfl, kH, D3, k3 _ _ hF, .nil, rfl, fun j r h => by simp at h⟩ (fun j σ1 H4 ⟨G4, _, _, _, _, _, _, _, _, _, k, D4, _⟩ => SqL.of (D4.same _ _ (k _ _ G0c))) ?_ ?_
        · rintro j x σ1 H4 T hx ⟨G4, acc, rs, v4, v5, v6, v7, v8, v9, rfl, k4, D4, hF4, hacc, rl, hix⟩ uT
          rw [List.getElem?_map] at hx
          obtain ⟨z, hz, rfl⟩ := Option.map_eq_some_iff.mp hx
          have jl : j < zs.length - 1 := by rw [← tl]; exact (List.getElem?_eq_some_iff.mp hz).1
          have hz' : zs[j]? = some z := by rw [List.getElem?_take_of_lt (by omega)] at hz; exact hz
          have nz := zs_nm z (List.mem_of_getElem? hz')
          have D5 := D4.on (same_new (o := .tup [.int (j : Nat), .str z]) uT)
          have hT : (upd H4 T (.tup [.int (j : Nat), .str z])) T = some (.tup [.int (j : Nat), .str z]) := upd_same
          generalize (upd H4 T (.tup [.int (j : Nat), .str z])) = H5 at D5 hT ⊢
          have S4 := k4 _ _ G0S
          refine ⟨T, _, rfl, SqT.of hT, rfl, _, _, rfl, _, _, rfl, rfl, ?_⟩
          have al : acc.length = rs.length := by rw [dpAll_len hacc, List.length_map]
          have step : ∀ {G6 H6 : Hp} {x : V} {r : Row0} {v4 v5 v6 v7 v8 v9 : Option V}, Same G4 G6 → Deal G6 H6 d l → Dp K G6 x (lineD r) → RowIx zs j r →
              ∃ l' xs' y', V.ref Fd = V.ref l' ∧ [x] = [y'] ∧ H6 l' = some (.lst xs') ∧ xs'.length < sizeLine ∧
                ∃ (G4 : Hp) (acc : List V) (rs : List Row0) (w4 w5 w6 w7 w8 w9 : Option V), ([some (.ref d), some (.int (many : Nat)), some (.ref S), some (.ref Fd), v4, v5, v6, v7, v8, v9] : L2.St) = [some (.ref d), some (.int (many : Nat)), some (.ref S), some (.ref Fd), w4, w5, w6, w7, w8, w9] ∧ Same G0 G4 ∧ Deal G4 (upd H6 l' (.lst (xs' ++ [y']))) d l ∧ G4 Fd = some (.lst acc) ∧ DpAll K G4 acc (rs.map lineD) ∧ rs.length = j + 1 ∧ ∀ j r, rs[j]? = some r → RowIx zs j r := fun {G6 H6 x r v4 v5 v6 v7 v8 v9} s6 D6 hx6 ix => by
            have hF6 := s6 _ _ hF4
            refine ⟨Fd, acc, x, rfl, rfl, D6.same _ _ hF6, Nat.lt_of_le_of_lt (show _ ≤ 100 by omega) (by decide), upd G6 Fd (.lst (acc ++ [x])), acc ++ [x], rs ++ [r], v4, v5, v6, v7, v8, v9, rfl, same_edit (k4.trans s6) nFd, D6.edit hF6, upd_same, ?_, by rw [List.length_append, List.length_singleton, rl], fun i y hi => ?_⟩
            · rw [List.map_append]
              exact dpAll_app (dpAll_same (hard_upd hF6) _ _ (dpAll_hard _ _ (noLs_of fun r _ => line_noL r) (dpAll_same s6 _ _ hacc))) (.cons (dp_same (hard_upd hF6) _ _ (dp_hard _ _ (line_noL r) hx6)) .nil)
            · rcases Nat.lt_or_ge i rs.length with lt | ge
              · rw [List.getElem?_append_left lt] at hi
                exact hix i y hi
              · rw [List.getElem?_append_right ge] at hi
                have e0 : i - rs.length = 0 := by
                  have := (List.getElem?_eq_some_iff.mp hi).1
                  simp at this
                  omega
                rw [e0] at hi
                have : r = y := by simpa using hi
                subst this
                have : i = j := by omega
                subst this
                exact ix
          dsimp only [gName, tNext]
          refine seq_cut (fun σ1 H6 => ∃ (f : Int) (og : Str), σ1 = [some (.ref d), some (.int (many : Nat)), some (.ref S), some (.ref Fd), some (.int (j : Nat)), some (.str z), some (.int f), some (.str og), v8, v9] ∧ Deal G4 H6 d l ∧ og ∈ zs.drop (j + 1)) ?afterA fun after => ?goA
          case goA =>
            refine ⟨_, rfl, G4, d, l, 8, rfl, D5, by decide, by decide, fun H6 f D6 f0 f1 => ?_⟩
            refine ⟨_, rfl, _, rfl, _, rfl, G4, d, l, S, zs, j, rfl, D6, SqL.of S4, by omega, by omega, fun H7 og D7 hog => ⟨_, _, rfl, after _ _ ⟨f, og, rfl, D7, hog⟩⟩⟩
          case afterA =>
            rintro _ H6 ⟨f, og, rfl, D6, hog⟩
            have ogz := List.mem_of_mem_drop hog
            have nog := zs_nm og ogz
            refine ⟨_, rfl, rfl, _, rfl, ?_⟩
            refine ite2 (fun _ => ?_) fun _ => ?_
            · refine ⟨_, rfl, .inl ⟨rfl, _, SqL.of (D6.same _ _ hF4)⟩, _, rfl, _, rfl, by show 2 ≤ sizeLine; decide, fun p1 u1 => ?_⟩
              obtain ⟨G7, H7, e7, D7, h7, k7, s7⟩ := D6.lay u1 (.lst ((["u", "v"] : List Str).map V.str))
              rw [show upd H6 p1 (.lst [V.str "u", V.str "v"]) = H7 from e7.symm]
              refine ⟨G7, d, l, p1, _, rfl, D7, SqL.of h7, by simp, by show 2 < 1000; decide, fun H8 x8 D8 hx8 => ?_⟩
              obtain ⟨wd, hwd, rfl⟩ := str_mem hx8
              refine ⟨_, rfl, by show 4 ≤ sizeLine; decide, fun t ut => ?_⟩
              obtain ⟨G9, H9, e9, D9, h9, k9, s9⟩ := D8.lay ut (.tup [.str "note", .str z, .str wd, .str og])
              rw [← e9]
              exact step (r := .note z wd og) (k7.trans k9) D9 (.tup (SqT.of h9) (.cons (.str _) (.cons (.str _) (.cons (.str _) (.cons (.str _) .nil))))) (RowIx.note hz' hog nz (uv_names wd hwd) nog)
            · refine ⟨_, rfl, rfl, _, rfl, ?_⟩
              refine ite2 (fun _ => ?_) fun _ => ?_
              · refine seq_cut (fun σ1 H7 => ∃ (G7 : Hp) (mk : Str), σ1 = [some (.ref d), some (.int (many : Nat)), some (.ref S), some (.ref Fd), some (.int (j : Nat)), some (.str z), some (.int f), some (.str og), some (.str mk), v9] ∧ Same G4 G7 ∧ Deal G7 H7 d l ∧ mk ∈ (["m", "n", "m", "n", "k"] : List Str)) ?afterB fun after => ?goB
                case goB =>
                  refine ⟨_, rfl, by show 5 ≤ sizeLine; decide, fun p1 u1 => ?_⟩
                  obtain ⟨G7, H7, e7, D7, h7, k7, s7⟩ := D6.lay u1 (.lst ((["m", "n", "m", "n", "k"] : List Str).map V.str))
                  rw [show upd H6 p1 (.lst [V.str "m", V.str "n", V.str "m", V.str "n", V.str "k"]) = H7 from e7.symm]
                  refine ⟨G7, d, l, p1, _, rfl, D7, SqL.of h7, by simp, by show 5 < 1000; decide, fun H8 x8 D8 hx8 => ?_⟩
                  obtain ⟨mk, hmk, rfl⟩ := str_mem hx8
                  exact after _ _ ⟨G7, mk, rfl, k7, D8, hmk⟩
                case afterB =>
                  rintro _ H7 ⟨G7, mk, rfl, k7, D7, hmk⟩
                  refine ⟨_, rfl, .inl ⟨rfl, _, SqL.of (D7.same _ _ (k7 _ _ hF4))⟩, _, rfl, _, rfl, _, rfl, _, rfl, _, rfl, _, rfl, G7, d, l, S, zs, j, rfl, D7, SqL.of (k7 _ _ S4), by omega, by omega, fun H8 og2 D8 hog2 => ⟨by show 5 ≤ sizeLine; decide, fun t ut => ?_⟩⟩
                  obtain ⟨G9, H9, e9, D9, h9, k9, s9⟩ := D8.lay ut (.tup [.str "mark", .str z, .str mk, .str og, .str og2])
                  rw [← e9]
                  exact step (r := .gate z mk og og2) (k7.trans k9) D9 (.tup (SqT.of h9) (.cons (.str _) (.cons (.str _) (.cons (.str _) (.cons (.str _) (.cons (.str _) .nil)))))) (RowIx.gate hz' hog hog2 nz (mnk_in _ hmk) nog (zs_nm _ (List.mem_of_mem_drop hog2)))
              · have zne : zs ≠ [] := fun e => by rw [e] at hz'; simp at hz'
                have zfew : zs.length < 1000 := by omega
                have pickZ : ∀ {G7 H7 : Hp} {Q : V → Hp → Prop}, Same G4 G7 → Deal G7 H7 d l → (∀ H8 y, Deal G7 H8 d l → y ∈ zs → Q (.str y) H8) → spPick K [.ref d, .ref S] H7 Q E0 := fun {G7 H7 Q} k7 D7 fin => ⟨G7, d, l, S, zs.map V.str, rfl, D7, SqL.of (k7 _ _ S4), by simpa using zne, by rw [List.length_map]; exact zfew, fun H8 x8 D8 hx8 => by
                  obtain ⟨y, hy, rfl⟩ := str_mem hx8
                  exact fin _ _ D8 hy⟩
                refine seq_cut (fun σ1 H7 => ∃ (G7 : Hp) (L : Addr) (vs : List V) (ws : List (Str × Str)), σ1 = [some (.ref d), some (.int (many : Nat)), some (.ref S), some (.ref Fd), some (.int (j : Nat)), some (.str z), some (.int f), some (.str og), v8, some (.ref L)] ∧ Same G4 G7 ∧ Deal G7 H7 d l ∧ G7 L = some (.lst vs) ∧ DpAll K G7 vs (ws.map wayD) ∧ ws ≠ [] ∧ (ws.map (·.1)).Sublist (["yes", "no"] : List Str) ∧ ∀ w ∈ ws, w.2 ∈ zs) ?afterC fun after => ?goC
                case goC =>
                  refine ⟨_, rfl, by show 2 ≤ sizeLine; decide, fun t1 ut1 => ?_⟩
                  obtain ⟨G7, H7, e7, D7, h7, k7, _⟩ := D6.lay ut1 (.tup [.str "yes", .str og])
                  rw [← e7]
                  refine ⟨by show 1 ≤ sizeLine; decide, fun l1 ul1 => ?_⟩
                  obtain ⟨G8, H8, e8, D8, h8, k8, _⟩ := D7.lay ul1 (.lst [.ref t1])
                  rw [← e8]
                  have hw1 : DpAll K G8 [.ref t1] ([(("yes" : Str), og)].map wayD) := .cons (.tup (SqT.of (k8 _ _ h7)) (.cons (.str _) (.cons (.str _) .nil))) .nil
                  have k48 := k7.trans k8
                  clear e7 e8 D7 h7 k7 k8 ut1 ul1
                  refine ⟨_, rfl, _, _, rfl, rfl, _, rfl, ?_⟩
                  refine ite2 (fun _ => ?_) fun _ => ?_
                  · refine ⟨_, rfl, _, rfl, pickZ k48 D8 fun H9 y D9 hy => ⟨by show 2 ≤ sizeLine; decide, fun t2 ut2 => ?_⟩⟩
                    obtain ⟨Ga, Ha, ea, Da, ha, ka, _⟩ := D9.lay ut2 (.tup [.str "no", .str y])
                    rw [← ea]
                    refine ⟨by show 1 ≤ sizeLine; decide, fun l2 ul2 => ?_⟩
                    obtain ⟨Gb, Hb, eb, Db, hb, kb, _⟩ := Da.lay ul2 (.lst [.ref t2])
                    rw [← eb]
                    have hw2 : DpAll K Gb [.ref t2] ([(("no" : Str), y)].map wayD) := .cons (.tup (SqT.of (kb _ _ ha)) (.cons (.str _) (.cons (.str _) .nil))) .nil
                    have k8b := ka.trans kb
                    refine ⟨l1, l2, _, _, rfl, rfl, Db.same _ _ (k8b _ _ h8), Db.same _ _ hb, by show 2 ≤ sizeLine; decide, fun L uL => ?_⟩
                    obtain ⟨Gc, Hc, ec, Dc, hc, kc, _⟩ := Db.lay uL (.lst ([.ref t1] ++ [.ref t2]))
                    rw [← ec]
                    exact after _ _ ⟨Gc, L, _, [(("yes" : Str), og), (("no" : Str), y)], rfl, k48.trans (k8b.trans kc), Dc, hc, dpAll_same kc _ _ (dpAll_app (dpAll_same k8b _ _ hw1) hw2), by simp, List.Sublist.refl _, fun w hw => by
                      simp only [List.mem_cons, List.not_mem_nil, or_false] at hw
                      rcases hw with rfl | rfl
                      · exact ogz
                      · exact hy⟩
                  · refine ⟨by show 0 ≤ sizeLine; decide, fun l2 ul2 => ?_⟩
                    obtain ⟨Gb, Hb, eb, Db, hb, kb, _⟩ := D8.lay ul2 (.lst [])
                    rw [← eb]
                    refine ⟨l1, l2, _, _, rfl, rfl, Db.same _ _ (kb _ _ h8), Db.same _ _ hb, by show 1 ≤ sizeLine; decide, fun L uL => ?_⟩
                    obtain ⟨Gc, Hc, ec, Dc, hc, kc, _⟩ := Db.lay uL (.lst ([.ref t1] ++ []))
                    rw [← ec]
                    exact after _ _ ⟨Gc, L, _, [(("yes" : Str), og)], rfl, k48.trans (kb.trans kc), Dc, hc, dpAll_same (kb.trans kc) _ _ hw1, by simp, (List.Sublist.cons₂ _ (List.nil_sublist _)), fun w hw => by
                      simp only [List.mem_cons, List.not_mem_nil, or_false] at hw
                      rcases hw with rfl
                      exact ogz⟩
                case afterC =>
                  rintro _ H7 ⟨G7, L, vs, ws, rfl, k7, D7, hL, hvs, wne, wsub, wto⟩
                  refine seq_cut (fun σ1 H7 => ∃ (G7 : Hp) (L : Addr) (vs : List V) (ws : List (Str × Str)), σ1 = [some (.ref d), some (.int (many : Nat)), some (.ref S), some (.ref Fd), some (.int (j : Nat)), some (.str z), some (.int f), some (.str og), v8, some (.ref L)] ∧ Same G4 G7 ∧ Deal G7 H7 d l ∧ G7 L = some (.lst vs) ∧ DpAll K G7 vs (ws.map wayD) ∧ ws ≠ [] ∧ (ws.map (·.1)).Sublist (["yes", "no", "x"] : List Str) ∧ ∀ w ∈ ws, w.2 ∈ zs) ?afterD fun after => ?goD
                  case goD =>
                    have wlen : vs.length ≤ 2 := by
                      rw [dpAll_len hvs]
                      have := wsub.length_le
                      simpa using this
                    refine ⟨_, rfl, _, rfl, rfl, _, rfl, ?_⟩
                    refine ite2 (fun _ => ?_) fun _ => ?_
                    · refine ⟨_, rfl, _, rfl, pickZ k7 D7 fun H9 y D9 hy => ⟨by show 2 ≤ sizeLine; decide, fun t2 ut2 => ?_⟩⟩
                      obtain ⟨Ga, Ha, ea, Da, ha, ka, _⟩ := D9.lay ut2 (.tup [.str "x", .str y])
                      rw [← ea]
                      refine ⟨by show 1 ≤ sizeLine; decide, fun l2 ul2 => ?_⟩
                      obtain ⟨Gb, Hb, eb, Db, hb, kb, _⟩ := Da.lay ul2 (.lst [.ref t2])
                      rw [← eb]
                      have hw2 : DpAll K Gb [.ref t2] ([(("x" : Str), y)].map wayD) := .cons (.tup (SqT.of (kb _ _ ha)) (.cons (.str _) (.cons (.str _) .nil))) .nil
                      have k8b := ka.trans kb
                      refine ⟨L, l2, _, _, rfl, rfl, Db.same _ _ (k8b _ _ hL), Db.same _ _ hb, Nat.le_trans (show _ ≤ 3 by simp only [List.length_cons, List.length_nil]; omega) (by decide), fun L3 uL => ?_⟩
                      obtain ⟨Gc, Hc, ec, Dc, hc, kc, _⟩ := Db.lay uL (.lst (vs ++ [.ref t2]))
                      rw [← ec]
                      exact after _ _ ⟨Gc, L3, _, ws ++ [(("x" : Str), y)], rfl, k7.trans (k8b.trans kc), Dc, hc, by rw [List.map_append]; exact dpAll_same kc _ _ (dpAll_app (dpAll_same k8b _ _ hvs) hw2), by simp, by rw [List.map_append]; exact wsub.append (List.Sublist.refl (["x"] : List Str)), fun w hw => by
                        rcases List.mem_append.mp hw with hw | hw
                        · exact wto w hw
                        · rw [List.mem_singleton] at hw
                          subst hw
                          exact hy⟩
                    · refine ⟨by show 0 ≤ sizeLine; decide, fun l2 ul2 => ?_⟩
                      obtain ⟨Gb, Hb, eb, Db, hb, kb, _⟩ := D7.lay ul2 (.lst [])
                      rw [← eb]
                      refine ⟨L, l2, _, _, rfl, rfl, Db.same _ _ (kb _ _ hL), Db.same _ _ hb, Nat.le_trans (show _ ≤ 3 by simp only [List.length_nil]; omega) (by decide), fun L3 uL => ?_⟩
                      obtain ⟨Gc, Hc, ec, Dc, hc, kc, _⟩ := Db.lay uL (.lst (vs ++ []))
                      rw [← ec]
                      exact after _ _ ⟨Gc, L3, _, ws, rfl, k7.trans (kb.trans kc), Dc, by rw [hc, List.append_nil], dpAll_same (kb.trans kc) _ _ hvs, wne, wsub.trans (by decide +kernel), wto⟩
                  case afterD =>
                    clear wsub hvs wne wto hL D7 k7
                    clear ws vs L G7 H7
                    rintro _ H7 ⟨G7, L, vs, ws, rfl, k7, D7, hL, hvs, wne, wsub, wto⟩
                    refine ⟨_, rfl, .inl ⟨rfl, _, SqL.of (D7.same _ _ (k7 _ _ hF4))⟩, _, rfl, _, rfl, by show 6 ≤ sizeLine; decide, fun p1 u1 => ?_⟩
                    obtain ⟨G8, H8, e8, D8, h8, k8, _⟩ := D7.lay u1 (.lst ((["x", "y", "z", "x", "y", "m"] : List Str).map V.str))
                    rw [show upd H7 p1 (.lst [V.str "x", V.str "y", V.str "z", V.str "x", V.str "y", V.str "m"]) = H8 from e8.symm]
                    refine ⟨G8, d, l, p1, _, rfl, D8, SqL.of h8, by simp, by show 6 < 1000; decide, fun H9 x9 D9 hx9 => ?_⟩
                    obtain ⟨nm, hnm, rfl⟩ := str_mem hx9
                    refine ⟨_, rfl, L, vs, rfl, .inl ⟨SqL.of (D9.same _ _ (k8 _ _ hL)), fun tw utw => ?_⟩⟩
                    obtain ⟨Ga, Ha, ea, Da, ha, ka, _⟩ := D9.lay utw (.tup vs)
                    rw [← ea]
                    refine ⟨by show 4 ≤ sizeLine; decide, fun t ut => ?_⟩
                    obtain ⟨Gb, Hb, eb, Db, hb, kb, _⟩ := Da.lay ut (.tup [.str "ask", .str z, .str nm, .ref tw])
                    rw [← eb]
                    exact step (r := .ask z nm ws) (k7.trans (k8.trans (ka.trans kb))) Db (.tup (SqT.of hb) (.cons (.str _) (.cons (.str _) (.cons (.str _) (.cons (.tup (SqT.of (kb _ _ ha)) (dpAll_same (k8.trans (ka.trans kb)) _ _ hvs)) .nil))))) (RowIx.ask hz' zs_nm (xyz_names _ hnm) wne wsub wto)
        · rintro σ1 H4 ⟨G4, acc, rs, v4, v5, v6, v7, v8, v9, rfl, k4, D4, hF4, hacc, rl, hix⟩
          rw [List.length_map, tl] at rl
          exact after _ _ ⟨G4, acc, rs, v4, v5, v6, v7, v8, v9, rfl, kG.trans k4, D4, k4 _ _ G0S, hF4, hacc, by omega, hix⟩
      case after2 =>
        rintro _ H2 ⟨G2, acc, rs, v4, v5, v6, v7, v8, v9, rfl, k2, D2, hS2, hF2, hacc, rl, hix⟩
        have zpos : 0 < zs.length := by omega
        have al : acc.length = rs.length := by rw [dpAll_len hacc, List.length_map]
        have hlast : zs[zs.length - 1]? = some zs[zs.length - 1] := List.getElem?_eq_getElem (by omega)
        generalize zs[zs.length - 1] = zl at hlast
        refine ⟨_, rfl, _, rfl, _, rfl, S, _, _, .str zl, rfl, rfl, SqL.of (D2.same _ _ hS2), ?_, by show 2 ≤ sizeLine; decide, fun t ut => ?_⟩
        · exact atI_last2 (by rw [List.getLast?_map, List.getLast?_eq_getElem?, hlast]; rfl)
        · obtain ⟨Ga, Ha, ea, Da, ha, ka, _⟩ := D2.lay ut (.tup [.str "end", .str zl])
          rw [← ea]
          refine ⟨by show 1 ≤ sizeLine; decide, fun l1 ul1 => ?_⟩
          obtain ⟨Gb, Hb, eb, Db, hb, kb, _⟩ := Da.lay ul1 (.lst [.ref t])
          rw [← eb]
          have k2b := ka.trans kb
          refine ⟨Fd, l1, _, _, rfl, rfl, Db.same _ _ (k2b _ _ hF2), Db.same _ _ hb, Nat.le_trans (show _ ≤ 8 by rw [al]; simp only [List.length_cons, List.length_nil]; omega) (by decide), fun R uR => ?_⟩
          obtain ⟨Gc, Hc, ec, Dc, hc, kc, _⟩ := Db.lay uR (.lst (acc ++ [.ref t]))
          rw [← ec]
          refine ⟨by show 0 ≤ sizeLine; decide, fun N uN => ?_⟩
          obtain ⟨Gd, Hd, ed, Dd, hd, kd, _⟩ := Dc.lay uN (.lst [])
          rw [← ed]
          refine ⟨by show 2 ≤ sizeLine; decide, fun q uq => ?_⟩
          obtain ⟨Ge, He, ee, De, he, ke, _⟩ := Dd.lay uq (.tup [.ref R, .ref N])
          rw [← ee]
          have ix : ∀ j r, (rs ++ [Row0.end_ zl])[j]? = some r → RowIx zs j r := fun i y hi => by
            rcases Nat.lt_or_ge i rs.length with lt | ge
            · rw [List.getElem?_append_left lt] at hi
              exact hix i y hi
            · rw [List.getElem?_append_right ge] at hi
              have e0 : i - rs.length = 0 := by
                have := (List.getElem?_eq_some_iff.mp hi).1
                simp at this
                omega
              rw [e0] at hi
              have e1 : Row0.end_ zl = y := by simpa using hi
              subst e1
              have e2 : i = zs.length - 1 := by omega
              subst e2
              exact RowIx.end_ hlast (zs_nm _ (List.mem_of_getElem? hlast))
          obtain ⟨gs, mk⟩ := rows_ix zs_nd (fun e => by rw [e] at zpos; simp at zpos) (by rw [List.length_append, List.length_singleton, rl]) ix
          have len8 : (rs ++ [Row0.end_ zl]).length ≤ 8 := by rw [List.length_append, List.length_singleton, rl, zs_len]; exact m8
          refine fin Ge _ _ (rs ++ [.end_ zl]) (k2.trans (k2b.trans (kc.trans (kd.trans ke)))) De ⟨⟨q, R, N, _, rfl, SqT.of he, ke _ _ (kd _ _ hc), ?_, ke _ _ hd, ((k2.trans k2b).trans Db.same).free uR, ((k2.trans (k2b.trans kc)).trans Dc.same).free uN⟩, gs.good, by omega, fun z hz => (by cases hz), by show 0 ≤ 20; decide⟩ gs mk len8
          rw [List.map_append]
          exact dpAll_app (dpAll_same (k2b.trans (kc.trans (kd.trans ke))) _ _ hacc) (.cons (.tup (SqT.of (ke _ _ (kd _ _ (kc _ _ (kb _ _ ha))))) (.cons (.str _) (.cons (.str _) .nil))) .nil)
end
end K2

set_option Elab.async false
set_option linter.all false
set_option maxRecDepth 100000
set_option maxHeartbeats 1000000
/-! told editions: a mark gone -/
namespace K2
open PySem L2 Lw TL SxT
theorem gd_of {rs : List Row0} {ps : List Str} (ν : Str → Nat) (down : ∀ r ∈ rs, onB r = true → ∀ z ∈ leadsR r, ν z < ν (placeR r)) (nd : (rs.map placeR).Nodup) (to : ∀ r ∈ rs, ∀ z ∈ leadsR r, z ∈ rs.map placeR) (ne : rs ≠ []) (good : ∀ r ∈ rs, RowGood r) (few : rs.length ≤ 60) (ndp : ps.Nodup) (four : ∀ p ∈ ps, p ∈ (["m", "n", "mark", "k"] : List Str)) (not : ∀ p n e m, Row0.gate p m n e ∈ rs → m ∉ ps) : Gd rs ps := by
  refine ⟨⟨rs.mergeSort (fun a b => decide (ν (placeR b) ≤ ν (placeR a))), ⟨?_, fun j r hj => ?_⟩, (List.mergeSort_perm _ _).symm⟩, ne, good, few, ndp, four, not⟩
  · exact ((List.mergeSort_perm _ _).map placeR).nodup_iff.mpr nd
  · have pm := List.mergeSort_perm rs (fun a b => decide (ν (placeR b) ≤ ν (placeR a)))
    have st := List.pairwise_mergeSort (le := fun a b => decide (ν (placeR b) ≤ ν (placeR a))) (by
      intro a b c h1 h2
      rw [decide_eq_true_iff] at h1 h2 ⊢
      omega) (by
      intro a b
      rw [Bool.or_eq_true, decide_eq_true_iff, decide_eq_true_iff]
      omega) rs
    generalize rs.mergeSort (fun a b => decide (ν (placeR b) ≤ ν (placeR a))) = rs0 at hj pm st
    have hr : r ∈ rs := pm.mem_iff.mp (List.mem_of_getElem? hj)
    have pp := pm.map placeR
    refine ⟨by rw [List.getElem?_map, hj]; rfl, fun z hz => pp.mem_iff.mpr (to r hr z hz), fun on z hz => ?_⟩
    have h1 := pp.mem_iff.mpr (to r hr z hz)
    obtain ⟨i, hi⟩ := List.getElem?_of_mem h1
    have lt : j < i := by
      rw [List.getElem?_map] at hi
      obtain ⟨q, hq, eq⟩ := Option.map_eq_some_iff.mp hi
      have d := down r hr on z hz
      rw [← eq] at d
      rcases Nat.lt_trichotomy j i with h | h | h
      · exact h
      · subst h
        rw [hj] at hq
        cases hq
        omega
      · exfalso
        have hw := List.pairwise_iff_getElem.mp st i j (List.getElem?_eq_some_iff.mp hq).1 (List.getElem?_eq_some_iff.mp hj).1 h
        rw [(List.getElem?_eq_some_iff.mp hq).2, (List.getElem?_eq_some_iff.mp hj).2, decide_eq_true_iff] at hw
        omega
    refine List.mem_of_getElem? (i := i - (j + 1)) ?_
    rw [List.getElem?_drop, show j + 1 + (i - (j + 1)) = i by omega]
    exact hi
/-- a good told edition -/
structure Gk (rs : List Row0) (ps : List Str) : Prop where
  gd : Gd rs ps
  few : rs.length ≤ 8
theorem Gk.nd {rs : List Row0} {ps : List Str} (h : Gk rs ps) : (rs.map placeR).Nodup := h.gd.right.nd
theorem Gk.to {rs : List Row0} {ps : List Str} (h : Gk rs ps) : ∀ r ∈ rs, ∀ z ∈ leadsR r, z ∈ rs.map placeR := h.gd.right.to
theorem Gk.names {rs : List Row0} {ps : List Str} (h : Gk rs ps) {z : Str} (hz : z ∈ rs.map placeR) : nameOk z = true := by
  obtain ⟨r, hr, rfl⟩ := List.mem_map.mp hz
  have g := h.gd.good r hr
  cases r with
  | ask p n ws => exact g.1
  | note p w t => exact g.1
  | gate p m n e => exact g.1
  | end_ p => exact g
theorem Gs.gk {rs : List Row0} (h : Gs rs) (few : rs.length ≤ 8) : Gk rs [] := ⟨⟨h.on, h.ne, h.good, by omega, List.nodup_nil, fun p hp => (by cases hp), fun _ _ _ _ _ hp => (by cases hp)⟩, few⟩
def onMark (m : Str) : Row0 → Bool
  | .gate _ k _ _ => decide (k = m)
  | _ => false
def nextR : Row0 → Str
  | .gate _ _ n _ => n
  | _ => ""
def goesF (rs : List Row0) (m : Str) : List (Str × Str) := (rs.filter (onMark m)).map fun r => (placeR r, nextR r)
def goK (hs : List (Str × Str)) : List (Key × V) := hs.map fun q => (Sum.inr q.1, .str q.2)
def goOf (hs : List (Str × Str)) (z : Str) : Str := (hs.lookup z).getD z
def endF (hs : List (Str × Str)) : Nat → Str → Str
  | 0, z => z
  | n + 1, z => endF hs n (goOf hs z)
def reE (f : Str → Str) : Row0 → Row0
  | .ask p n ws => .ask p n (ws.map fun w => (w.1, f w.2))
  | .note p w t => .note p w (f t)
  | .gate p m n e => .gate p m (f n) (f e)
  | .end_ p => .end_ p
def stayB (hs : List (Str × Str)) (r : Row0) : Bool := (hs.lookup (placeR r)).isNone
def keepF (rs : List Row0) (m : Str) : List Row0 := (rs.filter (stayB (goesF rs m))).map (reE (endF (goesF rs m) 9))
def goneF (rs : List Row0) (m f : Str) : List Row0 := (keepF rs m).filter (fun r => decide (placeR r = f)) ++ (keepF rs m).filter (fun r => !decide (placeR r = f))
theorem go_val : ∀ (hs : List (Str × Str)) (z : Str), valV (goK hs) (Sum.inr z) = (hs.lookup z).map V.str
  | [], z => rfl
  | (p, q) :: hs, z => by
    have ih := go_val hs z
    unfold goK at ih ⊢
    rw [List.map_cons, List.lookup_cons]
    by_cases e : z = p
    · subst e
      simp [valV]
    · have e2 : (z == p) = false := by simpa using e
      rw [e2]
      rw [← ih]
      have e3 : ¬ (p = z) := fun h => e h.symm
      simp [valV, List.find?_cons_of_neg, e3]
theorem go_merge : ∀ (hs acc : List (Str × Str)), ((acc ++ hs).map (·.1)).Nodup → mergeK (goK acc) (goK hs) = goK (acc ++ hs)
  | [], acc, _ => by rw [List.append_nil]; rfl
  | (p, q) :: hs, acc, nd => by
    have e : putK (goK acc) (Sum.inr p) (.str q) = goK (acc ++ [(p, q)]) := by
      unfold putK
      have no : (goK acc).any (fun kv => decide (kv.1 = Sum.inr p)) = false := by
        rw [Bool.eq_false_iff]
        intro h
        obtain ⟨kv, hk, e⟩ := List.any_eq_true.mp h
        have e := of_decide_eq_true e
        obtain ⟨y, hy, rfl⟩ := List.mem_map.mp hk
        have e : y.1 = p := Sum.inr.inj e
        rw [List.map_append, List.nodup_append] at nd
        exact nd.2.2 _ (List.mem_map_of_mem hy) _ (List.mem_map_of_mem (List.mem_cons_self ..)) e
      rw [no, if_neg (by decide)]
      unfold goK
      rw [List.map_append]
      rfl
    show mergeK (putK (goK acc) (Sum.inr p) (.str q)) (goK hs) = _
    rw [e, go_merge hs (acc ++ [(p, q)]) (by rw [List.append_assoc]; exact nd), List.append_assoc]
    rfl
theorem goes_in {rs : List Row0} {m z y : Str} (h : (goesF rs m).lookup z = some y) : ∃ e, Row0.gate z m y e ∈ rs := by
  have hm : (z, y) ∈ goesF rs m := by
    generalize goesF rs m = hs at h
    induction hs with
    | nil => cases h
    | cons q hs ih =>
      rw [List.lookup_cons] at h
      split at h
      · rename_i e
        have e : z = q.1 := by simpa using e
        have h : q.2 = y := Option.some.inj h
        rw [e, ← h]
        exact List.mem_cons_self ..
      · exact List.mem_cons_of_mem _ (ih h)
  obtain ⟨r, hr, e⟩ := List.mem_map.mp hm
  obtain ⟨hr2, on⟩ := List.mem_filter.mp hr
  clear hr
  cases r with
  | gate p k n o =>
    have e1 : p = z := (Prod.mk.inj e).1
    have e2 : n = y := (Prod.mk.inj e).2
    have e3 : k = m := of_decide_eq_true on
    subst e1 e2 e3
    exact ⟨o, hr2⟩
  | ask p n ws => cases on
  | note p w t => cases on
  | end_ p => cases on
theorem look_some {hs : List (Str × Str)} {z : Str} (h : z ∈ hs.map (·.1)) : hs.lookup z ≠ none := by
  induction hs with
  | nil => cases h
  | cons q hs ih =>
    rw [List.lookup_cons]
    split
    · exact fun h => by cases h
    · rename_i e
      rw [List.map_cons, List.mem_cons] at h
      rcases h with h | h
      · exfalso
        rw [h] at e
        simp at e
      · exact ih h
theorem goes_at {rs : List Row0} {p m n e : Str} (h : Row0.gate p m n e ∈ rs) : (goesF rs m).lookup p ≠ none :=
  look_some (List.mem_map.mpr ⟨(p, n), List.mem_map.mpr ⟨_, List.mem_filter.mpr ⟨h, decide_eq_true rfl⟩, rfl⟩, rfl⟩)
theorem goes_keys {rs : List Row0} (nd : (rs.map placeR).Nodup) (m : Str) : ((goesF rs m).map (·.1)).Nodup := by
  unfold goesF
  rw [List.map_map]
  exact ((List.filter_sublist (p := onMark m) (l := rs)).map placeR).nodup nd
theorem end_stop {hs : List (Str × Str)} {z : Str} (h : hs.lookup z = none) : ∀ n, endF hs n z = z
  | 0 => rfl
  | n + 1 => by
    rw [endF, goOf, h]
    exact end_stop h n
theorem end_rank {hs : List (Str × Str)} {ν : Str → Nat} (down : ∀ z y, hs.lookup z = some y → ν y < ν z) : ∀ (n : Nat) (z : Str), ν z < n → hs.lookup (endF hs n z) = none ∧ ν (endF hs n z) ≤ ν z
  | 0, z, h => by omega
  | n + 1, z, h => by
    rw [endF, goOf]
    cases q : hs.lookup z with
    | none =>
      show hs.lookup (endF hs n z) = none ∧ ν (endF hs n z) ≤ ν z
      rw [end_stop q]
      exact ⟨q, Nat.le_refl _⟩
    | some y =>
      have d := down z y q
      obtain ⟨a, b⟩ := end_rank down n y (by omega)
      exact ⟨a, Nat.le_trans b (Nat.le_of_lt d)⟩
theorem end_in {hs : List (Str × Str)} {P : Str → Prop} (to : ∀ z y, hs.lookup z = some y → P y) : ∀ (n : Nat) (z : Str), P z → P (endF hs n z)
  | 0, z, h => h
  | n + 1, z, h => by
    rw [endF, goOf]
    refine end_in to n _ ?_
    cases q : hs.lookup z with
    | none => exact h
    | some y => exact to z y q
theorem re_place (f : Str → Str) : ∀ r : Row0, placeR (reE f r) = placeR r
  | .ask _ _ _ => rfl
  | .note _ _ _ => rfl
  | .gate _ _ _ _ => rfl
  | .end_ _ => rfl
theorem re_on (f : Str → Str) : ∀ r : Row0, onB (reE f r) = onB r
  | .ask _ _ _ => rfl
  | .note _ _ _ => rfl
  | .gate _ _ _ _ => rfl
  | .end_ _ => rfl
theorem re_leads (f : Str → Str) : ∀ r : Row0, leadsR (reE f r) = (leadsR r).map f
  | .ask _ _ ws => by simp [leadsR, reE]
  | .note _ _ _ => rfl
  | .gate _ _ _ _ => rfl
  | .end_ _ => rfl
theorem re_good {f : Str → Str} : ∀ {r : Row0}, RowGood r → (∀ z ∈ leadsR r, nameOk (f z) = true) → RowGood (reE f r)
  | .ask p n ws, g, h => by
    obtain ⟨g1, g2, g3, g4, g5, g6⟩ := g
    refine ⟨g1, g2, fun e => g3 (List.map_eq_nil_iff.mp e), by rw [List.length_map]; exact g4, ?_, fun w hw => ?_⟩
    · rw [List.map_map]
      exact g5
    · obtain ⟨w0, hm, rfl⟩ := List.mem_map.mp hw
      exact ⟨(g6 w0 hm).1, h _ (List.mem_map_of_mem (f := fun x : Str × Str => x.2) hm)⟩
  | .note p w t, g, h => ⟨g.1, g.2.1, h t (by simp [leadsR])⟩
  | .gate p m n e, g, h => ⟨g.1, g.2.1, h n (by simp [leadsR]), h e (by simp [leadsR])⟩
  | .end_ p, g, _ => g
theorem Gk.ends {rs : List Row0} {ps : List Str} (h : Gk rs ps) (m : Str) : ∃ ν : Str → Nat, (∀ r ∈ rs, onB r = true → ∀ z ∈ leadsR r, ν z < ν (placeR r)) ∧ ∀ z, (goesF rs m).lookup (endF (goesF rs m) 9 z) = none ∧ ν (endF (goesF rs m) 9 z) ≤ ν z ∧ (z ∈ rs.map placeR → endF (goesF rs m) 9 z ∈ rs.map placeR) := by
  obtain ⟨ν, n1, n2⟩ := h.gd.rank
  have few := h.few
  refine ⟨ν, n2, fun z => ?_⟩
  obtain ⟨a, b⟩ := end_rank (hs := goesF rs m) (ν := ν) (fun z y q => by
    obtain ⟨e, hr⟩ := goes_in q
    exact n2 _ hr rfl y (by simp [leadsR])) 9 z (by have := n1 z; omega)
  exact ⟨a, b, end_in (P := fun y => y ∈ rs.map placeR) (fun z y q => by
    obtain ⟨e, hr⟩ := goes_in q
    exact h.to _ hr y (by simp [leadsR])) 9 z⟩
theorem keep_place {rs : List Row0} {m z : Str} (h : z ∈ rs.map placeR) (no : (goesF rs m).lookup z = none) : z ∈ (keepF rs m).map placeR := by
  obtain ⟨r, hr, rfl⟩ := List.mem_map.mp h
  refine List.mem_map.mpr ⟨_, List.mem_map.mpr ⟨r, List.mem_filter.mpr ⟨hr, ?_⟩, rfl⟩, re_place _ r⟩
  unfold stayB
  rw [no]
  rfl
theorem Gk.gone {rs : List Row0} {ps ps' : List Str} (h : Gk rs ps) {m f : Str} (hm : m ∈ (["m", "n", "mark", "k"] : List Str)) (pp : ps'.Perm (ps.filter (fun z => !decide (z = m)) ++ [m])) : Gk (goneF rs m f) ps' := by
  obtain ⟨ν, down, ends⟩ := h.ends m
  have pm : (goneF rs m f).Perm (keepF rs m) := List.filter_append_perm ..
  have sub : ((keepF rs m).map placeR).Sublist (rs.map placeR) := by
    unfold keepF
    rw [List.map_map]
    have e : (placeR ∘ reE (endF (goesF rs m) 9)) = placeR := funext fun r => re_place _ r
    rw [e]
    exact List.filter_sublist.map placeR
  have at_ : ∀ r ∈ goneF rs m f, ∃ r0 ∈ rs, stayB (goesF rs m) r0 = true ∧ r = reE (endF (goesF rs m) 9) r0 := fun r hr => by
    obtain ⟨r0, h0, e⟩ := List.mem_map.mp (pm.mem_iff.mp hr)
    obtain ⟨h1, h2⟩ := List.mem_filter.mp h0
    exact ⟨r0, h1, h2, e.symm⟩
  have few : (goneF rs m f).length ≤ 8 := by
    rw [pm.length_eq]
    unfold keepF
    rw [List.length_map]
    exact Nat.le_trans (List.length_filter_le _ _) h.few
  refine ⟨gd_of ν (fun r hr on z hz => ?_) ?_ (fun r hr z hz => ?_) (fun e => ?_) (fun r hr => ?_) (by omega) ?_ (fun p hp => ?_) (fun p n e k hr => ?_), few⟩
  · obtain ⟨r0, h0, _, rfl⟩ := at_ r hr
    rw [re_on] at on
    rw [re_leads] at hz
    obtain ⟨y, hy, rfl⟩ := List.mem_map.mp hz
    rw [re_place]
    exact Nat.lt_of_le_of_lt (ends y).2.1 (down r0 h0 on y hy)
  · exact (pm.map placeR).nodup_iff.mpr (sub.nodup h.nd)
  · obtain ⟨r0, h0, _, rfl⟩ := at_ r hr
    rw [re_leads] at hz
    obtain ⟨y, hy, rfl⟩ := List.mem_map.mp hz
    exact (pm.map placeR).mem_iff.mpr (keep_place ((ends y).2.2 (h.to r0 h0 y hy)) (ends y).1)
  · obtain ⟨r0, h0⟩ : ∃ r0, r0 ∈ rs := List.exists_mem_of_ne_nil _ h.gd.ne
    have z := (pm.map placeR).mem_iff.mpr (keep_place ((ends (placeR r0)).2.2 (List.mem_map_of_mem h0)) (ends (placeR r0)).1)
    rw [e] at z
    cases z
  · obtain ⟨r0, h0, _, rfl⟩ := at_ r hr
    exact re_good (h.gd.good r0 h0) fun z hz => h.names ((ends z).2.2 (h.to r0 h0 z hz))
  · refine pp.nodup_iff.mpr ?_
    rw [List.nodup_append]
    refine ⟨h.gd.ndp.filter _, by simp, fun a ha b hb => ?_⟩
    obtain ⟨_, e⟩ := List.mem_filter.mp ha
    rw [List.mem_singleton.mp hb]
    intro q
    rw [q] at e
    simp at e
  · rcases List.mem_append.mp (pp.mem_iff.mp hp) with hp | hp
    · exact h.gd.four p (List.mem_filter.mp hp).1
    · rw [List.mem_singleton.mp hp]
      exact hm
  · intro hk
    obtain ⟨r0, h0, st, e0⟩ := at_ _ hr
    cases r0 with
    | gate p0 k0 n0 o0 =>
      have e0 : p = p0 ∧ k = k0 := by
        have := Row0.gate.inj e0
        exact ⟨this.1, this.2.1⟩
      obtain ⟨rfl, rfl⟩ := e0
      rcases List.mem_append.mp (pp.mem_iff.mp hk) with hp | hp
      · exact h.gd.not _ _ _ _ h0 (List.mem_filter.mp hp).1
      · rw [List.mem_singleton.mp hp] at h0
        have := goes_at h0
        unfold stayB at st
        exact this (Option.isNone_iff_eq_none.mp st)
    | ask _ _ _ => cases e0
    | note _ _ _ => cases e0
    | end_ _ => cases e0
end K2

set_option Elab.async false
set_option linter.all false
set_option maxRecDepth 100000
set_option maxHeartbeats 1000000
namespace K2
open PySem L2 Lw TL SxT
def headF : List Row0 → Str
  | r :: _ => placeR r
  | [] => ""
def spEndOf : Sp := fun vs H Q _ => ∃ (dn : Addr) (hs : List (Str × Str)) (z : Str), vs = [.ref dn, .str z] ∧ H dn = some (.dK (goK hs)) ∧ Q (.str (endF hs 9 z)) H
def spGone (K : PySem.W.Frag) : Sp := fun vs H Q _ => ∃ (v : V) (rs : List Row0) (ps : List Str) (m : Str), vs = [v, .str m] ∧ Told K H v rs ps ∧ Gk rs ps ∧ m ∈ (["m", "n", "mark", "k"] : List Str) ∧
  ∀ (H' : Hp) (q lp tp : Addr) (xs : List V) (ps' : List Str), Same H H' → H q = none → H lp = none → H tp = none → H' q = some (.tup [.ref lp, .ref tp]) → H' lp = some (.lst xs) → DpAll K H' xs ((goneF rs m (endF (goesF rs m) 9 (headF rs))).map lineD) → H' tp = some (.lst (ps'.map V.str)) → ps'.Perm (ps.filter (fun z => !decide (z = m)) ++ [m]) → Gk (goneF rs m (endF (goesF rs m) 9 (headF rs))) ps' → Q (.ref q) H'
theorem pairs_dp {K : PySem.W.Frag} {H : Hp} : ∀ {acc : List V} {qs : List (Str × Str)}, DpAll K H acc (qs.map fun q => .tuple [.str q.1, .str q.2]) → ∃ as : List Addr, acc = as.map V.ref ∧ PySem.Paired (fun p kv => SqT K H p [kV kv.1, kv.2]) as (goK qs)
  | _, [], .nil => ⟨[], rfl, .nil⟩
  | _, q :: qs, .cons h hs => by
    obtain ⟨as, rfl, k⟩ := pairs_dp hs
    cases h with
    | tup h1 h2 =>
      rw [Lw.dp_strs (zs := [q.1, q.2]) h2] at h1
      exact ⟨_ :: as, rfl, .cons h1 k⟩
section
variable {P : Program} {w : World} {K : PySem.W.Frag} {mg : Str → Option Value} {base : Heap}
abbrev nEndOf : List Str := ["_law_goes", "_law_spot", "_law_turn"]
theorem scEndOf : FnScope nEndOf ["_law_goes", "_law_spot"] (defScope sEndOf) := ⟨rfl, rfl, rfl, by decide +kernel, rfl, by decide +kernel, by decide +kernel⟩
theorem okEndOf {f : Addr} {fd : FuncData} (F : Fun K "_law_end_of" "_law_end_of" sEndOf f fd) (tR : mg "range" = none) : FnOk P w K mg base CX0 1 f fd ["_law_goes", "_law_spot"] spEndOf := by
  refine F.ok scEndOf (fun vs H Q E h => ?_) (fun cdv A outer s H vs Q E hr h => ?_)
  · obtain ⟨dn, hs, z, rfl, _⟩ := h
    rfl
  · obtain ⟨dn, hs, z, rfl, hd, fin⟩ := h
    have hu : (A.deeper (PyProof.Rows.envOfC (Str.ofString "_law_end_of") (defScope sEndOf) s.heap.objs.size f cdv)).units + 1 < cLine := by
      have := hr.units
      omega
    refine ⟨_, pss_cons (ps_for PassesOwn.never rfl (pi_range1 rfl tR (pa_cons pe_int pa_nil)) (pg_name (i := 2) scEndOf.nd rfl (Or.inl rfl))
        (pss_one (ps_set (i := 1) scEndOf.nd rfl (Or.inl rfl) (pe_dget2 hu (pv 0) (pv 1) (pv 1) ⟨rfl, rfl, rfl, rfl⟩))))
      (pss_one (ps_ret (pv 1))), ?_⟩
    refine ⟨_, rfl, by omega, by omega, for_range (lo := 0) (fun i σ1 H1 => ∃ z' v2, σ1 = [some (.ref dn), some (.str z'), v2] ∧ H1 = H ∧ ∃ k, i + k = 9 ∧ endF hs k z' = endF hs 9 z) ⟨z, _, rfl, rfl, 9, by omega, rfl⟩ ?_ ?_⟩
    · rintro i _ H1 hi ⟨z', v2, rfl, rfl, k, hk, eb⟩
      have hi : i < 9 := by omega
      obtain ⟨k, rfl⟩ : ∃ k', k = k' + 1 := ⟨k - 1, by omega⟩
      refine ⟨_, rfl, dn, rfl, .inl ⟨_, .inl hd⟩, _, rfl, _, rfl, _, .inl ⟨_, Sum.inr z', .inl hd, rfl, rfl⟩, ?_⟩
      have e : (valV (goK hs) (Sum.inr z')).getD (V.str z') = V.str (goOf hs z') := by
        rw [go_val]
        unfold goOf
        cases hs.lookup z' <;> rfl
      rw [e]
      exact ⟨_, _, rfl, rfl, k, by omega, eb⟩
    · rintro _ H1 ⟨z', v2, rfl, rfl, k, hk, eb⟩
      obtain rfl : k = 0 := by omega
      have eb : z' = endF hs 9 z := eb
      refine ⟨_, rfl, ?_⟩
      rw [eb]
      exact fin
abbrev nGone : List Str := ["_law_told_here", "_law_mark", "_law_goes", "_law_first", "_law_rows", "_law_row", "_law_ways", "_law_rest", "_law_left", "_law_answer", "_law_spot", "_law_one"]
theorem scGone : FnScope nGone ["_law_told_here", "_law_mark"] (defScope sGone) := ⟨rfl, rfl, rfl, by decide +kernel, rfl, by decide +kernel, by decide +kernel⟩
theorem okGone {f fE : Addr} {fd fdE : FuncData} (F : Fun K "_law_gone" "_law_gone" sGone f fd) (OE : FnOk P w K mg base CX0 1 fE fdE ["_law_goes", "_law_spot"] spEndOf) (kE : PySem.W.keepIn K (.ref fE) = true) (gE : mg "_law_end_of" = some (.ref fE)) (bE : Binds K fdE ["_law_goes", "_law_spot"] [])
    (tD : mg "dict" = none) (tT : mg "tuple" = none) (tStr : mg "str" = none) (tS : mg "sorted" = none) : FnOk P w K mg base CX0 2 f fd ["_law_told_here", "_law_mark"] (spGone K) := by
  refine F.ok scGone (fun vs H Q E h => ?_) (fun cdv A outer s H vs Q E hr h => ?_)
  · obtain ⟨v, rs, ps, m, rfl, _⟩ := h
    rfl
  · obtain ⟨v, rs, ps, m, rfl, hD, G, hm, fin⟩ := h
    have hu : (A.deeper (PyProof.Rows.envOfC (Str.ofString "_law_gone") (defScope sGone) s.heap.objs.size f cdv)).units + 1 < cLine := by
      have := hr.units
      omega
    refine ⟨_, pss_cons (ps_set (i := 2) scGone.nd rfl (Or.inr rfl) (pe_callTy (call_dictP rfl) (by rfl) tD PyProof.Rows.boot_dict (pa_cons (pe_lc (own := [("_law_row", 5)]) (g := gName 5) (tt := tAnd (tTest (tOp rEq (tOp (rIxT K) (tVar 5) (tC (.int 0))) (tC (.str "mark")))) (tTest (tOp rEq (tOp (rIxT K) (tVar 5) (tC (.int 2))) (tVar 1)))) (te := tTup (tCons (tOp (rIxT K) (tVar 5) (tC (.int 1))) (tCons (tOp (rIxT K) (tVar 5) (tC (.int 3))) tNil))) (by rfl) scGone.nd (pi_list (pe_ix ix_tup (pv 0) pe_int (fun _ _ => rfl)))
          (blkOk_by (own := [("_law_row", 5)]) (N := nGone) (sc := defScope sGone) (by decide +kernel)) (fun _ _ _ _ _ => pg_name (i := 5) scGone.nd rfl (Or.inl rfl)) (fun _ _ _ _ _ => pts_one (PW.pt (pw_and (pt_cmpR op_eq (pe_ix ix_tup (pv 5) pe_int (fun _ _ => rfl)) pe_str (nomark _)) (pw_and1 (pt_cmpR op_eq (pe_ix ix_tup (pv 5) pe_int (fun _ _ => rfl)) (pv 1) (nomark _))))))
          (fun _ _ _ _ _ => pe_tup (pa_cons (pe_ix ix_tup (pv 5) pe_int (fun _ _ => rfl)) (pa_cons (pe_ix ix_tup (pv 5) pe_int (fun _ _ => rfl)) pa_nil)))) pa_nil)))
      (pss_cons (ps_asg (pe_tup (pa_cons (pe_call OE hr rfl gE kE bE .nil pass0 (pa_cons (pv 2) (pa_cons (pe_ix ix_tup (pe_ix ix_list (pe_ix ix_tup (pv 0) pe_int (fun _ _ => rfl)) pe_int (fun _ _ => rfl)) pe_int (fun _ _ => rfl)) pa_nil))) (pa_cons (pe_lst pa_nil) pa_nil))) (pg_tup rfl (pgs_cons (pg_name (i := 3) scGone.nd rfl (Or.inr rfl)) (pgs_cons (pg_name (i := 4) scGone.nd rfl (Or.inl rfl)) pgs_nil))))
      (pss_cons (ps_for PassesOwn.never rfl (pi_list (pe_ix ix_tup (pv 0) pe_int (fun _ _ => rfl))) (pg_name (i := 5) scGone.nd rfl (Or.inl rfl))
        (pss_one (ps_if (pt_cmp (pc_dnotin hu (pe_ix ix_tup (pv 5) pe_int (fun _ _ => rfl)) (pv 2)) rfl)
          (pss_cons (ps_if (pt_cmpR op_eq (pe_ix ix_tup (pv 5) pe_int (fun _ _ => rfl)) pe_str (nomark _))
            (pss_cons (ps_setLc (i := 6) (own := [("_law_answer", 9), ("_law_spot", 10)]) (g := gTup K 2 (gCons (gName 9) (gCons (gName 10) gNil))) (tt := tYes) (te := tTup (tCons (tVar 9) (tCons (tCall spEndOf [] E0 (tCons (tVar 2) (tCons (tVar 10) tNil))) tNil))) (by rfl) scGone.nd rfl rfl (sw_true rfl rfl rfl (by decide +kernel)) (pi_tup (pe_ix ix_tup (pv 5) pe_int (fun _ _ => rfl)))
              (blkOk_by (own := [("_law_answer", 9), ("_law_spot", 10)]) (N := nGone) (sc := defScope sGone) (by decide +kernel)) (fun _ _ _ _ _ => pg_tup rfl (pgs_cons (pg_name (i := 9) scGone.nd rfl (Or.inl rfl)) (pgs_cons (pg_name (i := 10) scGone.nd rfl (Or.inl rfl)) pgs_nil))) (fun _ _ _ _ _ => pts_nil)
              (fun _ _ _ _ _ => pe_tup (pa_cons (pv 9) (pa_cons (pe_call OE hr rfl gE kE bE .nil pass0 (pa_cons (pv 2) (pa_cons (pv 10) pa_nil))) pa_nil))))
            (pss_one (ps_set (i := 5) scGone.nd rfl (Or.inl rfl) (pe_op op_catA (pe_slice sl_tup (pv 5) po_none (po_some pe_int)) (pe_tup (pa_cons (pe_callTy call_tuple_of (by rfl) tT PyProof.Rows.boot_tuple (pa_cons (pv 6) pa_nil)) pa_nil))))))
            (pss_one (ps_if (pt_cmpR op_eq (pe_ix ix_tup (pv 5) pe_int (fun _ _ => rfl)) pe_str (nomark _))
              (pss_one (ps_set (i := 5) scGone.nd rfl (Or.inl rfl) (pe_op op_catA (pe_slice sl_tup (pv 5) po_none (po_some pe_int)) (pe_tup (pa_cons (pe_call OE hr rfl gE kE bE .nil pass0 (pa_cons (pv 2) (pa_cons (pe_ix ix_tup (pv 5) pe_int (fun _ _ => rfl)) pa_nil))) pa_nil)))))
              (pss_one (ps_if (pt_cmpR op_eq (pe_ix ix_tup (pv 5) pe_int (fun _ _ => rfl)) pe_str (nomark _))
                (pss_one (ps_set (i := 5) scGone.nd rfl (Or.inl rfl) (pe_op op_catA (pe_slice sl_tup (pv 5) po_none (po_some pe_int)) (pe_tup (pa_cons (pe_call OE hr rfl gE kE bE .nil pass0 (pa_cons (pv 2) (pa_cons (pe_ix ix_tup (pv 5) pe_int (fun _ _ => rfl)) pa_nil))) (pa_cons (pe_call OE hr rfl gE kE bE .nil pass0 (pa_cons (pv 2) (pa_cons (pe_ix ix_tup (pv 5) pe_int (fun _ _ => rfl)) pa_nil))) pa_nil))))))
                pss_nil)))))
          (pss_one (ps_expr (pe_bm PySem.F.plainAttrs_list PySem.F.slot_list_append PySem.F.type_list_append mt_append (pv 4) (pa_cons (pv 5) pa_nil)))))
          pss_nil)))
      (pss_cons (ps_setLc (i := 7) (own := [("_law_row", 5)]) (g := gName 5) (tt := tTest (tOp rNe (tOp (rIxT K) (tVar 5) (tC (.int 1))) (tVar 3))) (te := tVar 5) (by rfl) scGone.nd rfl rfl (sw_true rfl rfl rfl (by decide +kernel)) (pi_list (pv 4))
          (blkOk_by (own := [("_law_row", 5)]) (N := nGone) (sc := defScope sGone) (by decide +kernel)) (fun _ _ _ _ _ => pg_name (i := 5) scGone.nd rfl (Or.inl rfl)) (fun _ _ _ _ _ => pts_one (pt_cmpR op_ne (pe_ix ix_tup (pv 5) pe_int (fun _ _ => rfl)) (pv 3) (nomark _))) (fun _ _ _ _ _ => pv 5))
      (pss_cons (ps_set (i := 4) scGone.nd rfl (Or.inl rfl) (pe_op op_cat (pe_lc (own := [("_law_row", 5)]) (g := gName 5) (tt := tTest (tOp rEq (tOp (rIxT K) (tVar 5) (tC (.int 1))) (tVar 3))) (te := tVar 5) (by rfl) scGone.nd (pi_list (pv 4))
          (blkOk_by (own := [("_law_row", 5)]) (N := nGone) (sc := defScope sGone) (by decide +kernel)) (fun _ _ _ _ _ => pg_name (i := 5) scGone.nd rfl (Or.inl rfl)) (fun _ _ _ _ _ => pts_one (pt_cmpR op_eq (pe_ix ix_tup (pv 5) pe_int (fun _ _ => rfl)) (pv 3) (nomark _))) (fun _ _ _ _ _ => pv 5)) (pv 7)))
      (pss_cons (ps_setLc (i := 8) (own := [("_law_one", 11)]) (g := gName 11) (tt := tTest (tOp rNe (tVar 11) (tVar 1))) (te := tCB (fun xs H Q => ∃ a, xs = [V.str a] ∧ Q (.str a) H) (tCons (tVar 11) tNil)) (by rfl) scGone.nd rfl rfl (sw_true rfl rfl rfl (by decide +kernel)) (pi_list (pe_ix ix_tup (pv 0) pe_int (fun _ _ => rfl)))
          (blkOk_by (own := [("_law_one", 11)]) (N := nGone) (sc := defScope sGone) (by decide +kernel)) (fun _ _ _ _ _ => pg_name (i := 11) scGone.nd rfl (Or.inl rfl)) (fun _ _ _ _ _ => pts_one (pt_cmpR op_ne (pv 11) (pv 1) (nomark _))) (fun _ _ _ _ _ => pe_callTy SkE.call_str_str (by rfl) tStr PyProof.Rows.boot_str (pa_cons (pv 11) pa_nil)))
      (pss_one (ps_ret (pe_tup (pa_cons (pv 4) (pa_cons (pe_callB cr_sortedA (by rfl) tS PyProof.Rows.boot_sorted (pa_cons (pe_op op_cat (pv 8) (pe_lst (pa_cons (pe_callTy SkE.call_str_str (by rfl) tStr PyProof.Rows.boot_str (pa_cons (pv 1) pa_nil)) pa_nil))) pa_nil)) pa_nil)))))))))), ?_⟩
    obtain ⟨q, lp, tp, xs, rfl, hq, hl, hx, ht⟩ := hD.ex
    have few := G.few
    have keys := goes_keys G.nd m
    obtain ⟨r0, rest, er0⟩ : ∃ r0 rest, rs = r0 :: rest := by
      cases h : rs with
      | nil => exact absurd h G.gd.ne
      | cons r l => exact ⟨r, l, rfl⟩
    have ef : headF rs = placeR r0 := by rw [er0]; rfl
    have hln : ((goesF rs m).length : Nat) ≤ 8 := by
      unfold goesF
      rw [List.length_map]
      exact Nat.le_trans (List.length_filter_le _ _) few
    dsimp only [gName, tNext]
    refine seq_cut (fun σ1 H1 => ∃ dn, σ1 = [some (.ref q), some (.str m), some (.ref dn), none, none, none, none, none, none, none, none, none] ∧ Same H H1 ∧ H1 dn = some (.dK (goK (goesF rs m)))) ?after1 fun after => ?go1
    case go1 =>
      refine ⟨_, rfl, q, _, 0, _, rfl, rfl, hq, atI_nat (j := 0) rfl, lp, rfl, ⟨_, hl⟩, fun D uD => dat_J (onMark m) (fun r => .tuple [.str (placeR r), .str (nextR r)]) (.l hl) hx (by omega) uD (fun _ _ => rfl) (fun x r H3 Y N hm hdx s3 y n => ?_) fun H3 acc s3 hD3 hacc => ?_⟩
      · refine ⟨rfl, ?_⟩
        cases r with
        | gate p mk nw el =>
          obtain ⟨t, rfl, ht2⟩ := line_gate hdx
          refine ⟨_, rfl, t, _, 0, _, rfl, rfl, ht2, atI_nat (j := 0) rfl, rfl, _, rfl, ?_⟩
          refine iteT ⟨_, rfl, t, _, 2, _, rfl, rfl, ht2, atI_nat (j := 2) rfl, _, rfl, rfl, _, rfl, ?_⟩
          rw [dec_str]
          cases ec : decide (mk = m) with
          | true => exact iteT ⟨_, rfl, t, _, 1, _, rfl, rfl, ht2, atI_nat (j := 1) rfl, _, rfl, t, _, 3, _, rfl, rfl, ht2, atI_nat (j := 3) rfl, by show 2 ≤ sizeLine; decide, fun p2 up => y ec _ _ (same_new up) (.tup (SqT.of upd_same) (.cons (.str _) (.cons (.str _) .nil)))⟩
          | false => exact iteF (n ec _ (Same.refl _))
        | ask p n0 ws =>
          obtain ⟨t, yw, rfl, ht2, _⟩ := line_ask hdx
          refine ⟨_, rfl, t, _, 0, _, rfl, rfl, ht2, atI_nat (j := 0) rfl, rfl, _, rfl, ?_⟩
          exact iteF (iteF (n rfl _ (Same.refl _)))
        | note p wd z =>
          obtain ⟨t, rfl, ht2⟩ := line_note hdx
          refine ⟨_, rfl, t, _, 0, _, rfl, rfl, ht2, atI_nat (j := 0) rfl, rfl, _, rfl, ?_⟩
          exact iteF (iteF (n rfl _ (Same.refl _)))
        | end_ p =>
          obtain ⟨t, rfl, ht2⟩ := line_end hdx
          refine ⟨_, rfl, t, _, 0, _, rfl, rfl, ht2, atI_nat (j := 0) rfl, rfl, _, rfl, ?_⟩
          exact iteF (iteF (n rfl _ (Same.refl _)))
      · obtain ⟨as, rfl, pd⟩ := pairs_dp (qs := goesF rs m) (by unfold goesF; rw [List.map_map]; exact hacc)
        refine ⟨D, as, goK (goesF rs m), rfl, SqL.of hD3, pd, fun p up => ?_⟩
        have em : mergeK [] (goK (goesF rs m)) = goK (goesF rs m) := go_merge (goesF rs m) [] keys
        rw [em]
        exact after _ _ ⟨p, rfl, s3.trans (same_new up), upd_same⟩
    case after1 =>
      rintro _ H1 ⟨dn, rfl, s1, hdn⟩
      generalize ehs : goesF rs m = hs at hdn hln
      generalize efp : endF hs 9 (headF rs) = fp
      refine seq_cut (fun σ1 H2 => ∃ Fd, σ1 = [some (.ref q), some (.str m), some (.ref dn), some (.str fp), some (.ref Fd), none, none, none, none, none, none, none] ∧ H1 Fd = none ∧ Same H1 H2 ∧ H2 Fd = some (.lst [])) ?after2 fun after => ?go2
      case go2 =>
        have hx0 := hx
        rw [er0, List.map_cons] at hx0
        cases hx0 with
        | @cons x0 xr _ _ h0 hr0 =>
          obtain ⟨t, ys, rfl, ht2, e0, e1⟩ := line_all (dp_same s1 _ _ h0)
          refine ⟨_, rfl, _, rfl, q, _, 0, _, rfl, rfl, same_tup s1 hq, atI_nat (j := 0) rfl, lp, _, 0, _, rfl, rfl, s1.seq hl, atI_nat (j := 0) rfl, t, _, 1, _, rfl, rfl, ht2, atI_nat (j := 1) e1, dn, hs, placeR r0, rfl, hdn, ?_⟩
          rw [← ef, efp]
          refine ⟨by show 0 ≤ sizeLine; decide, fun Fd uF => ⟨by show 2 ≤ sizeLine; decide, fun T uT => ?_⟩⟩
          have k1 := same_new (o := .lst []) uF
          have k2 := same_new (o := .tup [.str fp, .ref Fd]) uT
          refine ⟨T, _, rfl, SqT.of upd_same, rfl, _, _, rfl, _, _, rfl, rfl, after _ _ ⟨Fd, rfl, uF, k1.trans k2, k2 _ _ upd_same⟩⟩
      case after2 =>
        rintro _ H2 ⟨Fd, rfl, uF, s2, hF⟩
        have ndF : dn ≠ Fd := fun e => by rw [e, uF] at hdn; cases hdn
        have kG : Same H1 (hide Fd H2) := fun b o e => by
          have nb : b ≠ Fd := fun z => by rw [z, uF] at e; cases e
          rw [hide_ne nb]
          exact s2 _ _ e
        have kH : Same (hide Fd H2) H2 := fun b o e => by
          have nb : b ≠ Fd := fun z => by rw [z, hide_same] at e; cases e
          rw [hide_ne nb] at e
          exact e
        have nFd : (hide Fd H2) Fd = none := hide_same
        generalize hide Fd H2 = G0 at kG kH nFd
        have hx0 := dpAll_same (s1.trans kG) _ _ hx
        refine seq_cut (fun σ1 H3 => ∃ acc v5 v6, σ1 = [some (.ref q), some (.str m), some (.ref dn), some (.str fp), some (.ref Fd), v5, v6, none, none, none, none, none] ∧ Same G0 H3 ∧ H3 Fd = some (.lst acc) ∧ DpAll K H3 acc ((keepF rs m).map lineD)) ?after3 fun after => ?go3
        case go3 =>
          refine ⟨_, rfl, q, _, 0, _, rfl, rfl, same_tup (s1.trans s2) hq, atI_nat (j := 0) rfl, lp, rfl, ⟨_, (s1.trans s2).seq hl⟩, ?_⟩
          refine for_list (K := K) (a := lp) (xs := xs) (fun j σ1 H3 => ∃ acc v5 v6, σ1 = [some (.ref q), some (.str m), some (.ref dn), some (.str fp), some (.ref Fd), v5, v6, none, none, none, none, none] ∧ Same G0 H3 ∧ H3 Fd = some (.lst acc) ∧ DpAll K H3 acc ((((rs.take j).filter (stayB hs)).map (reE (endF hs 9))).map lineD))
            ⟨[], _, _, rfl, kH, hF, .nil⟩ (fun j σ1 H3 _ ⟨_, _, _, _, k, _⟩ => ((s1.trans kG).trans k).seq hl) ?_ ?_
          · rintro j x _ H3 hxj ⟨acc, v5, v6, rfl, k3, hF3, hacc⟩
            obtain ⟨d, ed, hdx⟩ := dpAll_at hx0 hxj
            rw [List.getElem?_map] at ed
            obtain ⟨r, er, rfl⟩ := Option.map_eq_some_iff.mp ed
            have hr := List.mem_of_getElem? er
            have hdx := dp_same k3 _ _ hdx
            have tk : rs.take (j + 1) = rs.take j ++ [r] := by rw [List.take_add_one, er]; rfl
            have al : acc.length ≤ 8 := by
              rw [dpAll_len hacc, List.length_map, List.length_map]
              exact Nat.le_trans (List.length_filter_le _ _) (by rw [List.length_take]; omega)
            have hdn3 := k3 _ _ (kG _ _ hdn)
            obtain ⟨t, ys, rfl, ht2, e0, e1⟩ := line_all hdx
            refine ⟨_, rfl, t, _, 1, _, rfl, rfl, ht2, atI_nat (j := 1) e1, _, rfl, dn, _, rfl, .inl ⟨_, Sum.inr (placeR r), .inl hdn3, rfl, rfl⟩, _, rfl, ?_⟩
            have eb : (!(valV (goK hs) (Sum.inr (placeR r))).isSome) = stayB hs r := by
              rw [go_val]
              unfold stayB
              cases hs.lookup (placeR r) <;> rfl
            rw [eb]
            cases es : stayB hs r with
            | false =>
              refine iteF ⟨acc, _, _, rfl, k3, hF3, ?_⟩
              rw [tk, List.filter_append, List.filter_cons_of_neg (by rw [es]; decide), List.filter_nil, List.append_nil]
              exact hacc
            | true =>
              refine iteT ?_
              refine seq_cut (fun σ1 H4 => ∃ x' v6, σ1 = [some (.ref q), some (.str m), some (.ref dn), some (.str fp), some (.ref Fd), some x', v6, none, none, none, none, none] ∧ Same H3 H4 ∧ Dp K H4 x' (lineD (reE (endF hs 9) r))) ?after4 fun after => ?go4
              case go4 =>
                cases r with
                | ask p n0 ws =>
                  obtain ⟨t, yw, et, ht2, hy⟩ := line_ask hdx
                  cases et
                  cases hy with
                  | @tup wa zs _ hw ha =>
                    have g3 : ws.length ≤ 3 := (G.gd.good _ hr).2.2.2.1
                    refine ⟨_, rfl, t, _, 0, _, rfl, rfl, ht2, atI_nat (j := 0) rfl, rfl, _, rfl, ?_⟩
                    refine iteT ⟨_, rfl, t, _, 3, _, rfl, rfl, ht2, atI_nat (j := 3) rfl, wa, rfl, ⟨_, hw⟩, fun D uD => dat_J (fun _ => true) (fun w => wayD (w.1, endF hs 9 w.2)) (.t hw) ha (by omega) uD (fun _ _ => rfl) (fun x w H4 Y N hwm hdw s4 y n => ?_) fun H4 wacc s4 hD4 hwacc => ?_⟩
                    · cases hdw with
                      | tup ht3 hy =>
                        cases hy with
                        | cons k1 hy =>
                          cases k1
                          cases hy with
                          | cons k2 hy =>
                            cases k2
                            cases hy
                            refine ⟨_, _, rfl, ht3, rfl, _, _, rfl, _, _, rfl, rfl, ?_⟩
                            refine ⟨rfl, ?_⟩
                            dsimp only [tYes]
                            exact iteT ⟨_, rfl, _, rfl, _, rfl, dn, hs, w.2, rfl, s4 _ _ hdn3, by show 2 ≤ sizeLine; decide, fun p2 up => y rfl _ _ (same_new up) (.tup (SqT.of upd_same) (.cons (.str _) (.cons (.str _) .nil)))⟩
                    · rw [List.filter_eq_self.mpr (fun _ _ => rfl)] at hwacc
                      refine ⟨_, rfl, _, rfl, t, _, rfl, same_tup s4 ht2, (show ¬(HT.sIx 4 0 none = 0 ∧ HT.sIx 4 4 (some 3) = 4) by decide), fun c uc => ?_⟩
                      have s5 := same_new (o := .tup (cutV [.str "ask", .str p, .str n0, .ref wa] none (some 3))) uc
                      have hc : (upd H4 c (.tup (cutV [.str "ask", .str p, .str n0, .ref wa] none (some 3)))) c = some (.tup [.str "ask", .str p, .str n0]) := upd_same
                      generalize (upd H4 c (.tup (cutV [.str "ask", .str p, .str n0, .ref wa] none (some 3)))) = H5 at s5 hc ⊢
                      refine ⟨_, rfl, D, wacc, rfl, .inl ⟨SqL.of (s5 _ _ hD4), fun tw utw => ?_⟩⟩
                      have s6 := same_new (o := .tup wacc) utw
                      have h6 : (upd H5 tw (.tup wacc)) tw = some (.tup wacc) := upd_same
                      generalize (upd H5 tw (.tup wacc)) = H6 at s6 h6 ⊢
                      refine ⟨by show 1 ≤ sizeLine; decide, fun t2 ut2 => ?_⟩
                      have s7 := same_new (o := .tup [.ref tw]) ut2
                      have h7 : (upd H6 t2 (.tup [.ref tw])) t2 = some (.tup [.ref tw]) := upd_same
                      generalize (upd H6 t2 (.tup [.ref tw])) = H7 at s7 h7 ⊢
                      refine ⟨c, t2, _, _, rfl, rfl, SqT.of (s7 _ _ (s6 _ _ hc)), SqT.of h7, by show 4 ≤ sizeLine; decide, fun e => (by cases e), fun _ e => (by cases e), fun _ _ t3 u3 => ?_⟩
                      have s8 := same_new (o := .tup ([.str "ask", .str p, .str n0] ++ [.ref tw])) u3
                      refine after _ _ ⟨_, _, rfl, s4.trans (s5.trans (s6.trans (s7.trans s8))), .tup (SqT.of upd_same) (.cons (.str _) (.cons (.str _) (.cons (.str _) (.cons (.tup (SqT.of (s8 _ _ (s7 _ _ h6))) ?_) .nil))))⟩
                      have hz := dpAll_same (s5.trans (s6.trans (s7.trans s8))) _ _ hwacc
                      rw [List.map_map]
                      exact hz
                | note p wd z =>
                  obtain ⟨t, et, ht2⟩ := line_note hdx
                  cases et
                  refine ⟨_, rfl, t, _, 0, _, rfl, rfl, ht2, atI_nat (j := 0) rfl, rfl, _, rfl, ?_⟩
                  refine iteF ⟨_, rfl, t, _, 0, _, rfl, rfl, ht2, atI_nat (j := 0) rfl, rfl, _, rfl, ?_⟩
                  refine iteT ⟨_, rfl, _, rfl, t, _, rfl, ht2, (show ¬(HT.sIx 4 0 none = 0 ∧ HT.sIx 4 4 (some 3) = 4) by decide), fun c uc => ?_⟩
                  have s5 := same_new (o := .tup (cutV [.str "note", .str p, .str wd, .str z] none (some 3))) uc
                  have hc : (upd H3 c (.tup (cutV [.str "note", .str p, .str wd, .str z] none (some 3)))) c = some (.tup [.str "note", .str p, .str wd]) := upd_same
                  generalize (upd H3 c (.tup (cutV [.str "note", .str p, .str wd, .str z] none (some 3)))) = H5 at s5 hc ⊢
                  refine ⟨_, rfl, _, rfl, t, _, 3, _, rfl, rfl, same_tup s5 ht2, atI_nat (j := 3) rfl, dn, hs, z, rfl, s5 _ _ hdn3, by show 1 ≤ sizeLine; decide, fun t2 ut2 => ?_⟩
                  have s7 := same_new (o := .tup [.str (endF hs 9 z)]) ut2
                  have h7 : (upd H5 t2 (.tup [.str (endF hs 9 z)])) t2 = some (.tup [.str (endF hs 9 z)]) := upd_same
                  generalize (upd H5 t2 (.tup [.str (endF hs 9 z)])) = H7 at s7 h7 ⊢
                  refine ⟨c, t2, _, _, rfl, rfl, SqT.of (s7 _ _ hc), SqT.of h7, by show 4 ≤ sizeLine; decide, fun e => (by cases e), fun _ e => (by cases e), fun _ _ t3 u3 => ?_⟩
                  have s8 := same_new (o := .tup ([.str "note", .str p, .str wd] ++ [.str (endF hs 9 z)])) u3
                  exact after _ _ ⟨_, _, rfl, s5.trans (s7.trans s8), .tup (SqT.of upd_same) (.cons (.str _) (.cons (.str _) (.cons (.str _) (.cons (.str _) .nil))))⟩
                | gate p mk nw el =>
                  obtain ⟨t, et, ht2⟩ := line_gate hdx
                  cases et
                  refine ⟨_, rfl, t, _, 0, _, rfl, rfl, ht2, atI_nat (j := 0) rfl, rfl, _, rfl, ?_⟩
                  refine iteF ⟨_, rfl, t, _, 0, _, rfl, rfl, ht2, atI_nat (j := 0) rfl, rfl, _, rfl, ?_⟩
                  refine iteF ⟨_, rfl, t, _, 0, _, rfl, rfl, ht2, atI_nat (j := 0) rfl, rfl, _, rfl, ?_⟩
                  refine iteT ⟨_, rfl, _, rfl, t, _, rfl, ht2, (show ¬(HT.sIx 5 0 none = 0 ∧ HT.sIx 5 5 (some 3) = 5) by decide), fun c uc => ?_⟩
                  have s5 := same_new (o := .tup (cutV [.str "mark", .str p, .str mk, .str nw, .str el] none (some 3))) uc
                  have hc : (upd H3 c (.tup (cutV [.str "mark", .str p, .str mk, .str nw, .str el] none (some 3)))) c = some (.tup [.str "mark", .str p, .str mk]) := upd_same
                  generalize (upd H3 c (.tup (cutV [.str "mark", .str p, .str mk, .str nw, .str el] none (some 3)))) = H5 at s5 hc ⊢
                  refine ⟨_, rfl, _, rfl, t, _, 3, _, rfl, rfl, same_tup s5 ht2, atI_nat (j := 3) rfl, dn, hs, nw, rfl, s5 _ _ hdn3, _, rfl, _, rfl, t, _, 4, _, rfl, rfl, same_tup s5 ht2, atI_nat (j := 4) rfl, dn, hs, el, rfl, s5 _ _ hdn3, by show 2 ≤ sizeLine; decide, fun t2 ut2 => ?_⟩
                  have s7 := same_new (o := .tup [.str (endF hs 9 nw), .str (endF hs 9 el)]) ut2
                  have h7 : (upd H5 t2 (.tup [.str (endF hs 9 nw), .str (endF hs 9 el)])) t2 = some (.tup [.str (endF hs 9 nw), .str (endF hs 9 el)]) := upd_same
                  generalize (upd H5 t2 (.tup [.str (endF hs 9 nw), .str (endF hs 9 el)])) = H7 at s7 h7 ⊢
                  refine ⟨c, t2, _, _, rfl, rfl, SqT.of (s7 _ _ hc), SqT.of h7, by show 5 ≤ sizeLine; decide, fun e => (by cases e), fun _ e => (by cases e), fun _ _ t3 u3 => ?_⟩
                  have s8 := same_new (o := .tup ([.str "mark", .str p, .str mk] ++ [.str (endF hs 9 nw), .str (endF hs 9 el)])) u3
                  exact after _ _ ⟨_, _, rfl, s5.trans (s7.trans s8), .tup (SqT.of upd_same) (.cons (.str _) (.cons (.str _) (.cons (.str _) (.cons (.str _) (.cons (.str _) .nil)))))⟩
                | end_ p =>
                  obtain ⟨t, et, ht2⟩ := line_end hdx
                  cases et
                  refine ⟨_, rfl, t, _, 0, _, rfl, rfl, ht2, atI_nat (j := 0) rfl, rfl, _, rfl, ?_⟩
                  refine iteF ⟨_, rfl, t, _, 0, _, rfl, rfl, ht2, atI_nat (j := 0) rfl, rfl, _, rfl, ?_⟩
                  refine iteF ⟨_, rfl, t, _, 0, _, rfl, rfl, ht2, atI_nat (j := 0) rfl, rfl, _, rfl, ?_⟩
                  exact iteF (after _ _ ⟨_, _, rfl, Same.refl _, hdx⟩)
              case after4 =>
                rintro _ H4 ⟨x', v6', rfl, k4, hx'⟩
                have hF4 := k4 _ _ hF3
                refine ⟨_, rfl, .inl ⟨rfl, _, SqL.of hF4⟩, _, rfl, Fd, acc, x', rfl, rfl, hF4, Nat.lt_of_le_of_lt (show _ ≤ 8 from al) (by decide), acc ++ [x'], _, _, rfl, same_edit (k3.trans k4) nFd, upd_same, ?_⟩
                rw [tk, List.filter_append, List.filter_cons_of_pos es, List.filter_nil, List.map_append, List.map_append]
                exact dpAll_app (dpAll_same (hard_upd hF4) _ _ (dpAll_hard _ _ (noLs_of fun r _ => line_noL r) (dpAll_same k4 _ _ hacc))) (.cons (dp_same (hard_upd hF4) _ _ (dp_hard _ _ (line_noL _) hx')) .nil)
          · rintro _ H3 ⟨acc, v5, v6, rfl, k3, hF3, hacc⟩
            refine after _ _ ⟨acc, v5, v6, rfl, k3, hF3, ?_⟩
            have xl : xs.length = rs.length := by rw [dpAll_len hx, List.length_map]
            rw [xl, List.take_length] at hacc
            unfold keepF
            rw [ehs]
            exact hacc
        case after3 =>
          rintro _ H3 ⟨acc, v5, v6, rfl, k3, hF3, hacc⟩
          have S3 := s1.trans (kG.trans k3)
          have klen : (keepF rs m).length ≤ 8 := by
            unfold keepF
            rw [List.length_map]
            exact Nat.le_trans (List.length_filter_le _ _) few
          refine seq_cut (fun σ1 H4 => ∃ L7 acc7, σ1 = [some (.ref q), some (.str m), some (.ref dn), some (.str fp), some (.ref Fd), v5, v6, some (.ref L7), none, none, none, none] ∧ Same H3 H4 ∧ H4 L7 = some (.lst acc7) ∧ DpAll K H4 acc7 (((keepF rs m).filter fun r => !decide (placeR r = fp)).map lineD)) ?after4 fun after => ?go4
          case go4 =>
            refine ⟨_, rfl, Fd, rfl, ⟨_, SqL.of hF3⟩, fun D uD => dat_J (fun r => !decide (placeR r = fp)) lineD (.l (SqL.of hF3)) hacc (by omega) uD (fun r _ => line_noL _) (fun x r H4 Y N hmr hdx s4 y n => ?_) fun H4 acc4 s4 hD4 hacc4 => after _ _ ⟨D, acc4, rfl, s4, hD4, hacc4⟩⟩
            obtain ⟨t, ys, rfl, ht2, e0, e1⟩ := line_all hdx
            refine ⟨rfl, ?_⟩
            refine ⟨_, rfl, t, _, 1, _, rfl, rfl, ht2, atI_nat (j := 1) e1, _, rfl, rfl, _, rfl, ?_⟩
            rw [dec_str]
            cases ec : decide (placeR r = fp) with
            | true => exact iteF (n (by rw [ec]; rfl) _ (Same.refl _))
            | false => exact iteT ⟨_, rfl, y (by rw [ec]; rfl) _ _ (Same.refl _) hdx⟩
          case after4 =>
            rintro _ H4 ⟨L7, acc7, rfl, s4, h7, hd7⟩
            have glen : (goneF rs m fp).length ≤ 8 := by
              have pm : (goneF rs m fp).Perm (keepF rs m) := List.filter_append_perm ..
              rw [pm.length_eq]
              exact klen
            refine seq_cut (fun σ1 H5 => ∃ L4 acc4, σ1 = [some (.ref q), some (.str m), some (.ref dn), some (.str fp), some (.ref L4), v5, v6, some (.ref L7), none, none, none, none] ∧ Same H4 H5 ∧ H L4 = none ∧ H5 L4 = some (.lst acc4) ∧ DpAll K H5 acc4 ((goneF rs m fp).map lineD)) ?after5 fun after => ?go5
            case go5 =>
              have hF4 := s4 _ _ hF3
              refine ⟨_, rfl, Fd, rfl, ⟨_, SqL.of hF4⟩, fun D uD => dat_J (fun r => decide (placeR r = fp)) lineD (.l (SqL.of hF4)) (dpAll_same s4 _ _ hacc) (by omega) uD (fun r _ => line_noL _) (fun x r H5 Y N hmr hdx s5 y n => ?_) fun H5 acc5 s5 hD5 hacc5 => ?_⟩
              · obtain ⟨t, ys, rfl, ht2, e0, e1⟩ := line_all hdx
                refine ⟨rfl, ?_⟩
                refine ⟨_, rfl, t, _, 1, _, rfl, rfl, ht2, atI_nat (j := 1) e1, _, rfl, rfl, _, rfl, ?_⟩
                rw [dec_str]
                cases ec : decide (placeR r = fp) with
                | true => exact iteT ⟨_, rfl, y ec _ _ (Same.refl _) hdx⟩
                | false => exact iteF (n ec _ (Same.refl _))
              · have all : DpAll K H5 (acc5 ++ acc7) ((goneF rs m fp).map lineD) := by
                  unfold goneF
                  rw [List.map_append]
                  exact dpAll_app hacc5 (dpAll_same s5 _ _ hd7)
                refine ⟨_, rfl, D, L7, _, _, rfl, rfl, hD5, s5 _ _ h7, ?_, fun L8 u8 => ?_⟩
                · have e := dpAll_len all
                  rw [List.length_append, List.length_map] at e
                  exact Nat.le_trans (show _ ≤ 8 by rw [e]; exact glen) (by decide)
                · have s8 := same_new (o := .lst (acc5 ++ acc7)) u8
                  exact after _ _ ⟨L8, _, rfl, s5.trans s8, (S3.trans (s4.trans s5)).free u8, upd_same, dpAll_same s8 _ _ all⟩
            case after5 =>
              rintro _ H5 ⟨L4, acc4, rfl, s5, f4, h4, hd4⟩
              have S5 := S3.trans (s4.trans s5)
              have four := G.gd.four
              have ndp := G.gd.ndp
              have fewp : ps.length ≤ 4 := nodup_le (m := (["m", "n", "mark", "k"] : List Str)) ndp four
              refine seq_cut (fun σ1 H6 => ∃ L8, σ1 = [some (.ref q), some (.str m), some (.ref dn), some (.str fp), some (.ref L4), v5, v6, some (.ref L7), some (.ref L8), none, none, none] ∧ Same H5 H6 ∧ H6 L8 = some (.lst ((ps.filter fun z => !decide (z = m)).map V.str))) ?after6 fun after => ?go6
              case go6 =>
                refine ⟨_, rfl, q, _, 1, _, rfl, rfl, same_tup S5 hq, atI_nat (j := 1) rfl, tp, rfl, ⟨_, S5.seq ht⟩, fun D uD => dat_J (fun z => !decide (z = m)) PyData.str (.l (S5.seq ht)) (strs_dp ps) (by omega) uD (fun _ _ => rfl) (fun x z H6 Y N hmz hdx s6 y n => ?_) fun H6 acc6 s6 hD6 hacc6 => ?_⟩
                · cases hdx
                  refine ⟨rfl, ?_⟩
                  refine ⟨_, rfl, _, rfl, rfl, _, rfl, ?_⟩
                  rw [dec_str]
                  cases ec : decide (z = m) with
                  | true => exact iteF (n (by rw [ec]; rfl) _ (Same.refl _))
                  | false => exact iteT ⟨_, rfl, z, rfl, y (by rw [ec]; rfl) _ _ (Same.refl _) (.str _)⟩
                · have ea := Lw.dp_strs hacc6
                  subst ea
                  exact after _ _ ⟨D, rfl, s6, hD6⟩
              case after6 =>
                rintro _ H6 ⟨L8, rfl, s6, h8⟩
                refine ⟨_, rfl, _, rfl, _, rfl, m, rfl, by show 1 ≤ sizeLine; decide, fun l9 u9 => ?_⟩
                have s9 := same_new (o := .lst [.str m]) u9
                have h9 : (upd H6 l9 (.lst [.str m])) l9 = some (.lst [.str m]) := upd_same
                generalize (upd H6 l9 (.lst [.str m])) = H7 at s9 h9 ⊢
                have fl : (ps.filter fun z => !decide (z = m)).length ≤ 4 := Nat.le_trans (List.length_filter_le _ _) fewp
                have elist : (ps.filter fun z => !decide (z = m)).map V.str ++ [V.str m] = ((ps.filter fun z => !decide (z = m)) ++ [m]).map V.str := by rw [List.map_append]; rfl
                refine ⟨L8, l9, _, _, rfl, rfl, s9 _ _ h8, h9, Nat.le_trans (show _ ≤ 5 by rw [List.length_map, List.length_singleton]; omega) (by decide), fun l10 u10 => ?_⟩
                have s10 := same_new (o := .lst ((ps.filter fun z => !decide (z = m)).map V.str ++ [V.str m])) u10
                have h10 : (upd H7 l10 (.lst ((ps.filter fun z => !decide (z = m)).map V.str ++ [V.str m]))) l10 = some (.lst (((ps.filter fun z => !decide (z = m)) ++ [m]).map V.str)) := by rw [← elist]; exact upd_same
                generalize (upd H7 l10 (.lst ((ps.filter fun z => !decide (z = m)).map V.str ++ [V.str m]))) = H8 at s10 h10 ⊢
                refine ⟨l10, _, rfl, .inl (SqL.of h10), by rw [List.length_append, List.length_singleton]; omega, fun dz pz hpz hsz upz => ?_⟩
                have s11 := same_new (o := .lst (dz.map V.str)) upz
                have h11 : (upd H8 pz (.lst (dz.map V.str))) pz = some (.lst (dz.map V.str)) := upd_same
                generalize (upd H8 pz (.lst (dz.map V.str))) = H9 at s11 h11 ⊢
                refine ⟨by show 2 ≤ sizeLine; decide, fun T uT => ?_⟩
                have s12 := same_new (o := .tup [.ref L4, .ref pz]) uT
                have SS := s6.trans (s9.trans (s10.trans (s11.trans s12)))
                have GG : Gk (goneF rs m fp) dz := G.gone hm hpz
                subst efp ehs
                have S9 := S5.trans (s6.trans (s9.trans s10))
                exact fin _ T L4 pz acc4 dz (S5.trans SS) ((S9.trans s11).free uT) f4 (S9.free upz) upd_same (SS _ _ h4) (dpAll_same SS _ _ hd4) (s12 _ _ h11) hpz GG
end
end K2

set_option Elab.async false
set_option linter.all false
set_option maxRecDepth 100000
set_option maxHeartbeats 1000000
/-! where a log stands in a told edition, as the law itself says -/
namespace K2
open PySem L2 Lw TL SxT
def skipL (ps : List Str) : List (List Str) → Nat
  | [z] :: l => if z ∈ ps then skipL ps l + 1 else 0
  | _ => 0
structure Sg where
  spot : Str
  ch : Wy
  said : Option Str
  at_ : Nat
def sayF (n : Str) (ws : List (Str × Str)) (e : List Str) : List Str := ((ws.filter fun w => decide (e = [n, w.1])).map (·.2))
/-- one turn: where it stands then, or the answer -/
def turnF (rs : List Row0) (ps : List Str) (es : List (List Str)) (g : Sg) : Sum Sg (Sg × Option Nat) :=
  match rowF rs g.spot with
  | none => .inl g
  | some (.note _ w t) => .inl ⟨t, g.ch, some w, g.at_ + skipL ps (es.drop g.at_)⟩
  | some (.gate _ m n e) => match wayOf g.ch m with
    | some b => .inl ⟨if b = true then n else e, g.ch, g.said, g.at_ + skipL ps (es.drop g.at_)⟩
    | none => match es[g.at_ + skipL ps (es.drop g.at_)]? with
      | none => .inr (g, none)
      | some en => .inl ⟨g.spot, g.ch ++ [(m, decide (en = [m]))], g.said, g.at_ + skipL ps (es.drop g.at_) + if en = [m] then 1 else 0⟩
  | some (.ask _ n ws) => match es[g.at_ + skipL ps (es.drop g.at_)]? with
    | none => .inr (g, none)
    | some en => match sayF n ws en with
      | z :: _ => .inl ⟨z, g.ch, g.said, g.at_ + skipL ps (es.drop g.at_) + 1⟩
      | [] => .inr (g, some (g.at_ + skipL ps (es.drop g.at_)))
  | some (.end_ _) => match es[g.at_ + skipL ps (es.drop g.at_)]? with
    | none => .inr (g, none)
    | some _ => .inr (g, some (g.at_ + skipL ps (es.drop g.at_)))
def standN (rs : List Row0) (ps : List Str) (es : List (List Str)) : Nat → Sg → Sg × Option Nat
  | 0, g => (g, some g.at_)
  | n + 1, g => match turnF rs ps es g with
    | .inl g' => standN rs ps es n g'
    | .inr r => r
def standF (rs : List Row0) (ps : List Str) (es : List (List Str)) : Sg × Option Nat := standN rs ps es 400 ⟨headF rs, [], none, 0⟩
def chK (ch : Wy) : List (Key × V) := ch.map fun q => (Sum.inr q.1, .bl q.2)
theorem ch_val : ∀ (ch : Wy) (z : Str), valV (chK ch) (Sum.inr z) = (wayOf ch z).map V.bl
  | [], z => rfl
  | (p, q) :: ch, z => by
    have ih := ch_val ch z
    unfold chK wayOf at ih ⊢
    rw [List.map_cons]
    by_cases e : p = z
    · subst e
      simp [valV]
    · rw [List.find?_cons_of_neg (by simpa using e), ← ih]
      simp [valV, List.find?_cons_of_neg, e]
/-- the marks that were met, as the law tells them -/
def toldW (ch : Wy) (dz : List Str) : PyData := .tuple (dz.map fun m => .tuple [.str m, .bool ((wayOf ch m).getD false)])
def spChosen (K : PySem.W.Frag) : Sp := fun vs H Q _ => ∃ (cn : Addr) (ch : Wy), vs = [.ref cn] ∧ H cn = some (.dK (chK ch)) ∧ (ch.map (·.1)).Nodup ∧ ch.length ≤ 20 ∧ ∀ H' v dz, Same H H' → dz.Perm (ch.map (·.1)) → PyProof.Rows.sortedS dz = true → Dp K H' v (toldW ch dz) → Q v H'
def optI2 : Option Nat → V
  | some i => .int (i : Nat)
  | none => .non
def spStand (K : PySem.W.Frag) : Sp := fun vs H Q _ => ∃ (v : V) (rs : List Row0) (ps : List Str) (sp : Addr) (ys : List V) (es : List (List Str)), vs = [v, .ref sp] ∧ Told K H v rs ps ∧ Gk rs ps ∧ SqL K H sp ys ∧ DpAll K H ys (es.map entD) ∧ (∀ e ∈ es, EntOk e) ∧ es.length ≤ 100 ∧
  ∀ (H' : Hp) (t : Addr) (wv : V) (dz : List Str), Same H H' → SqT K H' t [.str (standF rs ps es).1.spot, wv, optV (standF rs ps es).1.said, optI2 (standF rs ps es).2] → Dp K H' wv (toldW (standF rs ps es).1.ch dz) → dz.Perm ((standF rs ps es).1.ch.map (·.1)) → PyProof.Rows.sortedS dz = true → Q (.ref t) H'
theorem merge_self : ∀ (kvs acc : List (Key × V)), ((acc ++ kvs).map (·.1)).Nodup → mergeK acc kvs = acc ++ kvs
  | [], acc, _ => by rw [List.append_nil]; rfl
  | (p, q) :: hs, acc, nd => by
    have e : putK acc p q = acc ++ [(p, q)] := by
      unfold putK
      have no : acc.any (fun kv => decide (kv.1 = p)) = false := by
        rw [Bool.eq_false_iff]
        intro h
        obtain ⟨y, hk, e⟩ := List.any_eq_true.mp h
        have e : y.1 = p := of_decide_eq_true e
        rw [List.map_append, List.nodup_append] at nd
        exact nd.2.2 _ (List.mem_map_of_mem hk) _ (List.mem_map_of_mem (List.mem_cons_self ..)) e
      rw [no, if_neg (by decide)]
    show mergeK (putK acc p q) hs = _
    rw [e, merge_self hs (acc ++ [(p, q)]) (by rw [List.append_assoc]; exact nd), List.append_assoc]
    rfl
theorem pairs_rows {K : PySem.W.Frag} {H : Hp} : ∀ {acc : List V} {rs : List Row0}, DpAll K H acc (rs.map fun r => .tuple [.str (placeR r), lineD r]) → ∃ (as : List Addr) (kvs : List (Key × V)), acc = as.map V.ref ∧ PySem.Paired (fun p kv => SqT K H p [kV kv.1, kv.2]) as kvs ∧ kvs.map (·.1) = rs.map (fun r => (Sum.inr (placeR r) : Key)) ∧ ∀ p r, rowF rs p = some r → ∃ y, valV kvs (Sum.inr p) = some y ∧ Dp K H y (lineD r)
  | _, [], .nil => ⟨[], [], rfl, .nil, rfl, fun p r h => by cases h⟩
  | _, r0 :: rs, .cons h hs => by
    obtain ⟨as, kvs, rfl, pd, ek, look⟩ := pairs_rows hs
    cases h with
    | tup h1 h2 =>
      cases h2 with
      | cons a0 h2 =>
        cases h2 with
        | @cons y _ _ _ a1 h2 =>
          cases h2
          cases a0
          refine ⟨_ :: as, (Sum.inr (placeR r0), y) :: kvs, rfl, .cons h1 pd, by rw [List.map_cons, List.map_cons, ek], fun p r h => ?_⟩
          unfold rowF at h
          by_cases e : placeR r0 = p
          · rw [List.find?_cons_of_pos (by simpa using e)] at h
            cases h
            exact ⟨y, valV_pos (by rw [e]), a1⟩
          · rw [List.find?_cons_of_neg (by simpa using e)] at h
            obtain ⟨y', e1, e2⟩ := look p r h
            exact ⟨y', by rw [valV_neg (fun z => e (Sum.inr.inj z))]; exact e1, e2⟩
theorem stand_go {rs : List Row0} {ps : List Str} {es : List (List Str)} {g g' : Sg} {k : Nat} {X : Sg × Option Nat} (e : turnF rs ps es g = .inl g') (h : standN rs ps es (k + 1) g = X) : standN rs ps es k g' = X := by
  rw [← h, standN, e]
theorem stand_stop {rs : List Row0} {ps : List Str} {es : List (List Str)} {g : Sg} {r : Sg × Option Nat} {k : Nat} {X : Sg × Option Nat} (e : turnF rs ps es g = .inr r) (h : standN rs ps es (k + 1) g = X) : X = r := by
  rw [← h, standN, e]
theorem way_in {ch : Wy} {m : Str} (h : wayOf ch m = none) : m ∉ ch.map (·.1) := fun hm => by
  obtain ⟨w, hw, rfl⟩ := List.mem_map.mp hm
  unfold wayOf at h
  rw [Option.map_eq_none_iff, List.find?_eq_none] at h
  exact h w hw (by simp)
theorem way_new {ch : Wy} {m : Str} {b : Bool} (h : wayOf ch m = none) : wayOf (ch ++ [(m, b)]) m = some b := by
  unfold wayOf at h ⊢
  rw [Option.map_eq_none_iff] at h
  rw [List.find?_append, h]
  simp
theorem ch_put {ch : Wy} {m : Str} {b : Bool} (h : wayOf ch m = none) : putK (chK ch) (Sum.inr m) (.bl b) = chK (ch ++ [(m, b)]) := by
  unfold putK
  rw [valV_any, ch_val, h]
  show (if false = true then _ else _) = _
  rw [if_neg (by decide)]
  unfold chK
  rw [List.map_append]
  rfl
theorem say_in {n : Str} {ws : List (Str × Str)} {e : List Str} {z : Str} (h : z ∈ sayF n ws e) : ∃ w ∈ ws, w.2 = z := by
  obtain ⟨w, hw, ez⟩ := List.mem_map.mp h
  exact ⟨w, (List.mem_filter.mp hw).1, ez⟩
theorem list_shape {fs : List Str} (h : ∀ z ∈ fs, nameOk z = true) : SeqAt.shaped (.list (fs.map PyData.str)) = true := by
  simp [SeqAt.shaped, PyData.canLay0, PyData.depth, strs_lay fs fun z hz => name_strOk (h z hz), strs_depth]
structure SgOk (rs : List Row0) (es : List (List Str)) (g : Sg) : Prop where
  spot : g.spot ∈ rs.map placeR
  at_ : g.at_ ≤ es.length
  nd : (g.ch.map (·.1)).Nodup
  sub : ∀ m ∈ g.ch.map (·.1), m ∈ (rs.filter gateB).map markR
theorem SgOk.few {rs : List Row0} {es : List (List Str)} {g : Sg} (h : SgOk rs es g) (few : rs.length ≤ 8) : g.ch.length ≤ 8 := by
  have := nodup_le h.nd h.sub
  rw [List.length_map, List.length_map] at this
  exact Nat.le_trans this (Nat.le_trans (List.length_filter_le _ _) few)
theorem skip_le (ps : List Str) : ∀ es : List (List Str), skipL ps es ≤ es.length
  | [] => Nat.le_refl _
  | [] :: _ => Nat.zero_le _
  | [z] :: l => by
    rw [skipL]
    split
    · have := skip_le ps l
      simp only [List.length_cons]
      omega
    · exact Nat.zero_le _
  | (_ :: _ :: _) :: _ => Nat.zero_le _
theorem drop_at {es : List (List Str)} {a : Nat} {e : List Str} (h : es[a]? = some e) : es.drop a = e :: es.drop (a + 1) := by
  obtain ⟨lt, e⟩ := List.getElem?_eq_some_iff.mp h
  rw [← e, List.getElem_cons_drop]
theorem EntOk.two {e : List Str} (h : EntOk e) : (∃ a, e = [a]) ∨ ∃ a b, e = [a, b] := by
  have lo := h.lo
  have hi := h.hi
  match e, lo, hi with
  | [a], _, _ => exact .inl ⟨a, rfl⟩
  | [a, b], _, _ => exact .inr ⟨a, b, rfl⟩
  | _ :: _ :: _ :: _, _, hi => simp at hi
section
variable {P : Program} {w : World} {K : PySem.W.Frag} {mg : Str → Option Value} {base : Heap}
abbrev nStand : List Str := ["_law_told_here", "_law_some", "_law_rows", "_law_spot", "_law_chosen_here", "_law_said", "_law_at", "_law_turn", "_law_row", "_law_found", "_law_one", "_law_there"]
theorem scStand : FnScope nStand ["_law_told_here", "_law_some"] (defScope sStand) := ⟨rfl, rfl, rfl, by decide +kernel, rfl, by decide +kernel, by decide +kernel⟩
theorem okStand {f fC : Addr} {fd fdC : FuncData} (F : Fun K "_law_stand" "_law_stand" sStand f fd) (OC : FnOk P w K mg base CX0 1 fC fdC ["_law_chosen_here"] (spChosen K)) (kC : PySem.W.keepIn K (.ref fC) = true) (gC : mg "_law_chosen" = some (.ref fC)) (bC : Binds K fdC ["_law_chosen_here"] [])
    (tD : mg "dict" = none) (tR : mg "range" = none) (tLen : mg "len" = none) (tI : mg "int" = none) : FnOk P w K mg base CX0 2 f fd ["_law_told_here", "_law_some"] (spStand K) := by
  refine F.ok scStand (fun vs H Q E h => ?_) (fun cdv A outer s H vs Q E hr h => ?_)
  · obtain ⟨v, rs, ps, sp, ys, es, rfl, _⟩ := h
    rfl
  · obtain ⟨v, rs, ps, sp, ys, es, rfl, hT, hG, hs, hys, hes, few, fin⟩ := h
    have hu64 : (A.deeper (PyProof.Rows.envOfC (Str.ofString "_law_stand") (defScope sStand) s.heap.objs.size f cdv)).units + 64 < cLine := hr.units
    have hu : (A.deeper (PyProof.Rows.envOfC (Str.ofString "_law_stand") (defScope sStand) s.heap.objs.size f cdv)).units + 1 < cLine := by omega
    refine ⟨_, pss_cons (ps_set (i := 2) scStand.nd rfl (Or.inl rfl) (pe_callTy (call_dictP rfl) (by rfl) tD PyProof.Rows.boot_dict (pa_cons (pe_lc (own := [("_law_row", 8)]) (g := gName 8) (tt := tYes) (te := tTup (tCons (tOp (rIxT K) (tVar 8) (tC (.int 1))) (tCons (tVar 8) tNil))) (by rfl) scStand.nd (pi_list (pe_ix ix_tup (pv 0) pe_int (fun _ _ => rfl)))
          (blkOk_by (own := [("_law_row", 8)]) (N := nStand) (sc := defScope sStand) (by decide +kernel)) (fun _ _ _ _ _ => pg_name (i := 8) scStand.nd rfl (Or.inl rfl)) (fun _ _ _ _ _ => pts_nil) (fun _ _ _ _ _ => pe_tup (pa_cons (pe_ix ix_tup (pv 8) pe_int (fun _ _ => rfl)) (pa_cons (pv 8) pa_nil)))) pa_nil)))
      (pss_cons (ps_asg (pe_tup (pa_cons (pe_ix ix_tup (pe_ix ix_list (pe_ix ix_tup (pv 0) pe_int (fun _ _ => rfl)) pe_int (fun _ _ => rfl)) pe_int (fun _ _ => rfl)) (pa_cons pe_dnewK (pa_cons pe_non (pa_cons pe_int pa_nil))))) (pg_tup rfl (pgs_cons (pg_name (i := 3) scStand.nd rfl (Or.inl rfl)) (pgs_cons (pg_name (i := 4) scStand.nd rfl (Or.inl rfl)) (pgs_cons (pg_name (i := 5) scStand.nd rfl (Or.inl rfl)) (pgs_cons (pg_name (i := 6) scStand.nd rfl (Or.inl rfl)) pgs_nil))))))
      (pss_cons (ps_for PassesOwn.never rfl (pi_range1 rfl tR (pa_cons pe_int pa_nil)) (pg_name (i := 7) scStand.nd rfl (Or.inl rfl))
        (pss_cons (ps_while PassesOwn.never (PW.pt (pw_and (pt_cmpR op_lt (pv 6) (pe_callB call_len_seq (by rfl) tLen PySem.boot_len (pa_cons (pv 1) pa_nil)) (nomark _)) (pw_and (pt_cmpR op_eq (pe_callB call_len_seq (by rfl) tLen PySem.boot_len (pa_cons (pe_ix ix_list (pv 1) (pv 6) (fun _ _ => rfl)) pa_nil)) pe_int (nomark _)) (pw_and1 (pt_cmpR op_in_seq (pe_ix ix_tup (pe_ix ix_list (pv 1) (pv 6) (fun _ _ => rfl)) pe_int (fun _ _ => rfl)) (pe_ix ix_tup (pv 0) pe_int (fun _ _ => rfl)) rfl)))))
          (pss_one (ps_set (i := 6) scStand.nd rfl (Or.inl rfl) (pe_op op_add (pv 6) pe_int))))
        (pss_cons (ps_set (i := 8) scStand.nd rfl (Or.inl rfl) (pe_dget hu (pv 2) (pv 3) (fun _ _ => rfl)))
        (pss_one (ps_if (pt_cmpR op_eq (pe_ix ix_tup (pv 8) pe_int (fun _ _ => rfl)) pe_str (nomark _))
          (pss_one (ps_par (i := 5) (j := 3) (by rfl) scStand.nd rfl rfl (by decide) rfl rfl (pa_cons (pe_ix ix_tup (pv 8) pe_int (fun _ _ => rfl)) (pa_cons (pe_ix ix_tup (pv 8) pe_int (fun _ _ => rfl)) pa_nil)) (by rfl)))
          (pss_one (ps_if (PW.pt (pw_and (pt_cmpR op_eq (pe_ix ix_tup (pv 8) pe_int (fun _ _ => rfl)) pe_str (nomark _)) (pw_and1 (pt_cmp (pc_din hu (pe_ix ix_tup (pv 8) pe_int (fun _ _ => rfl)) (pv 4)) rfl))))
            (pss_one (ps_set (i := 3) scStand.nd rfl (Or.inl rfl) (pe_ifExp (pt_val (pe_dget hu (pv 4) (pe_ix ix_tup (pv 8) pe_int (fun _ _ => rfl)) (fun _ _ => rfl))) (pe_ix ix_tup (pv 8) pe_int (fun _ _ => rfl)) (pe_ix ix_tup (pv 8) pe_int (fun _ _ => rfl)))))
            (pss_one (ps_if (pt_cmpR op_eq (pv 6) (pe_callB call_len_seq (by rfl) tLen PySem.boot_len (pa_cons (pv 1) pa_nil)) (nomark _))
              (pss_one (ps_ret (pe_tup (pa_cons (pv 3) (pa_cons (pe_call OC (hr.mono (by decide)) rfl gC kC bC .nil pass0 (pa_cons (pv 4) pa_nil)) (pa_cons (pv 5) (pa_cons pe_non pa_nil)))))))
              (pss_one (ps_if (pt_cmpR op_eq (pe_ix ix_tup (pv 8) pe_int (fun _ _ => rfl)) pe_str (nomark _))
                (pss_cons (ps_asg (pe_cmpR (op_eqD hu64) (pe_ix ix_list (pv 1) (pv 6) (fun _ _ => rfl)) (pe_tup (pa_cons (pe_ix ix_tup (pv 8) pe_int (fun _ _ => rfl)) pa_nil)) (nomark _)) (pg_sub (pv 4) (pe_ix ix_tup (pv 8) pe_int (fun _ _ => rfl)) (set_dict hu)))
                (pss_one (ps_set (i := 6) scStand.nd rfl (Or.inl rfl) (pe_op op_add (pv 6) (pe_callTy call_int1 (by rfl) tI PyProof.Rows.boot_int (pa_cons (pe_dget hu (pv 4) (pe_ix ix_tup (pv 8) pe_int (fun _ _ => rfl)) (fun _ _ => rfl)) pa_nil))))))
                (pss_cons (ps_set (i := 9) scStand.nd rfl (Or.inl rfl) (pe_lst pa_nil))
                (pss_cons (ps_for PassesOwn.never rfl (pi_tup (pe_ifExp (pt_cmpR op_eq (pe_ix ix_tup (pv 8) pe_int (fun _ _ => rfl)) pe_str (nomark _)) (pe_ix ix_tup (pv 8) pe_int (fun _ _ => rfl)) (pe_tup pa_nil))) (pg_tup rfl (pgs_cons (pg_name (i := 10) scStand.nd rfl (Or.inl rfl)) (pgs_cons (pg_name (i := 11) scStand.nd rfl (Or.inl rfl)) pgs_nil)))
                  (pss_one (ps_set (i := 9) scStand.nd rfl (Or.inl rfl) (pe_op op_cat (pv 9) (pe_ifExp (pt_cmpR (op_eqD hu64) (pe_ix ix_list (pv 1) (pv 6) (fun _ _ => rfl)) (pe_tup (pa_cons (pe_ix ix_tup (pv 8) pe_int (fun _ _ => rfl)) (pa_cons (pv 10) pa_nil))) (nomark _)) (pe_lst (pa_cons (pv 11) pa_nil)) (pe_lst pa_nil))))))
                (pss_cons (ps_if (pt_cmpR (op_eqD hu64) (pv 9) (pe_lst pa_nil) (nomark _)) (pss_one (ps_ret (pe_tup (pa_cons (pv 3) (pa_cons (pe_call OC (hr.mono (by decide)) rfl gC kC bC .nil pass0 (pa_cons (pv 4) pa_nil)) (pa_cons (pv 5) (pa_cons (pv 6) pa_nil))))))) pss_nil)
                (pss_one (ps_par (i := 3) (j := 6) (by rfl) scStand.nd rfl rfl (by decide) rfl rfl (pa_cons (pe_ix ix_list (pv 9) pe_int (fun _ _ => rfl)) (pa_cons (pe_op op_add (pv 6) pe_int) pa_nil)) (by rfl)))))))))))))))))
      (pss_one (ps_ret (pe_tup (pa_cons (pv 3) (pa_cons (pe_call OC (hr.mono (by decide)) rfl gC kC bC .nil pass0 (pa_cons (pv 4) pa_nil)) (pa_cons (pv 5) (pa_cons (pv 6) pa_nil))))))))), ?_⟩
    obtain ⟨q, lp, tp, xs, rfl, hq, hl, hx, ht⟩ := hT.ex
    have few8 := hG.few
    obtain ⟨r0, rest0, er0⟩ : ∃ r0 rest, rs = r0 :: rest := by
      cases h : rs with
      | nil => exact absurd h hG.gd.ne
      | cons r l => exact ⟨r, l, rfl⟩
    have ef : headF rs = placeR r0 := by rw [er0]; rfl
    have yl : ys.length = es.length := by rw [dpAll_len hys, List.length_map]
    dsimp only [gName, tNext]
    refine seq_cut (fun σ1 H1 => ∃ (rn : Addr) (kvs : List (Key × V)), σ1 = [some (.ref q), some (.ref sp), some (.ref rn), none, none, none, none, none, none, none, none, none] ∧ Same H H1 ∧ H1 rn = some (.dK kvs) ∧ ∀ p r, rowF rs p = some r → ∃ y, valV kvs (Sum.inr p) = some y ∧ Dp K H1 y (lineD r)) ?after1 fun after => ?go1
    case go1 =>
      refine ⟨_, rfl, q, _, 0, _, rfl, rfl, hq, atI_nat (j := 0) rfl, lp, rfl, ⟨_, hl⟩, fun D uD => dat_J (fun _ => true) (fun r => .tuple [.str (placeR r), lineD r]) (.l hl) hx (by omega) uD (fun r _ => by simp [noL, noLs, line_noL]) (fun x r H3 Y N hm hdx s3 y n => ?_) fun H3 acc s3 hD3 hacc => ?_⟩
      · obtain ⟨t, zs, rfl, ht2, e0, e1⟩ := line_all hdx
        refine ⟨rfl, ?_⟩
        dsimp only [tYes]
        exact iteT ⟨_, rfl, t, _, 1, _, rfl, rfl, ht2, atI_nat (j := 1) e1, _, rfl, by show 2 ≤ sizeLine; decide, fun p2 up => y rfl _ _ (same_new up) (.tup (SqT.of upd_same) (.cons (.str _) (.cons (dp_same (same_new up) _ _ hdx) .nil)))⟩
      · rw [List.filter_eq_self.mpr (fun _ _ => rfl)] at hacc
        obtain ⟨as, kvs, rfl, pd, ek, look⟩ := pairs_rows hacc
        refine ⟨D, as, kvs, rfl, SqL.of hD3, pd, fun p up => ?_⟩
        have em : mergeK [] kvs = kvs := merge_self kvs [] (by
          rw [List.nil_append, ek]
          have nd := hG.nd
          rw [show (rs.map fun r => (Sum.inr (placeR r) : Key)) = (rs.map placeR).map Sum.inr by rw [List.map_map]; rfl]
          exact List.Pairwise.map _ (fun a b h e => h (Sum.inr.inj e)) nd)
        rw [em]
        have k := same_new (o := .dK kvs) up
        exact after _ _ ⟨p, kvs, rfl, s3.trans k, upd_same, fun p r h => by
          obtain ⟨y, a, b⟩ := look p r h
          exact ⟨y, a, dp_same k _ _ b⟩⟩
    case after1 =>
      rintro _ H1 ⟨rn, kvs, rfl, s1, hrn, look⟩
      refine seq_cut (fun σ1 H2 => ∃ (cn : Addr), σ1 = [some (.ref q), some (.ref sp), some (.ref rn), some (.str (headF rs)), some (.ref cn), some .non, some (.int (0 : Nat)), none, none, none, none, none] ∧ H1 cn = none ∧ Same H1 H2 ∧ H2 cn = some (.dK (chK []))) ?after2 fun after => ?go2
      case go2 =>
        have hx0 := hx
        rw [er0, List.map_cons] at hx0
        cases hx0 with
        | @cons x0 xr _ _ h0 hr0 =>
          obtain ⟨t, zs, rfl, ht2, e0, e1⟩ := line_all (dp_same s1 _ _ h0)
          refine ⟨_, rfl, q, _, 0, _, rfl, rfl, same_tup s1 hq, atI_nat (j := 0) rfl, lp, _, 0, _, rfl, rfl, s1.seq hl, atI_nat (j := 0) rfl, t, _, 1, _, rfl, rfl, ht2, atI_nat (j := 1) e1, fun cn uc => ⟨by show 4 ≤ sizeLine; decide, fun T uT => ?_⟩⟩
          have k1 := same_new (o := .dK []) uc
          have k2 := same_new (o := .tup [.str (placeR r0), .ref cn, .non, .int 0]) uT
          exact ⟨T, _, rfl, SqT.of upd_same, rfl, _, _, rfl, _, _, rfl, _, _, rfl, _, _, rfl, rfl, after _ _ ⟨cn, by rw [ef]; rfl, uc, k1.trans k2, k2 _ _ upd_same⟩⟩
      case after2 =>
        rintro _ H2 ⟨cn, rfl, uc, s2, hcn⟩
        have kG : Same H1 (hide cn H2) := fun b o e => by
          have nb : b ≠ cn := fun z => by rw [z, uc] at e; cases e
          rw [hide_ne nb]
          exact s2 _ _ e
        have kH : Same (hide cn H2) H2 := fun b o e => by
          have nb : b ≠ cn := fun z => by rw [z, hide_same] at e; cases e
          rw [hide_ne nb] at e
          exact e
        have nc : (hide cn H2) cn = none := hide_same
        generalize hide cn H2 = G0 at kG kH nc
        have k0 := s1.trans kG
        have hq0 := same_tup k0 hq
        have ht0 := k0.seq ht
        have hs0 := k0.seq hs
        have hys0 := dpAll_same k0 _ _ hys
        have hrn0 := kG _ _ hrn
        have look0 : ∀ p r, rowF rs p = some r → ∃ y, valV kvs (Sum.inr p) = some y ∧ Dp K G0 y (lineD r) := fun p r h => by
          obtain ⟨y, a, b⟩ := look p r h
          exact ⟨y, a, dp_same kG _ _ b⟩
        refine seq_cut (fun σ1 H3 => ∃ (g : Sg) (v7 v8 v9 v10 v11 : Option V), σ1 = [some (.ref q), some (.ref sp), some (.ref rn), some (.str g.spot), some (.ref cn), some (optV g.said), some (.int (g.at_ : Nat)), v7, v8, v9, v10, v11] ∧ Same G0 H3 ∧ H3 cn = some (.dK (chK g.ch)) ∧ SgOk rs es g ∧ standF rs ps es = (g, some g.at_)) ?after3 fun after => ?go3
        case go3 =>
          refine ⟨_, rfl, by omega, by omega, for_range (lo := 0) (fun i σ1 H3 => ∃ (g : Sg) (v7 v8 v9 v10 v11 : Option V), σ1 = [some (.ref q), some (.ref sp), some (.ref rn), some (.str g.spot), some (.ref cn), some (optV g.said), some (.int (g.at_ : Nat)), v7, v8, v9, v10, v11] ∧ Same G0 H3 ∧ H3 cn = some (.dK (chK g.ch)) ∧ SgOk rs es g ∧ ∃ k, i + k = 400 ∧ standN rs ps es k g = standF rs ps es)
            ⟨⟨headF rs, [], none, 0⟩, _, _, _, _, _, rfl, kH, hcn, ⟨by rw [ef, er0]; simp, Nat.zero_le _, List.nodup_nil, fun m hm => by cases hm⟩, 400, rfl, rfl⟩ ?_ ?_⟩
          · rintro i _ H3 hi ⟨g, v7, v8, v9, v10, v11, rfl, k3, hc3, ok, k, hk, es0⟩
            have hi : i < 400 := by omega
            obtain ⟨k, rfl⟩ : ∃ k', k = k' + 1 := ⟨k - 1, by omega⟩
            have hs3 := k3.seq hs0
            have hys3 := dpAll_same k3 _ _ hys0
            have ht3 := k3.seq ht0
            have hq3 := same_tup k3 hq0
            generalize ea : g.at_ + skipL ps (es.drop g.at_) = a
            have la : a ≤ es.length := by
              have h1 := skip_le ps (es.drop g.at_)
              have h2 := ok.at_
              rw [List.length_drop] at h1
              omega
            refine seq_cut (fun σ1 H4 => ∃ w7, σ1 = [some (.ref q), some (.ref sp), some (.ref rn), some (.str g.spot), some (.ref cn), some (optV g.said), some (.int (a : Nat)), w7, v8, v9, v10, v11] ∧ H3 = H4) ?afterW fun after => ?goW
            case goW =>
              refine ⟨fun c σ1 H4 => ∃ b, c = es.length - b ∧ σ1 = [some (.ref q), some (.ref sp), some (.ref rn), some (.str g.spot), some (.ref cn), some (optV g.said), some (.int (b : Nat)), some (.int (0 + (i : Nat))), v8, v9, v10, v11] ∧ H3 = H4 ∧ b ≤ es.length ∧ b + skipL ps (es.drop b) = a, ⟨_, g.at_, rfl, rfl, rfl, ok.at_, ea⟩, ?_⟩
              rintro _ _ _ ⟨b, rfl, rfl, rfl, lb, eb⟩
              have stop : skipL ps (es.drop b) = 0 → (fun σ1 H4 => ∃ w7, σ1 = [some (.ref q), some (.ref sp), some (.ref rn), some (.str g.spot), some (.ref cn), some (optV g.said), some (.int (a : Nat)), w7, v8, v9, v10, v11] ∧ H3 = H4) [some (.ref q), some (.ref sp), some (.ref rn), some (.str g.spot), some (.ref cn), some (optV g.said), some (.int (b : Nat)), some (.int (0 + (i : Nat))), v8, v9, v10, v11] H3 := fun e => ⟨_, by rw [show a = b by omega], rfl⟩
              refine ⟨_, rfl, _, rfl, sp, ys, rfl, .inl hs3, _, _, rfl, rfl, _, rfl, ?_⟩
              by_cases lt : (b : Int) < (ys.length : Int)
              case neg =>
                rw [decide_eq_false lt]
                refine iteF (iteF (after _ _ (stop ?_)))
                rw [List.drop_eq_nil_of_le (by omega)]
                rfl
              rw [decide_eq_true lt]
              have lb2 : b < es.length := by omega
              have eb2 : es[b]? = some es[b] := List.getElem?_eq_getElem lb2
              generalize es[b] = e at eb2
              have he := hes e (List.mem_of_getElem? eb2)
              have ey : ys[b]? = some (ys[b]'(by omega)) := List.getElem?_eq_getElem (by omega)
              generalize ys[b]'(by omega) = y at ey
              obtain ⟨dd, ed, hd⟩ := dpAll_at hys3 ey
              rw [List.getElem?_map, eb2] at ed
              cases ed
              unfold entD at hd
              cases hd with
              | @tup te zs _ hte hza =>
              have ez := Lw.dp_strs hza
              subst ez
              have dr := drop_at eb2
              refine iteT ⟨_, rfl, _, rfl, sp, ys, _, _, rfl, rfl, hs3, atI_nat ey, te, _, rfl, .inr hte, rfl, _, rfl, ?_⟩
              rcases he.two with ⟨z, rfl⟩ | ⟨z1, z2, rfl⟩
              · refine iteT ⟨_, rfl, _, rfl, sp, ys, _, _, rfl, rfl, hs3, atI_nat ey, te, _, 0, _, rfl, rfl, hte, atI_nat (j := 0) rfl, _, rfl, q, _, 1, _, rfl, rfl, hq3, atI_nat (j := 1) rfl, tp, _, rfl, .inl ht3, rfl, flat_strs _, _, rfl, ?_⟩
                rw [if_neg (by decide), inV_strs]
                have sk : skipL ps (es.drop b) = if z ∈ ps then skipL ps (es.drop (b + 1)) + 1 else 0 := by rw [dr]; rfl
                by_cases em : z ∈ ps
                · rw [decide_eq_true em]
                  rw [if_pos em] at sk
                  refine iteT ⟨fun σ1 H4 => σ1 = [some (.ref q), some (.ref sp), some (.ref rn), some (.str g.spot), some (.ref cn), some (optV g.said), some (.int ((b + 1 : Nat) : Int)), some (.int (0 + (i : Nat))), v8, v9, v10, v11] ∧ H3 = H4, fun σ1 H4 ⟨h5, h6⟩ => ⟨es.length - (b + 1), by omega, b + 1, rfl, h5, h6, by omega, by omega⟩, ?_⟩
                  exact ⟨_, rfl, _, _, rfl, rfl, rfl, rfl⟩
                · rw [decide_eq_false em]
                  rw [if_neg em] at sk
                  exact iteF (after _ _ (stop sk))
              · refine iteF (iteF (after _ _ (stop ?_)))
                rw [dr]
                rfl
            case afterW =>
              rintro _ _ ⟨w7, rfl, rfl⟩
              obtain ⟨r, hrow⟩ := row_of_place ok.spot
              obtain ⟨y, eyv, hyd⟩ := look0 _ _ hrow
              have hrd := dp_same k3 _ _ hyd
              obtain ⟨hr0, epl⟩ := row_mem hrow
              have toR := hG.to r hr0
              refine seq_cut (fun σ1 H4 => ∃ t, y = .ref t ∧ σ1 = [some (.ref q), some (.ref sp), some (.ref rn), some (.str g.spot), some (.ref cn), some (optV g.said), some (.int (a : Nat)), w7, some (.ref t), v9, v10, v11] ∧ H3 = H4) ?afterR fun after => ?goR
              case goR =>
                obtain ⟨t, zs, rfl, _⟩ := line_all hrd
                exact ⟨_, rfl, _, rfl, rn, _, rfl, .inl ⟨_, Sum.inr g.spot, .inl (k3 _ _ hrn0), rfl, eyv.symm⟩, after _ _ ⟨t, rfl, rfl, rfl⟩⟩
              case afterR =>
                rintro _ _ ⟨t, rfl, rfl, rfl⟩
                have sz4 : 4 ≤ sizeLine := by decide
                have c8 := Nat.le_trans (ok.few few8) (show 8 ≤ 20 by decide)
                have ret : ∀ (st : Option Nat), turnF rs ps es g = .inr (g, st) → ∀ (H4 : Hp) (T : Addr) (wv : V) (dz : List Str), Same H3 H4 → SqT K H4 T [.str g.spot, wv, optV g.said, optI2 st] → Dp K H4 wv (toldW g.ch dz) → dz.Perm (g.ch.map (·.1)) → PyProof.Rows.sortedS dz = true → Q (.ref T) H4 := fun st e H4 T wv dz s4 hT4 hw pm so => by
                  have X := stand_stop e es0
                  rw [X] at fin
                  exact fin H4 T wv dz (k0.trans (k3.trans s4)) hT4 hw pm so
                have eqL : ∀ {b : Prop} [Decidable b], (decide (V.int (a : Nat) = V.int (ys.length : Nat))) = decide (a = es.length) := fun {_ _} => decide_eq_decide.mpr ⟨fun h => by
                  have := V.int.inj h
                  omega, fun h => by rw [yl, h]⟩
                have eqL : (decide (V.int (a : Nat) = V.int (ys.length : Nat))) = decide (a = es.length) := eqL (b := True)
                have okAt : ∀ {spot : Str} {said : Option Str} {b : Nat}, spot ∈ rs.map placeR → b ≤ es.length → SgOk rs es ⟨spot, g.ch, said, b⟩ := fun h1 h2 => ⟨h1, h2, ok.nd, ok.sub⟩
                have entry : a ≠ es.length → ∃ (e : List Str) (te : Addr), es[a]? = some e ∧ EntOk e ∧ ys[a]? = some (.ref te) ∧ SqT K H3 te (e.map V.str) := fun ne => by
                  have lb2 : a < es.length := by omega
                  have eb2 : es[a]? = some es[a] := List.getElem?_eq_getElem lb2
                  generalize es[a] = e at eb2
                  have he := hes e (List.mem_of_getElem? eb2)
                  have ey : ys[a]? = some (ys[a]'(by omega)) := List.getElem?_eq_getElem (by omega)
                  generalize ys[a]'(by omega) = y at ey
                  obtain ⟨dd, ed, hd⟩ := dpAll_at hys3 ey
                  rw [List.getElem?_map, eb2] at ed
                  cases ed
                  unfold entD at hd
                  cases hd with
                  | @tup te zs _ hte hza =>
                  have ez := Lw.dp_strs hza
                  subst ez
                  exact ⟨e, te, eb2, he, ey, hte⟩
                have none_at : a = es.length → es[a]? = none := fun e => List.getElem?_eq_none (by omega)
                cases r with
                | note p wd z =>
                  obtain ⟨t', et, ht2⟩ := line_note hrd
                  cases et
                  have tf : turnF rs ps es g = .inl ⟨z, g.ch, some wd, a⟩ := by
                    unfold turnF
                    rw [hrow, ea]
                  refine ⟨_, rfl, t, _, 0, _, rfl, rfl, ht2, atI_nat (j := 0) rfl, rfl, _, rfl, ?_⟩
                  exact iteT ⟨_, rfl, t, _, 2, _, rfl, rfl, ht2, atI_nat (j := 2) rfl, _, rfl, t, _, 3, _, rfl, rfl, ht2, atI_nat (j := 3) rfl, _, _, rfl, ⟨z, g.ch, some wd, a⟩, _, _, _, _, _, rfl, k3, hc3, okAt (toR z (by simp [leadsR])) la, k, by omega, stand_go tf es0⟩
                | gate p m n e =>
                  obtain ⟨t', et, ht2⟩ := line_gate hrd
                  cases et
                  refine ⟨_, rfl, t, _, 0, _, rfl, rfl, ht2, atI_nat (j := 0) rfl, rfl, _, rfl, ?_⟩
                  refine iteF ⟨_, rfl, t, _, 0, _, rfl, rfl, ht2, atI_nat (j := 0) rfl, rfl, _, rfl, ?_⟩
                  refine iteT ⟨_, rfl, t, _, 2, _, rfl, rfl, ht2, atI_nat (j := 2) rfl, _, rfl, cn, _, rfl, .inl ⟨_, Sum.inr m, .inl hc3, rfl, rfl⟩, _, rfl, ?_⟩
                  rw [ch_val]
                  cases ew : wayOf g.ch m with
                  | some b =>
                    have tf : turnF rs ps es g = .inl ⟨if b = true then n else e, g.ch, g.said, a⟩ := by
                      unfold turnF
                      rw [hrow]
                      show (match wayOf g.ch m with | some b => _ | none => _) = _
                      rw [ew, ea]
                    refine iteT ⟨_, rfl, _, rfl, t, _, 2, _, rfl, rfl, ht2, atI_nat (j := 2) rfl, cn, .bl b, rfl, .inl ⟨_, Sum.inr m, .inl hc3, rfl, by rw [ch_val, ew]; rfl⟩, b, rfl, ?_⟩
                    cases b with
                    | true => exact iteT ⟨_, rfl, t, _, 3, _, rfl, rfl, ht2, atI_nat (j := 3) rfl, ⟨n, g.ch, g.said, a⟩, _, _, _, _, _, rfl, k3, hc3, okAt (toR n (by simp [leadsR])) la, k, by omega, stand_go tf es0⟩
                    | false => exact iteF ⟨_, rfl, t, _, 4, _, rfl, rfl, ht2, atI_nat (j := 4) rfl, ⟨e, g.ch, g.said, a⟩, _, _, _, _, _, rfl, k3, hc3, okAt (toR e (by simp [leadsR])) la, k, by omega, stand_go tf es0⟩
                  | none =>
                    refine iteF ⟨_, rfl, _, rfl, sp, ys, rfl, .inl hs3, rfl, _, rfl, ?_⟩
                    rw [eqL]
                    by_cases al : a = es.length
                    · rw [decide_eq_true al]
                      have tf : turnF rs ps es g = .inr (g, none) := by
                        unfold turnF
                        rw [hrow]
                        show (match wayOf g.ch m with | some b => _ | none => _) = _
                        rw [ew, ea]
                        show (match es[a]? with | none => _ | some en => _) = _
                        rw [none_at al]
                      refine iteT ⟨_, rfl, _, rfl, cn, g.ch, rfl, hc3, ok.nd, c8, fun H4 wv dz s4 pm so hw => ⟨_, rfl, sz4, fun T uT => ?_⟩⟩
                      have s5 := same_new (o := .tup [.str g.spot, wv, optV g.said, .non]) uT
                      exact ret none tf _ T wv dz (s4.trans s5) (SqT.of upd_same) (dp_same s5 _ _ hw) pm so
                    · rw [decide_eq_false al]
                      obtain ⟨en, te, een, he, ey, hte⟩ := entry al
                      have tf : turnF rs ps es g = .inl ⟨g.spot, g.ch ++ [(m, decide (en = [m]))], g.said, a + if en = [m] then 1 else 0⟩ := by
                        unfold turnF
                        rw [hrow]
                        show (match wayOf g.ch m with | some b => _ | none => _) = _
                        rw [ew, ea]
                        show (match es[a]? with | none => _ | some en => _) = _
                        rw [een]
                      have okm : nameOk m = true := (hG.gd.good _ hr0).2.1
                      refine iteF ⟨_, rfl, t, _, 0, _, rfl, rfl, ht2, atI_nat (j := 0) rfl, rfl, _, rfl, ?_⟩
                      refine iteT ⟨_, rfl, _, rfl, sp, ys, _, _, rfl, rfl, hs3, atI_nat ey, _, rfl, t, _, 2, _, rfl, rfl, ht2, atI_nat (j := 2) rfl, by show 1 ≤ sizeLine; decide, fun p1 u1 => ?_⟩
                      have s4 := same_new (o := .tup [.str m]) u1
                      have h4 : (upd H3 p1 (.tup [.str m])) p1 = some (.tup [.str m]) := upd_same
                      generalize (upd H3 p1 (.tup [.str m])) = H4 at s4 h4 ⊢
                      have om : ∀ z ∈ [m], nameOk z = true := fun z hz => by rw [List.mem_singleton.mp hz]; exact okm
                      refine ⟨entD en, entD [m], .tup (same_tup s4 hte) (strs_dp en), .tup (SqT.of h4) (strs_dp [m]), ent_shape he.ok, ent_shape om, ?_⟩
                      rw [ent_eqv he.ok he.hi]
                      refine ⟨_, rfl, _, rfl, t, _, 2, _, rfl, rfl, same_tup s4 ht2, atI_nat (j := 2) rfl, cn, _, rfl, .inl ⟨_, Sum.inr m, s4 _ _ hc3, rfl, ?_, rfl⟩, ?_⟩
                      · unfold chK
                        rw [List.length_map]
                        exact Nat.lt_of_le_of_lt c8 (by decide)
                      · rw [ch_put ew]
                        have k5 : Same G0 (upd H4 cn (.dK (chK (g.ch ++ [(m, decide (en = [m]))])))) := same_edit (k3.trans s4) nc
                        have h5 : (upd H4 cn (.dK (chK (g.ch ++ [(m, decide (en = [m]))])))) cn = some (.dK (chK (g.ch ++ [(m, decide (en = [m]))]))) := upd_same
                        generalize (upd H4 cn (.dK (chK (g.ch ++ [(m, decide (en = [m]))])))) = H5 at k5 h5 ⊢
                        have hrd5 := dp_same k5 _ _ hyd
                        obtain ⟨t', et, ht5⟩ := line_gate hrd5
                        cases et
                        have oknew : SgOk rs es ⟨g.spot, g.ch ++ [(m, decide (en = [m]))], g.said, a + if en = [m] then 1 else 0⟩ := by
                          refine ⟨ok.spot, ?_, ?_, fun z hz => ?_⟩
                          · show a + (if en = [m] then 1 else 0) ≤ es.length
                            split <;> omega
                          · show ((g.ch ++ [(m, decide (en = [m]))]).map (·.1)).Nodup
                            rw [List.map_append, List.nodup_append]
                            refine ⟨ok.nd, by simp, fun x hx y hy e => ?_⟩
                            have hy : y = m := by simpa using hy
                            rw [e, hy] at hx
                            exact way_in ew hx
                          · have hz : z ∈ (g.ch ++ [(m, decide (en = [m]))]).map (·.1) := hz
                            rw [List.map_append, List.mem_append] at hz
                            rcases hz with hz | hz
                            · exact ok.sub z hz
                            · have hz : z = m := by simpa using hz
                              rw [hz]
                              exact List.mem_map.mpr ⟨_, List.mem_filter.mpr ⟨hr0, rfl⟩, rfl⟩
                        refine ⟨_, rfl, _, rfl, _, rfl, t, _, 2, _, rfl, rfl, ht5, atI_nat (j := 2) rfl, cn, .bl (decide (en = [m])), rfl, .inl ⟨_, Sum.inr m, .inl h5, rfl, by rw [ch_val, way_new ew]; rfl⟩, .inr ⟨_, rfl, _, _, rfl, rfl, ⟨⟨g.spot, g.ch ++ [(m, decide (en = [m]))], g.said, a + if en = [m] then 1 else 0⟩, w7, some (.ref t), v9, v10, v11, ?_, k5, h5, oknew, k, by omega, stand_go tf es0⟩⟩⟩
                        by_cases em : en = [m]
                        · simp [em]
                        · simp [em]
                | ask p n ws =>
                  obtain ⟨t', yw, et, ht2, hyw⟩ := line_ask hrd
                  cases et
                  cases hyw with
                  | @tup wa wz _ hwa hwz =>
                  refine ⟨_, rfl, t, _, 0, _, rfl, rfl, ht2, atI_nat (j := 0) rfl, rfl, _, rfl, ?_⟩
                  refine iteF ⟨_, rfl, t, _, 0, _, rfl, rfl, ht2, atI_nat (j := 0) rfl, rfl, _, rfl, ?_⟩
                  refine iteF (iteF ⟨_, rfl, _, rfl, sp, ys, rfl, .inl hs3, rfl, _, rfl, ?_⟩)
                  rw [eqL]
                  by_cases al : a = es.length
                  · rw [decide_eq_true al]
                    have tf : turnF rs ps es g = .inr (g, none) := by
                      unfold turnF
                      rw [hrow]
                      show (match es[g.at_ + skipL ps (es.drop g.at_)]? with | none => _ | some en => _) = _
                      rw [ea, none_at al]
                    refine iteT ⟨_, rfl, _, rfl, cn, g.ch, rfl, hc3, ok.nd, c8, fun H4 wv dz s4 pm so hw => ⟨_, rfl, sz4, fun T uT => ?_⟩⟩
                    have s5 := same_new (o := .tup [.str g.spot, wv, optV g.said, .non]) uT
                    exact ret none tf _ T wv dz (s4.trans s5) (SqT.of upd_same) (dp_same s5 _ _ hw) pm so
                  · rw [decide_eq_false al]
                    obtain ⟨en, te, een, he, ey, hte⟩ := entry al
                    have gr := hG.gd.good _ hr0
                    refine iteF ⟨_, rfl, t, _, 0, _, rfl, rfl, ht2, atI_nat (j := 0) rfl, rfl, _, rfl, ?_⟩
                    refine iteF ?_
                    refine seq_cut (fun σ1 H4 => ∃ F0, σ1 = [some (.ref q), some (.ref sp), some (.ref rn), some (.str g.spot), some (.ref cn), some (optV g.said), some (.int (a : Nat)), w7, some (.ref t), some (.ref F0), v10, v11] ∧ Same H3 H4 ∧ H4 F0 = some (.lst [])) ?_ fun after => ⟨by show 0 ≤ sizeLine; decide, fun F0 uF => after _ _ ⟨F0, rfl, same_new uF, upd_same⟩⟩
                    rintro _ H4 ⟨F0, rfl, sF, hF0⟩
                    refine seq_cut (fun σ1 H4 => ∃ (Fn : Addr) (fs : List Str) (w10 w11 : Option V), σ1 = [some (.ref q), some (.ref sp), some (.ref rn), some (.str g.spot), some (.ref cn), some (optV g.said), some (.int (a : Nat)), w7, some (.ref t), some (.ref Fn), w10, w11] ∧ Same H3 H4 ∧ H4 Fn = some (.lst (fs.map V.str)) ∧ turnF rs ps es g = (match fs with | z :: _ => .inl ⟨z, g.ch, g.said, a + 1⟩ | [] => .inr (g, some a)) ∧ (∀ z ∈ fs, z ∈ rs.map placeR) ∧ a < es.length) ?_ fun after => ?_
                    · rintro _ H4 ⟨Fn, fs, w10, w11, rfl, s4, hFn, tf, hfs, alt⟩
                      refine seq_cut (fun σ1 H5 => σ1 = [some (.ref q), some (.ref sp), some (.ref rn), some (.str g.spot), some (.ref cn), some (optV g.said), some (.int (a : Nat)), w7, some (.ref t), some (.ref Fn), w10, w11] ∧ Same H4 H5 ∧ fs ≠ []) ?_ fun after => ?_
                      · rintro _ H5 ⟨rfl, s5, nfs⟩
                        cases fs with
                        | nil => exact absurd rfl nfs
                        | cons z fl =>
                          exact ⟨_, rfl, Fn, _, 0, _, rfl, rfl, SqL.of (s5 _ _ hFn), atI_nat (j := 0) rfl, _, rfl, _, _, rfl, rfl, _, _, rfl, ⟨z, g.ch, g.said, a + 1⟩, _, _, _, _, _, rfl, k3.trans (s4.trans s5), s5 _ _ (s4 _ _ hc3), okAt (hfs z (List.mem_cons_self ..)) (by omega), k, by omega, stand_go tf es0⟩
                      · refine ⟨_, rfl, by show 0 ≤ sizeLine; decide, fun p0 u0 => ?_⟩
                        have s5 := same_new (o := .lst []) u0
                        have h5 : (upd H4 p0 (.lst [])) p0 = some (.lst []) := upd_same
                        generalize (upd H4 p0 (.lst [])) = H5 at s5 h5 ⊢
                        refine ⟨.list (fs.map PyData.str), .list [], .lst (SqL.of (s5 _ _ hFn)) (strs_dp fs), .lst (SqL.of h5) .nil, list_shape fun z hz => hG.names (hfs z hz), by decide +kernel, _, rfl, ?_⟩
                        cases fs with
                        | nil =>
                          refine iteT ⟨_, rfl, _, rfl, cn, g.ch, rfl, s5 _ _ (s4 _ _ hc3), ok.nd, c8, fun H6 wv dz s6 pm so hw => ⟨_, rfl, _, rfl, sz4, fun T uT => ?_⟩⟩
                          have s7 := same_new (o := .tup [.str g.spot, wv, optV g.said, .int (a : Nat)]) uT
                          exact ret (some a) tf _ T wv dz (s4.trans (s5.trans (s6.trans s7))) (SqT.of upd_same) (dp_same s7 _ _ hw) pm so
                        | cons z fl => exact iteF (after _ _ ⟨rfl, s5, by simp⟩)
                    · refine ⟨_, rfl, t, _, 0, _, rfl, rfl, same_tup sF ht2, atI_nat (j := 0) rfl, rfl, _, rfl, ?_⟩
                      refine iteT ⟨_, rfl, t, _, 3, _, rfl, rfl, same_tup sF ht2, atI_nat (j := 3) rfl, wa, rfl, ⟨wz, same_tup sF hwa⟩, ?_⟩
                      refine for_tup (K := K) (a := wa) (xs := wz) (fun j σ1 H5 => ∃ (Fn : Addr) (w10 w11 : Option V), σ1 = [some (.ref q), some (.ref sp), some (.ref rn), some (.str g.spot), some (.ref cn), some (optV g.said), some (.int (a : Nat)), w7, some (.ref t), some (.ref Fn), w10, w11] ∧ Same H3 H5 ∧ H5 Fn = some (.lst ((sayF n (ws.take j) en).map V.str)))
                        ⟨F0, _, _, rfl, sF, hF0⟩ (fun j σ1 H5 _ ⟨_, _, _, _, k5, _⟩ => same_tup k5 hwa) ?_ ?_
                      · rintro j x _ H5 hj ⟨Fn, w10, w11, rfl, s5, hFn⟩
                        obtain ⟨dd, ed, hdw⟩ := dpAll_at (dpAll_same s5 _ _ hwz) hj
                        rw [List.getElem?_map] at ed
                        obtain ⟨w0, ew0, rfl⟩ := Option.map_eq_some_iff.mp ed
                        have hw0 := List.mem_of_getElem? ew0
                        have tk : ws.take (j + 1) = ws.take j ++ [w0] := by rw [List.take_add_one, ew0]; rfl
                        have gw := gr.2.2.2.2.2 w0 hw0
                        have wfew : ws.length ≤ 3 := gr.2.2.2.1
                        have sl : (sayF n (ws.take j) en).length ≤ 3 := by
                          unfold sayF
                          rw [List.length_map]
                          exact Nat.le_trans (List.length_filter_le _ _) (by rw [List.length_take]; omega)
                        cases hdw with
                        | @tup tw zz _ htw hzz =>
                        rw [Lw.dp_strs (zs := [w0.1, w0.2]) hzz] at htw
                        refine ⟨tw, _, rfl, htw, rfl, _, _, rfl, _, _, rfl, rfl, ?_⟩
                        refine ⟨_, rfl, _, rfl, _, rfl, sp, ys, _, _, rfl, rfl, s5.seq hs3, atI_nat ey, _, rfl, t, _, 2, _, rfl, rfl, same_tup s5 ht2, atI_nat (j := 2) rfl, _, rfl, by show 2 ≤ sizeLine; decide, fun p1 u1 => ?_⟩
                        have s6 := same_new (o := .tup [.str n, .str w0.1]) u1
                        have h6 : (upd H5 p1 (.tup [.str n, .str w0.1])) p1 = some (.tup [.str n, .str w0.1]) := upd_same
                        generalize (upd H5 p1 (.tup [.str n, .str w0.1])) = H6 at s6 h6 ⊢
                        have om : ∀ z ∈ [n, w0.1], nameOk z = true := fun z hz => by
                          simp only [List.mem_cons, List.not_mem_nil, or_false] at hz
                          rcases hz with rfl | rfl
                          · exact gr.2.1
                          · exact gw.1
                        refine ⟨entD en, entD [n, w0.1], .tup (same_tup (s5.trans s6) hte) (strs_dp en), .tup (SqT.of h6) (strs_dp [n, w0.1]), ent_shape he.ok, ent_shape om, _, rfl, ?_⟩
                        rw [ent_eqv he.ok he.hi]
                        have sx : sayF n (ws.take (j + 1)) en = sayF n (ws.take j) en ++ if en = [n, w0.1] then [w0.2] else [] := by
                          unfold sayF
                          rw [tk, List.filter_append, List.map_append]
                          congr 1
                          by_cases q : en = [n, w0.1]
                          · rw [if_pos q, List.filter_cons_of_pos (by simpa using q)]
                            rfl
                          · rw [if_neg q, List.filter_cons_of_neg (by simpa using q)]
                            rfl
                        by_cases q : en = [n, w0.1]
                        · rw [decide_eq_true q]
                          rw [if_pos q] at sx
                          refine iteT ⟨_, rfl, by show 1 ≤ sizeLine; decide, fun p2 u2 => ?_⟩
                          have s7 := same_new (o := .lst [.str w0.2]) u2
                          have h7 : (upd H6 p2 (.lst [.str w0.2])) p2 = some (.lst [.str w0.2]) := upd_same
                          generalize (upd H6 p2 (.lst [.str w0.2])) = H7 at s7 h7 ⊢
                          refine ⟨Fn, p2, _, _, rfl, rfl, s7 _ _ (s6 _ _ hFn), h7, Nat.le_trans (show _ ≤ 4 by rw [List.length_map, List.length_singleton]; omega) (by decide), fun p3 u3 => ?_⟩
                          have s8 := same_new (o := .lst ((sayF n (ws.take j) en).map V.str ++ [.str w0.2])) u3
                          refine ⟨p3, _, _, rfl, s5.trans (s6.trans (s7.trans s8)), ?_⟩
                          rw [upd_same, sx, List.map_append]
                          rfl
                        · rw [decide_eq_false q]
                          rw [if_neg q] at sx
                          refine iteF ⟨by show 0 ≤ sizeLine; decide, fun p2 u2 => ?_⟩
                          have s7 := same_new (o := .lst []) u2
                          have h7 : (upd H6 p2 (.lst [])) p2 = some (.lst []) := upd_same
                          generalize (upd H6 p2 (.lst [])) = H7 at s7 h7 ⊢
                          refine ⟨Fn, p2, _, _, rfl, rfl, s7 _ _ (s6 _ _ hFn), h7, Nat.le_trans (show _ ≤ 4 by rw [List.length_map, List.length_nil]; omega) (by decide), fun p3 u3 => ?_⟩
                          have s8 := same_new (o := .lst ((sayF n (ws.take j) en).map V.str ++ [])) u3
                          refine ⟨p3, _, _, rfl, s5.trans (s6.trans (s7.trans s8)), ?_⟩
                          rw [upd_same, sx, List.append_nil, List.append_nil]
                      · rintro _ H5 ⟨Fn, w10, w11, rfl, s5, hFn⟩
                        have wl : wz.length = ws.length := by rw [dpAll_len hwz, List.length_map]
                        rw [wl, List.take_length] at hFn
                        refine after _ _ ⟨Fn, _, _, _, rfl, s5, hFn, ?_, fun z hz => ?_, by omega⟩
                        · unfold turnF
                          rw [hrow]
                          show (match es[g.at_ + skipL ps (es.drop g.at_)]? with | none => _ | some en => _) = _
                          rw [ea, een]
                        · obtain ⟨w0, hw0, rfl⟩ := say_in hz
                          exact toR _ (List.mem_map_of_mem (f := fun x : Str × Str => x.2) hw0)
                | end_ p =>
                  obtain ⟨t', et, ht2⟩ := line_end hrd
                  cases et
                  refine ⟨_, rfl, t, _, 0, _, rfl, rfl, ht2, atI_nat (j := 0) rfl, rfl, _, rfl, ?_⟩
                  refine iteF ⟨_, rfl, t, _, 0, _, rfl, rfl, ht2, atI_nat (j := 0) rfl, rfl, _, rfl, ?_⟩
                  refine iteF (iteF ⟨_, rfl, _, rfl, sp, ys, rfl, .inl hs3, rfl, _, rfl, ?_⟩)
                  rw [eqL]
                  by_cases al : a = es.length
                  · rw [decide_eq_true al]
                    have tf : turnF rs ps es g = .inr (g, none) := by
                      unfold turnF
                      rw [hrow]
                      show (match es[g.at_ + skipL ps (es.drop g.at_)]? with | none => _ | some en => _) = _
                      rw [ea, none_at al]
                    refine iteT ⟨_, rfl, _, rfl, cn, g.ch, rfl, hc3, ok.nd, c8, fun H4 wv dz s4 pm so hw => ⟨_, rfl, sz4, fun T uT => ?_⟩⟩
                    have s5 := same_new (o := .tup [.str g.spot, wv, optV g.said, .non]) uT
                    exact ret none tf _ T wv dz (s4.trans s5) (SqT.of upd_same) (dp_same s5 _ _ hw) pm so
                  · rw [decide_eq_false al]
                    obtain ⟨en, te, een, he, ey, hte⟩ := entry al
                    refine iteF ⟨_, rfl, t, _, 0, _, rfl, rfl, ht2, atI_nat (j := 0) rfl, rfl, _, rfl, ?_⟩
                    refine iteF ?_
                    refine seq_cut (fun σ1 H4 => ∃ F0, σ1 = [some (.ref q), some (.ref sp), some (.ref rn), some (.str g.spot), some (.ref cn), some (optV g.said), some (.int (a : Nat)), w7, some (.ref t), some (.ref F0), v10, v11] ∧ Same H3 H4 ∧ H4 F0 = some (.lst [])) ?_ fun after => ⟨by show 0 ≤ sizeLine; decide, fun F0 uF => after _ _ ⟨F0, rfl, same_new uF, upd_same⟩⟩
                    rintro _ H4 ⟨F0, rfl, sF, hF0⟩
                    refine seq_cut (fun σ1 H4 => ∃ (Fn : Addr) (fs : List Str) (w10 w11 : Option V), σ1 = [some (.ref q), some (.ref sp), some (.ref rn), some (.str g.spot), some (.ref cn), some (optV g.said), some (.int (a : Nat)), w7, some (.ref t), some (.ref Fn), w10, w11] ∧ Same H3 H4 ∧ H4 Fn = some (.lst (fs.map V.str)) ∧ turnF rs ps es g = (match fs with | z :: _ => .inl ⟨z, g.ch, g.said, a + 1⟩ | [] => .inr (g, some a)) ∧ (∀ z ∈ fs, z ∈ rs.map placeR) ∧ a < es.length) ?_ fun after => ?_
                    · rintro _ H4 ⟨Fn, fs, w10, w11, rfl, s4, hFn, tf, hfs, alt⟩
                      refine seq_cut (fun σ1 H5 => σ1 = [some (.ref q), some (.ref sp), some (.ref rn), some (.str g.spot), some (.ref cn), some (optV g.said), some (.int (a : Nat)), w7, some (.ref t), some (.ref Fn), w10, w11] ∧ Same H4 H5 ∧ fs ≠ []) ?_ fun after => ?_
                      · rintro _ H5 ⟨rfl, s5, nfs⟩
                        cases fs with
                        | nil => exact absurd rfl nfs
                        | cons z fl =>
                          exact ⟨_, rfl, Fn, _, 0, _, rfl, rfl, SqL.of (s5 _ _ hFn), atI_nat (j := 0) rfl, _, rfl, _, _, rfl, rfl, _, _, rfl, ⟨z, g.ch, g.said, a + 1⟩, _, _, _, _, _, rfl, k3.trans (s4.trans s5), s5 _ _ (s4 _ _ hc3), okAt (hfs z (List.mem_cons_self ..)) (by omega), k, by omega, stand_go tf es0⟩
                      · refine ⟨_, rfl, by show 0 ≤ sizeLine; decide, fun p0 u0 => ?_⟩
                        have s5 := same_new (o := .lst []) u0
                        have h5 : (upd H4 p0 (.lst [])) p0 = some (.lst []) := upd_same
                        generalize (upd H4 p0 (.lst [])) = H5 at s5 h5 ⊢
                        refine ⟨.list (fs.map PyData.str), .list [], .lst (SqL.of (s5 _ _ hFn)) (strs_dp fs), .lst (SqL.of h5) .nil, list_shape fun z hz => hG.names (hfs z hz), by decide +kernel, _, rfl, ?_⟩
                        cases fs with
                        | nil =>
                          refine iteT ⟨_, rfl, _, rfl, cn, g.ch, rfl, s5 _ _ (s4 _ _ hc3), ok.nd, c8, fun H6 wv dz s6 pm so hw => ⟨_, rfl, _, rfl, sz4, fun T uT => ?_⟩⟩
                          have s7 := same_new (o := .tup [.str g.spot, wv, optV g.said, .int (a : Nat)]) uT
                          exact ret (some a) tf _ T wv dz (s4.trans (s5.trans (s6.trans s7))) (SqT.of upd_same) (dp_same s7 _ _ hw) pm so
                        | cons z fl => exact iteF (after _ _ ⟨rfl, s5, by simp⟩)
                    · refine ⟨_, rfl, t, _, 0, _, rfl, rfl, same_tup sF ht2, atI_nat (j := 0) rfl, rfl, _, rfl, ?_⟩
                      refine iteF ⟨by show 0 ≤ sizeLine; decide, fun p0 u0 => ⟨p0, rfl, ⟨[], SqT.of upd_same⟩, ?_⟩⟩
                      have s5 := same_new (o := .tup []) u0
                      have h5 : (upd H4 p0 (.tup [])) p0 = some (.tup []) := upd_same
                      generalize (upd H4 p0 (.tup [])) = H5 at s5 h5 ⊢
                      refine for_tup (K := K) (a := p0) (xs := []) (fun j σ1 H6 => σ1 = [some (.ref q), some (.ref sp), some (.ref rn), some (.str g.spot), some (.ref cn), some (optV g.said), some (.int (a : Nat)), w7, some (.ref t), some (.ref F0), v10, v11] ∧ H5 = H6) ⟨rfl, rfl⟩ (fun j σ1 H6 _ ⟨_, e⟩ => e ▸ SqT.of h5) (fun j x σ1 H6 hj _ => by simp at hj) ?_
                      rintro _ _ ⟨rfl, rfl⟩
                      refine after _ _ ⟨F0, [], _, _, rfl, sF.trans s5, s5 _ _ hF0, ?_, fun z hz => (by cases hz), by omega⟩
                      unfold turnF
                      rw [hrow]
                      show (match es[g.at_ + skipL ps (es.drop g.at_)]? with | none => _ | some en => _) = _
                      rw [ea, een]
          · rintro _ H3 ⟨g, v7, v8, v9, v10, v11, rfl, k3, hc3, ok, k, hk, es0⟩
            obtain rfl : k = 0 := by omega
            exact after _ _ ⟨g, v7, v8, v9, v10, v11, rfl, k3, hc3, ok, es0.symm⟩
        case after3 =>
          rintro _ H3 ⟨g, v7, v8, v9, v10, v11, rfl, k3, hc3, ok, es0⟩
          rw [es0] at fin
          refine ⟨_, rfl, _, rfl, cn, g.ch, rfl, hc3, ok.nd, Nat.le_trans (ok.few few8) (by decide), fun H4 wv dz s4 pm st hw => ⟨_, rfl, _, rfl, by show 4 ≤ sizeLine; decide, fun T uT => ?_⟩⟩
          have s5 := same_new (o := .tup [.str g.spot, wv, optV g.said, .int (g.at_ : Nat)]) uT
          exact fin _ T wv dz (k0.trans (k3.trans (s4.trans s5))) (SqT.of upd_same) (dp_same s5 _ _ hw) pm st
end
end K2

set_option Elab.async false
set_option linter.all false
set_option maxRecDepth 100000
set_option maxHeartbeats 1000000
namespace K2
open PySem L2 Lw TL SxT
theorem way_some {ch : Wy} {m : Str} (h : m ∈ ch.map (·.1)) : ∃ b, wayOf ch m = some b := by
  cases e : wayOf ch m with
  | some b => exact ⟨b, rfl⟩
  | none => exact absurd h (way_in e)
section
variable {P : Program} {w : World} {K : PySem.W.Frag} {mg : Str → Option Value} {base : Heap}
abbrev nChosen : List Str := ["_law_chosen_here", "_law_mark"]
theorem scChosen : FnScope nChosen ["_law_chosen_here"] (defScope sChosen) := ⟨rfl, rfl, rfl, by decide +kernel, rfl, by decide +kernel, by decide +kernel⟩
theorem okChosen {f : Addr} {fd : FuncData} (F : Fun K "_law_chosen" "_law_chosen" sChosen f fd) (tT : mg "tuple" = none) (tS : mg "sorted" = none) (tStr : mg "str" = none) : FnOk P w K mg base CX0 1 f fd ["_law_chosen_here"] (spChosen K) := by
  refine F.ok scChosen (fun vs H Q E h => ?_) (fun cdv A outer s H vs Q E hr h => ?_)
  · obtain ⟨cn, ch, rfl, _⟩ := h
    rfl
  · obtain ⟨cn, ch, rfl, hc, nd, few, fin⟩ := h
    have hu : (A.deeper (PyProof.Rows.envOfC (Str.ofString "_law_chosen") (defScope sChosen) s.heap.objs.size f cdv)).units + 1 < cLine := by
      have := hr.units
      omega
    refine ⟨_, pss_one (ps_ret (pe_callTy call_tuple_of (by rfl) tT PyProof.Rows.boot_tuple (pa_cons (pe_lc (own := [("_law_mark", 1)]) (g := gName 1) (tt := tYes) (te := tTup (tCons (tVar 1) (tCons (tDGet (tVar 0) (tVar 1)) tNil))) (by rfl) scChosen.nd (pi_list (pe_callB cr_sortedA (by rfl) tS PyProof.Rows.boot_sorted (pa_cons (pe_lock (pe_lc (own := [("_law_mark", 1)]) (g := gName 1) (tt := tYes) (te := tCB (fun xs H Q => ∃ a, xs = [V.str a] ∧ Q (.str a) H) (tCons (tVar 1) tNil)) (by rfl) scChosen.nd (pi_keys (pv 0))
          (blkOk_by (own := [("_law_mark", 1)]) (N := nChosen) (sc := defScope sChosen) (by decide +kernel)) (fun _ _ _ _ _ => pg_name (i := 1) scChosen.nd rfl (Or.inl rfl)) (fun _ _ _ _ _ => pts_nil) (fun _ _ _ _ _ => pe_callTy SkE.call_str_str (by rfl) tStr PyProof.Rows.boot_str (pa_cons (pv 1) pa_nil)))) pa_nil)))
          (blkOk_by (own := [("_law_mark", 1)]) (N := nChosen) (sc := defScope sChosen) (by decide +kernel)) (fun _ _ _ _ _ => pg_name (i := 1) scChosen.nd rfl (Or.inl rfl)) (fun _ _ _ _ _ => pts_nil) (fun _ _ _ _ _ => pe_tup (pa_cons (pv 1) (pa_cons (pe_dget hu (pv 0) (pv 1) (fun _ _ => rfl)) pa_nil)))) pa_nil))), ?_⟩
    refine ⟨cn, .dK (chK ch), hc, by trivial, fun od => ?_⟩
    have hL : (upd H cn (.frz od (.dK (chK ch)))) cn = some (.frz od (.dK (chK ch))) := upd_same
    generalize eL : upd H cn (.frz od (.dK (chK ch))) = HL at hL ⊢
    refine ⟨_, rfl, cn, od, rfl, .inl ⟨_, hL, fun D uD => lc_it walk_keys (fun i H' => H' = upd HL D (.lst (((ch.take i).map (·.1)).map V.str))) rfl (fun i H' _ e => ?_) ?_ ?_⟩⟩
    · have ne : cn ≠ D := ne_of_none hL uD
      rw [e, upd_ne ne]
      exact hL
    · rintro i x _ H' hi rfl ⟨rfl, k, v, hk, rfl⟩
      unfold chK at hk hi
      rw [List.length_map] at hi
      rw [List.getElem?_map] at hk
      obtain ⟨qq, hq, eq⟩ := Option.map_eq_some_iff.mp hk
      obtain ⟨rfl, rfl⟩ := Prod.mk.inj eq
      refine ⟨rfl, ?_⟩
      dsimp only [tYes]
      refine iteT ⟨_, rfl, qq.1, rfl, _, upd_same, ?_, ?_⟩
      · exact Nat.lt_of_le_of_lt (show _ ≤ 20 by rw [List.length_map, List.length_map, List.length_take]; omega) (by decide)
      · rw [upd_upd, List.take_add_one, hq, List.map_append, List.map_append]
        rfl
    · rintro _ rfl
      have ne : cn ≠ D := ne_of_none hL uD
      have el : (chK ch).length = ch.length := by unfold chK; rw [List.length_map]
      rw [el, List.take_length]
      refine ⟨by rw [upd_ne ne]; exact hL, ?_⟩
      have sH : Same H (upd (upd HL D (.lst ((ch.map (·.1)).map V.str))) cn (.dK (chK ch))) := fun b o e => by
        by_cases q : b = cn
        · rw [q, upd_same]
          rw [q, hc] at e
          exact e
        · rw [upd_ne q]
          have nb : b ≠ D := fun z => by
            rw [z] at e
            rw [← eL, upd_ne (fun y => ne y.symm), e] at uD
            cases uD
          rw [upd_ne nb, ← eL, upd_ne q]
          exact e
      have hD : (upd (upd HL D (.lst ((ch.map (·.1)).map V.str))) cn (.dK (chK ch))) D = some (.lst ((ch.map (·.1)).map V.str)) := by rw [upd_ne ne.symm, upd_same]
      generalize (upd (upd HL D (.lst ((ch.map (·.1)).map V.str))) cn (.dK (chK ch))) = H1 at sH hD ⊢
      have hc1 := sH _ _ hc
      refine ⟨D, ch.map (·.1), rfl, .inl (SqL.of hD), Nat.lt_of_le_of_lt (show _ ≤ 20 by rw [List.length_map]; exact few) (by decide), fun dz pz hpz hsz upz => ?_⟩
      have s2 := same_new (o := .lst (dz.map V.str)) upz
      have h2 : (upd H1 pz (.lst (dz.map V.str))) pz = some (.lst (dz.map V.str)) := upd_same
      generalize (upd H1 pz (.lst (dz.map V.str))) = H2 at s2 h2 ⊢
      have dl : dz.length ≤ 20 := by rw [hpz.length_eq, List.length_map]; exact few
      refine ⟨pz, rfl, ⟨_, SqL.of h2⟩, fun D2 uD2 => dat_J (fun _ => true) (fun m => .tuple [.str m, .bool ((wayOf ch m).getD false)]) (.l (SqL.of h2)) (strs_dp dz) (by omega) uD2 (fun _ _ => rfl) (fun x z H3 Y N hm hdx s3 y n => ?_) fun H3 acc s3 hD3 hacc => ?_⟩
      · cases hdx
        obtain ⟨b, eb⟩ := way_some (hpz.mem_iff.mp hm)
        refine ⟨rfl, ?_⟩
        dsimp only [tYes]
        refine iteT ⟨_, rfl, _, rfl, _, rfl, cn, .bl b, rfl, .inl ⟨_, Sum.inr z, .inl (s3 _ _ (s2 _ _ hc1)), rfl, by rw [ch_val, eb]; rfl⟩, by show 2 ≤ sizeLine; decide, fun p2 up => y rfl _ _ (same_new up) ?_⟩
        rw [eb]
        exact .tup (SqT.of upd_same) (.cons (.str _) (.cons (.bl _) .nil))
      · rw [List.filter_eq_self.mpr (fun _ _ => rfl)] at hacc
        refine ⟨D2, acc, rfl, .inl ⟨SqL.of hD3, fun t ut => ?_⟩⟩
        have s4 := same_new (o := .tup acc) ut
        exact fin _ _ dz (sH.trans (s2.trans (s3.trans s4))) hpz hsz (.tup (SqT.of upd_same) (dpAll_same s4 _ _ hacc))
end
end K2

set_option Elab.async false
set_option linter.all false
set_option maxRecDepth 100000
set_option maxHeartbeats 1000000
/-! told editions: a near one (what is true of its rows) -/
namespace K2
open PySem L2 Lw TL SxT
theorem Gk.perm {rs rs' : List Row0} {ps : List Str} (h : Gk rs ps) (p : rs'.Perm rs) : Gk rs' ps := by
  obtain ⟨rs0, O, pm⟩ := h.gd.on
  exact ⟨⟨⟨rs0, O, p.trans pm⟩, fun e => h.gd.ne (by rw [e] at p; exact (List.nil_perm.mp p)), fun r hr => h.gd.good r (p.mem_iff.mp hr), by rw [p.length_eq]; exact h.gd.few, h.gd.ndp, h.gd.four, fun a b c d hr => h.gd.not a b c d (p.mem_iff.mp hr)⟩, by rw [p.length_eq]; exact h.few⟩
def moveR (p : Str) : Row0 → Row0
  | .ask _ n ws => .ask p n ws
  | .note _ w t => .note p w t
  | .gate _ m n e => .gate p m n e
  | .end_ _ => .end_ p
theorem move_place (p : Str) : ∀ r : Row0, placeR (moveR p r) = p
  | .ask _ _ _ => rfl
  | .note _ _ _ => rfl
  | .gate _ _ _ _ => rfl
  | .end_ _ => rfl
theorem move_on (p : Str) : ∀ r : Row0, onB (moveR p r) = onB r
  | .ask _ _ _ => rfl
  | .note _ _ _ => rfl
  | .gate _ _ _ _ => rfl
  | .end_ _ => rfl
theorem move_leads (p : Str) : ∀ r : Row0, leadsR (moveR p r) = leadsR r
  | .ask _ _ _ => rfl
  | .note _ _ _ => rfl
  | .gate _ _ _ _ => rfl
  | .end_ _ => rfl
theorem move_good {p : Str} (np : nameOk p = true) : ∀ {r : Row0}, RowGood r → RowGood (moveR p r)
  | .ask _ _ _, g => ⟨np, g.2⟩
  | .note _ _ _, g => ⟨np, g.2⟩
  | .gate _ _ _ _, g => ⟨np, g.2⟩
  | .end_ _, _ => np
theorem move_gate {p a m n e : Str} : ∀ {r : Row0}, moveR p r = .gate a m n e → ∃ b, r = .gate b m n e
  | .gate b m' n' e', h => by
    have h := Row0.gate.inj h
    exact ⟨b, by rw [h.2.1, h.2.2.1, h.2.2.2]⟩
  | .ask _ _ _, h => by cases h
  | .note _ _ _, h => by cases h
  | .end_ _, h => by cases h
/-- a row put in another's place: it leads on no further -/
theorem Gk.swap {r r' : Row0} {tl : List Row0} {ps : List Str} (h : Gk (r :: tl) ps) (ep : placeR r' = placeR r) (on : onB r' = true → onB r = true ∧ ∀ z ∈ leadsR r', z ∈ leadsR r) (to : ∀ z ∈ leadsR r', z ∈ (r :: tl).map placeR) (g : RowGood r') (ng : ∀ p m n e, r' ≠ .gate p m n e) : Gk (r' :: tl) ps := by
  obtain ⟨ν, _, down⟩ := h.gd.rank
  have em : (r' :: tl).map placeR = (r :: tl).map placeR := by rw [List.map_cons, List.map_cons, ep]
  refine ⟨gd_of ν (fun x hx ox z hz => ?_) (by rw [em]; exact h.nd) (fun x hx z hz => ?_) (by simp) (fun x hx => ?_) (by have := h.few; simp at this ⊢; omega) h.gd.ndp h.gd.four (fun p n e k hx => ?_), h.few⟩
  · rcases List.mem_cons.mp hx with rfl | hx
    · rw [ep]
      exact down r (List.mem_cons_self ..) (on ox).1 z ((on ox).2 z hz)
    · exact down x (List.mem_cons_of_mem _ hx) ox z hz
  · rw [em]
    rcases List.mem_cons.mp hx with rfl | hx
    · exact to z hz
    · exact h.to x (List.mem_cons_of_mem _ hx) z hz
  · rcases List.mem_cons.mp hx with rfl | hx
    · exact g
    · exact h.gd.good x (List.mem_cons_of_mem _ hx)
  · rcases List.mem_cons.mp hx with e0 | hx
    · exact absurd e0.symm (ng p k n e)
    · exact h.gd.not p n e k (List.mem_cons_of_mem _ hx)
/-- a row moved behind an ask -/
theorem Gk.one {r : Row0} {tl : List Row0} {ps : List Str} {f nm : Str} (h : Gk (r :: tl) ps) (few : (r :: tl).length < 8) (nf : nameOk f = true) (no : f ∉ (r :: tl).map placeR) (nn : nameOk nm = true) : Gk (.ask (placeR r) nm [("yes", f)] :: moveR f r :: tl) ps := by
  obtain ⟨ν, _, down⟩ := h.gd.rank
  have em : (Row0.ask (placeR r) nm [("yes", f)] :: moveR f r :: tl).map placeR = placeR r :: f :: tl.map placeR := by
    rw [List.map_cons, List.map_cons, move_place]
    rfl
  have inn : ∀ z ∈ (r :: tl).map placeR, z ∈ placeR r :: f :: tl.map placeR := fun z hz => by
    rw [List.map_cons] at hz
    rcases List.mem_cons.mp hz with rfl | hz
    · exact List.mem_cons_self ..
    · exact List.mem_cons_of_mem _ (List.mem_cons_of_mem _ hz)
  have nef : ∀ z ∈ (r :: tl).map placeR, z ≠ f := fun z hz e => no (e ▸ hz)
  have np : nameOk (placeR r) = true := h.names (by simp)
  refine ⟨gd_of (fun z => if z = f then ν (placeR r) else ν z) (fun x hx ox z hz => ?_) ?_ (fun x hx z hz => ?_) (by simp) (fun x hx => ?_) (by simp at few ⊢; omega) h.gd.ndp h.gd.four (fun p n e k hx => ?_), by simp at few ⊢; omega⟩
  · rcases List.mem_cons.mp hx with rfl | hx
    · cases ox
    rcases List.mem_cons.mp hx with rfl | hx
    · rw [move_on] at ox
      rw [move_leads] at hz
      rw [move_place, if_pos rfl, if_neg (nef z (h.to r (List.mem_cons_self ..) z hz))]
      exact down r (List.mem_cons_self ..) ox z hz
    · have hm := List.mem_cons_of_mem r hx
      rw [if_neg (nef z (h.to x hm z hz)), if_neg (nef _ (List.mem_map_of_mem hm))]
      exact down x hm ox z hz
  · rw [em]
    have nd := h.nd
    rw [List.map_cons, List.nodup_cons] at nd
    rw [List.map_cons, List.mem_cons, not_or] at no
    rw [List.nodup_cons, List.mem_cons, not_or, List.nodup_cons]
    exact ⟨⟨fun e => no.1 e.symm, nd.1⟩, no.2, nd.2⟩
  · rw [em]
    rcases List.mem_cons.mp hx with rfl | hx
    · have : z = f := by simpa [leadsR] using hz
      rw [this]
      exact List.mem_cons_of_mem _ (List.mem_cons_self ..)
    rcases List.mem_cons.mp hx with rfl | hx
    · rw [move_leads] at hz
      exact inn z (h.to r (List.mem_cons_self ..) z hz)
    · exact inn z (h.to x (List.mem_cons_of_mem _ hx) z hz)
  · rcases List.mem_cons.mp hx with rfl | hx
    · refine ⟨np, nn, by simp, by simp, by simp, fun w hw => ?_⟩
      rw [List.mem_singleton.mp hw]
      exact ⟨(show nameOk "yes" = true by decide +kernel), nf⟩
    rcases List.mem_cons.mp hx with rfl | hx
    · exact move_good nf (h.gd.good r (List.mem_cons_self ..))
    · exact h.gd.good x (List.mem_cons_of_mem _ hx)
  · rcases List.mem_cons.mp hx with e0 | hx
    · cases e0
    rcases List.mem_cons.mp hx with e0 | hx
    · obtain ⟨b, eb⟩ := move_gate e0.symm
      exact h.gd.not b n e k (by rw [eb]; exact List.mem_cons_self ..)
    · exact h.gd.not p n e k (List.mem_cons_of_mem _ hx)
/-- a row moved behind a gate -/
theorem Gk.two {r : Row0} {tl : List Row0} {ps : List Str} {f f1 nm mk : Str} (h : Gk (r :: tl) ps) (few : (r :: tl).length < 7) (nf : nameOk f = true) (nf1 : nameOk f1 = true) (ne1 : f ≠ f1) (no : f ∉ (r :: tl).map placeR) (no1 : f1 ∉ (r :: tl).map placeR) (nn : nameOk nm = true) (nmk : nameOk mk = true) (nin : mk ∉ ps) :
    Gk (.gate (placeR r) mk f1 f :: .ask f1 nm [("yes", f)] :: moveR f r :: tl) ps := by
  obtain ⟨ν, _, down⟩ := h.gd.rank
  have em : (Row0.gate (placeR r) mk f1 f :: Row0.ask f1 nm [("yes", f)] :: moveR f r :: tl).map placeR = placeR r :: f1 :: f :: tl.map placeR := by
    rw [List.map_cons, List.map_cons, List.map_cons, move_place]
    rfl
  have inn : ∀ z ∈ (r :: tl).map placeR, z ∈ placeR r :: f1 :: f :: tl.map placeR := fun z hz => by
    rw [List.map_cons] at hz
    rcases List.mem_cons.mp hz with rfl | hz
    · exact List.mem_cons_self ..
    · exact List.mem_cons_of_mem _ (List.mem_cons_of_mem _ (List.mem_cons_of_mem _ hz))
  have nef : ∀ z ∈ (r :: tl).map placeR, z ≠ f := fun z hz e => no (e ▸ hz)
  have nef1 : ∀ z ∈ (r :: tl).map placeR, z ≠ f1 := fun z hz e => no1 (e ▸ hz)
  have np : nameOk (placeR r) = true := h.names (by simp)
  have hp : placeR r ∈ (r :: tl).map placeR := by simp
  refine ⟨gd_of (fun z => if z = f then 2 * ν (placeR r) else if z = f1 then 0 else 2 * ν z + 1) (fun x hx ox z hz => ?_) ?_ (fun x hx z hz => ?_) (by simp) (fun x hx => ?_) (by simp at few ⊢; omega) h.gd.ndp h.gd.four (fun p n e k hx => ?_), by simp at few ⊢; omega⟩
  · rcases List.mem_cons.mp hx with rfl | hx
    · have hz : z = f1 ∨ z = f := by simpa [leadsR] using hz
      show _ < (if placeR r = f then _ else if placeR r = f1 then 0 else 2 * ν (placeR r) + 1)
      rw [if_neg (nef _ hp), if_neg (nef1 _ hp)]
      rcases hz with rfl | rfl
      · rw [if_neg ne1.symm, if_pos rfl]
        omega
      · rw [if_pos rfl]
        omega
    rcases List.mem_cons.mp hx with rfl | hx
    · cases ox
    rcases List.mem_cons.mp hx with rfl | hx
    · rw [move_on] at ox
      rw [move_leads] at hz
      have hz2 := h.to r (List.mem_cons_self ..) z hz
      rw [move_place, if_pos rfl, if_neg (nef z hz2), if_neg (nef1 z hz2)]
      have := down r (List.mem_cons_self ..) ox z hz
      omega
    · have hm := List.mem_cons_of_mem r hx
      have hz2 := h.to x hm z hz
      rw [if_neg (nef z hz2), if_neg (nef1 z hz2), if_neg (nef _ (List.mem_map_of_mem hm)), if_neg (nef1 _ (List.mem_map_of_mem hm))]
      have := down x hm ox z hz
      omega
  · rw [em]
    have nd := h.nd
    rw [List.map_cons, List.nodup_cons] at nd
    rw [List.map_cons, List.mem_cons, not_or] at no no1
    rw [List.nodup_cons, List.mem_cons, not_or, List.mem_cons, not_or, List.nodup_cons, List.mem_cons, not_or, List.nodup_cons]
    exact ⟨⟨fun e => no1.1 e.symm, fun e => no.1 e.symm, nd.1⟩, ⟨ne1.symm, no1.2⟩, no.2, nd.2⟩
  · rw [em]
    rcases List.mem_cons.mp hx with rfl | hx
    · have hz : z = f1 ∨ z = f := by simpa [leadsR] using hz
      rcases hz with rfl | rfl <;> simp
    rcases List.mem_cons.mp hx with rfl | hx
    · have : z = f := by simpa [leadsR] using hz
      rw [this]
      simp
    rcases List.mem_cons.mp hx with rfl | hx
    · rw [move_leads] at hz
      exact inn z (h.to r (List.mem_cons_self ..) z hz)
    · exact inn z (h.to x (List.mem_cons_of_mem _ hx) z hz)
  · rcases List.mem_cons.mp hx with rfl | hx
    · exact ⟨np, nmk, nf1, nf⟩
    rcases List.mem_cons.mp hx with rfl | hx
    · refine ⟨nf1, nn, by simp, by simp, by simp, fun w hw => ?_⟩
      rw [List.mem_singleton.mp hw]
      exact ⟨(show nameOk "yes" = true by decide +kernel), nf⟩
    rcases List.mem_cons.mp hx with rfl | hx
    · exact move_good nf (h.gd.good r (List.mem_cons_self ..))
    · exact h.gd.good x (List.mem_cons_of_mem _ hx)
  · rcases List.mem_cons.mp hx with e0 | hx
    · have e0 := Row0.gate.inj e0
      rw [e0.2.1]
      exact nin
    rcases List.mem_cons.mp hx with e0 | hx
    · cases e0
    rcases List.mem_cons.mp hx with e0 | hx
    · obtain ⟨b, eb⟩ := move_gate e0.symm
      exact h.gd.not b n e k (by rw [eb]; exact List.mem_cons_self ..)
    · exact h.gd.not p n e k (List.mem_cons_of_mem _ hx)
/-- the j-th row in front -/
theorem split_at {rs : List Row0} {j : Nat} {r : Row0} (h : rs[j]? = some r) (ins : List Row0) : rs.Perm (r :: (rs.take j ++ rs.drop (j + 1))) ∧ (rs.take j ++ ins ++ rs.drop (j + 1)).Perm (ins ++ (rs.take j ++ rs.drop (j + 1))) := by
  have e : rs = rs.take j ++ r :: rs.drop (j + 1) := by
    obtain ⟨lt, e⟩ := List.getElem?_eq_some_iff.mp h
    rw [← e, List.getElem_cons_drop, List.take_append_drop]
  constructor
  · conv => lhs; rw [e]
    exact List.perm_middle
  · rw [List.append_assoc]
    refine ((List.perm_append_comm (l₁ := rs.take j) (l₂ := ins ++ rs.drop (j + 1)))).trans ?_
    rw [List.append_assoc]
    exact List.Perm.append_left _ List.perm_append_comm
theorem set_at {rs : List Row0} {j : Nat} {r : Row0} (h : rs[j]? = some r) (r' : Row0) : rs.set j r' = rs.take j ++ [r'] ++ rs.drop (j + 1) := by
  rw [List.set_eq_take_append_cons_drop, if_pos (List.getElem?_eq_some_iff.mp h).1, List.append_assoc]
  rfl
/-- the cells of a row -/
def cellsD (r : Row0) : List PyData := match lineD r with
  | .tuple ds => ds
  | _ => []
theorem line_cells {K : PySem.W.Frag} {H : Hp} {x : V} : ∀ {r : Row0}, Dp K H x (lineD r) → ∃ t ys, x = .ref t ∧ SqT K H t ys ∧ DpAll K H ys (cellsD r)
  | .ask _ _ _, h => by cases h with | tup a b => exact ⟨_, _, rfl, a, b⟩
  | .note _ _ _, h => by cases h with | tup a b => exact ⟨_, _, rfl, a, b⟩
  | .gate _ _ _ _, h => by cases h with | tup a b => exact ⟨_, _, rfl, a, b⟩
  | .end_ _, h => by cases h with | tup a b => exact ⟨_, _, rfl, a, b⟩
theorem cells_line {K : PySem.W.Frag} {H : Hp} {t : Addr} {ys : List V} : ∀ {r : Row0}, SqT K H t ys → DpAll K H ys (cellsD r) → Dp K H (.ref t) (lineD r)
  | .ask _ _ _, a, b => .tup a b
  | .note _ _ _, a, b => .tup a b
  | .gate _ _ _ _, a, b => .tup a b
  | .end_ _, a, b => .tup a b
theorem move_cells (p : Str) : ∀ r : Row0, cellsD (moveR p r) = (cellsD r).take 1 ++ [.str p] ++ (cellsD r).drop 2
  | .ask _ _ _ => rfl
  | .note _ _ _ => rfl
  | .gate _ _ _ _ => rfl
  | .end_ _ => rfl
theorem dpAll_take {K : PySem.W.Frag} {H : Hp} : ∀ (n : Nat) {xs : List V} {ds : List PyData}, DpAll K H xs ds → DpAll K H (xs.take n) (ds.take n)
  | 0, _, _, _ => .nil
  | n + 1, _, _, .nil => .nil
  | n + 1, _, _, .cons h hs => .cons h (dpAll_take n hs)
theorem dpAll_drop {K : PySem.W.Frag} {H : Hp} : ∀ (n : Nat) {xs : List V} {ds : List PyData}, DpAll K H xs ds → DpAll K H (xs.drop n) (ds.drop n)
  | 0, _, _, h => h
  | n + 1, _, _, .nil => .nil
  | n + 1, _, _, .cons h hs => dpAll_drop n hs
end K2

set_option Elab.async false
set_option linter.all false
set_option maxRecDepth 100000
set_option maxHeartbeats 1000000
namespace K2
open PySem L2 Lw TL SxT
def spNear (K : PySem.W.Frag) : Sp := fun vs H Q _ => ∃ (G : Hp) (d l : Addr) (v : V) (rs : List Row0) (ps : List Str), vs = [.ref d, v] ∧ Deal G H d l ∧ Told K G v rs ps ∧ Gk rs ps ∧
  ∀ (G' H' : Hp) (v' : V) (rs' : List Row0) (ps' : List Str), Same G G' → Deal G' H' d l → ToldN K G G' v' rs' ps' → Gk rs' ps' → Q v' H'
theorem deal_take {G H H' : Hp} {d l L : Addr} {o : HO} (D : Deal G H d l) (s : Same H H') (u : H L = none) (h : H' L = some o) : ∃ G', Deal G' H' d l ∧ G' L = some o ∧ Same G G' := by
  obtain ⟨a, b⟩ := (D.on s).grab h (D.apart u)
  exact ⟨_, a, upd_same, b⟩
abbrev ten : List Str := ["i", "j", "k", "l", "o", "p", "q", "r", "s", "t"]
theorem ten_names : ∀ z ∈ ten, nameOk z = true := by decide +kernel
theorem fresh_two {ps : List Str} (few : ps.length ≤ 8) : ∃ f0 f1 fl, ten.filter (fun z => !decide (z ∈ ps)) = f0 :: f1 :: fl ∧ f0 ≠ f1 ∧ f0 ∉ ps ∧ f1 ∉ ps ∧ nameOk f0 = true ∧ nameOk f1 = true ∧ fl.length ≤ 8 := by
  have nd : ten.Nodup := by decide +kernel
  have e := (List.filter_append_perm (fun z => decide (z ∈ ps)) ten).length_eq
  rw [List.length_append] at e
  have h1 : (ten.filter fun z => decide (z ∈ ps)).length ≤ ps.length := nodup_le (nd.filter _) fun z hz => of_decide_eq_true (List.mem_filter.mp hz).2
  have h10 : ten.length = 10 := rfl
  have hin : ∀ z ∈ ten.filter (fun z => !decide (z ∈ ps)), z ∉ ps ∧ nameOk z = true := fun z hz => by
    obtain ⟨a, b⟩ := List.mem_filter.mp hz
    exact ⟨by simpa using b, ten_names z a⟩
  have nd2 := nd.filter (fun z => !decide (z ∈ ps))
  have h2 := List.length_filter_le (fun z => !decide (z ∈ ps)) ten
  generalize ten.filter (fun z => !decide (z ∈ ps)) = fs at e hin nd2 h2
  match fs, e, hin, nd2, h2 with
  | [], e, _, _, _ => simp at e; omega
  | [_], e, _, _, _ => simp at e; omega
  | f0 :: f1 :: fl, e, hin, nd2, h2 =>
    have a := hin f0 (by simp)
    have b := hin f1 (by simp)
    refine ⟨f0, f1, fl, rfl, ?_, a.1, b.1, a.2, b.2, by simp at h2; omega⟩
    simp at nd2
    exact fun h => nd2.1.1 h
theorem cutT {ys : List V} (k : Nat) (h : k ≤ ys.length) : cutV ys none (some (k : Int)) = ys.take k := cut_take (m := (k : Int)) (by omega) (by omega)
theorem cutD {ys : List V} (k : Nat) : cutV ys (some (k : Int)) none = ys.drop k := cut_drop (m := (k : Int)) (by omega)
theorem notT {n : Nat} (k : Nat) (h : k < n) : ¬(HT.sIx n 0 none = 0 ∧ HT.sIx n n (some (k : Int)) = n) := fun e => by
  have e := e.2
  rw [HT.sIx_nat] at e
  omega
theorem notD {n : Nat} (k : Nat) (h : 0 < k) (h2 : 0 < n) : ¬(HT.sIx n 0 (some (k : Int)) = 0 ∧ HT.sIx n n none = n) := fun e => by
  have e := e.1
  rw [HT.sIx_nat] at e
  omega
theorem cells_two : ∀ r : Row0, 2 ≤ (cellsD r).length
  | .ask _ _ _ => by show 2 ≤ 4; decide
  | .note _ _ _ => by show 2 ≤ 4; decide
  | .gate _ _ _ _ => by show 2 ≤ 5; decide
  | .end_ _ => by show 2 ≤ 2; decide
theorem cells_few : ∀ r : Row0, (cellsD r).length ≤ 5
  | .ask _ _ _ => by show 4 ≤ 5; decide
  | .note _ _ _ => by show 4 ≤ 5; decide
  | .gate _ _ _ _ => by show 5 ≤ 5; decide
  | .end_ _ => by show 2 ≤ 5; decide
theorem cells_place : ∀ r : Row0, (cellsD r)[1]? = some (.str (placeR r))
  | .ask _ _ _ => rfl
  | .note _ _ _ => rfl
  | .gate _ _ _ _ => rfl
  | .end_ _ => rfl
theorem cells_kind : ∀ r : Row0, (cellsD r)[0]? = some (.str (kindR r))
  | .ask _ _ _ => rfl
  | .note _ _ _ => rfl
  | .gate _ _ _ _ => rfl
  | .end_ _ => rfl
theorem dp_ix {K : PySem.W.Frag} {H : Hp} {ys : List V} {ds : List PyData} (h : DpAll K H ys ds) {i : Nat} {z : Str} (e : ds[i]? = some (.str z)) : ys[i]? = some (.str z) := by
  have len := dpAll_len h
  have lt : i < ys.length := by
    rw [len]
    exact (List.getElem?_eq_some_iff.mp e).1
  have hy := List.getElem?_eq_getElem lt
  obtain ⟨d, ed, hd⟩ := dpAll_at h hy
  rw [e] at ed
  cases ed
  rw [hy]
  generalize ys[i] = y at hd
  cases hd
  rfl
theorem ixN_at {n j : Nat} (h : j < n) : ixN n (j : Int) = some j := by
  unfold ixN
  rw [if_pos (by omega), if_pos (by omega)]
  rfl
theorem dpAll_put {K : PySem.W.Frag} {H : Hp} {x : V} {pd : PyData} (h : Dp K H x pd) : ∀ {xs : List V} {ds : List PyData} (k : Nat), DpAll K H xs ds → DpAll K H (xs.set k x) (ds.set k pd)
  | _, _, _, .nil => .nil
  | _, _, 0, .cons _ r => .cons h r
  | _, _, k + 1, .cons a r => .cons a (dpAll_put h k r)
theorem if_else {t : TT} {S1 S2 : TS} {D : Ends} {σ : L2.St} {H : Hp} (els : S2 D σ H) (go : S2 D σ H → t σ H fun b H1 => if b = true then S1 D σ H1 else S2 D σ H1) : tIfS t S1 S2 D σ H := go els
theorem Gk.put {rs : List Row0} {ps : List Str} {j : Nat} {r r' : Row0} (h : Gk rs ps) (er : rs[j]? = some r) (ep : placeR r' = placeR r) (on : onB r' = true → onB r = true ∧ ∀ z ∈ leadsR r', z ∈ leadsR r) (to : ∀ z ∈ leadsR r', z ∈ rs.map placeR) (g : RowGood r') (ng : ∀ p m n e, r' ≠ .gate p m n e) : Gk (rs.set j r') ps := by
  obtain ⟨p1, p2⟩ := split_at er [r']
  rw [set_at er]
  have h1 := h.perm p1.symm
  exact (h1.swap ep on (fun z hz => (p1.map placeR).mem_iff.mp (to z hz)) g ng).perm p2
theorem edit_row {K : PySem.W.Frag} {G G5 H : Hp} {d l R Dr : Addr} {xs zs : List V} {rs : List Row0} {v : V} {r' : Row0} (KK : Same G G5) (D : Deal G5 H d l) (GR : G R = none) (hR : G5 R = some (.lst xs)) (n : R ≠ Dr) (hDr : G5 Dr = some (.lst zs)) (hx : DpAll K G5 xs (rs.map lineD)) (hv : Dp K G5 v (lineD r')) (j : Nat) :
    ∃ G7, Same G G7 ∧ Deal G7 (upd H R (.lst (xs.set j v))) d l ∧ G7 R = some (.lst (xs.set j v)) ∧ G7 Dr = some (.lst zs) ∧ DpAll K G7 (xs.set j v) ((rs.set j r').map lineD) := by
  refine ⟨upd G5 R (.lst (xs.set j v)), same_edit KK GR, D.edit hR, upd_same, by rw [upd_ne n.symm]; exact hDr, ?_⟩
  rw [List.map_set]
  exact dpAll_put (dp_same (hard_upd hR) _ _ (dp_hard _ _ (line_noL r') hv)) j (dpAll_same (hard_upd hR) _ _ (dpAll_hard _ _ (noLs_of fun r _ => line_noL r) hx))
theorem xyzw_names : ∀ z ∈ (["x", "y", "z", "w"] : List Str), nameOk z = true := by decide +kernel
theorem uvw_names : ∀ z ∈ (["u", "v", "w"] : List Str), nameOk z = true := by decide +kernel
theorem mn_four : ∀ z ∈ (["m", "n"] : List Str), z ∈ (["m", "n", "mark", "k"] : List Str) := by decide +kernel
section
variable {P : Program} {w : World} {K : PySem.W.Frag} {mg : Str → Option Value} {base : Heap}
abbrev nNear : List Str := ["_law_deal_here", "_law_told_here", "_law_rows", "_law_drops", "_law_at", "_law_form", "_law_row", "_law_used", "_law_fresh", "_law_moved", "_law_new", "_law_mark", "_law_gate", "_law_asked", "_law_ways", "_law_spot", "_law_one"]
theorem scNear : FnScope nNear ["_law_deal_here", "_law_told_here"] (defScope sNear) := ⟨rfl, rfl, rfl, by decide +kernel, rfl, by decide +kernel, by decide +kernel⟩
theorem okNear {f fP fD fG : Addr} {fd fdP fdD fdG : FuncData} (F : Fun K "_law_near" "_law_near" sNear f fd) (GP : FnOk P w K mg base CX0 2 fP fdP ["_law_deal_here", "_law_some"] (spPick K)) (kP : PySem.W.keepIn K (.ref fP) = true) (gP : mg "_law_pick" = some (.ref fP)) (bP : Binds K fdP ["_law_deal_here", "_law_some"] [])
    (GD : FnOk P w K mg base CX0 1 fD fdD ["_law_deal_here", "_law_many"] spDraw) (kD : PySem.W.keepIn K (.ref fD) = true) (gD : mg "_law_draw" = some (.ref fD)) (bD : Binds K fdD ["_law_deal_here", "_law_many"] [])
    (GG : FnOk P w K mg base CX0 2 fG fdG ["_law_told_here", "_law_mark"] (spGone K)) (kG : PySem.W.keepIn K (.ref fG) = true) (gG : mg "_law_gone" = some (.ref fG)) (bG : Binds K fdG ["_law_told_here", "_law_mark"] []) (tT : mg "tuple" = none) (tL : mg "list" = none) (tLen : mg "len" = none) :
    FnOk P w K mg base CX0 3 f fd ["_law_deal_here", "_law_told_here"] (spNear K) := by
  refine F.ok scNear (fun vs H Q E h => ?_) (fun cdv A outer s H vs Q E hr h => ?_)
  · obtain ⟨G, d, l, v, rs, ps, rfl, _⟩ := h
    rfl
  · obtain ⟨G, d, l, v, rs, ps, rfl, D0, hT, hG, fin⟩ := h
    have hr1 : Room 1 _ := hr.mono (by decide)
    have four : ∀ {X : Cx}, True := fun {_} => trivial
    refine ⟨_, pss_cons (ps_par (i := 2) (j := 3) (by rfl) scNear.nd rfl rfl (by decide) rfl rfl (pa_cons (pe_callTy call_list_of (by rfl) tL PyProof.Rows.boot_list (pa_cons (pe_ix ix_tup (pv 1) pe_int (fun _ _ => rfl)) pa_nil)) (pa_cons (pe_callTy call_list_of (by rfl) tL PyProof.Rows.boot_list (pa_cons (pe_ix ix_tup (pv 1) pe_int (fun _ _ => rfl)) pa_nil)) pa_nil)) (by rfl))
      (pss_cons (ps_par (i := 4) (j := 5) (by rfl) scNear.nd rfl rfl (by decide) rfl rfl (pa_cons (pe_call GD hr1 rfl gD kD bD .nil pass0 (pa_cons (pv 0) (pa_cons (pe_callB call_len_seq (by rfl) tLen PySem.boot_len (pa_cons (pv 2) pa_nil)) pa_nil))) (pa_cons (pe_call GD hr1 rfl gD kD bD .nil pass0 (pa_cons (pv 0) (pa_cons pe_int pa_nil))) pa_nil)) (by rfl))
      (pss_cons (ps_set (i := 6) scNear.nd rfl (Or.inl rfl) (pe_ix ix_list (pv 2) (pv 4) (fun _ _ => rfl)))
      (pss_cons (ps_set (i := 7) scNear.nd rfl (Or.inr rfl) (pe_lc (own := [("_law_one", 16)]) (g := gName 16) (tt := tYes) (te := tOp (rIxT K) (tVar 16) (tC (.int 1))) (by rfl) scNear.nd (pi_list (pv 2))
          (blkOk_by (own := [("_law_one", 16)]) (N := nNear) (sc := defScope sNear) (by decide +kernel)) (fun _ _ _ _ _ => pg_name (i := 16) scNear.nd rfl (Or.inl rfl)) (fun _ _ _ _ _ => pts_nil) (fun _ _ _ _ _ => pe_ix ix_tup (pv 16) pe_int (fun _ _ => rfl))))
      (pss_cons (ps_setLc (i := 8) (own := [("_law_spot", 15)]) (g := gName 15) (tt := tTest (tOp (rIn K true) (tVar 15) (tVar 7))) (te := tVar 15) (by rfl) scNear.nd rfl rfl (sw_true rfl rfl rfl (by decide +kernel)) (pi_tup (pe_tup (pa_cons pe_str (pa_cons pe_str (pa_cons pe_str (pa_cons pe_str (pa_cons pe_str (pa_cons pe_str (pa_cons pe_str (pa_cons pe_str (pa_cons pe_str (pa_cons pe_str pa_nil))))))))))))
          (blkOk_by (own := [("_law_spot", 15)]) (N := nNear) (sc := defScope sNear) (by decide +kernel)) (fun _ _ _ _ _ => pg_name (i := 15) scNear.nd rfl (Or.inl rfl)) (fun _ _ _ _ _ => pts_one (pt_cmpR op_notIn_seq (pv 15) (pv 7) rfl)) (fun _ _ _ _ _ => pv 15))
      (pss_cons (ps_set (i := 9) scNear.nd rfl (Or.inl rfl) (pe_op op_catA (pe_op op_catA (pe_slice sl_tup (pv 6) po_none (po_some pe_int)) (pe_tup (pa_cons (pe_ix ix_list (pv 8) pe_int (fun _ _ => rfl)) pa_nil))) (pe_slice sl_tup (pv 6) (po_some pe_int) po_none)))
      (pss_cons (ps_set (i := 10) scNear.nd rfl (Or.inl rfl) (pe_tup (pa_cons pe_str (pa_cons (pe_ix ix_tup (pv 6) pe_int (fun _ _ => rfl)) (pa_cons (pe_call GP hr rfl gP kP bP .nil pass0 (pa_cons (pv 0) (pa_cons (pe_lst (pa_cons pe_str (pa_cons pe_str (pa_cons pe_str (pa_cons pe_str pa_nil))))) pa_nil))) (pa_cons (pe_tup (pa_cons (pe_tup (pa_cons pe_str (pa_cons (pe_ix ix_list (pv 8) pe_int (fun _ _ => rfl)) pa_nil))) pa_nil)) pa_nil))))))
      (pss_cons (ps_if (PW.pt (pw_and (pt_cmpR op_lt (pv 5) pe_int (nomark _)) (pw_and1 (pt_cmpR op_eq (pe_ix ix_tup (pv 6) pe_int (fun _ _ => rfl)) pe_str (nomark _)))))
        (pss_one (ps_asg (pe_op op_catA (pe_op op_catA (pe_slice sl_tup (pv 6) po_none (po_some pe_int)) (pe_tup (pa_cons (pe_call GP hr rfl gP kP bP .nil pass0 (pa_cons (pv 0) (pa_cons (pe_lst (pa_cons pe_str (pa_cons pe_str (pa_cons pe_str (pa_cons pe_str pa_nil))))) pa_nil))) pa_nil))) (pe_slice sl_tup (pv 6) (po_some pe_int) po_none)) (pg_sub (pv 2) (pv 4) set_list)))
        (pss_one (ps_if (PW.pt (pw_and (pt_cmpR op_eq (pv 5) pe_int (nomark _)) (pw_and1 (pt_cmpR op_lt (pe_callB call_len_seq (by rfl) tLen PySem.boot_len (pa_cons (pv 2) pa_nil)) pe_int (nomark _)))))
          (pss_one (ps_set (i := 2) scNear.nd rfl (Or.inl rfl) (pe_op op_cat (pe_op op_cat (pe_slice sl_list (pv 2) po_none (po_some (pv 4))) (pe_lst (pa_cons (pv 10) (pa_cons (pv 9) pa_nil)))) (pe_slice sl_list (pv 2) (po_some (pe_op op_add (pv 4) pe_int)) po_none))))
          (pss_one (ps_if (PW.pt (pw_and (pt_cmpR op_lt (pv 5) pe_int (nomark _)) (pw_and (pt_cmpR op_lt (pe_callB call_len_seq (by rfl) tLen PySem.boot_len (pa_cons (pv 2) pa_nil)) pe_int (nomark _)) (pw_and1 (pt_cmpR op_gt (pe_callB call_len_seq (by rfl) tLen PySem.boot_len (pa_cons (pv 8) pa_nil)) pe_int (nomark _))))))
            (pss_cons (ps_set (i := 11) scNear.nd rfl (Or.inl rfl) (pe_call GP hr rfl gP kP bP .nil pass0 (pa_cons (pv 0) (pa_cons (pe_lst (pa_cons pe_str (pa_cons pe_str pa_nil))) pa_nil))))
            (pss_cons (ps_set (i := 12) scNear.nd rfl (Or.inl rfl) (pe_tup (pa_cons pe_str (pa_cons (pe_ix ix_tup (pv 6) pe_int (fun _ _ => rfl)) (pa_cons (pv 11) (pa_cons (pe_ix ix_list (pv 8) pe_int (fun _ _ => rfl)) (pa_cons (pe_ix ix_list (pv 8) pe_int (fun _ _ => rfl)) pa_nil)))))))
            (pss_cons (ps_set (i := 13) scNear.nd rfl (Or.inl rfl) (pe_op op_catA (pe_op op_catA (pe_slice sl_tup (pv 10) po_none (po_some pe_int)) (pe_tup (pa_cons (pe_ix ix_list (pv 8) pe_int (fun _ _ => rfl)) pa_nil))) (pe_slice sl_tup (pv 10) (po_some pe_int) po_none)))
            (pss_one (ps_if (pt_cmpR op_notIn_seq (pv 11) (pv 3) rfl)
              (pss_one (ps_set (i := 2) scNear.nd rfl (Or.inl rfl) (pe_op op_cat (pe_op op_cat (pe_slice sl_list (pv 2) po_none (po_some (pv 4))) (pe_lst (pa_cons (pv 12) (pa_cons (pv 13) (pa_cons (pv 9) pa_nil))))) (pe_slice sl_list (pv 2) (po_some (pe_op op_add (pv 4) pe_int)) po_none))))
              pss_nil)))))
            (pss_one (ps_if (PW.pt (pw_and (pt_cmpR op_eq (pv 5) pe_int (nomark _)) (pw_and1 (pt_cmpR op_eq (pe_ix ix_tup (pv 6) pe_int (fun _ _ => rfl)) pe_str (nomark _)))))
              (pss_cons (ps_set (i := 14) scNear.nd rfl (Or.inl rfl) (pe_callTy call_list_of (by rfl) tL PyProof.Rows.boot_list (pa_cons (pe_ix ix_tup (pv 6) pe_int (fun _ _ => rfl)) pa_nil)))
              (pss_cons (ps_set (i := 15) scNear.nd rfl (Or.inl rfl) (pe_call GD hr1 rfl gD kD bD .nil pass0 (pa_cons (pv 0) (pa_cons (pe_callB call_len_seq (by rfl) tLen PySem.boot_len (pa_cons (pv 14) pa_nil)) pa_nil))))
              (pss_cons (ps_asg (pe_tup (pa_cons (pe_ix ix_tup (pe_ix ix_list (pv 14) (pv 15) (fun _ _ => rfl)) pe_int (fun _ _ => rfl)) (pa_cons (pe_call GP hr rfl gP kP bP .nil pass0 (pa_cons (pv 0) (pa_cons (pe_lc (own := [("_law_one", 16)]) (g := gName 16) (tt := tYes) (te := tOp (rIxT K) (tVar 16) (tC (.int 1))) (by rfl) scNear.nd (pi_list (pv 2))
                  (blkOk_by (own := [("_law_one", 16)]) (N := nNear) (sc := defScope sNear) (by decide +kernel)) (fun _ _ _ _ _ => pg_name (i := 16) scNear.nd rfl (Or.inl rfl)) (fun _ _ _ _ _ => pts_nil) (fun _ _ _ _ _ => pe_ix ix_tup (pv 16) pe_int (fun _ _ => rfl))) pa_nil))) pa_nil))) (pg_sub (pv 14) (pv 15) set_list))
              (pss_one (ps_asg (pe_op op_catA (pe_slice sl_tup (pv 6) po_none (po_some pe_int)) (pe_tup (pa_cons (pe_callTy call_tuple_of (by rfl) tT PyProof.Rows.boot_tuple (pa_cons (pv 14) pa_nil)) pa_nil))) (pg_sub (pv 2) (pv 4) set_list))))))
              (pss_one (ps_if (PW.pt (pw_and (pt_cmpR op_eq (pv 5) pe_int (nomark _)) (pw_and1 (pt_cmpR op_eq (pe_ix ix_tup (pv 6) pe_int (fun _ _ => rfl)) pe_str (nomark _)))))
                (pss_one (ps_asg (pe_op op_catA (pe_op op_catA (pe_slice sl_tup (pv 6) po_none (po_some pe_int)) (pe_tup (pa_cons (pe_call GP hr rfl gP kP bP .nil pass0 (pa_cons (pv 0) (pa_cons (pe_lst (pa_cons pe_str (pa_cons pe_str (pa_cons pe_str pa_nil)))) pa_nil))) pa_nil))) (pe_slice sl_tup (pv 6) (po_some pe_int) po_none)) (pg_sub (pv 2) (pv 4) set_list)))
                (pss_one (ps_if (pt_cmpR op_eq (pv 5) pe_int (nomark _))
                  (pss_one (ps_ret (pe_call GG hr rfl gG kG bG .nil pass0 (pa_cons (pv 1) (pa_cons (pe_call GP hr rfl gP kP bP .nil pass0 (pa_cons (pv 0) (pa_cons (pe_lst (pa_cons pe_str (pa_cons pe_str pa_nil))) pa_nil))) pa_nil)))))
                  pss_nil)))))))))))
      (pss_one (ps_ret (pe_tup (pa_cons (pv 2) (pa_cons (pv 3) pa_nil)))))))))))), ?_⟩
    obtain ⟨q, lp, tp, xs, rfl, hq, hl, hx, ht⟩ := hT.ex
    have few := hG.few
    have fewp : ps.length ≤ 20 := hT.fewp
    have xl : xs.length = rs.length := by rw [dpAll_len hx, List.length_map]
    have rpos : 0 < rs.length := List.length_pos_iff.mpr hG.gd.ne
    dsimp only [gName, tNext]
    refine seq_cut (fun σ1 H1 => ∃ (R Dr : Addr) (G1 : Hp), σ1 = [some (.ref d), some (.ref q), some (.ref R), some (.ref Dr), none, none, none, none, none, none, none, none, none, none, none, none, none] ∧ Same G G1 ∧ Deal G1 H1 d l ∧ G R = none ∧ G1 R = some (.lst xs) ∧ R ≠ Dr ∧ G1 Dr = some (.lst (ps.map V.str)) ∧ G Dr = none) ?after1 fun after => ?go1
    case go1 =>
      have s0 := D0.same
      refine ⟨_, rfl, q, _, 0, _, rfl, rfl, same_tup s0 hq, atI_nat (j := 0) rfl, lp, xs, rfl, .inl (s0.seq hl), fun R uR => ?_⟩
      obtain ⟨G1, H1, e1, D1, h1, k1, _⟩ := D0.lay uR (.lst xs)
      rw [← e1]
      refine ⟨_, rfl, q, _, 1, _, rfl, rfl, same_tup (k1.trans D1.same) hq, atI_nat (j := 1) rfl, tp, ps.map V.str, rfl, .inl ((k1.trans D1.same).seq ht), fun Dr uD => ?_⟩
      obtain ⟨G2, H2, e2, D2, h2, k2, _⟩ := D1.lay uD (.lst (ps.map V.str))
      rw [← e2]
      have nRD : R ≠ Dr := ne_of_none h1 (D1.same.free uD)
      exact ⟨_, _, rfl, after _ _ ⟨R, Dr, G2, rfl, k1.trans k2, D2, D0.same.free uR, k2 _ _ h1, nRD, h2, (k1.trans D1.same).free uD⟩⟩
    case after1 =>
      rintro _ H1 ⟨R, Dr, G1, rfl, k1, D1, GR, hR, nRD, hDr, GDr⟩
      have hx1 := dpAll_same k1 _ _ hx
      refine seq_cut (fun σ1 H2 => ∃ (j : Nat) (f : Int), σ1 = [some (.ref d), some (.ref q), some (.ref R), some (.ref Dr), some (.int (j : Nat)), some (.int f), none, none, none, none, none, none, none, none, none, none, none] ∧ Deal G1 H2 d l ∧ j < rs.length) ?after2 fun after => ?go2
      case go2 =>
        refine ⟨_, rfl, _, rfl, R, xs, rfl, .inl (SqL.of (D1.same _ _ hR)), G1, d, l, (xs.length : Nat), rfl, D1, by omega, by omega, fun H2 j D2 j0 j1 => ?_⟩
        obtain ⟨j, rfl⟩ : ∃ n : Nat, j = (n : Nat) := ⟨j.toNat, by omega⟩
        exact ⟨_, rfl, G1, d, l, 8, rfl, D2, by decide, by decide, fun H3 f D3 f0 f1 => ⟨_, _, rfl, after _ _ ⟨j, f, rfl, D3, by omega⟩⟩⟩
      case after2 =>
        rintro _ H2 ⟨j, f, rfl, D2, jl⟩
        have erj : rs[j]? = some rs[j] := List.getElem?_eq_getElem jl
        generalize rs[j] = r at erj
        have hr0 := List.mem_of_getElem? erj
        have exj : xs[j]? = some (xs[j]'(by omega)) := List.getElem?_eq_getElem (by omega)
        generalize xs[j]'(by omega) = x at exj
        obtain ⟨dd, ed, hdx⟩ := dpAll_at hx1 exj
        rw [List.getElem?_map, erj] at ed
        cases ed
        obtain ⟨t, ys, rfl, htG, hys⟩ := line_cells hdx
        have yl := dpAll_len hys
        have y2 := cells_two r
        have y5 := cells_few r
        obtain ⟨f0, f1, fl, efr, nf01, nin0, nin1, ok0, ok1, fll⟩ := fresh_two (ps := rs.map placeR) (by rw [List.length_map]; exact few)
        refine seq_cut (fun σ1 H3 => σ1 = [some (.ref d), some (.ref q), some (.ref R), some (.ref Dr), some (.int (j : Nat)), some (.int f), some (.ref t), none, none, none, none, none, none, none, none, none, none] ∧ H3 = H2) ?_ fun after => ⟨_, rfl, _, rfl, R, _, _, _, rfl, rfl, SqL.of (D2.same _ _ hR), atI_nat exj, after _ _ ⟨rfl, rfl⟩⟩
        rintro _ _ ⟨rfl, rfl⟩
        refine seq_cut (fun σ1 H3 => ∃ (U : Addr) (G2 : Hp), σ1 = [some (.ref d), some (.ref q), some (.ref R), some (.ref Dr), some (.int (j : Nat)), some (.int f), some (.ref t), some (.ref U), none, none, none, none, none, none, none, none, none] ∧ Same G1 G2 ∧ Deal G2 H3 d l ∧ G2 U = some (.lst ((rs.map placeR).map V.str))) ?after3 fun after => ?go3
        case go3 =>
          refine ⟨_, rfl, R, rfl, ⟨_, SqL.of (D2.same _ _ hR)⟩, fun U uU => dat_J (fun _ => true) (fun r => .str (placeR r)) (.l (SqL.of (D2.same _ _ hR))) (dpAll_same D2.same _ _ hx1) (by omega) uU (fun _ _ => rfl) (fun x r H3 Y N hm hdx s3 y n => ?_) fun H3 acc s3 hU hacc => ?_⟩
          · obtain ⟨t, ys, rfl, ht2, e0, e1⟩ := line_all hdx
            refine ⟨rfl, ?_⟩
            dsimp only [tYes]
            exact iteT ⟨_, rfl, t, _, 1, _, rfl, rfl, ht2, atI_nat (j := 1) e1, y rfl _ _ (Same.refl _) (.str _)⟩
          · rw [List.filter_eq_self.mpr (fun _ _ => rfl)] at hacc
            have ea := Lw.dp_strs (zs := rs.map placeR) (by rw [List.map_map]; exact hacc)
            subst ea
            obtain ⟨G2, D3, h2, k2⟩ := deal_take D2 s3 uU hU
            exact after _ _ ⟨U, G2, rfl, k2, D3, h2⟩
        case after3 =>
          rintro _ H3 ⟨U, G2, rfl, k2, D3, hU⟩
          refine seq_cut (fun σ1 H4 => ∃ (Fr : Addr) (G3 : Hp), σ1 = [some (.ref d), some (.ref q), some (.ref R), some (.ref Dr), some (.int (j : Nat)), some (.int f), some (.ref t), some (.ref U), some (.ref Fr), none, none, none, none, none, none, none, none] ∧ Same G1 G3 ∧ Deal G3 H4 d l ∧ G3 Fr = some (.lst ((f0 :: f1 :: fl).map V.str))) ?after4 fun after => ?go4
          case go4 =>
            refine ⟨by show 10 ≤ sizeLine; decide, fun p10 u10 => ?_⟩
            obtain ⟨G4, H4, e4, D4, h4, k4, _⟩ := D3.lay u10 (.tup (ten.map V.str))
            rw [show upd H3 p10 (.tup [V.str "i", V.str "j", V.str "k", V.str "l", V.str "o", V.str "p", V.str "q", V.str "r", V.str "s", V.str "t"]) = H4 from e4.symm]
            have ht10 : SqT K H4 p10 (ten.map V.str) := SqT.of (D4.same _ _ h4)
            refine ⟨p10, rfl, ⟨_, ht10⟩, fun Fr uF => dat_J (fun z => !decide (z ∈ rs.map placeR)) PyData.str (.t ht10) (strs_dp ten) (by decide) uF (fun _ _ => rfl) (fun x z H5 Y N hm hdx s5 y n => ?_) fun H5 acc s5 hF hacc => ?_⟩
            · cases hdx
              refine ⟨rfl, ?_⟩
              refine ⟨_, rfl, _, rfl, U, _, rfl, .inl (SqL.of (s5 _ _ (D4.same _ _ (k4 _ _ hU)))), rfl, flat_strs _, _, rfl, ?_⟩
              rw [if_pos rfl, inV_strs]
              cases ec : decide (z ∈ rs.map placeR) with
              | true => exact iteF (n (by rw [ec]; rfl) _ (Same.refl _))
              | false => exact iteT ⟨_, rfl, y (by rw [ec]; rfl) _ _ (Same.refl _) (.str _)⟩
            · rw [efr] at hacc
              have ea := Lw.dp_strs hacc
              subst ea
              obtain ⟨G5, D5, h5, k5⟩ := deal_take D4 s5 uF hF
              exact after _ _ ⟨Fr, G5, rfl, k2.trans (k4.trans k5), D5, h5⟩
          case after4 =>
            rintro _ H4 ⟨Fr, G3, rfl, k3, D4, hFr⟩
            refine seq_cut (fun σ1 H5 => ∃ (mv : Addr) (G4 : Hp), σ1 = [some (.ref d), some (.ref q), some (.ref R), some (.ref Dr), some (.int (j : Nat)), some (.int f), some (.ref t), some (.ref U), some (.ref Fr), some (.ref mv), none, none, none, none, none, none, none] ∧ Same G3 G4 ∧ Deal G4 H5 d l ∧ Dp K G4 (.ref mv) (lineD (moveR f0 r))) ?after5 fun after => ?go5
            case go5 =>
              have ht3 := same_tup k3 htG
              refine ⟨_, rfl, _, rfl, t, _, rfl, same_tup D4.same ht3, notT 1 (by omega), fun c1 u1 => ?_⟩
              rw [show cutV ys none (some 1) = ys.take 1 from cutT 1 (by omega)]
              obtain ⟨G5, H5, e5, D5, h5, k5, _⟩ := D4.lay u1 (.tup (ys.take 1))
              rw [← e5]
              refine ⟨_, rfl, Fr, _, 0, _, rfl, rfl, SqL.of (D5.same _ _ (k5 _ _ hFr)), atI_nat (j := 0) rfl, by show 1 ≤ sizeLine; decide, fun c2 u2 => ?_⟩
              obtain ⟨G6, H6, e6, D6, h6, k6, _⟩ := D5.lay u2 (.tup [.str f0])
              rw [← e6]
              have n1 : ys.take 1 ≠ [] := fun e => by
                have := congrArg List.length e
                rw [List.length_take, List.length_nil] at this
                omega
              refine ⟨c1, c2, _, _, rfl, rfl, SqT.of (D6.same _ _ (k6 _ _ h5)), SqT.of (D6.same _ _ h6), Nat.le_trans (show _ ≤ 10 by rw [List.length_take, List.length_singleton]; omega) (by decide), fun e => absurd e n1, fun _ e => (by cases e), fun _ _ c3 u3 => ?_⟩
              obtain ⟨G7, H7, e7, D7, h7, k7, _⟩ := D6.lay u3 (.tup (ys.take 1 ++ [.str f0]))
              rw [← e7]
              have k37 := k5.trans (k6.trans k7)
              refine ⟨_, rfl, _, rfl, t, _, rfl, same_tup D7.same (same_tup k37 ht3), notD 2 (by decide) (by omega), fun c4 u4 => ?_⟩
              rw [show cutV ys (some 2) none = ys.drop 2 from cutD 2]
              obtain ⟨G8, H8, e8, D8, h8, k8, _⟩ := D7.lay u4 (.tup (ys.drop 2))
              rw [← e8]
              have k38 := k37.trans k8
              have cells : ∀ {G9 : Hp}, Same G8 G9 → DpAll K G9 (ys.take 1 ++ [.str f0] ++ ys.drop 2) (cellsD (moveR f0 r)) := fun {G9} k9 => by
                rw [move_cells]
                have hy9 := dpAll_same (k3.trans (k38.trans k9)) _ _ hys
                exact dpAll_app (dpAll_app (dpAll_take 1 hy9) (.cons (.str _) .nil)) (dpAll_drop 2 hy9)
              refine ⟨c3, c4, _, _, rfl, rfl, SqT.of (D8.same _ _ (k8 _ _ h7)), SqT.of (D8.same _ _ h8), Nat.le_trans (show _ ≤ 10 by rw [List.length_append, List.length_take, List.length_drop, List.length_singleton]; omega) (by decide), fun e => absurd e (by simp), fun _ e => ?_, fun _ _ c5 u5 => ?_⟩
              · have z := cells (Same.refl G8)
                rw [e, List.append_nil] at z
                exact after _ _ ⟨c3, G8, rfl, k38, D8, cells_line (SqT.of (k8 _ _ h7)) z⟩
              · obtain ⟨G9, H9, e9, D9, h9, k9, _⟩ := D8.lay u5 (.tup (ys.take 1 ++ [.str f0] ++ ys.drop 2))
                rw [← e9]
                exact after _ _ ⟨c5, G9, rfl, k38.trans k9, D9, cells_line (SqT.of h9) (cells k9)⟩
            case after5 =>
              rintro _ H5 ⟨mv, G4, rfl, k4, D5, hmv⟩
              have k14 := k3.trans k4
              refine seq_cut (fun σ1 H6 => ∃ (nw w0 : Addr) (nm : Str) (G5 : Hp), σ1 = [some (.ref d), some (.ref q), some (.ref R), some (.ref Dr), some (.int (j : Nat)), some (.int f), some (.ref t), some (.ref U), some (.ref Fr), some (.ref mv), some (.ref nw), none, none, none, none, none, none] ∧ Same G4 G5 ∧ Deal G5 H6 d l ∧ nameOk nm = true ∧ SqT K G5 nw [.str "ask", .str (placeR r), .str nm, .ref w0] ∧ Dp K G5 (.ref w0) (.tuple [wayD ("yes", f0)])) ?after6 fun after => ?go6
              case go6 =>
                refine ⟨_, rfl, t, _, 1, _, rfl, rfl, same_tup (k14.trans D5.same) htG, atI_nat (j := 1) (dp_ix hys (cells_place r)), _, rfl, by show 4 ≤ sizeLine; decide, fun p1 u1 => ?_⟩
                obtain ⟨G6, H6, e6, D6, h6, k6, _⟩ := D5.lay u1 (.lst ((["x", "y", "z", "w"] : List Str).map V.str))
                rw [show upd H5 p1 (.lst [V.str "x", V.str "y", V.str "z", V.str "w"]) = H6 from e6.symm]
                refine ⟨G6, d, l, p1, _, rfl, D6, SqL.of h6, by simp, by show 4 < 1000; decide, fun H7 x7 D7 hx7 => ?_⟩
                obtain ⟨nm, hnm, rfl⟩ := str_mem hx7
                refine ⟨_, rfl, Fr, _, 0, _, rfl, rfl, SqL.of (D7.same _ _ (k6 _ _ (k4 _ _ hFr))), atI_nat (j := 0) rfl, by show 2 ≤ sizeLine; decide, fun w1 u2 => ?_⟩
                obtain ⟨G8, H8, e8, D8, h8, k8, _⟩ := D7.lay u2 (.tup [.str "yes", .str f0])
                rw [← e8]
                refine ⟨by show 1 ≤ sizeLine; decide, fun w0 u3 => ?_⟩
                obtain ⟨G9, H9, e9, D9, h9, k9, _⟩ := D8.lay u3 (.tup [.ref w1])
                rw [← e9]
                refine ⟨by show 4 ≤ sizeLine; decide, fun nw u4 => ?_⟩
                obtain ⟨Ga, Ha, ea, Da, ha, ka, _⟩ := D9.lay u4 (.tup [.str "ask", .str (placeR r), .str nm, .ref w0])
                rw [← ea]
                exact after _ _ ⟨nw, w0, nm, Ga, rfl, k6.trans (k8.trans (k9.trans ka)), Da, xyzw_names nm hnm, SqT.of ha, .tup (SqT.of (ka _ _ h9)) (.cons (.tup (SqT.of (ka _ _ (k9 _ _ h8))) (.cons (.str _) (.cons (.str _) .nil))) .nil)⟩
              case after6 =>
                rintro _ H6 ⟨nw, w0, nm, G5, rfl, k5, D6, okm, hnw, hw0⟩
                have K15 := k14.trans k5
                have KK := k1.trans K15
                have hmv5 := dp_same k5 _ _ hmv
                have hFr5 := k5 _ _ (k4 _ _ hFr)
                have hR5 := K15 _ _ hR
                have hDr5 := K15 _ _ hDr
                have hx5 := dpAll_same K15 _ _ hx1
                have ht5 := same_tup K15 htG
                have hys5 := dpAll_same K15 _ _ hys
                have hT5 := hT.same KK
                have ekind : ys[0]? = some (.str (kindR r)) := dp_ix hys (cells_kind r)
                clear hFr hR hDr hx1 htG hys hmv hU D0 D1 D2 D3 D4 D5 k1 k2 k3 k4 k5 k14 K15
                refine seq_cut (fun σ1 H7 => ∃ (R' : Addr) (xs' : List V) (rs' : List Row0) (G7 : Hp) (rest : List (Option V)), σ1 = [some (.ref d), some (.ref q), some (.ref R'), some (.ref Dr)] ++ rest ∧ Same G G7 ∧ Deal G7 H7 d l ∧ G7 R' = some (.lst xs') ∧ G7 Dr = some (.lst (ps.map V.str)) ∧ DpAll K G7 xs' (rs'.map lineD) ∧ Gk rs' ps ∧ G R' = none) ?after7 fun after => ?go7
                case go7 =>
                  have jx : j < xs.length := by omega
                  have gr := hG.gd.good r hr0
                  have toR := hG.to r hr0
                  have hd5 : Dp K G5 (.ref t) (lineD r) := cells_line ht5 hys5
                  refine if_else ?elsA fun els => ?goA
                  case goA =>
                    refine ⟨_, rfl, _, _, rfl, rfl, _, rfl, ?_⟩
                    refine ite2 (fun _ => ?_) fun _ => iteF els
                    refine ⟨_, rfl, t, _, 0, _, rfl, rfl, same_tup D6.same ht5, atI_nat (j := 0) ekind, rfl, _, rfl, ?_⟩
                    rw [dec_str]
                    cases r with
                    | ask p n0 ws =>
                      obtain ⟨t', y, et, ht6, hy⟩ := line_ask hd5
                      cases et
                      refine iteT ?_
                      refine ⟨_, rfl, _, rfl, t, _, rfl, same_tup D6.same ht6, notT 2 (show 2 < 4 by decide), fun c1 u1 => ?_⟩
                      obtain ⟨G7, H7, e7, D7, h7, k7, _⟩ := D6.lay u1 (.tup [.str "ask", .str p])
                      rw [show upd H6 c1 (.tup (cutV [.str "ask", .str p, .str n0, y] none (some 2))) = H7 from e7.symm]
                      refine ⟨_, rfl, by show 4 ≤ sizeLine; decide, fun p1 u2 => ?_⟩
                      obtain ⟨G8, H8, e8, D8, h8, k8, _⟩ := D7.lay u2 (.lst ((["x", "y", "z", "w"] : List Str).map V.str))
                      rw [show upd H7 p1 (.lst [V.str "x", V.str "y", V.str "z", V.str "w"]) = H8 from e8.symm]
                      refine ⟨G8, d, l, p1, _, rfl, D8, SqL.of h8, by simp, by show 4 < 1000; decide, fun H9 x9 D9 hx9 => ?_⟩
                      obtain ⟨n1, hn1, rfl⟩ := str_mem hx9
                      refine ⟨by show 1 ≤ sizeLine; decide, fun c2 u3 => ?_⟩
                      obtain ⟨Ga, Ha, ea, Da, ha, ka, _⟩ := D9.lay u3 (.tup [.str n1])
                      rw [← ea]
                      refine ⟨c1, c2, _, _, rfl, rfl, SqT.of (Da.same _ _ (ka _ _ (k8 _ _ h7))), SqT.of (Da.same _ _ ha), by show 3 ≤ sizeLine; decide, fun e => (by cases e), fun _ e => (by cases e), fun _ _ c3 u4 => ?_⟩
                      obtain ⟨Gb, Hb, eb, Db, hb, kb, _⟩ := Da.lay u4 (.tup ([.str "ask", .str p] ++ [.str n1]))
                      rw [← eb]
                      have k5b := k7.trans (k8.trans (ka.trans kb))
                      refine ⟨_, rfl, _, rfl, t, _, rfl, same_tup Db.same (same_tup k5b ht6), notD 3 (by decide) (show 0 < 4 by decide), fun c4 u5 => ?_⟩
                      obtain ⟨Gc, Hc, ec, Dc, hc, kc, _⟩ := Db.lay u5 (.tup [y])
                      rw [show upd Hb c4 (.tup (cutV [.str "ask", .str p, .str n0, y] (some 3) none)) = Hc from ec.symm]
                      refine ⟨c3, c4, _, _, rfl, rfl, SqT.of (Dc.same _ _ (kc _ _ hb)), SqT.of (Dc.same _ _ hc), by show 4 ≤ sizeLine; decide, fun e => (by cases e), fun _ e => (by cases e), fun _ _ c5 u6 => ?_⟩
                      obtain ⟨Gd, Hd, ed, Dd, hd, kd, _⟩ := Dc.lay u6 (.tup ([.str "ask", .str p] ++ [.str n1] ++ [y]))
                      rw [← ed]
                      have k5d := k5b.trans (kc.trans kd)
                      obtain ⟨Ge, s1, s2, s3, s4, s5⟩ := edit_row (r' := .ask p n1 ws) (KK.trans k5d) Dd GR (k5d _ _ hR5) nRD (k5d _ _ hDr5) (dpAll_same k5d _ _ hx5) (.tup (SqT.of hd) (.cons (.str _) (.cons (.str _) (.cons (.str _) (.cons (dp_same k5d _ _ hy) .nil))))) j
                      exact ⟨_, rfl, _, rfl, R, xs, _, j, rfl, rfl, Dd.same _ _ (k5d _ _ hR5), ixN_at jx, after _ _ ⟨R, _, _, Ge, _, rfl, s1, s2, s3, s4, s5, hG.put erj rfl (fun o => (by cases o)) toR ⟨gr.1, xyzw_names n1 hn1, gr.2.2⟩ (fun _ _ _ _ e => (by cases e)), GR⟩⟩
                    | note _ _ _ => exact iteF els
                    | gate _ _ _ _ => exact iteF els
                    | end_ _ => exact iteF els
                  case elsA =>
                    refine if_else ?elsB fun els => ?goB
                    case goB =>
                      refine ⟨_, rfl, rfl, _, rfl, ?_⟩
                      refine ite2 (fun _ => ?_) fun _ => iteF els
                      refine ⟨_, rfl, R, xs, rfl, .inl (SqL.of (D6.same _ _ hR5)), _, _, rfl, rfl, _, rfl, ?_⟩
                      by_cases l8 : (xs.length : Int) < 8
                      case neg =>
                        rw [decide_eq_false l8]
                        exact iteF els
                      rw [decide_eq_true l8]
                      refine iteT ?_
                      refine ⟨_, rfl, _, rfl, _, rfl, R, _, rfl, SqL.of (D6.same _ _ hR5), fun c1 u1 => ?_⟩
                      rw [show cutV xs none (some (j : Int)) = xs.take j from cutT j (by omega)]
                      obtain ⟨G7, H7, e7, D7, h7, k7, _⟩ := D6.lay u1 (.lst (xs.take j))
                      rw [← e7]
                      refine ⟨_, rfl, _, rfl, by show 2 ≤ sizeLine; decide, fun c2 u2 => ?_⟩
                      obtain ⟨G8, H8, e8, D8, h8, k8, _⟩ := D7.lay u2 (.lst [.ref nw, .ref mv])
                      rw [← e8]
                      refine ⟨c1, c2, _, _, rfl, rfl, D8.same _ _ (k8 _ _ h7), D8.same _ _ h8, Nat.le_trans (show _ ≤ 20 by rw [List.length_take]; simp only [List.length_cons, List.length_nil]; omega) (by decide), fun c3 u3 => ?_⟩
                      obtain ⟨G9, H9, e9, D9, h9, k9, _⟩ := D8.lay u3 (.lst (xs.take j ++ [.ref nw, .ref mv]))
                      rw [← e9]
                      have k59 := k7.trans (k8.trans k9)
                      refine ⟨_, rfl, _, rfl, _, _, rfl, rfl, _, rfl, R, _, rfl, SqL.of (D9.same _ _ (k59 _ _ hR5)), fun c4 u4 => ?_⟩
                      rw [show cutV xs (some ((j : Int) + 1)) none = xs.drop (j + 1) from cutD (ys := xs) (j + 1)]
                      obtain ⟨Ga, Ha, ea, Da, ha, ka, _⟩ := D9.lay u4 (.lst (xs.drop (j + 1)))
                      rw [← ea]
                      refine ⟨c3, c4, _, _, rfl, rfl, Da.same _ _ (ka _ _ h9), Da.same _ _ ha, Nat.le_trans (show _ ≤ 30 by rw [List.length_append, List.length_take, List.length_drop]; simp only [List.length_cons, List.length_nil]; omega) (by decide), fun c5 u5 => ?_⟩
                      obtain ⟨Gb, Hb, eb, Db, hb, kb, _⟩ := Da.lay u5 (.lst (xs.take j ++ [.ref nw, .ref mv] ++ xs.drop (j + 1)))
                      rw [← eb]
                      have k5b := k59.trans (ka.trans kb)
                      obtain ⟨p1, p2⟩ := split_at erj [.ask (placeR r) nm [("yes", f0)], moveR f0 r]
                      have hg1 := hG.perm p1.symm
                      have hg2 := (hg1.one (by rw [← p1.length_eq]; omega) ok0 (fun h => nin0 ((p1.map placeR).mem_iff.mpr h)) okm).perm p2
                      have hxb := dpAll_same k5b _ _ hx5
                      refine after _ _ ⟨c5, _, _, Gb, _, rfl, KK.trans k5b, Db, hb, k5b _ _ hDr5, ?_, hg2, ((KK.trans (k59.trans ka)).trans Da.same).free u5⟩
                      rw [List.map_append, List.map_append, List.map_take, List.map_drop]
                      exact dpAll_app (dpAll_app (dpAll_take j hxb) (.cons (.tup (same_tup k5b hnw) (.cons (.str _) (.cons (.str _) (.cons (.str _) (.cons (dp_same k5b _ _ hw0) .nil))))) (.cons (dp_same k5b _ _ hmv5) .nil))) (dpAll_drop (j + 1) hxb)
                    case elsB =>
                      refine if_else ?elsC fun els => ?goC
                      case goC =>
                        refine ⟨_, rfl, _, _, rfl, rfl, _, rfl, ?_⟩
                        refine ite2 (fun _ => ?_) fun _ => iteF els
                        refine ⟨_, rfl, R, xs, rfl, .inl (SqL.of (D6.same _ _ hR5)), _, _, rfl, rfl, _, rfl, ?_⟩
                        by_cases l7 : (xs.length : Int) < 7
                        case neg =>
                          rw [decide_eq_false l7]
                          exact iteF (iteF els)
                        rw [decide_eq_true l7]
                        refine iteT ⟨_, rfl, Fr, _, rfl, .inl (SqL.of (D6.same _ _ hFr5)), _, _, rfl, rfl, _, rfl, ?_⟩
                        have l1 : (1 : Int) < (((f0 :: f1 :: fl).map V.str).length : Nat) := by
                          rw [List.length_map, List.length_cons, List.length_cons]
                          omega
                        rw [decide_eq_true l1]
                        refine iteT ?_
                        refine ⟨_, rfl, by show 2 ≤ sizeLine; decide, fun p1 u2 => ?_⟩
                        obtain ⟨G7, H7, e7, D7, h7, k7, _⟩ := D6.lay u2 (.lst ((["m", "n"] : List Str).map V.str))
                        rw [show upd H6 p1 (.lst [V.str "m", V.str "n"]) = H7 from e7.symm]
                        refine ⟨G7, d, l, p1, _, rfl, D7, SqL.of h7, by simp, by show 2 < 1000; decide, fun H8 x8 D8 hx8 => ?_⟩
                        obtain ⟨m, hm, rfl⟩ := str_mem hx8
                        have okm2 : nameOk m = true := marks_names m (mn_four m hm)
                        have hFr7 := D8.same _ _ (k7 _ _ hFr5)
                        refine ⟨_, rfl, t, _, 1, _, rfl, rfl, same_tup (k7.trans D8.same) ht5, atI_nat (j := 1) (dp_ix hys5 (cells_place r)), _, rfl, _, rfl, Fr, _, 1, _, rfl, rfl, SqL.of hFr7, atI_nat (j := 1) rfl, _, rfl, Fr, _, 0, _, rfl, rfl, SqL.of hFr7, atI_nat (j := 0) rfl, by show 5 ≤ sizeLine; decide, fun gt ug => ?_⟩
                        obtain ⟨G9, H9, e9, D9, h9, k9, _⟩ := D8.lay ug (.tup [.str "mark", .str (placeR r), .str m, .str f1, .str f0])
                        rw [← e9]
                        have k59 := k7.trans k9
                        refine ⟨_, rfl, _, rfl, nw, _, rfl, same_tup D9.same (same_tup k59 hnw), notT 1 (show 1 < 4 by decide), fun c1 u1 => ?_⟩
                        obtain ⟨Ga, Ha, ea, Da, ha, ka, _⟩ := D9.lay u1 (.tup [.str "ask"])
                        rw [show upd H9 c1 (.tup (cutV [.str "ask", .str (placeR r), .str nm, .ref w0] none (some 1))) = Ha from ea.symm]
                        refine ⟨_, rfl, Fr, _, 1, _, rfl, rfl, SqL.of (Da.same _ _ (ka _ _ (k59 _ _ hFr5))), atI_nat (j := 1) rfl, by show 1 ≤ sizeLine; decide, fun c2 u2 => ?_⟩
                        obtain ⟨Gb, Hb, eb, Db, hb, kb, _⟩ := Da.lay u2 (.tup [.str f1])
                        rw [← eb]
                        refine ⟨c1, c2, _, _, rfl, rfl, SqT.of (Db.same _ _ (kb _ _ ha)), SqT.of (Db.same _ _ hb), by show 2 ≤ sizeLine; decide, fun e => (by cases e), fun _ e => (by cases e), fun _ _ c3 u3 => ?_⟩
                        obtain ⟨Gc, Hc, ec, Dc, hc, kc, _⟩ := Db.lay u3 (.tup ([.str "ask"] ++ [.str f1]))
                        rw [← ec]
                        have k5c := k59.trans (ka.trans (kb.trans kc))
                        refine ⟨_, rfl, _, rfl, nw, _, rfl, same_tup Dc.same (same_tup k5c hnw), notD 2 (by decide) (show 0 < 4 by decide), fun c4 u4 => ?_⟩
                        obtain ⟨Gd, Hd, ed, Dd, hd, kd, _⟩ := Dc.lay u4 (.tup [.str nm, .ref w0])
                        rw [show upd Hc c4 (.tup (cutV [.str "ask", .str (placeR r), .str nm, .ref w0] (some 2) none)) = Hd from ed.symm]
                        refine ⟨c3, c4, _, _, rfl, rfl, SqT.of (Dd.same _ _ (kd _ _ hc)), SqT.of (Dd.same _ _ hd), by show 4 ≤ sizeLine; decide, fun e => (by cases e), fun _ e => (by cases e), fun _ _ c5 u5 => ?_⟩
                        obtain ⟨Ge, He, ee, De, he, ke, _⟩ := Dd.lay u5 (.tup ([.str "ask"] ++ [.str f1] ++ [.str nm, .ref w0]))
                        rw [← ee]
                        have k9e := ka.trans (kb.trans (kc.trans (kd.trans ke)))
                        have k5e := k59.trans k9e
                        refine ⟨_, rfl, _, rfl, Dr, _, rfl, .inl (SqL.of (De.same _ _ (k5e _ _ hDr5))), rfl, flat_strs _, _, rfl, ?_⟩
                        rw [if_pos rfl, inV_strs]
                        by_cases em : m ∈ ps
                        case pos =>
                          rw [decide_eq_true em]
                          exact iteF (after _ _ ⟨R, xs, rs, Ge, _, rfl, KK.trans k5e, De, k5e _ _ hR5, k5e _ _ hDr5, dpAll_same k5e _ _ hx5, hG, GR⟩)
                        rw [decide_eq_false em]
                        refine iteT ?_
                        have hRe := k5e _ _ hR5
                        refine ⟨_, rfl, _, rfl, _, rfl, R, _, rfl, SqL.of (De.same _ _ hRe), fun b1 v1 => ?_⟩
                        rw [show cutV xs none (some (j : Int)) = xs.take j from cutT j (by omega)]
                        obtain ⟨Gf, Hf, ef, Df, hf, kf, _⟩ := De.lay v1 (.lst (xs.take j))
                        rw [← ef]
                        refine ⟨_, rfl, _, rfl, _, rfl, by show 3 ≤ sizeLine; decide, fun b2 v2 => ?_⟩
                        obtain ⟨Gg, Hg, eg, Dg, hg, kg, _⟩ := Df.lay v2 (.lst [.ref gt, .ref c5, .ref mv])
                        rw [← eg]
                        refine ⟨b1, b2, _, _, rfl, rfl, Dg.same _ _ (kg _ _ hf), Dg.same _ _ hg, Nat.le_trans (show _ ≤ 20 by rw [List.length_take]; simp only [List.length_cons, List.length_nil]; omega) (by decide), fun b3 v3 => ?_⟩
                        obtain ⟨Gh, Hh, eh, Dh, hh, kh, _⟩ := Dg.lay v3 (.lst (xs.take j ++ [.ref gt, .ref c5, .ref mv]))
                        rw [← eh]
                        have keh := kf.trans (kg.trans kh)
                        refine ⟨_, rfl, _, rfl, _, _, rfl, rfl, _, rfl, R, _, rfl, SqL.of (Dh.same _ _ (keh _ _ hRe)), fun b4 v4 => ?_⟩
                        rw [show cutV xs (some ((j : Int) + 1)) none = xs.drop (j + 1) from cutD (ys := xs) (j + 1)]
                        obtain ⟨Gi, Hi, ei, Di, hi, ki, _⟩ := Dh.lay v4 (.lst (xs.drop (j + 1)))
                        rw [← ei]
                        refine ⟨b3, b4, _, _, rfl, rfl, Di.same _ _ (ki _ _ hh), Di.same _ _ hi, Nat.le_trans (show _ ≤ 30 by rw [List.length_append, List.length_take, List.length_drop]; simp only [List.length_cons, List.length_nil]; omega) (by decide), fun b5 v5 => ?_⟩
                        obtain ⟨Gj, Hj, ej, Dj, hj, kj, _⟩ := Di.lay v5 (.lst (xs.take j ++ [.ref gt, .ref c5, .ref mv] ++ xs.drop (j + 1)))
                        rw [← ej]
                        have kej := keh.trans (ki.trans kj)
                        have k5j := k5e.trans kej
                        obtain ⟨p1, p2⟩ := split_at erj [.gate (placeR r) m f1 f0, .ask f1 nm [("yes", f0)], moveR f0 r]
                        have hg1 := hG.perm p1.symm
                        have hg2 := (hg1.two (by rw [← p1.length_eq]; omega) ok0 ok1 nf01 (fun h => nin0 ((p1.map placeR).mem_iff.mpr h)) (fun h => nin1 ((p1.map placeR).mem_iff.mpr h)) okm okm2 em).perm p2
                        have hxb := dpAll_same k5j _ _ hx5
                        refine after _ _ ⟨b5, _, _, Gj, _, rfl, KK.trans k5j, Dj, hj, k5j _ _ hDr5, ?_, hg2, ((KK.trans (k5e.trans (keh.trans ki))).trans Di.same).free v5⟩
                        rw [List.map_append, List.map_append, List.map_take, List.map_drop]
                        exact dpAll_app (dpAll_app (dpAll_take j hxb) (.cons (.tup (SqT.of ((k9e.trans kej) _ _ h9)) (.cons (.str _) (.cons (.str _) (.cons (.str _) (.cons (.str _) (.cons (.str _) .nil)))))) (.cons (.tup (SqT.of (kej _ _ he)) (.cons (.str _) (.cons (.str _) (.cons (.str _) (.cons (dp_same k5j _ _ hw0) .nil))))) (.cons (dp_same k5j _ _ hmv5) .nil)))) (dpAll_drop (j + 1) hxb)
                      case elsC =>
                        refine if_else ?elsD fun els => ?goD
                        case goD =>
                          refine ⟨_, rfl, rfl, _, rfl, ?_⟩
                          refine ite2 (fun _ => ?_) fun _ => iteF els
                          refine ⟨_, rfl, t, _, 0, _, rfl, rfl, same_tup D6.same ht5, atI_nat (j := 0) ekind, rfl, _, rfl, ?_⟩
                          rw [dec_str]
                          cases r with
                          | note _ _ _ => exact iteF els
                          | gate _ _ _ _ => exact iteF els
                          | end_ _ => exact iteF els
                          | ask p n0 ws =>
                            obtain ⟨t', y, et, ht6, hy⟩ := line_ask hd5
                            cases et
                            cases hy with
                            | @tup wa zs _ hwa hzs =>
                              have wne : ws ≠ [] := gr.2.2.1
                              have wfew : ws.length ≤ 3 := gr.2.2.2.1
                              have wpos : 0 < ws.length := List.length_pos_iff.mpr wne
                              have zl : zs.length = ws.length := by rw [dpAll_len hzs, List.length_map]
                              refine iteT ?_
                              refine ⟨_, rfl, t, _, 3, _, rfl, rfl, same_tup D6.same ht6, atI_nat (j := 3) rfl, wa, zs, rfl, .inr (same_tup D6.same hwa), fun W uW => ?_⟩
                              obtain ⟨G7, H7, e7, D7, h7, k7, _⟩ := D6.lay uW (.lst zs)
                              rw [← e7]
                              have W5 : G5 W = none := D6.same.free uW
                              refine ⟨_, rfl, _, rfl, W, zs, rfl, .inl (SqL.of (D7.same _ _ h7)), G7, d, l, (zs.length : Nat), rfl, D7, by omega, by omega, fun H8 k D8 k0 k1 => ?_⟩
                              obtain ⟨k, rfl⟩ : ∃ n : Nat, k = (n : Nat) := ⟨k.toNat, by omega⟩
                              have kl : k < ws.length := by omega
                              have ewk : ws[k]? = some ws[k] := List.getElem?_eq_getElem kl
                              generalize ws[k] = wk at ewk
                              have hwk := List.mem_of_getElem? ewk
                              have ezk : zs[k]? = some (zs[k]'(by omega)) := List.getElem?_eq_getElem (by omega)
                              generalize zs[k]'(by omega) = zk at ezk
                              obtain ⟨dd, ed, hdz⟩ := dpAll_at hzs ezk
                              rw [List.getElem?_map, ewk] at ed
                              cases ed
                              cases hdz with
                              | @tup wt zz _ hwt hzz =>
                                rw [Lw.dp_strs (zs := [wk.1, wk.2]) hzz] at hwt
                                refine ⟨_, rfl, _, rfl, W, _, _, _, rfl, rfl, SqL.of (D8.same _ _ h7), atI_nat ezk, wt, _, 0, _, rfl, rfl, same_tup (k7.trans D8.same) hwt, atI_nat (j := 0) rfl, _, rfl, _, rfl, R, rfl, ⟨_, SqL.of (D8.same _ _ (k7 _ _ hR5))⟩, fun U2 uU => dat_J (fun _ => true) (fun r => .str (placeR r)) (.l (SqL.of (D8.same _ _ (k7 _ _ hR5)))) (dpAll_same (k7.trans D8.same) _ _ hx5) (by omega) uU (fun _ _ => rfl) (fun x r H3 Y N hm hdx s3 y n => ?_) fun H9 acc s9 hU hacc => ?_⟩
                                · obtain ⟨t, ys, rfl, ht2, e0, e1⟩ := line_all hdx
                                  refine ⟨rfl, ?_⟩
                                  dsimp only [tYes]
                                  exact iteT ⟨_, rfl, t, _, 1, _, rfl, rfl, ht2, atI_nat (j := 1) e1, y rfl _ _ (Same.refl _) (.str _)⟩
                                · rw [List.filter_eq_self.mpr (fun _ _ => rfl)] at hacc
                                  have ea := Lw.dp_strs (zs := rs.map placeR) (by rw [List.map_map]; exact hacc)
                                  subst ea
                                  obtain ⟨Ga, D9, ha, ka⟩ := deal_take D8 s9 uU hU
                                  refine ⟨Ga, d, l, U2, _, rfl, D9, SqL.of ha, ?_, ?_, fun Hb xb Db hxb => ?_⟩
                                  · intro e
                                    have := congrArg List.length e
                                    rw [List.length_map, List.length_map, List.length_nil] at this
                                    omega
                                  · rw [List.length_map, List.length_map]
                                    omega
                                  obtain ⟨y, hyp, rfl⟩ := str_mem hxb
                                  refine ⟨by show 2 ≤ sizeLine; decide, fun np unp => ?_⟩
                                  obtain ⟨Gc, Hc, ec, Dc, hc, kc, _⟩ := Db.lay unp (.tup [.str wk.1, .str y])
                                  rw [← ec]
                                  have k7c := ka.trans kc
                                  have hW := k7c _ _ h7
                                  refine ⟨_, rfl, _, rfl, W, zs, _, k, rfl, rfl, Dc.same _ _ hW, ixN_at (by omega), ?_⟩
                                  have De := Dc.edit (o := .lst (zs.set k (.ref np))) hW
                                  have he : (upd Gc W (.lst (zs.set k (.ref np)))) W = some (.lst (zs.set k (.ref np))) := upd_same
                                  have k5e : Same G5 (upd Gc W (.lst (zs.set k (.ref np)))) := same_edit (k7.trans k7c) W5
                                  have hze : DpAll K (upd Gc W (.lst (zs.set k (.ref np)))) (zs.set k (.ref np)) ((ws.set k (wk.1, y)).map wayD) := by
                                    rw [List.map_set]
                                    have kh := (hard_upd (o := .lst (zs.set k (.ref np))) hW)
                                    exact dpAll_put (dp_same kh _ _ (dp_hard (wayD (wk.1, y)) _ rfl (.tup (SqT.of hc) (.cons (.str _) (.cons (.str _) .nil))))) k (dpAll_same k5e _ _ hzs)
                                  generalize (upd Gc W (.lst (zs.set k (.ref np)))) = Ge at De he k5e hze
                                  generalize (upd Hc W (.lst (zs.set k (.ref np)))) = He at De
                                  refine ⟨_, rfl, _, rfl, t, _, rfl, same_tup De.same (same_tup k5e ht6), notT 3 (show 3 < 4 by decide), fun c1 u1 => ?_⟩
                                  obtain ⟨Gf, Hf, ef, Df, hf, kf, _⟩ := De.lay u1 (.tup [.str "ask", .str p, .str n0])
                                  rw [show upd He c1 (.tup (cutV [.str "ask", .str p, .str n0, .ref wa] none (some 3))) = Hf from ef.symm]
                                  refine ⟨_, rfl, W, _, rfl, .inl ⟨SqL.of (Df.same _ _ (kf _ _ he)), fun tw utw => ?_⟩⟩
                                  obtain ⟨Gg, Hg, eg, Dg, hg, kg, _⟩ := Df.lay utw (.tup (zs.set k (.ref np)))
                                  rw [← eg]
                                  refine ⟨by show 1 ≤ sizeLine; decide, fun c2 u2 => ?_⟩
                                  obtain ⟨Gh, Hh, eh, Dh, hh, kh, _⟩ := Dg.lay u2 (.tup [.ref tw])
                                  rw [← eh]
                                  refine ⟨c1, c2, _, _, rfl, rfl, SqT.of (Dh.same _ _ (kh _ _ (kg _ _ hf))), SqT.of (Dh.same _ _ hh), by show 4 ≤ sizeLine; decide, fun e => (by cases e), fun _ e => (by cases e), fun _ _ c3 u3 => ?_⟩
                                  obtain ⟨Gi, Hi, ei, Di, hi, ki, _⟩ := Dh.lay u3 (.tup ([.str "ask", .str p, .str n0] ++ [.ref tw]))
                                  rw [← ei]
                                  have kei := kf.trans (kg.trans (kh.trans ki))
                                  have k5i := k5e.trans kei
                                  obtain ⟨Gz, s1, s2, s3, s4, s5⟩ := edit_row (r' := .ask p n0 (ws.set k (wk.1, y))) (KK.trans k5i) Di GR (k5i _ _ hR5) nRD (k5i _ _ hDr5) (dpAll_same k5i _ _ hx5) (.tup (SqT.of hi) (.cons (.str _) (.cons (.str _) (.cons (.str _) (.cons (.tup (SqT.of (ki _ _ (kh _ _ hg))) (dpAll_same kei _ _ hze)) .nil))))) j
                                  have wm : ∀ w ∈ ws.set k (wk.1, y), w = (wk.1, y) ∨ w ∈ ws := fun w hw => by
                                    rcases List.mem_or_eq_of_mem_set hw with h | h
                                    · exact .inr h
                                    · exact .inl h
                                  refine ⟨_, rfl, _, rfl, R, xs, _, j, rfl, rfl, Di.same _ _ (k5i _ _ hR5), ixN_at jx, after _ _ ⟨R, _, _, Gz, _, rfl, s1, s2, s3, s4, s5, hG.put erj rfl (fun o => (by cases o)) (fun z hz => ?_) ⟨gr.1, gr.2.1, ?_, by rw [List.length_set]; exact wfew, ?_, fun w hw => ?_⟩ (fun _ _ _ _ e => (by cases e)), GR⟩⟩
                                  · have hz : z ∈ (ws.set k (wk.1, y)).map (fun w => w.2) := hz
                                    obtain ⟨w, hw, rfl⟩ := List.mem_map.mp hz
                                    rcases wm w hw with rfl | hw
                                    · exact hyp
                                    · exact toR _ (by simpa [leadsR] using ⟨w.1, hw⟩)
                                  · intro e
                                    have := congrArg List.length e
                                    rw [List.length_set, List.length_nil] at this
                                    omega
                                  · have e : (ws.set k (wk.1, y)).map (·.1) = ws.map (·.1) := by
                                      rw [List.map_set]
                                      refine List.ext_getElem? fun i => ?_
                                      rw [List.getElem?_set]
                                      split
                                      · rename_i ek
                                        subst ek
                                        rw [if_pos (by rw [List.length_map]; exact kl), List.getElem?_map, ewk]
                                        rfl
                                      · rfl
                                    rw [e]
                                    exact gr.2.2.2.2.1
                                  · rcases wm w hw with rfl | hw
                                    · exact ⟨(gr.2.2.2.2.2 wk hwk).1, hG.names hyp⟩
                                    · exact gr.2.2.2.2.2 w hw
                        case elsD =>
                          refine if_else ?elsE fun els => ?goE
                          case goE =>
                            refine ⟨_, rfl, rfl, _, rfl, ?_⟩
                            refine ite2 (fun _ => ?_) fun _ => iteF els
                            refine ⟨_, rfl, t, _, 0, _, rfl, rfl, same_tup D6.same ht5, atI_nat (j := 0) ekind, rfl, _, rfl, ?_⟩
                            rw [dec_str]
                            cases r with
                            | note p n0 z =>
                              obtain ⟨t', et, ht6⟩ := line_note hd5
                              cases et
                              refine iteT ?_
                              refine ⟨_, rfl, _, rfl, t, _, rfl, same_tup D6.same ht6, notT 2 (show 2 < 4 by decide), fun c1 u1 => ?_⟩
                              obtain ⟨G7, H7, e7, D7, h7, k7, _⟩ := D6.lay u1 (.tup [.str "note", .str p])
                              rw [show upd H6 c1 (.tup (cutV [.str "note", .str p, .str n0, .str z] none (some 2))) = H7 from e7.symm]
                              refine ⟨_, rfl, by show 3 ≤ sizeLine; decide, fun p1 u2 => ?_⟩
                              obtain ⟨G8, H8, e8, D8, h8, k8, _⟩ := D7.lay u2 (.lst ((["u", "v", "w"] : List Str).map V.str))
                              rw [show upd H7 p1 (.lst [V.str "u", V.str "v", V.str "w"]) = H8 from e8.symm]
                              refine ⟨G8, d, l, p1, _, rfl, D8, SqL.of h8, by simp, by show 3 < 1000; decide, fun H9 x9 D9 hx9 => ?_⟩
                              obtain ⟨n1, hn1, rfl⟩ := str_mem hx9
                              refine ⟨by show 1 ≤ sizeLine; decide, fun c2 u3 => ?_⟩
                              obtain ⟨Ga, Ha, ea, Da, ha, ka, _⟩ := D9.lay u3 (.tup [.str n1])
                              rw [← ea]
                              refine ⟨c1, c2, _, _, rfl, rfl, SqT.of (Da.same _ _ (ka _ _ (k8 _ _ h7))), SqT.of (Da.same _ _ ha), by show 3 ≤ sizeLine; decide, fun e => (by cases e), fun _ e => (by cases e), fun _ _ c3 u4 => ?_⟩
                              obtain ⟨Gb, Hb, eb, Db, hb, kb, _⟩ := Da.lay u4 (.tup ([.str "note", .str p] ++ [.str n1]))
                              rw [← eb]
                              have k5b := k7.trans (k8.trans (ka.trans kb))
                              refine ⟨_, rfl, _, rfl, t, _, rfl, same_tup Db.same (same_tup k5b ht6), notD 3 (by decide) (show 0 < 4 by decide), fun c4 u5 => ?_⟩
                              obtain ⟨Gc, Hc, ec, Dc, hc, kc, _⟩ := Db.lay u5 (.tup [.str z])
                              rw [show upd Hb c4 (.tup (cutV [.str "note", .str p, .str n0, .str z] (some 3) none)) = Hc from ec.symm]
                              refine ⟨c3, c4, _, _, rfl, rfl, SqT.of (Dc.same _ _ (kc _ _ hb)), SqT.of (Dc.same _ _ hc), by show 4 ≤ sizeLine; decide, fun e => (by cases e), fun _ e => (by cases e), fun _ _ c5 u6 => ?_⟩
                              obtain ⟨Gd, Hd, ed, Dd, hd, kd, _⟩ := Dc.lay u6 (.tup ([.str "note", .str p] ++ [.str n1] ++ [.str z]))
                              rw [← ed]
                              have k5d := k5b.trans (kc.trans kd)
                              obtain ⟨Ge, s1, s2, s3, s4, s5⟩ := edit_row (r' := .note p n1 z) (KK.trans k5d) Dd GR (k5d _ _ hR5) nRD (k5d _ _ hDr5) (dpAll_same k5d _ _ hx5) (.tup (SqT.of hd) (.cons (.str _) (.cons (.str _) (.cons (.str _) (.cons (.str _) .nil))))) j
                              exact ⟨_, rfl, _, rfl, R, xs, _, j, rfl, rfl, Dd.same _ _ (k5d _ _ hR5), ixN_at jx, after _ _ ⟨R, _, _, Ge, _, rfl, s1, s2, s3, s4, s5, hG.put erj rfl (fun o => ⟨rfl, fun y hy => hy⟩) toR ⟨gr.1, uvw_names n1 hn1, gr.2.2⟩ (fun _ _ _ _ e => (by cases e)), GR⟩⟩
                            | ask _ _ _ => exact iteF els
                            | gate _ _ _ _ => exact iteF els
                            | end_ _ => exact iteF els
                          case elsE =>
                            refine if_else (after _ _ ⟨R, xs, rs, G5, _, rfl, KK, D6, hR5, hDr5, hx5, hG, GR⟩) fun els => ?_
                            refine ⟨_, rfl, rfl, _, rfl, ?_⟩
                            refine ite2 (fun _ => ?_) fun _ => els
                            refine ⟨_, rfl, _, rfl, by show 2 ≤ sizeLine; decide, fun p1 u2 => ?_⟩
                            obtain ⟨G8, H8, e8, D8, h8, k8, _⟩ := D6.lay u2 (.lst ((["m", "n"] : List Str).map V.str))
                            rw [show upd H6 p1 (.lst [V.str "m", V.str "n"]) = H8 from e8.symm]
                            refine ⟨G8, d, l, p1, _, rfl, D8, SqL.of h8, by simp, by show 2 < 1000; decide, fun H9 x9 D9 hx9 => ?_⟩
                            obtain ⟨m, hm, rfl⟩ := str_mem hx9
                            refine ⟨.ref q, rs, ps, m, rfl, (hT5.same k8).same D9.same, hG, mn_four m hm, fun H' q' lp' tp' xs' ps' sh n1 n2 n3 e1 e2 e3 e4 _ GG => ?_⟩
                            have W := (D9.on sh).wide
                            obtain ⟨Da, ka⟩ := W.grab e2 (D9.apart n2)
                            obtain ⟨Db, kb⟩ := Da.grab e4 (D9.apart n3)
                            have pr := (plus_right (D9.on sh).same).trans (ka.trans kb)
                            have hq' := hard_of e1 (fun _ z => by cases z)
                            have g8 := GG.few
                            refine fin _ _ _ _ ps' (KK.trans (k8.trans (plus_left.trans (ka.trans kb)))) Db ⟨⟨q', lp', tp', xs', rfl, SqT.of (pr _ _ hq'), kb _ _ upd_same, dpAll_same pr _ _ (dpAll_hard _ _ (noLs_of fun r _ => line_noL r) e3), upd_same, (KK.trans (k8.trans D9.same)).free n2, (KK.trans (k8.trans D9.same)).free n3⟩, GG.gd.good, by omega, fun z hz => marks_names z (GG.gd.four z hz), ?_⟩ GG
                            have := nodup_le (m := (["m", "n", "mark", "k"] : List Str)) GG.gd.ndp GG.gd.four
                            exact Nat.le_trans this (by decide)
                case after7 =>
                  rintro _ H7 ⟨R', xs', rs', G7, rest, rfl, k7, D7, hR7, hDr7, hx7, hG7, GR7⟩
                  refine ⟨_, rfl, _, rfl, by show 2 ≤ sizeLine; decide, fun T uT => ?_⟩
                  obtain ⟨G8, H8, e8, D8, h8, k8, _⟩ := D7.lay uT (.tup [.ref R', .ref Dr])
                  rw [← e8]
                  have f8 := hG7.few
                  exact fin G8 H8 _ rs' ps (k7.trans k8) D8 ⟨⟨T, R', Dr, xs', rfl, SqT.of h8, k8 _ _ hR7, dpAll_same k8 _ _ hx7, k8 _ _ hDr7, GR7, GDr⟩, hG7.gd.good, by omega, hT.names, hT.fewp⟩ hG7
end
end K2

set_option Elab.async false
set_option linter.all false
set_option maxRecDepth 100000
set_option maxHeartbeats 1000000
/-! entries, the entries that can be next, a log written -/
namespace K2
open PySem L2 Lw TL SxT
def nextE (rs : List Row0) (ps : List Str) (es : List (List Str)) : List (List Str) :=
  match (standF rs ps es).2 with
  | some _ => []
  | none => match rowF rs (standF rs ps es).1.spot with
    | some (.ask _ n ws) => ws.map fun w => [n, w.1]
    | some (.gate _ m _ _) => [[m]]
    | _ => []
/-- each entry is one that can be next -/
def Wrt (rs : List Row0) (ps : List Str) (es : List (List Str)) : Prop := ∀ j e, es[j]? = some e → e ∈ nextE rs ps (es.take j)
theorem ents_shape {es : List (List Str)} (h : ∀ e ∈ es, EntOk e) : SeqAt.shaped (.list (es.map entD)) = true := by
  have all : PyData.canLayAll0 (es.map entD) = true ∧ PyData.depthAll (es.map entD) ≤ 1 := by
    induction es with
    | nil => exact ⟨rfl, Nat.zero_le _⟩
    | cons e es ih =>
      obtain ⟨a, b⟩ := ih fun x hx => h x (List.mem_cons_of_mem _ hx)
      have g := (h e (List.mem_cons_self ..)).ok
      constructor
      · rw [List.map_cons, PyData.canLayAll0, a, Bool.and_true]
        unfold entD
        rw [PyData.canLay0]
        exact strs_lay e fun z hz => name_strOk (g z hz)
      · rw [List.map_cons, PyData.depthAll]
        have d : PyData.depth (entD e) ≤ 1 := by
          unfold entD
          rw [PyData.depth, strs_depth]
          omega
        omega
  unfold SeqAt.shaped
  rw [PyData.canLay0, all.1, Bool.true_and, decide_eq_true_iff, PyData.depth]
  have := all.2
  omega
theorem turn_spot {rs : List Row0} {ps : List Str} {es : List (List Str)} (to : ∀ r ∈ rs, ∀ z ∈ leadsR r, z ∈ rs.map placeR) {g : Sg} (hg : g.spot ∈ rs.map placeR) : (∀ g', turnF rs ps es g = .inl g' → g'.spot ∈ rs.map placeR) ∧ ∀ r, turnF rs ps es g = .inr r → r.1.spot ∈ rs.map placeR := by
  obtain ⟨r, hrow⟩ := row_of_place hg
  have tr := to r (row_mem hrow).1
  unfold turnF
  rw [hrow]
  cases r with
  | note p w t =>
    refine ⟨fun g' e => ?_, fun r e => (by cases e)⟩
    cases e
    exact tr t (by simp [leadsR])
  | gate p m n e0 =>
    dsimp only
    split
    · refine ⟨fun g' e => ?_, fun r e => (by cases e)⟩
      cases e
      rename_i b _
      cases b with
      | true => exact tr n (by simp [leadsR])
      | false => exact tr e0 (by simp [leadsR])
    · split
      · exact ⟨fun g' e => (by cases e), fun r e => (by cases e; exact hg)⟩
      · exact ⟨fun g' e => (by cases e; exact hg), fun r e => (by cases e)⟩
  | ask p n ws =>
    dsimp only
    split
    · exact ⟨fun g' e => (by cases e), fun r e => (by cases e; exact hg)⟩
    · split
      · refine ⟨fun g' e => ?_, fun r e => (by cases e)⟩
        rename_i z _ es2
        cases e
        obtain ⟨w0, hw0, ez⟩ := say_in (show z ∈ _ by rw [es2]; exact List.mem_cons_self ..)
        show z ∈ _
        rw [← ez]
        exact tr _ (List.mem_map_of_mem (f := fun x : Str × Str => x.2) hw0)
      · exact ⟨fun g' e => (by cases e), fun r e => (by cases e; exact hg)⟩
  | end_ p =>
    dsimp only
    split
    · exact ⟨fun g' e => (by cases e), fun r e => (by cases e; exact hg)⟩
    · exact ⟨fun g' e => (by cases e), fun r e => (by cases e; exact hg)⟩
theorem stand_spot {rs : List Row0} {ps : List Str} (G : Gk rs ps) (es : List (List Str)) : (standF rs ps es).1.spot ∈ rs.map placeR := by
  have go : ∀ (k : Nat) (g : Sg), g.spot ∈ rs.map placeR → (standN rs ps es k g).1.spot ∈ rs.map placeR := by
    intro k
    induction k with
    | zero => exact fun g h => h
    | succ k ih =>
      intro g h
      obtain ⟨a, b⟩ := turn_spot (ps := ps) (es := es) G.to h
      rw [standN]
      cases e : turnF rs ps es g with
      | inl g' => exact ih g' (a g' e)
      | inr r => exact b r e
  refine go 400 _ ?_
  cases h : rs with
  | nil => exact absurd h G.gd.ne
  | cons r l => show placeR r ∈ _; simp
theorem next_ok {rs : List Row0} {ps : List Str} (G : Gk rs ps) (es : List (List Str)) : (∀ e ∈ nextE rs ps es, EntOk e) ∧ (nextE rs ps es).length ≤ 3 := by
  unfold nextE
  split
  · exact ⟨fun e he => (by cases he), Nat.zero_le _⟩
  · split
    · rename_i h
      have g := G.gd.good _ (row_mem h).1
      refine ⟨fun e he => ?_, by rw [List.length_map]; exact g.2.2.2.1⟩
      obtain ⟨w0, hw0, rfl⟩ := List.mem_map.mp he
      refine ⟨by simp, by simp, fun z hz => ?_⟩
      simp only [List.mem_cons, List.not_mem_nil, or_false] at hz
      rcases hz with rfl | rfl
      · exact g.2.1
      · exact (g.2.2.2.2.2 w0 hw0).1
    · rename_i h
      have g := G.gd.good _ (row_mem h).1
      refine ⟨fun e he => ?_, by simp⟩
      rw [List.mem_singleton.mp he]
      refine ⟨by simp, by simp, fun z hz => ?_⟩
      rw [List.mem_singleton.mp hz]
      exact g.2.1
    · exact ⟨fun e he => (by cases he), Nat.zero_le _⟩
def spDEntry (K : PySem.W.Frag) : Sp := fun vs H Q _ => ∃ (G : Hp) (d l : Addr), vs = [.ref d] ∧ Deal G H d l ∧ ∀ (G' H' : Hp) (t : Addr) (e : List Str), Same G G' → Deal G' H' d l → SqT K G' t (e.map V.str) → EntOk e → Q (.ref t) H'
def spNextE (K : PySem.W.Frag) : Sp := fun vs H Q _ => ∃ (v : V) (rs : List Row0) (ps : List Str) (sp : Addr) (ys : List V) (es : List (List Str)), vs = [v, .ref sp] ∧ Told K H v rs ps ∧ Gk rs ps ∧ SqL K H sp ys ∧ DpAll K H ys (es.map entD) ∧ (∀ e ∈ es, EntOk e) ∧ es.length ≤ 100 ∧
  ∀ (H' : Hp) (L : Addr) (zs : List V), Same H H' → H L = none → H' L = some (.lst zs) → DpAll K H' zs ((nextE rs ps es).map entD) → Q (.ref L) H'
def spWritten (K : PySem.W.Frag) : Sp := fun vs H Q _ => ∃ (G : Hp) (d l : Addr) (v : V) (rs : List Row0) (ps : List Str) (many : Nat), vs = [.ref d, v, .int (many : Nat)] ∧ Deal G H d l ∧ Told K G v rs ps ∧ Gk rs ps ∧ many ≤ 60 ∧
  ∀ (G' H' : Hp) (L : Addr) (ys : List V) (es : List (List Str)), Same G G' → Deal G' H' d l → G L = none → G' L = some (.lst ys) → DpAll K G' ys (es.map entD) → (∀ e ∈ es, EntOk e) → es.length ≤ many → Wrt rs ps es → Q (.ref L) H'
section
variable {P : Program} {w : World} {K : PySem.W.Frag} {mg : Str → Option Value} {base : Heap}
abbrev nEntry : List Str := ["_law_deal_here"]
theorem scEntry : FnScope nEntry ["_law_deal_here"] (defScope sEntry) := ⟨rfl, rfl, rfl, by decide +kernel, rfl, by decide +kernel, by decide +kernel⟩
theorem okEntry {f fP fD : Addr} {fd fdP fdD : FuncData} (F : Fun K "_law_entry" "_law_entry" sEntry f fd) (GP : FnOk P w K mg base CX0 2 fP fdP ["_law_deal_here", "_law_some"] (spPick K)) (kP : PySem.W.keepIn K (.ref fP) = true) (gP : mg "_law_pick" = some (.ref fP)) (bP : Binds K fdP ["_law_deal_here", "_law_some"] [])
    (GD : FnOk P w K mg base CX0 1 fD fdD ["_law_deal_here", "_law_many"] spDraw) (kD : PySem.W.keepIn K (.ref fD) = true) (gD : mg "_law_draw" = some (.ref fD)) (bD : Binds K fdD ["_law_deal_here", "_law_many"] []) :
    FnOk P w K mg base CX0 3 f fd ["_law_deal_here"] (spDEntry K) := by
  refine F.ok scEntry (fun vs H Q E h => ?_) (fun cdv A outer s H vs Q E hr h => ?_)
  · obtain ⟨G, d, l, rfl, _⟩ := h
    rfl
  · obtain ⟨G, d, l, rfl, D0, fin⟩ := h
    have hr1 : Room 1 _ := hr.mono (by decide)
    refine ⟨_, pss_cons (ps_if (pt_cmpR op_eq (pe_call GD hr1 rfl gD kD bD .nil pass0 (pa_cons (pv 0) (pa_cons pe_int pa_nil))) pe_int (nomark _)) (pss_one (ps_ret (pe_tup (pa_cons (pe_call GP hr rfl gP kP bP .nil pass0 (pa_cons (pv 0) (pa_cons (pe_lst (pa_cons pe_str (pa_cons pe_str pa_nil))) pa_nil))) pa_nil)))) pss_nil)
      (pss_one (ps_ret (pe_tup (pa_cons (pe_call GP hr rfl gP kP bP .nil pass0 (pa_cons (pv 0) (pa_cons (pe_lst (pa_cons pe_str (pa_cons pe_str (pa_cons pe_str pa_nil)))) pa_nil))) (pa_cons (pe_call GP hr rfl gP kP bP .nil pass0 (pa_cons (pv 0) (pa_cons (pe_lst (pa_cons pe_str (pa_cons pe_str (pa_cons pe_str pa_nil)))) pa_nil))) pa_nil))))), ?_⟩
    refine ⟨_, rfl, G, d, l, 4, rfl, D0, by decide, by decide, fun H1 f D1 f0 f1 => ⟨rfl, _, rfl, ?_⟩⟩
    refine ite2 (fun _ => ?_) fun _ => ?_
    · refine ⟨_, rfl, by show 2 ≤ sizeLine; decide, fun p1 u1 => ?_⟩
      obtain ⟨G2, H2, e2, D2, h2, k2, _⟩ := D1.lay u1 (.lst ((["m", "n"] : List Str).map V.str))
      rw [show upd H1 p1 (.lst [V.str "m", V.str "n"]) = H2 from e2.symm]
      refine ⟨G2, d, l, p1, _, rfl, D2, SqL.of h2, by simp, by show 2 < 1000; decide, fun H3 x3 D3 hx3 => ?_⟩
      obtain ⟨m, hm, rfl⟩ := str_mem hx3
      refine ⟨by show 1 ≤ sizeLine; decide, fun t ut => ?_⟩
      obtain ⟨G4, H4, e4, D4, h4, k4, _⟩ := D3.lay ut (.tup [.str m])
      rw [← e4]
      exact fin G4 H4 t [m] (k2.trans k4) D4 (SqT.of h4) ⟨by simp, by simp, fun z hz => by rw [List.mem_singleton.mp hz]; exact marks_names m (mn_four m hm)⟩
    · refine ⟨_, rfl, by show 3 ≤ sizeLine; decide, fun p1 u1 => ?_⟩
      obtain ⟨G2, H2, e2, D2, h2, k2, _⟩ := D1.lay u1 (.lst ((["x", "y", "z"] : List Str).map V.str))
      rw [show upd H1 p1 (.lst [V.str "x", V.str "y", V.str "z"]) = H2 from e2.symm]
      refine ⟨G2, d, l, p1, _, rfl, D2, SqL.of h2, by simp, by show 3 < 1000; decide, fun H3 x3 D3 hx3 => ?_⟩
      obtain ⟨n, hn, rfl⟩ := str_mem hx3
      refine ⟨_, rfl, by show 3 ≤ sizeLine; decide, fun p2 u2 => ?_⟩
      obtain ⟨G5, H5, e5, D5, h5, k5, _⟩ := D3.lay u2 (.lst ((["yes", "yes", "no"] : List Str).map V.str))
      rw [show upd H3 p2 (.lst [V.str "yes", V.str "yes", V.str "no"]) = H5 from e5.symm]
      refine ⟨G5, d, l, p2, _, rfl, D5, SqL.of h5, by simp, by show 3 < 1000; decide, fun H6 x6 D6 hx6 => ?_⟩
      obtain ⟨y, hy, rfl⟩ := str_mem hx6
      refine ⟨by show 2 ≤ sizeLine; decide, fun t ut => ?_⟩
      obtain ⟨G4, H4, e4, D4, h4, k4, _⟩ := D6.lay ut (.tup [.str n, .str y])
      rw [← e4]
      refine fin G4 H4 t [n, y] (k2.trans (k5.trans k4)) D4 (SqT.of h4) ⟨by simp, by simp, fun z hz => ?_⟩
      simp only [List.mem_cons, List.not_mem_nil, or_false] at hz
      rcases hz with rfl | rfl
      · exact (show ∀ z ∈ (["x", "y", "z"] : List Str), nameOk z = true by decide +kernel) _ hn
      · exact (show ∀ z ∈ (["yes", "yes", "no"] : List Str), nameOk z = true by decide +kernel) _ hy
abbrev nNextE : List Str := ["_law_told_here", "_law_some", "_law_spot", "_law_chosen_here", "_law_said", "_law_stuck", "_law_row", "_law_answer", "_law_there"]
theorem scNextE : FnScope nNextE ["_law_told_here", "_law_some"] (defScope sNextE) := ⟨rfl, rfl, rfl, by decide +kernel, rfl, by decide +kernel, by decide +kernel⟩
theorem okNextE {f fS : Addr} {fd fdS : FuncData} (F : Fun K "_law_next_entries" "_law_next_entries" sNextE f fd) (OS : FnOk P w K mg base CX0 2 fS fdS ["_law_told_here", "_law_some"] (spStand K)) (kS : PySem.W.keepIn K (.ref fS) = true) (gS : mg "_law_stand" = some (.ref fS)) (bS : Binds K fdS ["_law_told_here", "_law_some"] []) :
    FnOk P w K mg base CX0 3 f fd ["_law_told_here", "_law_some"] (spNextE K) := by
  refine F.ok scNextE (fun vs H Q E h => ?_) (fun cdv A outer s H vs Q E hr h => ?_)
  · obtain ⟨v, rs, ps, sp, ys, es, rfl, _⟩ := h
    rfl
  · obtain ⟨v, rs, ps, sp, ys, es, rfl, hT, hG, hs, hys, hes, few, fin⟩ := h
    refine ⟨_, pss_cons (ps_asg (pe_call OS hr rfl gS kS bS .nil pass0 (pa_cons (pv 0) (pa_cons (pv 1) pa_nil))) (pg_tup rfl (pgs_cons (pg_name (i := 2) scNextE.nd rfl (Or.inr rfl)) (pgs_cons (pg_name (i := 3) scNextE.nd rfl (Or.inl rfl)) (pgs_cons (pg_name (i := 4) scNextE.nd rfl (Or.inl rfl)) (pgs_cons (pg_name (i := 5) scNextE.nd rfl (Or.inl rfl)) pgs_nil))))))
      (pss_cons (ps_if (pt_cmp (pc_notN (pv 5)) rfl) (pss_one (ps_ret (pe_lst pa_nil))) pss_nil)
      (pss_cons (ps_set (i := 6) scNextE.nd rfl (Or.inr rfl) (pe_ix ix_list (pe_lc (own := [("_law_row", 6)]) (g := gName 6) (tt := tTest (tOp rEq (tOp (rIxT K) (tVar 6) (tC (.int 1))) (tVar 2))) (te := tVar 6) (by rfl) scNextE.nd (pi_list (pe_ix ix_tup (pv 0) pe_int (fun _ _ => rfl)))
          (blkOk_by (own := [("_law_row", 6)]) (N := nNextE) (sc := defScope sNextE) (by decide +kernel)) (fun _ _ _ _ _ => pg_name (i := 6) scNextE.nd rfl (Or.inl rfl)) (fun _ _ _ _ _ => pts_one (pt_cmpR op_eq (pe_ix ix_tup (pv 6) pe_int (fun _ _ => rfl)) (pv 2) (nomark _))) (fun _ _ _ _ _ => pv 6)) pe_int (fun _ _ => rfl)))
      (pss_cons (ps_if (pt_cmpR op_eq (pe_ix ix_tup (pv 6) pe_int (fun _ _ => rfl)) pe_str (nomark _)) (pss_one (ps_ret (pe_lc (own := [("_law_answer", 7), ("_law_there", 8)]) (g := gTup K 2 (gCons (gName 7) (gCons (gName 8) gNil))) (tt := tYes) (te := tTup (tCons (tOp (rIxT K) (tVar 6) (tC (.int 2))) (tCons (tVar 7) tNil))) (by rfl) scNextE.nd (pi_tup (pe_ix ix_tup (pv 6) pe_int (fun _ _ => rfl)))
          (blkOk_by (own := [("_law_answer", 7), ("_law_there", 8)]) (N := nNextE) (sc := defScope sNextE) (by decide +kernel)) (fun _ _ _ _ _ => pg_tup rfl (pgs_cons (pg_name (i := 7) scNextE.nd rfl (Or.inl rfl)) (pgs_cons (pg_name (i := 8) scNextE.nd rfl (Or.inl rfl)) pgs_nil))) (fun _ _ _ _ _ => pts_nil) (fun _ _ _ _ _ => pe_tup (pa_cons (pe_ix ix_tup (pv 6) pe_int (fun _ _ => rfl)) (pa_cons (pv 7) pa_nil)))))) pss_nil)
      (pss_one (ps_ret (pe_ifExp (pt_cmpR op_eq (pe_ix ix_tup (pv 6) pe_int (fun _ _ => rfl)) pe_str (nomark _)) (pe_lst (pa_cons (pe_tup (pa_cons (pe_ix ix_tup (pv 6) pe_int (fun _ _ => rfl)) pa_nil)) pa_nil)) (pe_lst pa_nil))))))), ?_⟩
    obtain ⟨q, lp, tp, xs, rfl, hq, hl, hx, ht⟩ := hT.ex
    have few8 := hG.few
    obtain ⟨nok, nlen⟩ := next_ok hG es
    obtain ⟨r, hrow⟩ := row_of_place (stand_spot hG es)
    have hr0 := (row_mem hrow).1
    generalize ez : standF rs ps es = sf at hrow
    dsimp only [gName, tNext]
    refine seq_cut (fun σ1 H1 => ∃ wv, σ1 = [some (.ref q), some (.ref sp), some (.str sf.1.spot), some wv, some (optV sf.1.said), some (optI2 sf.2), none, none, none] ∧ Same H H1) ?_ fun after => ⟨_, rfl, _, rfl, .ref q, rs, ps, sp, ys, es, rfl, hT, hG, hs, hys, hes, few, fun H1 t wv dz s1 ht1 hw pm so => ?_⟩
    rotate_left
    · rw [ez] at ht1
      exact ⟨t, _, rfl, ht1, rfl, _, _, rfl, _, _, rfl, _, _, rfl, _, _, rfl, rfl, after _ _ ⟨wv, rfl, s1⟩⟩
    rintro _ H1 ⟨wv, rfl, s1⟩
    cases e2 : sf.2 with
    | some k =>
      have en : nextE rs ps es = [] := by
        unfold nextE
        rw [ez, e2]
      refine ⟨_, rfl, _, rfl, ?_⟩
      rw [show (!decide (optI2 (some k) = V.non)) = true by rw [decide_eq_false (fun h => by cases h)]; rfl]
      refine iteT ⟨by show 0 ≤ sizeLine; decide, fun L uL => fin _ L [] (s1.trans (same_new uL)) (s1.free uL) upd_same ?_⟩
      rw [en]
      exact .nil
    | none =>
      have en : nextE rs ps es = (match (some r : Option Row0) with | some (.ask _ n ws) => ws.map fun w => [n, w.1] | some (.gate _ m _ _) => [[m]] | _ => []) := by
        unfold nextE
        rw [ez, e2, hrow]
      refine seq_cut (fun σ1 H2 => σ1 = [some (.ref q), some (.ref sp), some (.str sf.1.spot), some wv, some (optV sf.1.said), some (optI2 none), none, none, none] ∧ Same H H2) ?_ fun after => ?_
      · rintro _ H2 ⟨rfl, s2⟩
        refine seq_cut (fun σ1 H3 => ∃ t, σ1 = [some (.ref q), some (.ref sp), some (.str sf.1.spot), some wv, some (optV sf.1.said), some (optI2 none), some (.ref t), none, none] ∧ Same H H3 ∧ Dp K H3 (.ref t) (lineD r)) ?_ fun after => ?_
        · rintro _ H3 ⟨t, rfl, s3, hrd⟩
          have gr := hG.gd.good r hr0
          cases r with
          | ask p n ws =>
            obtain ⟨t', yw, et, ht2, hyw⟩ := line_ask hrd
            cases et
            cases hyw with
            | @tup wa wz _ hwa hwz =>
            have w3 : ws.length ≤ 3 := gr.2.2.2.1
            refine ⟨_, rfl, t, _, 0, _, rfl, rfl, ht2, atI_nat (j := 0) rfl, rfl, _, rfl, ?_⟩
            refine iteT ⟨_, rfl, t, _, 3, _, rfl, rfl, ht2, atI_nat (j := 3) rfl, wa, rfl, ⟨_, hwa⟩, fun D uD => dat_J (fun _ => true) (fun w => entD [n, w.1]) (.t hwa) hwz (by omega) uD (fun _ _ => rfl) (fun x w0 H4 Y N hwm hdw s4 y nn => ?_) fun H4 acc s4 hD4 hacc => ?_⟩
            · cases hdw with
              | tup ht3 hy =>
                cases hy with
                | cons k1 hy =>
                  cases k1
                  cases hy with
                  | cons k2 hy =>
                    cases k2
                    cases hy
                    refine ⟨_, _, rfl, ht3, rfl, _, _, rfl, _, _, rfl, rfl, ?_⟩
                    refine ⟨rfl, ?_⟩
                    dsimp only [tYes]
                    exact iteT ⟨_, rfl, t, _, 2, _, rfl, rfl, same_tup s4 ht2, atI_nat (j := 2) rfl, _, rfl, by show 2 ≤ sizeLine; decide, fun p2 up => y rfl _ _ (same_new up) (.tup (SqT.of upd_same) (.cons (.str _) (.cons (.str _) .nil)))⟩
            · rw [List.filter_eq_self.mpr (fun _ _ => rfl)] at hacc
              refine fin _ D acc (s3.trans s4) (s3.free uD) hD4 ?_
              rw [en, List.map_map]
              exact hacc
          | gate p m n e =>
            obtain ⟨t', et, ht2⟩ := line_gate hrd
            cases et
            refine ⟨_, rfl, t, _, 0, _, rfl, rfl, ht2, atI_nat (j := 0) rfl, rfl, _, rfl, ?_⟩
            refine iteF ⟨_, rfl, t, _, 0, _, rfl, rfl, ht2, atI_nat (j := 0) rfl, rfl, _, rfl, ?_⟩
            refine iteT ⟨_, rfl, t, _, 2, _, rfl, rfl, ht2, atI_nat (j := 2) rfl, by show 1 ≤ sizeLine; decide, fun p1 u1 => ⟨by show 1 ≤ sizeLine; decide, fun L uL => ?_⟩⟩
            have k1 := same_new (o := .tup [.str m]) u1
            have k2 := same_new (o := .lst [.ref p1]) uL
            refine fin _ L _ (s3.trans (k1.trans k2)) ((s3.trans k1).free uL) upd_same ?_
            rw [en]
            exact .cons (.tup (SqT.of (k2 _ _ upd_same)) (.cons (.str _) .nil)) .nil
          | note p wd z =>
            obtain ⟨t', et, ht2⟩ := line_note hrd
            cases et
            refine ⟨_, rfl, t, _, 0, _, rfl, rfl, ht2, atI_nat (j := 0) rfl, rfl, _, rfl, ?_⟩
            refine iteF ⟨_, rfl, t, _, 0, _, rfl, rfl, ht2, atI_nat (j := 0) rfl, rfl, _, rfl, ?_⟩
            refine iteF ⟨by show 0 ≤ sizeLine; decide, fun L uL => fin _ L [] (s3.trans (same_new uL)) (s3.free uL) upd_same ?_⟩
            rw [en]
            exact .nil
          | end_ p =>
            obtain ⟨t', et, ht2⟩ := line_end hrd
            cases et
            refine ⟨_, rfl, t, _, 0, _, rfl, rfl, ht2, atI_nat (j := 0) rfl, rfl, _, rfl, ?_⟩
            refine iteF ⟨_, rfl, t, _, 0, _, rfl, rfl, ht2, atI_nat (j := 0) rfl, rfl, _, rfl, ?_⟩
            refine iteF ⟨by show 0 ≤ sizeLine; decide, fun L uL => fin _ L [] (s3.trans (same_new uL)) (s3.free uL) upd_same ?_⟩
            rw [en]
            exact .nil
        · refine ⟨_, rfl, q, _, 0, _, rfl, rfl, same_tup s2 hq, atI_nat (j := 0) rfl, lp, rfl, ⟨_, s2.seq hl⟩, fun D uD => dat_J (fun r => decide (placeR r = sf.1.spot)) lineD (.l (s2.seq hl)) (dpAll_same s2 _ _ hx) (by omega) uD (fun r _ => line_noL r) (fun x r H3 Y N hm hdx s3 y n => ?_) fun H3 acc s3 hD3 hacc => ?_⟩
          · obtain ⟨t, zs, rfl, ht2, e0, e1⟩ := line_all hdx
            refine ⟨rfl, ?_⟩
            refine ⟨_, rfl, t, _, 1, _, rfl, rfl, ht2, atI_nat (j := 1) e1, _, rfl, rfl, _, rfl, ?_⟩
            rw [dec_str]
            cases ec : decide (placeR r = sf.1.spot) with
            | true => exact iteT ⟨_, rfl, y ec _ _ (Same.refl _) hdx⟩
            | false => exact iteF (n ec _ (Same.refl _))
          · obtain ⟨rest, er⟩ := find_filter hrow
            rw [er, List.map_cons] at hacc
            cases hacc with
            | @cons x xs2 _ _ h0 hr2 =>
              obtain ⟨t, zs, et, _⟩ := line_all h0
              subst et
              exact ⟨D, _, 0, _, rfl, rfl, SqL.of hD3, atI_nat (j := 0) rfl, after _ _ ⟨t, rfl, s2.trans s3, h0⟩⟩
      · refine ⟨_, rfl, _, rfl, ?_⟩
        rw [show (!decide (optI2 none = V.non)) = false by rw [decide_eq_true (show optI2 none = V.non from rfl)]; rfl]
        exact iteF (after _ _ ⟨rfl, s1⟩)
abbrev nWritten : List Str := ["_law_deal_here", "_law_told_here", "_law_many", "_law_found", "_law_turn", "_law_some"]
theorem scWritten : FnScope nWritten ["_law_deal_here", "_law_told_here", "_law_many"] (defScope sWritten) := ⟨rfl, rfl, rfl, by decide +kernel, rfl, by decide +kernel, by decide +kernel⟩
theorem okWritten {f fP fN : Addr} {fd fdP fdN : FuncData} (F : Fun K "_law_written" "_law_written" sWritten f fd) (GP : FnOk P w K mg base CX0 2 fP fdP ["_law_deal_here", "_law_some"] (spPick K)) (kP : PySem.W.keepIn K (.ref fP) = true) (gP : mg "_law_pick" = some (.ref fP)) (bP : Binds K fdP ["_law_deal_here", "_law_some"] [])
    (ON : FnOk P w K mg base CX0 3 fN fdN ["_law_told_here", "_law_some"] (spNextE K)) (kN : PySem.W.keepIn K (.ref fN) = true) (gN : mg "_law_next_entries" = some (.ref fN)) (bN : Binds K fdN ["_law_told_here", "_law_some"] []) (tR : mg "range" = none) :
    FnOk P w K mg base CX0 4 f fd ["_law_deal_here", "_law_told_here", "_law_many"] (spWritten K) := by
  refine F.ok scWritten (fun vs H Q E h => ?_) (fun cdv A outer s H vs Q E hr h => ?_)
  · obtain ⟨G, d, l, v, rs, ps, many, rfl, _⟩ := h
    rfl
  · obtain ⟨G, d, l, v, rs, ps, many, rfl, D0, hT, hG, m60, fin⟩ := h
    have hr2 : Room 2 _ := hr.mono (by decide)
    have hu64 : (A.deeper (PyProof.Rows.envOfC (Str.ofString "_law_written") (defScope sWritten) s.heap.objs.size f cdv)).units + 64 < cLine := hr.units
    refine ⟨_, pss_cons (ps_set (i := 3) scWritten.nd rfl (Or.inl rfl) (pe_lst pa_nil))
      (pss_cons (ps_for PassesOwn.never rfl (pi_range1 rfl tR (pa_cons (pv 2) pa_nil)) (pg_name (i := 4) scWritten.nd rfl (Or.inl rfl))
        (pss_cons (ps_set (i := 5) scWritten.nd rfl (Or.inl rfl) (pe_call ON hr rfl gN kN bN .nil pass0 (pa_cons (pv 1) (pa_cons (pv 3) pa_nil))))
        (pss_cons (ps_if (pt_cmpR (op_eqD hu64) (pv 5) (pe_lst pa_nil) (nomark _)) (pss_one (ps_ret (pv 3))) pss_nil)
        (pss_one (ps_set (i := 3) scWritten.nd rfl (Or.inl rfl) (pe_op op_cat (pv 3) (pe_lst (pa_cons (pe_call GP hr2 rfl gP kP bP .nil pass0 (pa_cons (pv 0) (pa_cons (pv 5) pa_nil))) pa_nil))))))))
      (pss_one (ps_ret (pv 3)))), ?_⟩
    dsimp only [gName, tNext]
    have sh0 : SeqAt.shaped (.list ([] : List PyData)) = true := by decide +kernel
    refine seq_cut (fun σ1 H1 => ∃ (G1 : Hp) (F0 : Addr) , σ1 = [some (.ref d), some v, some (.int (many : Nat)), some (.ref F0), none, none] ∧ Same G G1 ∧ Deal G1 H1 d l ∧ G F0 = none ∧ G1 F0 = some (.lst [])) ?_ fun after => ⟨by show 0 ≤ sizeLine; decide, fun F0 uF => ?_⟩
    rotate_left
    · obtain ⟨G1, H1, e1, D1, h1, k1, _⟩ := D0.lay uF (.lst [])
      rw [← e1]
      exact after _ _ ⟨G1, F0, rfl, k1, D1, D0.same.free uF, h1⟩
    rintro _ H1 ⟨G1, F0, rfl, k1, D1, GF, hF0⟩
    let Pv : Nat → L2.St → Hp → Prop := fun i σ1 H2 => ∃ (G2 : Hp) (Fn : Addr) (ys : List V) (es : List (List Str)) (v4 v5 : Option V), σ1 = [some (.ref d), some v, some (.int (many : Nat)), some (.ref Fn), v4, v5] ∧ Same G G2 ∧ Deal G2 H2 d l ∧ G Fn = none ∧ G2 Fn = some (.lst ys) ∧ DpAll K G2 ys (es.map entD) ∧ (∀ e ∈ es, EntOk e) ∧ es.length = i ∧ Wrt rs ps es
    refine seq_cut (Pv many) ?_ fun after => ?_
    · rintro _ H2 ⟨G2, Fn, ys, es, v4, v5, rfl, k2, D2, GFn, hFn, hys, hes, el, hw⟩
      exact ⟨_, rfl, fin G2 H2 Fn ys es k2 D2 GFn hFn hys hes (by omega) hw⟩
    · refine ⟨_, rfl, _, rfl, by omega, by omega, for_range (lo := 0) Pv ⟨G1, F0, [], [], _, _, rfl, k1, D1, GF, hF0, .nil, fun e he => (by cases he), rfl, fun j e h => by simp at h⟩ ?_ ?_⟩
      · rintro i _ H2 hi ⟨G2, Fn, ys, es, v4, v5, rfl, k2, D2, GFn, hFn, hys, hes, el, hw⟩
        have hi : i < many := by omega
        obtain ⟨nok, nlen⟩ := next_ok hG es
        refine seq_cut (fun σ1 H3 => ∃ (G3 : Hp) (L : Addr) (zs : List V), σ1 = [some (.ref d), some v, some (.int (many : Nat)), some (.ref Fn), some (.int (0 + (i : Nat))), some (.ref L)] ∧ Same G2 G3 ∧ Deal G3 H3 d l ∧ G3 L = some (.lst zs) ∧ DpAll K G3 zs ((nextE rs ps es).map entD)) ?_ fun after => ⟨_, rfl, _, rfl, v, rs, ps, Fn, ys, es, rfl, (hT.same k2).same D2.same, hG, SqL.of (D2.same _ _ hFn), dpAll_same D2.same _ _ hys, hes, by omega, fun H3 L zs s3 nL hL hz => ?_⟩
        rotate_left
        · have W := (D2.on s3).wide
          obtain ⟨Da, ka⟩ := W.grab hL (D2.apart nL)
          have pr := (plus_right (D2.on s3).same).trans ka
          exact after _ _ ⟨_, L, zs, rfl, plus_left.trans ka, Da, upd_same, dpAll_same pr _ _ (dpAll_hard _ _ (noLs_of fun e _ => by unfold entD; exact noLs_of fun _ _ => rfl) hz)⟩
        rintro _ H3 ⟨G3, L, zs, rfl, k3, D3, hL, hz⟩
        have zl : zs.length ≤ 3 := by rw [dpAll_len hz, List.length_map]; exact nlen
        refine seq_cut (fun σ1 H4 => ∃ G4, σ1 = [some (.ref d), some v, some (.int (many : Nat)), some (.ref Fn), some (.int (0 + (i : Nat))), some (.ref L)] ∧ Same G3 G4 ∧ Deal G4 H4 d l ∧ nextE rs ps es ≠ []) ?_ fun after => ?_
        · rintro _ H4 ⟨G4, rfl, k4, D4, nne⟩
          refine ⟨_, rfl, _, rfl, _, rfl, G4, d, l, L, zs, rfl, D4, SqL.of (k4 _ _ hL), ?_, by omega, fun H5 x D5 hx => ⟨by show 1 ≤ sizeLine; decide, fun p1 u1 => ?_⟩⟩
          · intro e
            rw [e] at hz
            have := dpAll_len hz
            rw [List.length_map, List.length_nil] at this
            exact nne (List.eq_nil_of_length_eq_zero this.symm)
          · obtain ⟨dd, hd, hdx⟩ := dpAll_mem (dpAll_same k4 _ _ hz) hx
            obtain ⟨e, hem, rfl⟩ := List.mem_map.mp hd
            obtain ⟨G6, H6, e6, D6, h6, k6, _⟩ := D5.lay u1 (.lst [x])
            rw [← e6]
            have k26 := k3.trans (k4.trans k6)
            have yl := dpAll_len hys
            rw [List.length_map] at yl
            refine ⟨Fn, p1, _, _, rfl, rfl, D6.same _ _ (k26 _ _ hFn), D6.same _ _ h6, Nat.le_trans (show _ ≤ 100 by rw [List.length_singleton]; omega) (by decide), fun F1 u2 => ?_⟩
            obtain ⟨G7, H7, e7, D7, h7, k7, _⟩ := D6.lay u2 (.lst (ys ++ [x]))
            rw [← e7]
            refine ⟨G7, F1, _, es ++ [e], _, _, rfl, k2.trans (k26.trans k7), D7, (k2.trans (k26.trans D6.same)).free u2, h7, ?_, fun y hy => ?_, by rw [List.length_append, List.length_singleton, el], fun j y hj => ?_⟩
            · rw [List.map_append]
              exact dpAll_app (dpAll_same (k26.trans k7) _ _ hys) (.cons (dp_same (k6.trans k7) _ _ hdx) .nil)
            · rcases List.mem_append.mp hy with hy | hy
              · exact hes y hy
              · rw [List.mem_singleton.mp hy]
                exact nok e hem
            · rcases Nat.lt_or_ge j es.length with lt | ge
              · rw [List.getElem?_append_left lt] at hj
                rw [List.take_append_of_le_length (by omega)]
                exact hw j y hj
              · rw [List.getElem?_append_right ge] at hj
                have lt := (List.getElem?_eq_some_iff.mp hj).1
                rw [List.length_singleton] at lt
                have ej : j = es.length := by omega
                subst ej
                rw [Nat.sub_self] at hj
                have ey : e = y := by simpa using hj
                subst ey
                rw [List.take_append_of_le_length (Nat.le_refl _), List.take_length]
                exact hem
        · refine ⟨_, rfl, by show 0 ≤ sizeLine; decide, fun p0 u0 => ?_⟩
          obtain ⟨G5, H5, e5, D5, h5, k5, _⟩ := D3.lay u0 (.lst [])
          rw [← e5]
          refine ⟨.list ((nextE rs ps es).map entD), .list [], .lst (SqL.of (D5.same _ _ (k5 _ _ hL))) (dpAll_same (k5.trans D5.same) _ _ hz), .lst (SqL.of (D5.same _ _ h5)) .nil, ents_shape nok, sh0, _, rfl, ?_⟩
          cases en : nextE rs ps es with
          | nil => exact iteT ⟨_, rfl, fin G5 H5 Fn ys es (k2.trans (k3.trans k5)) D5 GFn ((k3.trans k5) _ _ hFn) (dpAll_same (k3.trans k5) _ _ hys) hes (by omega) hw⟩
          | cons e el2 => exact iteF (after _ _ ⟨G5, rfl, k5, D5, by rw [en]; simp⟩)
      · rintro _ H2 h
        exact after _ _ h
end
end K2

set_option Elab.async false
set_option linter.all false
set_option maxRecDepth 100000
set_option maxHeartbeats 1000000
/-! where the law says that a log stands is where the program plays it to -/
namespace K2
open PySem L2 Lw TL SxT
theorem pass_eq {rs : List Row0} {ws : Wy} {μ : Str → Nat} (hμ : ∀ p r ws q, rowF rs p = some r → ledF r ws = some q → μ q < μ p) : ∀ (k k' : Nat) (p : Str), μ p ≤ k → μ p ≤ k' → passF rs ws k p = passF rs ws k' p := by
  have stop : ∀ (p : Str) (k : Nat), μ p ≤ 0 → passF rs ws k p = [p] := by
    intro p k h
    cases k with
    | zero => rfl
    | succ k =>
      rw [passF]
      cases e : (rowF rs p).bind fun r => ledF r ws with
      | none => rfl
      | some q =>
        obtain ⟨r, e1, e2⟩ := Option.bind_eq_some_iff.mp e
        have := hμ p r ws q e1 e2
        omega
  intro k
  induction k with
  | zero => exact fun k' p h _ => by rw [stop p 0 h, stop p k' h]
  | succ k ih =>
    intro k' p h h'
    cases k' with
    | zero => rw [stop p _ h', stop p _ h']
    | succ k' =>
      rw [passF, passF]
      cases e : (rowF rs p).bind fun r => ledF r ws with
      | none => rfl
      | some q =>
        obtain ⟨r, e1, e2⟩ := Option.bind_eq_some_iff.mp e
        have := hμ p r ws q e1 e2
        show p :: passF rs ws k q = p :: passF rs ws k' q
        rw [ih k' q (by omega) (by omega)]
theorem go_step {rs : List Row0} (R : Right rs) {ws : Wy} {p q : Str} {r : Row0} (h : rowF rs p = some r) (hl : ledF r ws = some q) : goF rs ws p = p :: goF rs ws q := by
  obtain ⟨μ, m1, m2⟩ := R.far
  have lt := m2 p r ws q h hl
  have := m1 p
  unfold goF
  rw [passF, h]
  show p :: (match ledF r ws with | some q => passF rs ws rs.length q | none => []) = _
  rw [hl]
  show p :: passF rs ws rs.length q = _
  rw [pass_eq m2 rs.length (rs.length + 1) q (by omega) (by omega)]
theorem go_stop {rs : List Row0} {ws : Wy} {p : Str} {r : Row0} (h : rowF rs p = some r) (hl : ledF r ws = none) : goF rs ws p = [p] := by
  unfold goF
  rw [passF, h]
  show p :: (match ledF r ws with | some q => passF rs ws rs.length q | none => []) = _
  rw [hl]
theorem settle_step {rs : List Row0} (R : Right rs) {ws : Wy} {p q : Str} {r : Row0} {w : Option Str} (h : rowF rs p = some r) (hl : ledF r ws = some q) : settleF rs p ws w = settleF rs q ws ((noteW rs p).or w) := by
  unfold settleF
  rw [go_step R h hl]
  have ne : goF rs ws q ≠ [] := pass_ne _ _
  generalize goF rs ws q = l at ne
  have e1 : (p :: l).getLastD p = l.getLastD q := by
    cases l with
    | nil => exact absurd rfl ne
    | cons x l =>
      have h : (x :: l).getLast? = some ((x :: l).getLast (by simp)) := List.getLast?_eq_some_getLast _
      rw [List.getLastD_eq_getLast?, List.getLastD_eq_getLast?, List.getLast?_cons_cons, h]
      rfl
  have e2 : ((p :: l).filterMap (noteW rs)).getLast?.or w = (l.filterMap (noteW rs)).getLast?.or ((noteW rs p).or w) := by
    cases e : noteW rs p with
    | none => rw [List.filterMap_cons_none e]; rfl
    | some x =>
      rw [List.filterMap_cons_some e]
      cases l.filterMap (noteW rs) with
      | nil => rfl
      | cons y l2 => simp [List.getLast?_cons]
  rw [e1, e2]
theorem settle_stop {rs : List Row0} {ws : Wy} {p : Str} {r : Row0} {w : Option Str} (h : rowF rs p = some r) (hl : ledF r ws = none) (hn : noteW rs p = none) : settleF rs p ws w = ⟨p, ws, w⟩ := by
  unfold settleF
  rw [go_stop h hl, List.filterMap_cons_none hn]
  rfl
theorem way_perm {ws ch : Wy} (nd : (ch.map (·.1)).Nodup) (pm : ws.Perm ch) (m : Str) : wayOf ws m = wayOf ch m := by
  have ndw : (ws.map (·.1)).Nodup := (pm.map (·.1)).nodup_iff.mpr nd
  have at_ : ∀ {l : Wy}, (l.map (·.1)).Nodup → ∀ {b : Bool}, (m, b) ∈ l → wayOf l m = some b := by
    intro l
    induction l with
    | nil => exact fun _ _ h => by cases h
    | cons x l ih =>
      intro nd b h
      rw [List.map_cons, List.nodup_cons] at nd
      unfold wayOf at ih ⊢
      rcases List.mem_cons.mp h with rfl | h
      · rw [List.find?_cons_of_pos (by simp)]
        rfl
      · have ne : ¬ (x.1 = m) := fun e => nd.1 (e ▸ List.mem_map_of_mem (f := fun w : Str × Bool => w.1) h)
        rw [List.find?_cons_of_neg (by simpa using ne)]
        exact ih nd.2 h
  cases e : wayOf ch m with
  | none =>
    cases e2 : wayOf ws m with
    | none => rfl
    | some b =>
      exfalso
      have h : m ∈ ws.map (·.1) := by
        have := e2
        unfold wayOf at this
        obtain ⟨x, hx, _⟩ := Option.map_eq_some_iff.mp this
        have h1 := List.mem_of_find?_eq_some hx
        have h2 : x.1 = m := by simpa using List.find?_some hx
        rw [← h2]
        exact List.mem_map_of_mem h1
      exact way_in e ((pm.map (·.1)).mem_iff.mp h)
  | some b =>
    have h : (m, b) ∈ ch := by
      have := e
      unfold wayOf at this
      obtain ⟨x, hx, hb⟩ := Option.map_eq_some_iff.mp this
      have h1 := List.mem_of_find?_eq_some hx
      have h2 : x.1 = m := by simpa using List.find?_some hx
      have hb : x.2 = b := hb
      rw [← h2, ← hb]
      exact h1
    exact at_ ndw (pm.mem_iff.mpr h)
theorem gate_fuel {rs : List Row0} (R : Right rs) {e : List Str} : ∀ (k k' : Nat) {s : Stn}, Still rs s → und rs s.ways < k → und rs s.ways < k' → gateF rs e k s = gateF rs e k' s
  | 0, _, _, _, h, _ => by omega
  | _, 0, _, _, _, h => by omega
  | k + 1, k' + 1, s, hs, h, h' => by
    rw [gateF, gateF]
    cases er : rowF rs s.place with
    | none => rfl
    | some r =>
      cases r with
      | gate q m n o =>
        obtain ⟨_, st, lt⟩ := gate_still R hs er false
        show (if e = [m] then _ else gateF rs e k _) = (if e = [m] then _ else gateF rs e k' _)
        rw [gate_fuel R k k' st (show und rs (sortW (s.ways ++ [(m, false)])) < k by omega) (show und rs (sortW (s.ways ++ [(m, false)])) < k' by omega)]
      | ask _ _ _ => rfl
      | note _ _ _ => rfl
      | end_ _ => rfl
theorem skip_play {rs : List Row0} {ps dz : List Str} (hd : ∀ z, z ∈ dz ↔ z ∈ ps) (s : Stn) : ∀ (l : List (List Str)) (i : Nat), playN rs dz i l s = playN rs dz (i + skipL ps l) (l.drop (skipL ps l)) s
  | [], i => rfl
  | [] :: l, i => rfl
  | (_ :: _ :: _) :: l, i => rfl
  | [z] :: l, i => by
    rw [skipL]
    by_cases h : z ∈ ps
    · rw [if_pos h]
      have e : nextF rs dz [z] s = (s, true) := by
        unfold nextF
        exact if_pos (decide_eq_true ((hd z).mpr h))
      rw [playN, e]
      show (if true = true then playN rs dz (i + 1) l s else _) = _
      rw [if_pos rfl, skip_play hd s l (i + 1), List.drop_succ_cons]
      congr 1
      omega
    · rw [if_neg h]
      rfl
theorem skip_stop {ps : List Str} : ∀ (l : List (List Str)), skipL ps (l.drop (skipL ps l)) = 0
  | [] => rfl
  | [] :: l => rfl
  | (_ :: _ :: _) :: l => rfl
  | [z] :: l => by
    by_cases h : z ∈ ps
    · rw [skipL, if_pos h, List.drop_succ_cons]
      exact skip_stop l
    · rw [skipL, if_neg h, List.drop_zero, skipL, if_neg h]
theorem not_drop {ps dz : List Str} (hd : ∀ z, z ∈ dz ↔ z ∈ ps) {e : List Str} {l : List (List Str)} (h : skipL ps (e :: l) = 0) : dropB dz e = false := by
  match e, h with
  | [], _ => rfl
  | _ :: _ :: _, _ => rfl
  | [z], h =>
    by_cases q : z ∈ ps
    · rw [skipL, if_pos q] at h
      omega
    · exact decide_eq_false fun z2 => q ((hd z).mp z2)
structure Rel (a : Sg × Option Nat) (b : Stn × Option Nat) : Prop where
  spot : a.1.spot = b.1.place
  said : a.1.said = b.1.word
  stuck : a.2 = b.2
  ways : b.1.ways.Perm a.1.ch
  nd : (a.1.ch.map (·.1)).Nodup
  so : b.1.ways = [] ∨ ∃ x, b.1.ways = sortW x
theorem say_find {n y : Str} {ws : List (Str × Str)} : sayF n ws [n, y] = (ws.filter fun w => decide (w.1 = y)).map (·.2) := by
  unfold sayF
  congr 1
  refine List.filter_congr fun w _ => decide_eq_decide.mpr ⟨fun h => ?_, fun h => by rw [h]⟩
  have h := (List.cons.inj h).2
  exact ((List.cons.inj h).1).symm
theorem say_none {n : Str} {ws : List (Str × Str)} {e : List Str} (h : ∀ y, e ≠ [n, y]) : sayF n ws e = [] := by
  unfold sayF
  rw [List.filter_eq_nil_iff.mpr fun w _ => by simpa using h w.1]
  rfl
theorem stand_play {rs : List Row0} {ps dz : List Str} {es : List (List Str)} (R : Right rs) (hd : ∀ z, z ∈ dz ↔ z ∈ ps) {ν : Str → Nat} (n8 : ∀ p, ν p < 9) (down : ∀ r ∈ rs, onB r = true → ∀ z ∈ leadsR r, ν z < ν (placeR r)) :
    ∀ (k : Nat) (g : Sg) (ws : Wy), g.spot ∈ rs.map placeR → (g.ch.map (·.1)).Nodup → ws.Perm g.ch → (ws = [] ∨ ∃ x, ws = sortW x) → ws.length + und rs ws ≤ rs.length → (es.length - g.at_ + und rs ws) * 9 + ν g.spot < k →
      Rel (standN rs ps es k g) (playN rs dz g.at_ (es.drop g.at_) (settleF rs g.spot ws g.said))
  | 0, _, _, _, _, _, _, _, h => by omega
  | k + 1, g, ws, hs, nd, pm, so, few, hk => by
    obtain ⟨r, hrow⟩ := row_of_place hs
    obtain ⟨hr0, epl⟩ := row_mem hrow
    obtain ⟨tin, _⟩ := turn_spot (ps := ps) (es := es) R.to hs
    have hp := skip_play (rs := rs) hd (settleF rs g.spot ws g.said) (es.drop g.at_) g.at_
    have hstop := skip_stop (ps := ps) (es.drop g.at_)
    rw [List.drop_drop] at hp hstop
    generalize ea : g.at_ + skipL ps (es.drop g.at_) = a at hp hstop
    rw [hp]
    have la : g.at_ ≤ a := by omega
    have wp := way_perm nd pm
    have mono : ∀ q : Str, ν q < ν g.spot → (es.length - a + und rs ws) * 9 + ν q < k := fun q h => by omega
    have leadN : ∀ {q : Str}, ledF r ws = some q → ν q < ν g.spot := fun {q} h => by
      obtain ⟨on, hq⟩ := led_on h
      have := down r hr0 on q hq
      rw [epl] at this
      exact this
    rw [standN]
    cases r with
    | note p w t =>
      have tf : turnF rs ps es g = .inl ⟨t, g.ch, some w, a⟩ := by
        unfold turnF
        rw [hrow, ea]
      have hl : ledF (.note p w t) ws = some t := rfl
      have hn : noteW rs g.spot = some w := by unfold noteW; rw [hrow]; rfl
      rw [tf, settle_step R hrow hl, hn]
      exact stand_play R hd n8 down k ⟨t, g.ch, some w, a⟩ ws (tin _ tf) nd pm so few (mono t (leadN hl))
    | gate p m n e =>
      have hn : noteW rs g.spot = none := by unfold noteW; rw [hrow]; rfl
      cases ew : wayOf g.ch m with
      | some b =>
        have tf : turnF rs ps es g = .inl ⟨if b = true then n else e, g.ch, g.said, a⟩ := by
          unfold turnF
          rw [hrow]
          show (match wayOf g.ch m with | some b => _ | none => _) = _
          rw [ew, ea]
        have hl : ledF (.gate p m n e) ws = some (if b = true then n else e) := by
          show (wayOf ws m).map (fun b : Bool => if b = true then n else e) = _
          rw [wp, ew]
          rfl
        rw [tf, settle_step R hrow hl, hn]
        exact stand_play R hd n8 down k ⟨if b = true then n else e, g.ch, g.said, a⟩ ws (tin _ tf) nd pm so few (mono _ (leadN hl))
      | none =>
        have hl : ledF (.gate p m n e) ws = none := by
          show (wayOf ws m).map (fun b : Bool => if b = true then n else e) = _
          rw [wp, ew]
          rfl
        have ss : settleF rs g.spot ws g.said = ⟨g.spot, ws, g.said⟩ := settle_stop hrow hl hn
        have still : Still rs ⟨g.spot, ws, g.said⟩ := ⟨⟨_, hrow, hl⟩, few⟩
        rw [ss]
        cases een : es[a]? with
        | none =>
          have tf : turnF rs ps es g = .inr (g, none) := by
            unfold turnF
            rw [hrow]
            show (match wayOf g.ch m with | some b => _ | none => _) = _
            rw [ew, ea]
            show (match es[a]? with | none => _ | some en => _) = _
            rw [een]
          rw [tf, List.drop_eq_nil_of_le (List.getElem?_eq_none_iff.mp een)]
          exact ⟨rfl, rfl, rfl, pm, nd, so⟩
        | some en =>
          have lt := (List.getElem?_eq_some_iff.mp een).1
          have dr := drop_at een
          rw [dr] at hstop
          have nod := not_drop hd hstop
          have tf : turnF rs ps es g = .inl ⟨g.spot, g.ch ++ [(m, decide (en = [m]))], g.said, a + if en = [m] then 1 else 0⟩ := by
            unfold turnF
            rw [hrow]
            show (match wayOf g.ch m with | some b => _ | none => _) = _
            rw [ew, ea]
            show (match es[a]? with | none => _ | some en => _) = _
            rw [een]
          have ndN : ∀ b : Bool, ((g.ch ++ [(m, b)]).map (·.1)).Nodup := fun b => by
            rw [List.map_append, List.nodup_append]
            refine ⟨nd, by simp, fun x hx y hy e => ?_⟩
            have hy : y = m := by simpa using hy
            rw [e, hy] at hx
            exact way_in ew hx
          have pmN : ∀ b : Bool, (sortW (ws ++ [(m, b)])).Perm (g.ch ++ [(m, b)]) := fun b => (sortW_perm _).trans (pm.append_right _)
          rw [tf, dr]
          obtain ⟨_, st2, ul⟩ := gate_still R still (s := ⟨g.spot, ws, g.said⟩) hrow (decide (en = [m]))
          have few2 : (sortW (ws ++ [(m, decide (en = [m]))])).length + und rs (sortW (ws ++ [(m, decide (en = [m]))])) ≤ rs.length := st2.few
          have ih := stand_play (ps := ps) (es := es) R hd n8 down k ⟨g.spot, g.ch ++ [(m, decide (en = [m]))], g.said, a + if en = [m] then 1 else 0⟩ (sortW (ws ++ [(m, decide (en = [m]))])) hs (ndN _) (pmN _) (.inr ⟨_, rfl⟩) few2 (by
            have : und rs (sortW (ws ++ [(m, decide (en = [m]))])) < und rs ws := ul
            show (es.length - (a + if en = [m] then 1 else 0) + _) * 9 + ν g.spot < k
            omega)
          by_cases em : en = [m]
          · rw [if_pos em, decide_eq_true em] at ih
            rw [if_pos em, decide_eq_true em]
            have nx : nextF rs dz en ⟨g.spot, ws, g.said⟩ = (settleF rs g.spot (sortW (ws ++ [(m, true)])) g.said, true) := by
              have hg : gateF rs en (rs.length + 1) ⟨g.spot, ws, g.said⟩ = (settleF rs g.spot (sortW (ws ++ [(m, true)])) g.said, true) := by
                rw [gateF, hrow]
                exact if_pos em
              unfold nextF
              rw [if_neg (by rw [nod]; decide), hg, if_pos rfl]
            rw [playN, nx, if_pos rfl]
            exact ih
          · rw [if_neg em, decide_eq_false em, Nat.add_zero] at ih
            rw [if_neg em, decide_eq_false em, Nat.add_zero]
            rw [decide_eq_false em] at ul st2
            have hg : gateF rs en (rs.length + 1) ⟨g.spot, ws, g.said⟩ = gateF rs en (rs.length + 1) (settleF rs g.spot (sortW (ws ++ [(m, false)])) g.said) := by
              rw [gateF, hrow]
              show (if en = [m] then _ else gateF rs en rs.length _) = _
              rw [if_neg em]
              have ul2 : und rs (sortW (ws ++ [(m, false)])) < und rs ws := ul
              have ule := und_le rs ws
              exact gate_fuel R _ _ st2 (show und rs (sortW (ws ++ [(m, false)])) < _ by omega) (show und rs (sortW (ws ++ [(m, false)])) < _ by omega)
            have nx : nextF rs dz en ⟨g.spot, ws, g.said⟩ = nextF rs dz en (settleF rs g.spot (sortW (ws ++ [(m, false)])) g.said) := by
              have h0 : ¬(dropB dz en = true) := by rw [nod]; decide
              unfold nextF
              rw [if_neg h0, if_neg h0, hg]
            have ep : playN rs dz a (en :: es.drop (a + 1)) ⟨g.spot, ws, g.said⟩ = playN rs dz a (en :: es.drop (a + 1)) (settleF rs g.spot (sortW (ws ++ [(m, false)])) g.said) := by
              rw [playN, playN, nx]
            rw [ep, ← dr]
            exact ih
    | ask p n ws2 =>
      have hn : noteW rs g.spot = none := by unfold noteW; rw [hrow]; rfl
      have ss : settleF rs g.spot ws g.said = ⟨g.spot, ws, g.said⟩ := settle_stop hrow rfl hn
      rw [ss]
      cases een : es[a]? with
      | none =>
        have tf : turnF rs ps es g = .inr (g, none) := by
          unfold turnF
          rw [hrow]
          show (match es[g.at_ + skipL ps (es.drop g.at_)]? with | none => _ | some en => _) = _
          rw [ea, een]
        rw [tf, List.drop_eq_nil_of_le (List.getElem?_eq_none_iff.mp een)]
        exact ⟨rfl, rfl, rfl, pm, nd, so⟩
      | some en =>
        have lt := (List.getElem?_eq_some_iff.mp een).1
        have dr := drop_at een
        rw [dr] at hstop
        have nod := not_drop hd hstop
        have tf : turnF rs ps es g = (match sayF n ws2 en with | z :: _ => .inl ⟨z, g.ch, g.said, a + 1⟩ | [] => .inr (g, some a)) := by
          unfold turnF
          rw [hrow]
          show (match es[g.at_ + skipL ps (es.drop g.at_)]? with | none => _ | some en => _) = _
          rw [ea, een]
          all_goals rfl
        have hg : gateF rs en (rs.length + 1) ⟨g.spot, ws, g.said⟩ = (⟨g.spot, ws, g.said⟩, false) := gate_stop (s := ⟨g.spot, ws, g.said⟩) hrow rfl _
        have nx : nextF rs dz en ⟨g.spot, ws, g.said⟩ = askF rs en ⟨g.spot, ws, g.said⟩ := by
          unfold nextF
          rw [if_neg (by rw [nod]; decide), hg]
          exact if_neg Bool.false_ne_true
        rw [dr, playN, nx]
        by_cases q : ∃ y, en = [n, y]
        · obtain ⟨y, rfl⟩ := q
          have af : askF rs [n, y] ⟨g.spot, ws, g.said⟩ = (match ws2.find? (fun w => decide (w.1 = y)) with | some w => (settleF rs w.2 ws g.said, true) | none => (⟨g.spot, ws, g.said⟩, false)) := by
            unfold askF
            rw [hrow]
            exact if_pos rfl
          rw [af]
          rw [say_find] at tf
          cases ef : ws2.find? (fun w => decide (w.1 = y)) with
          | some w0 =>
            obtain ⟨rest, er⟩ := find_filter ef
            rw [er] at tf
            rw [tf]
            show Rel (standN rs ps es k ⟨w0.2, g.ch, g.said, a + 1⟩) (if true = true then playN rs dz (a + 1) (es.drop (a + 1)) (settleF rs w0.2 ws g.said) else _)
            rw [if_pos rfl]
            have n9 := n8 w0.2
            exact stand_play R hd n8 down k ⟨w0.2, g.ch, g.said, a + 1⟩ ws (tin _ tf) nd pm so few (by
              show (es.length - (a + 1) + und rs ws) * 9 + ν w0.2 < k
              omega)
          | none =>
            have er : ws2.filter (fun w => decide (w.1 = y)) = [] := by
              rw [List.filter_eq_nil_iff]
              exact List.find?_eq_none.mp ef
            rw [er] at tf
            rw [tf]
            exact ⟨rfl, rfl, rfl, pm, nd, so⟩
        · have af : askF rs en ⟨g.spot, ws, g.said⟩ = (⟨g.spot, ws, g.said⟩, false) := by
            unfold askF
            rw [hrow]
            show (match en with | [x, y] => _ | _ => _) = _
            split
            · rename_i x y
              exact if_neg fun e => q ⟨y, by rw [e]⟩
            · rfl
          rw [say_none (fun y e => q ⟨y, e⟩)] at tf
          rw [tf, af]
          exact ⟨rfl, rfl, rfl, pm, nd, so⟩
    | end_ p =>
      have hn : noteW rs g.spot = none := by unfold noteW; rw [hrow]; rfl
      have ss : settleF rs g.spot ws g.said = ⟨g.spot, ws, g.said⟩ := settle_stop hrow rfl hn
      rw [ss]
      cases een : es[a]? with
      | none =>
        have tf : turnF rs ps es g = .inr (g, none) := by
          unfold turnF
          rw [hrow]
          show (match es[g.at_ + skipL ps (es.drop g.at_)]? with | none => _ | some en => _) = _
          rw [ea, een]
        rw [tf, List.drop_eq_nil_of_le (List.getElem?_eq_none_iff.mp een)]
        exact ⟨rfl, rfl, rfl, pm, nd, so⟩
      | some en =>
        have dr := drop_at een
        rw [dr] at hstop
        have nod := not_drop hd hstop
        have tf : turnF rs ps es g = .inr (g, some a) := by
          unfold turnF
          rw [hrow]
          show (match es[g.at_ + skipL ps (es.drop g.at_)]? with | none => _ | some en => _) = _
          rw [ea, een]
        have hg : gateF rs en (rs.length + 1) ⟨g.spot, ws, g.said⟩ = (⟨g.spot, ws, g.said⟩, false) := gate_stop (s := ⟨g.spot, ws, g.said⟩) hrow rfl _
        have nx : nextF rs dz en ⟨g.spot, ws, g.said⟩ = (⟨g.spot, ws, g.said⟩, false) := by
          unfold nextF
          rw [if_neg (by rw [nod]; decide), hg, if_neg Bool.false_ne_true]
          unfold askF
          rw [hrow]
        rw [tf, dr, playN, nx]
        exact ⟨rfl, rfl, rfl, pm, nd, so⟩
theorem Gk.plays {rs : List Row0} {ps dz : List Str} {es : List (List Str)} (G : Gk rs ps) (hd : ∀ z, z ∈ dz ↔ z ∈ ps) (few : es.length ≤ 34) : Rel (standF rs ps es) (playF rs dz es) := by
  have R := G.gd.right
  obtain ⟨ν, n1, down⟩ := G.gd.rank
  have r8 := G.few
  have u8 := und_le rs []
  have h := stand_play (ps := ps) (es := es) R hd (fun p => by have := n1 p; omega) down 400 ⟨headF rs, [], none, 0⟩ [] (by
    cases e : rs with
    | nil => exact absurd e G.gd.ne
    | cons r l => show placeR r ∈ _; simp) List.nodup_nil (List.Perm.refl _) (.inl rfl) (by simpa using u8) (by
      have := n1 (headF rs)
      show (es.length - 0 + und rs []) * 9 + ν (headF rs) < 400
      omega)
  have e : firstP rs = headF rs := by
    cases h : rs with
    | nil => exact absurd h G.gd.ne
    | cons r l => rfl
  unfold playF firstF
  rw [e]
  exact h
end K2

set_option Elab.async false
set_option linter.all false
set_option maxRecDepth 100000
set_option maxHeartbeats 1000000
/-! the ways as the law tells them are the ways as the program keeps them -/
namespace K2
open PySem L2 Lw TL SxT PyProof.Rows
theorem dataLe_key {w v : Str × Bool} (h : PySem.W.dataLe false wayE w v = true) : leS w.1 v.1 := by
  rw [leS_iff]
  refine Classical.byContradiction fun n => ?_
  have e : v.1.cps.toList < w.1.cps.toList := List.not_le.mp n
  have h : (!(PyProof.Rows.listOrd PyProof.Rows.itemOrd).blt (PySem.W.keyToks (wayE v)) (PySem.W.keyToks (wayE w))) = true := h
  have b : (PyProof.Rows.listOrd PyProof.Rows.itemOrd).blt (PySem.W.keyToks (wayE v)) (PySem.W.keyToks (wayE w)) = true := by
    unfold wayE
    simp only [PySem.W.keyToks, PySem.W.keyToksAll, List.cons_append, List.nil_append]
    show PyProof.Rows.lexLt PyProof.Rows.itemOrd _ _ = true
    simp [PyProof.Rows.lexLt, PyProof.Rows.itemLt, e]
  rw [b] at h
  cases h
theorem sortW_keys (x : Wy) : ((sortW x).map (·.1)).Pairwise leS := by
  unfold sortW
  have T := PySem.W.sortLe_total (PyProof.Rows.listOrd PyProof.Rows.itemOrd) false (fun b : Str × Bool => PySem.W.keyToks (wayE b))
  have p : (x.mergeSort (PySem.W.dataLe false wayE)).Pairwise (fun a b => PySem.W.dataLe false wayE a b = true) := List.pairwise_mergeSort (fun a b c h1 h2 => T.trans a b c h1 h2) (fun a b => by rw [Bool.or_eq_true]; exact T.total a b) x
  exact List.Pairwise.map _ (fun a b h => dataLe_key h) p
theorem told_ways {ws ch : Wy} {dz : List Str} (nd : (ch.map (·.1)).Nodup) (pm : ws.Perm ch) (so : ws = [] ∨ ∃ x, ws = sortW x) (hd : dz.Perm (ch.map (·.1))) (hs : PyProof.Rows.sortedS dz = true) : toldW ch dz = waysD2 ws := by
  have ndw : (ws.map (·.1)).Nodup := (pm.map (·.1)).nodup_iff.mpr nd
  have ps : (ws.map (·.1)).Pairwise leS := by
    rcases so with rfl | ⟨x, rfl⟩
    · exact List.Pairwise.nil
    · exact sortW_keys x
  have e : dz = ws.map (·.1) := sorted_eq (sorted_pair hs) ps (hd.nodup_iff.mpr nd) ndw fun k => by
    rw [hd.mem_iff, (pm.map (·.1)).mem_iff]
  have own : ∀ {l : Wy}, (l.map (·.1)).Nodup → ∀ w ∈ l, wayOf l w.1 = some w.2 := by
    intro l
    induction l with
    | nil => exact fun _ _ h => by cases h
    | cons x l ih =>
      intro nd w h
      rw [List.map_cons, List.nodup_cons] at nd
      unfold wayOf at ih ⊢
      rcases List.mem_cons.mp h with rfl | h
      · rw [List.find?_cons_of_pos (by simp)]
        rfl
      · have ne : ¬ (x.1 = w.1) := fun e => nd.1 (e ▸ List.mem_map_of_mem (f := fun w : Str × Bool => w.1) h)
        rw [List.find?_cons_of_neg (by simpa using ne)]
        exact ih nd.2 w h
  unfold toldW waysD2
  rw [e, List.map_map]
  congr 1
  refine List.map_congr_left fun w hw => ?_
  show PyData.tuple [.str w.1, .bool ((wayOf ch w.1).getD false)] = wayE w
  rw [← way_perm nd pm w.1, own ndw w hw]
  rfl
end K2

set_option Elab.async false
set_option linter.all false
set_option maxRecDepth 100000
set_option maxHeartbeats 1000000
/-! what is told of a log played -/
namespace K2
open PySem L2 Lw TL SxT
def wordD : Option Str → PyData
  | some z => .str z
  | none => .none
def stuckD : Option Nat → PyData
  | some i => .int (i : Nat)
  | none => .none
theorem dp_optV {K : PySem.W.Frag} {H : Hp} : ∀ o : Option Str, Dp K H (optV o) (wordD o)
  | some z => .str z
  | none => .non
theorem dp_optI {K : PySem.W.Frag} {H : Hp} : ∀ o : Option Nat, Dp K H (optI o) (stuckD o)
  | some i => .int _
  | none => .non
theorem dp_optI2 {K : PySem.W.Frag} {H : Hp} : ∀ o : Option Nat, Dp K H (optI2 o) (stuckD o)
  | some i => .int _
  | none => .non
def playD (r : Stn × Option Nat) : PyData := .tuple [.str r.1.place, waysD2 r.1.ways, wordD r.1.word, stuckD r.2]
/-- small enough to be written out -/
structure PlayOk (r : Stn × Option Nat) : Prop where
  place : nameOk r.1.place = true
  word : ∀ z, r.1.word = some z → nameOk z = true
  ways : ∀ w ∈ r.1.ways, nameOk w.1 = true
  few : r.1.ways.length ≤ 60
  stuck : ∀ i, r.2 = some i → i ≤ 100
theorem small_int : ∀ i : Fin 101, PyData.intsShort 13 (.int (i.val : Nat)) = true ∧ PyData.showable (.int (i.val : Nat)) = true ∧ PyData.weight (.int (i.val : Nat)) ≤ 20 := by decide +kernel
theorem ways_facts : ∀ {ws : Wy}, (∀ w ∈ ws, nameOk w.1 = true) → PyData.canLayAll0 (ws.map wayE) = true ∧ PyData.depthAll (ws.map wayE) ≤ 1 ∧ PyData.showableAll (ws.map wayE) = true ∧ PyData.intsShortAll 13 (ws.map wayE) = true ∧ PyData.weightAll (ws.map wayE) ≤ 10 * ws.length
  | [], _ => by simp [PyData.canLayAll0, PyData.depthAll, PyData.showableAll, PyData.intsShortAll, PyData.weightAll]
  | w :: ws, h => by
    obtain ⟨a, b, c, d, e⟩ := ways_facts (ws := ws) fun x hx => h x (List.mem_cons_of_mem _ hx)
    have n := h w (List.mem_cons_self ..)
    have sz : w.1.cps.size ≤ 4 := ok4 n
    have lay := name_strOk n
    refine ⟨?_, ?_, ?_, ?_, ?_⟩
    · simp [PyData.canLayAll0, wayE, PyData.canLay0, a, lay]
    · simp [PyData.depthAll, wayE, PyData.depth]
      omega
    · simp [PyData.showableAll, wayE, PyData.showable, c]
    · simp [PyData.intsShortAll, wayE, PyData.intsShort, d]
    · simp [PyData.weightAll, wayE, PyData.weight]
      omega
theorem play_shown {r : Stn × Option Nat} (h : PlayOk r) : (playD r).showable = true ∧ (playD r).hasDict = false ∧ (playD r).depth ≤ 40 ∧ (playD r).shown.length ≤ sizeLine := by
  obtain ⟨a, b, c, d, e⟩ := ways_facts h.ways
  have few := h.few
  have sz : r.1.place.cps.size ≤ 4 := ok4 h.place
  have lay := name_strOk h.place
  have W : (wordD r.1.word).canLay0 = true ∧ (wordD r.1.word).showable = true ∧ (wordD r.1.word).intsShort 13 = true ∧ (wordD r.1.word).depth = 0 ∧ (wordD r.1.word).weight ≤ 20 := by
    cases ew : r.1.word with
    | none => exact ⟨rfl, rfl, rfl, rfl, by decide⟩
    | some z =>
      have n := h.word z ew
      have sz : z.cps.size ≤ 4 := ok4 n
      refine ⟨name_strOk n, rfl, rfl, rfl, ?_⟩
      simp [wordD, PyData.weight]
      omega
  have N : (stuckD r.2).canLay0 = true ∧ (stuckD r.2).showable = true ∧ (stuckD r.2).intsShort 13 = true ∧ (stuckD r.2).depth = 0 ∧ (stuckD r.2).weight ≤ 20 := by
    cases en : r.2 with
    | none => exact ⟨rfl, rfl, rfl, rfl, by decide⟩
    | some i =>
      have le := h.stuck i en
      obtain ⟨s1, s2, s3⟩ := small_int ⟨i, by omega⟩
      exact ⟨rfl, s2, s1, rfl, s3⟩
  have L : (playD r).canLay0 = true := by
    simp [playD, waysD2, PyData.canLay0, PyData.canLayAll0, a, lay, W.1, N.1]
  refine ⟨?_, PyData.hasDict_of_canLay _ L, ?_, ?_⟩
  · simp [playD, waysD2, PyData.showable, PyData.showableAll, c, W.2.1, N.2.1]
  · simp [playD, waysD2, PyData.depth, PyData.depthAll, W.2.2.2.1, N.2.2.2.1]
    omega
  · refine PyData.shown_fits (B := 13) (by decide) (by decide) (PyData.leavesShort_of_canLay0 13 _ L ?_) ?_
    · simp [playD, waysD2, PyData.intsShort, PyData.intsShortAll, d, W.2.2.1, N.2.2.1]
    · have w1 := W.2.2.2.2
      have w2 := N.2.2.2.2
      simp [playD, waysD2, PyData.weight, PyData.weightAll]
      omega
end K2

set_option Elab.async false
set_option linter.all false
set_option maxRecDepth 100000
set_option maxHeartbeats 1000000
/-! what is told of a log played is small -/
namespace K2
open PySem L2 Lw TL SxT
structure SgIn (rs : List Row0) (es : List (List Str)) (g : Sg) : Prop where
  spot : g.spot ∈ rs.map placeR
  said : ∀ z, g.said = some z → nameOk z = true
  nd : (g.ch.map (·.1)).Nodup
  sub : ∀ m ∈ g.ch.map (·.1), m ∈ (rs.filter gateB).map markR
theorem turn_in {rs : List Row0} {ps qs : List Str} {es : List (List Str)} (G : Gk rs qs) {g : Sg} (h : SgIn rs es g) : (∀ g', turnF rs ps es g = .inl g' → SgIn rs es g') ∧ ∀ r, turnF rs ps es g = .inr r → r.1 = g ∧ ∀ i, r.2 = some i → i < es.length := by
  obtain ⟨tin, _⟩ := turn_spot (ps := ps) (es := es) G.to h.spot
  obtain ⟨r, hrow⟩ := row_of_place h.spot
  obtain ⟨hr0, _⟩ := row_mem hrow
  have good := G.gd.good r hr0
  unfold turnF at tin ⊢
  rw [hrow] at tin ⊢
  cases r with
  | note p w t =>
    refine ⟨fun g' e => ?_, fun r e => (by cases e)⟩
    have sp := tin g' e
    cases e
    exact ⟨sp, fun z ez => (by cases ez; exact good.2.1), h.nd, h.sub⟩
  | gate p m n e0 =>
    dsimp only at tin ⊢
    cases ew : wayOf g.ch m with
    | some b =>
      rw [ew] at tin
      refine ⟨fun g' e => ?_, fun r e => (by cases e)⟩
      have sp := tin g' e
      cases e
      exact ⟨sp, h.said, h.nd, h.sub⟩
    | none =>
      rw [ew] at tin
      dsimp only at tin ⊢
      cases en : es[g.at_ + skipL ps (es.drop g.at_)]? with
      | none => exact ⟨fun g' e => (by cases e), fun r e => (by cases e; exact ⟨rfl, fun i ei => (by cases ei)⟩)⟩
      | some e1 =>
        refine ⟨fun g' e => ?_, fun r e => (by cases e)⟩
        cases e
        refine ⟨h.spot, h.said, ?_, fun z hz => ?_⟩
        · show ((g.ch ++ [(m, decide (e1 = [m]))]).map (·.1)).Nodup
          rw [List.map_append, List.nodup_append]
          refine ⟨h.nd, by simp, fun x hx y hy e => ?_⟩
          have hy : y = m := by simpa using hy
          rw [e, hy] at hx
          exact way_in ew hx
        · have hz : z ∈ (g.ch ++ [(m, decide (e1 = [m]))]).map (·.1) := hz
          rw [List.map_append, List.mem_append] at hz
          rcases hz with hz | hz
          · exact h.sub z hz
          · have hz : z = m := by simpa using hz
            rw [hz]
            exact List.mem_map.mpr ⟨_, List.mem_filter.mpr ⟨hr0, rfl⟩, rfl⟩
  | ask p n ws =>
    dsimp only at tin ⊢
    cases en : es[g.at_ + skipL ps (es.drop g.at_)]? with
    | none => exact ⟨fun g' e => (by cases e), fun r e => (by cases e; exact ⟨rfl, fun i ei => (by cases ei)⟩)⟩
    | some e1 =>
      have lt := (List.getElem?_eq_some_iff.mp en).1
      rw [en] at tin
      dsimp only at tin ⊢
      cases ey : sayF n ws e1 with
      | nil => exact ⟨fun g' e => (by cases e), fun r e => (by cases e; exact ⟨rfl, fun i ei => (by cases ei; exact lt)⟩)⟩
      | cons z l =>
        rw [ey] at tin
        refine ⟨fun g' e => ?_, fun r e => (by cases e)⟩
        have sp := tin g' e
        cases e
        exact ⟨sp, h.said, h.nd, h.sub⟩
  | end_ p =>
    dsimp only
    cases en : es[g.at_ + skipL ps (es.drop g.at_)]? with
    | none => exact ⟨fun g' e => (by cases e), fun r e => (by cases e; exact ⟨rfl, fun i ei => (by cases ei)⟩)⟩
    | some e1 =>
      have lt := (List.getElem?_eq_some_iff.mp en).1
      exact ⟨fun g' e => (by cases e), fun r e => (by cases e; exact ⟨rfl, fun i ei => (by cases ei; exact lt)⟩)⟩
theorem stand_in {rs : List Row0} {ps qs : List Str} {es : List (List Str)} (G : Gk rs qs) : ∀ (k : Nat) {g : Sg}, SgIn rs es g → SgIn rs es (standN rs ps es k g).1
  | 0, _, h => h
  | k + 1, g, h => by
    obtain ⟨a, b⟩ := turn_in (ps := ps) G h
    rw [standN]
    cases e : turnF rs ps es g with
    | inl g' => exact stand_in G k (a g' e)
    | inr r =>
      show SgIn rs es r.1
      rw [(b r e).1]
      exact h
theorem play_stuck {rs : List Row0} {dz : List Str} : ∀ (l : List (List Str)) (i : Nat) (s : Stn) {j : Nat}, (playN rs dz i l s).2 = some j → j < i + l.length
  | [], _, _, _, h => by cases h
  | e :: l, i, s, j, h => by
    rw [playN] at h
    split at h
    · have := play_stuck l (i + 1) _ h
      simp only [List.length_cons]
      omega
    · have h : i = j := Option.some.inj h
      simp only [List.length_cons]
      omega
theorem Gk.told {rs : List Row0} {ps dz : List Str} {es : List (List Str)} (G : Gk rs ps) (hd : ∀ z, z ∈ dz ↔ z ∈ ps) (few : es.length ≤ 34) : PlayOk (playF rs dz es) := by
  have R := G.plays hd few
  have I : SgIn rs es (standF rs ps es).1 := stand_in G 400 ⟨by
    cases e : rs with
    | nil => exact absurd e G.gd.ne
    | cons r l => show placeR r ∈ _; simp, fun z ez => (by cases ez), List.nodup_nil, fun m hm => (by cases hm)⟩
  have keys : ∀ w ∈ (playF rs dz es).1.ways, nameOk w.1 = true := fun w hw => by
    have hm := I.sub w.1 (List.mem_map_of_mem (f := fun w : Str × Bool => w.1) (R.ways.mem_iff.mp hw))
    obtain ⟨r, hr, e⟩ := List.mem_map.mp hm
    obtain ⟨hr, g⟩ := List.mem_filter.mp hr
    have good := G.gd.good r hr
    cases r with
    | gate p m n o =>
      have e : m = w.1 := e
      rw [← e]
      exact good.2.1
    | ask _ _ _ => cases g
    | note _ _ _ => cases g
    | end_ _ => cases g
  refine ⟨by rw [← R.spot]; exact G.names I.spot, fun z ez => I.said z (by rw [R.said]; exact ez), keys, ?_, fun i ei => ?_⟩
  · rw [R.ways.length_eq]
    have h1 := nodup_le I.nd I.sub
    rw [List.length_map, List.length_map] at h1
    have h2 := List.length_filter_le gateB rs
    have h3 := G.few
    omega
  · have := play_stuck es 0 _ ei
    omega
end K2

set_option Elab.async false
set_option linter.all false
set_option maxRecDepth 100000
set_option maxHeartbeats 4000000
namespace K2
open PySem L2 Lw
section
variable {P : Program} {w : World} {K : PySem.W.Frag} {mg : Str → Option Value} {base : Heap}
theorem scDraw : FnScope ["_law_deal_here", "_law_many", "_law_left"] ["_law_deal_here", "_law_many"] (defScope sDraw) := ⟨rfl, rfl, rfl, by decide +kernel, rfl, by decide +kernel, by decide +kernel⟩
theorem ok_draw {f : Addr} {fd : FuncData} (F : Fun K "_law_draw" "_law_draw" sDraw f fd) (tI : mg "int" = none) : FnOk P w K mg base CX0 1 f fd ["_law_deal_here", "_law_many"] spDraw := by
  refine F.ok scDraw (fun vs H Q E h => ?_) (fun cdv A outer s H vs Q E hr h => ?_)
  · obtain ⟨G, d, l, k, rfl, _⟩ := h
    rfl
  · obtain ⟨G, d, l, k, rfl, D, k0, k1, fin⟩ := h
    have hu : _ := hr.units
    refine ⟨_, pss_cons (ps_while PassesOwn.never (PW.pt (pw_and (pt_cmpR (op_neD hu) (pe_ix ix_list (pv 0) pe_int (fun _ _ => rfl)) (pe_lst pa_nil) (nomark _))
        (pw_and1 (pt_cmpR op_eq (pe_ix ix_list (pe_ix ix_list (pv 0) pe_int (fun _ _ => rfl)) (pe_un un_neg pe_int) (fun _ _ => rfl)) pe_int (nomark _)))))
        (pss_one (ps_expr (pe_bm0 PySem.F.plainAttrs_list PySem.F.slot_list_pop PySem.F.type_list_pop mt_pop (pe_ix ix_list (pv 0) pe_int (fun _ _ => rfl))))))
      (pss_cons (ps_if (pt_cmpR (op_neD hu) (pe_ix ix_list (pv 0) pe_int (fun _ _ => rfl)) (pe_lst pa_nil) (nomark _))
        (pss_cons (ps_set (i := 2) scDraw.nd rfl (Or.inl rfl) (pe_bm0 PySem.F.plainAttrs_list PySem.F.slot_list_pop PySem.F.type_list_pop mt_pop (pe_ix ix_list (pv 0) pe_int (fun _ _ => rfl))))
          (pss_cons (ps_expr (pe_bm PySem.F.plainAttrs_list PySem.F.slot_list_append PySem.F.type_list_append mt_append (pe_ix ix_list (pv 0) pe_int (fun _ _ => rfl)) (pa_cons (pe_op op_fdiv (pv 2) (pv 1)) pa_nil)))
            (pss_one (ps_ret (pe_op op_mod (pe_callTy call_int1 (by rfl) tI PyProof.Rows.boot_int (pa_cons (pv 2) pa_nil)) (pv 1))))))
        pss_nil)
      (pss_cons (ps_asg (pe_op op_mod (pe_callTy call_int1 (by rfl) tI PyProof.Rows.boot_int (pa_cons (pe_op op_add (pe_op op_mul (pe_ix ix_list (pv 0) pe_int (fun _ _ => rfl)) pe_int) pe_int) pa_nil)) pe_int) (pg_sub (pv 0) pe_int set_list))
        (pss_one (ps_ret (pe_op op_mod (pe_callTy call_int1 (by rfl) tI PyProof.Rows.boot_int (pa_cons (pe_op op_fdiv (pe_ix ix_list (pv 0) pe_int (fun _ _ => rfl)) pe_int) pa_nil)) (pv 1)))))), ?_⟩
    obtain ⟨ns0, m0, a0⟩ := D.it
    refine seq_cut (fun σ1 H1 => σ1 = [some (.ref d), some (.int k), none] ∧ Deal G H1 d l ∧ ∃ ns m, At H1 d l ns m) ?after fun after => ?loop
    case loop =>
      refine ⟨fun c σ H1 => ∃ ns m, c = ns.length ∧ σ = [some (.ref d), some (.int k), none] ∧ Deal G H1 d l ∧ At H1 d l ns m, ⟨_, ns0, m0, rfl, rfl, D, a0⟩, ?_⟩
      rintro _ _ H1 ⟨ns, m, rfl, rfl, D1, a1⟩
      refine ⟨_, rfl, d, _, 0, _, rfl, rfl, SqL.of a1.hd, at0, Nat.zero_le _, fun p hp => ?_⟩
      have D2 := D1.more (o := .lst []) hp
      have a2 := a1.put (o := .lst []) hp
      refine ⟨_, _, .lst (SqL.of a2.hl) (ints_data ns), .lst (SqL.of upd_same) .nil, ints_shaped ns, nil_shaped, _, rfl, ?_⟩
      rw [eqv_nil]
      by_cases e : ns = []
      · subst e
        exact iteF (iteF (after _ _ ⟨rfl, D2, _, _, a2⟩))
      · obtain ⟨r, n, rfl⟩ := split_end e
        have e1 : (!((r ++ [n]).map PyData.int).isEmpty) = true := by simp
        rw [e1]
        refine iteT ⟨_, rfl, d, _, 0, _, rfl, rfl, SqL.of a2.hd, at0, _, rfl, l, _, -1, _, rfl, rfl, SqL.of a2.hl, at_end r n, rfl, _, rfl, ?_⟩
        refine ite2 (fun z => ?_) (fun _ => after _ _ ⟨rfl, D2, _, _, a2⟩)
        obtain ⟨D3, a3⟩ := D2.list a2 (ns' := r) (by have := a2.len; simp at this; omega) (fun x hx => a2.nn x (by simp [hx]))
        refine ⟨fun σ1 H3 => σ1 = [some (.ref d), some (.int k), none] ∧ Deal G H3 d l ∧ At H3 d l r m, fun σ1 H3 ⟨q1, q2, q3⟩ => ⟨r.length, by simp, r, m, rfl, q1, q2, q3⟩, ?_⟩
        refine ⟨_, rfl, d, _, 0, _, rfl, rfl, SqL.of a2.hd, at0, .inl ⟨rfl, _, SqL.of a2.hl⟩, l, _, _, rfl, rfl, a2.hl, get_end r n, ?_⟩
        rw [drop_end]
        exact ⟨rfl, D3, a3⟩
    case after =>
      rintro _ H1 ⟨rfl, D1, ns, m, a1⟩
      refine ⟨_, rfl, d, _, 0, _, rfl, rfl, SqL.of a1.hd, at0, Nat.zero_le _, fun p hp => ?_⟩
      have D2 := D1.more (o := .lst []) hp
      have a2 := a1.put (o := .lst []) hp
      refine ⟨_, _, .lst (SqL.of a2.hl) (ints_data ns), .lst (SqL.of upd_same) .nil, ints_shaped ns, nil_shaped, _, rfl, ?_⟩
      rw [eqv_nil]
      by_cases e : ns = []
      · subst e
        refine iteF ?_
        -- deal[1] = ..
        refine ⟨_, rfl, d, _, 1, _, rfl, rfl, SqL.of a2.hd, at1, _, _, rfl, rfl, .inr ⟨by decide, by decide⟩, _, _, rfl, rfl, .inl ⟨_, rfl, _, _, rfl, rfl, (by show (0 : Int) < 2147483647; decide), ?_⟩⟩
        have b0 : 0 ≤ (m * 48271 + 7) % 2147483647 := Int.emod_nonneg _ (by decide)
        have b1 : (m * 48271 + 7) % 2147483647 < 2147483647 := Int.emod_lt_of_pos _ (by decide)
        obtain ⟨D3, a3⟩ := D2.mix a2 b0 b1
        refine ⟨_, rfl, d, _, 1, 1, rfl, rfl, a2.hd, set1, ?_⟩
        refine ⟨_, rfl, d, _, 1, _, rfl, rfl, SqL.of a3.hd, at1, _, _, rfl, rfl, ⟨by decide, by decide⟩, .inl ⟨_, rfl, _, rfl, _, _, rfl, rfl, k0, ?_⟩⟩
        exact fin _ _ D3 (Int.emod_nonneg _ (by omega)) (Int.emod_lt_of_pos _ k0)
      · obtain ⟨r, n, rfl⟩ := split_end e
        have e1 : (!((r ++ [n]).map PyData.int).isEmpty) = true := by simp
        rw [e1]
        have n0 : 0 ≤ n := a2.nn n (by simp)
        refine iteT ⟨_, rfl, d, _, 0, _, rfl, rfl, SqL.of a2.hd, at0, .inl ⟨rfl, _, SqL.of a2.hl⟩, l, _, _, rfl, rfl, a2.hl, get_end r n, ?_⟩
        rw [drop_end]
        obtain ⟨D3, a3⟩ := D2.list a2 (ns' := r) (by have := a2.len; simp at this; omega) (fun x hx => a2.nn x (by simp [hx]))
        refine ⟨_, rfl, d, _, 0, _, rfl, rfl, SqL.of a3.hd, at0, .inl ⟨rfl, _, SqL.of a3.hl⟩, _, rfl, _, rfl, _, _, rfl, rfl, ⟨k0, by omega⟩, l, _, _, rfl, rfl, a3.hl, (by rw [List.length_map]; have := a3.len; exact Nat.lt_of_le_of_lt this (by decide)), ?_⟩
        obtain ⟨D4, a4⟩ := D3.list a3 (ns' := r ++ [n / k]) (by have := a2.len; simp at this ⊢; omega) (fun x hx => by
          rcases List.mem_append.mp hx with q | q
          · exact a3.nn x q
          · rw [List.mem_singleton.mp q]
            exact Int.ediv_nonneg n0 (by omega))
        rw [upd_upd, List.map_append, List.map_cons, List.map_nil] at D4
        rw [upd_upd]
        refine ⟨_, rfl, .inl ⟨n, rfl, _, rfl, _, _, rfl, rfl, k0, ?_⟩⟩
        exact fin _ _ D4 (Int.emod_nonneg _ (by omega)) (Int.emod_lt_of_pos _ k0)

/-! ### a deal -/
abbrev nDeal : List Str := ["_law_script", "_law_base", "_law_cells", "_law_stirred", "_law_cell"]
theorem scDeal : FnScope nDeal ["_law_script", "_law_base"] (defScope sDeal) := ⟨rfl, rfl, rfl, by decide +kernel, rfl, by decide +kernel, by decide +kernel⟩
theorem ok_deal {f : Addr} {fd : FuncData} (F : Fun K "_law_deal" "_law_deal" sDeal f fd) (tI : mg "int" = none) (tA : mg "abs" = none) : FnOk P w K mg base CX0 1 f fd ["_law_script", "_law_base"] (spDeal K) := by
  refine F.ok scDeal (fun vs H Q E h => ?_) (fun cdv A outer s H vs Q E hr h => ?_)
  · obtain ⟨a, ns, b, rfl, _⟩ := h
    rfl
  · obtain ⟨a, ns, b, rfl, hS, len, b0, b1, fin⟩ := h
    refine ⟨_, pss_cons (ps_setLc (i := 2) (own := [("_law_cell", 4)]) (g := gName 4) (tt := tYes) (by rfl) scDeal.nd rfl rfl (sw_true rfl rfl rfl (by decide +kernel)) (pi_list (pe_slice sl_list (pv 0) (po_some (pv 1)) (po_some pe_int)))
          (blkOk_by (own := [("_law_cell", 4)]) (N := nDeal) (sc := defScope sDeal) (by decide +kernel)) (fun _ _ _ _ _ => pg_name (i := 4) scDeal.nd rfl (Or.inl rfl)) (fun _ _ _ _ _ => pts_nil)
          (fun _ _ _ _ _ => pe_callB call_abs (by rfl) tA PyProof.Rows.boot_abs (pa_cons (pe_callTy call_int1 (by rfl) tI PyProof.Rows.boot_int (pa_cons (pv 4) pa_nil)) pa_nil)))
      (pss_cons (ps_set (i := 3) scDeal.nd rfl (Or.inl rfl) (pe_op op_add pe_int (pe_op op_mul pe_int (pv 1))))
      (pss_cons (ps_for PassesOwn.never rfl (pi_list (pv 2)) (pg_name (i := 4) scDeal.nd rfl (Or.inl rfl))
        (pss_one (ps_set (i := 3) scDeal.nd rfl (Or.inl rfl) (pe_op op_mod (pe_callTy call_int1 (by rfl) tI PyProof.Rows.boot_int (pa_cons (pe_op op_add (pe_op op_add (pe_op op_mul (pv 3) pe_int) (pe_op op_mod (pe_callTy call_int1 (by rfl) tI PyProof.Rows.boot_int (pa_cons (pv 4) pa_nil)) pe_int)) pe_int) pa_nil)) pe_int))))
      (pss_one (ps_ret (pe_lst (pa_cons (pe_revL (pe_lc (own := [("_law_cell", 4)]) (g := gName 4) (tt := _) (by rfl) scDeal.nd (pi_list (pv 2))
          (blkOk_by (own := [("_law_cell", 4)]) (N := nDeal) (sc := defScope sDeal) (by decide +kernel)) (fun _ _ _ _ _ => pg_name (i := 4) scDeal.nd rfl (Or.inl rfl))
          (fun _ _ _ _ _ => pts_one (pt_cmpR op_ge (pv 4) (pe_op op_pow pe_int pe_int) (nomark _))) (fun _ _ _ _ _ => pv 4))) (pa_cons (pv 3) pa_nil))))))), ?_⟩
    -- cells
    refine ⟨_, rfl, _, rfl, _, rfl, _, rfl, a, _, rfl, hS, fun p1 u1 => ?_⟩
    obtain ⟨ms, ecut, lms⟩ := cut_ints ns (some b) (some 64)
    rw [ecut]
    have s1 : Same H (upd H p1 (.lst (ms.map V.int))) := same_new u1
    refine ⟨p1, rfl, ⟨_, SqL.of upd_same⟩, fun c u2 => ?_⟩
    have few : (ms.map V.int).length ≤ 100000 := by rw [List.length_map]; omega
    have u2' : H c = none := s1.free u2
    refine lc_of_list ((ms.map V.int).map fun x => some (magV x)) (SqL.of upd_same) u2 (turns_map magV few fun x H2 Q2 hx _ q => ?_) mono_yes fun H2 s2 h2 => ?_
    · obtain ⟨n, _, rfl⟩ := mem_ints hx
      exact ⟨_, rfl, .inl ⟨n, rfl, n, rfl, q _ (Same.refl _)⟩⟩
    rw [out_map, magV_map] at h2
    have s12 := s1.trans s2
    -- mixed
    refine ⟨_, rfl, _, _, rfl, rfl, .inl ⟨by decide, by decide⟩, _, _, rfl, rfl, ?_⟩
    -- the loop
    dsimp only [gName]
    refine seq_cut (fun σ1 H3 => ∃ m v, σ1 = [some (.ref a), some (.int b), some (.ref c), some (.int m), v] ∧ H3 = H2 ∧ 0 ≤ m ∧ m < 2147483647) ?after fun after => ?loop
    case loop =>
      refine ⟨_, rfl, c, rfl, ⟨_, SqL.of h2⟩, for_list (K := K) (a := c) (xs := (ms.map mag).map V.int) (fun i σ1 H3 => ∃ m v, σ1 = [some (.ref a), some (.int b), some (.ref c), some (.int m), v] ∧ H3 = H2 ∧ 0 ≤ m ∧ m < 2147483647)
        ⟨_, _, rfl, rfl, by omega, by omega⟩ (fun i σ1 H3 _ ⟨m, v, _, e3, _⟩ => by rw [e3]; exact SqL.of h2) ?_ (fun σ1 H3 q => after σ1 H3 q)⟩
      rintro i x σ1 H3 hx ⟨m, v, rfl, rfl, m0, _⟩
      obtain ⟨n, _, rfl⟩ := mem_ints (List.mem_of_getElem? hx)
      refine ⟨_, rfl, _, _, rfl, rfl, .inr ⟨by decide, by decide⟩, _, rfl, .inl ⟨n, rfl, _, _, rfl, rfl, (by show (0 : Int) < 2147483629; decide), _, _, rfl, rfl, _, _, rfl, rfl, .inl ⟨_, rfl, _, _, rfl, rfl, (by show (0 : Int) < 2147483647; decide), ?_⟩⟩⟩
      exact ⟨_, _, rfl, rfl, Int.emod_nonneg _ (by decide), Int.emod_lt_of_pos _ (by decide)⟩
    case after =>
      rintro _ _ ⟨m, v, rfl, rfl, m0, m1⟩
      -- the great ones
      refine ⟨_, rfl, c, rfl, ⟨_, SqL.of h2⟩, fun g u3 => ?_⟩
      have few2 : ((ms.map mag).map V.int).length ≤ 100000 := by rw [List.length_map, List.length_map]; omega
      refine lc_of_list (((ms.map mag).map V.int).map bigV) (SqL.of h2) u3 ⟨by simp, few2, fun j x y H3 Q3 hx hy _ q => ?_, fun j x H3 hx hy _ => ?_⟩ (mono_test (mono_op mono_rI0 mono_var (mono_op mono_rI mono_c mono_c))) fun H3 s3 h3 => ?_
      · obtain ⟨n, _, rfl⟩ := mem_ints (List.mem_of_getElem? hx)
        rw [List.getElem?_map, hx] at hy
        have hy : bigV (.int n) = some y := by simpa using hy
        refine ⟨_, rfl, _, _, rfl, rfl, ⟨by decide, by decide, by decide⟩, _, _, rfl, rfl, _, rfl, ?_⟩
        by_cases z : decide ((10 : Int) ^ (18 : Int).toNat ≤ n) = true
        · rw [show bigV (.int n) = some (.int n) from if_pos z] at hy
          cases hy
          exact ⟨z, Same.refl _, _, rfl, q _ (Same.refl _)⟩
        · rw [show bigV (.int n) = none from if_neg z] at hy
          cases hy
      · obtain ⟨n, _, rfl⟩ := mem_ints (List.mem_of_getElem? hx)
        rw [List.getElem?_map, hx] at hy
        have hy : bigV (.int n) = none := by simpa using hy
        refine ⟨_, rfl, _, _, rfl, rfl, ⟨by decide, by decide, by decide⟩, _, _, rfl, rfl, _, rfl, ?_⟩
        by_cases z : decide ((10 : Int) ^ (18 : Int).toNat ≤ n) = true
        · rw [show bigV (.int n) = some (.int n) from if_pos z] at hy
          cases hy
        · exact ⟨by simpa using z, Same.refl _⟩
      rw [big_out] at h3
      refine ⟨g, _, rfl, SqL.of h3, fun l u4 => ?_⟩
      refine ⟨_, rfl, (by show 2 ≤ sizeLine; decide), fun d u5 => ?_⟩
      have nl : l ≠ d := fun z => by rw [z, upd_same] at u5; cases u5
      have s4 := s12.trans s3
      have u4' : H l = none := s4.free u4
      have u5' : H d = none := by rw [upd_ne nl.symm] at u5; exact s4.free u5
      refine fin _ d l ⟨fun p o e => ?_, u5', u4', nl, ((ms.map mag).filter fun i => decide ((10 : Int) ^ (18 : Int).toNat ≤ i)).reverse, m, upd_same, ?_, ?_, fun n hn => ?_, m0, m1⟩
      · rw [upd_ne (ne_of_none e u5'), upd_ne (ne_of_none e u4')]
        exact s4 _ _ e
      · rw [upd_ne nl, upd_same, List.map_reverse]
      · rw [List.length_reverse]
        have := List.length_filter_le (fun i => decide ((10 : Int) ^ (18 : Int).toNat ≤ i)) (ms.map mag)
        rw [List.length_map] at this
        omega
      · obtain ⟨i, _, rfl⟩ := List.mem_map.mp (List.mem_filter.mp (List.mem_reverse.mp hn)).1
        exact mag_nn i

/-! ### a pick -/
theorem scPick : FnScope ["_law_deal_here", "_law_some"] ["_law_deal_here", "_law_some"] (defScope sPick) := ⟨rfl, rfl, rfl, by decide +kernel, rfl, by decide +kernel, by decide +kernel⟩
theorem ok_pick {f fD : Addr} {fd fdD : FuncData} (F : Fun K "_law_pick" "_law_pick" sPick f fd) (FD : Fun K "_law_draw" "_law_draw" sDraw fD fdD) (tD : mg "_law_draw" = some (.ref fD)) (bD : Binds K fdD ["_law_deal_here", "_law_many"] [])
    (tI : mg "int" = none) (tL : mg "len" = none) : FnOk P w K mg base CX0 2 f fd ["_law_deal_here", "_law_some"] (spPick K) := by
  have GD : FnOk P w K mg base CX0 1 fD fdD ["_law_deal_here", "_law_many"] spDraw := ok_draw FD tI
  refine F.ok scPick (fun vs H Q E h => ?_) (fun cdv A outer s H vs Q E hr h => ?_)
  · obtain ⟨G, d, l, a, xs, rfl, _⟩ := h
    rfl
  · obtain ⟨G, d, l, a, xs, rfl, D, hS, ne, few, fin⟩ := h
    refine ⟨_, pss_one (ps_ret (pe_ix ix_list (pv 1) (pe_call GD hr rfl tD FD.kp bD .nil pass0 (pa_cons (pv 0) (pa_cons (pe_callB call_len (by rfl) tL PySem.boot_len (pa_cons (pv 1) pa_nil)) pa_nil))) (fun _ _ => rfl))), ?_⟩
    have hS1 : SqL K H a xs := D.same.seq hS
    have pos : 0 < xs.length := List.length_pos_iff.mpr ne
    refine ⟨_, rfl, _, rfl, _, rfl, _, _, rfl, .inl ⟨_, hS1, rfl⟩, G, d, l, _, rfl, D, by omega, by omega, fun H' r D' r0 r1 => ?_⟩
    obtain ⟨x, hx, ex⟩ := at_int r0 r1
    exact ⟨a, _, r, x, rfl, rfl, D'.same.seq hS, ex, fin H' x D' hx⟩
end
end K2

set_option Elab.async false
set_option linter.all false
set_option maxRecDepth 100000
set_option maxHeartbeats 4000000
/-! k17: logs played -/
namespace K2
open PySem PyProof.Rows L2 Lw TL SxT Hd
def spLaw (K : PySem.W.Frag) : Sp := fun vs H Q _ => ∃ (sa : Addr) (ns : List Int), vs = [.ref sa] ∧ SqL K H sa (ns.map V.int) ∧ ns.length ≤ 63 ∧ ∀ H', Q (.bl true) H'
structure LawF (K : PySem.W.Frag) (mg : Str → Option Value) : Prop where
  P : PlF K mg (paK K) (plK K)
  X : EdX K
  tInt : mg "int" = none
  tAbs : mg "abs" = none
  tRange : mg "range" = none
  tMin : mg "min" = none
  tDict : mg "dict" = none
  tRepr : mg "repr" = none
  deal : Top K mg "_law_deal" sDeal (He.ga K "_law_deal") (fdOf K (He.ga K "_law_deal")) ["_law_script", "_law_base"]
  draw : Top K mg "_law_draw" sDraw (He.ga K "_law_draw") (fdOf K (He.ga K "_law_draw")) ["_law_deal_here", "_law_many"]
  pick : Top K mg "_law_pick" sPick (He.ga K "_law_pick") (fdOf K (He.ga K "_law_pick")) ["_law_deal_here", "_law_some"]
  rowT : Top K mg "_law_row_text" sRowText (He.ga K "_law_row_text") (fdOf K (He.ga K "_law_row_text")) ["_law_row"]
  text : Top K mg "_law_text" sToldText (He.ga K "_law_text") (fdOf K (He.ga K "_law_text")) ["_law_told_here"]
  made : Top K mg "_law_made" sToldMade (He.ga K "_law_made") (fdOf K (He.ga K "_law_made")) ["_law_told_here"]
  onward : Top K mg "_law_onward" sOnw (He.ga K "_law_onward") (fdOf K (He.ga K "_law_onward")) ["_law_deal_here", "_law_spots", "_law_at"]
  drawn : Top K mg "_law_drawn" sToldDrawn (He.ga K "_law_drawn") (fdOf K (He.ga K "_law_drawn")) ["_law_deal_here", "_law_many"]
  near : Top K mg "_law_near" sNear (He.ga K "_law_near") (fdOf K (He.ga K "_law_near")) ["_law_deal_here", "_law_told_here"]
  gone : Top K mg "_law_gone" sGone (He.ga K "_law_gone") (fdOf K (He.ga K "_law_gone")) ["_law_told_here", "_law_mark"]
  endOf : Top K mg "_law_end_of" sEndOf (He.ga K "_law_end_of") (fdOf K (He.ga K "_law_end_of")) ["_law_goes", "_law_spot"]
  stand : Top K mg "_law_stand" sStand (He.ga K "_law_stand") (fdOf K (He.ga K "_law_stand")) ["_law_told_here", "_law_some"]
  chosen : Top K mg "_law_chosen" sChosen (He.ga K "_law_chosen") (fdOf K (He.ga K "_law_chosen")) ["_law_chosen_here"]
  entry : Top K mg "_law_entry" sEntry (He.ga K "_law_entry") (fdOf K (He.ga K "_law_entry")) ["_law_deal_here"]
  nextE : Top K mg "_law_next_entries" sNextE (He.ga K "_law_next_entries") (fdOf K (He.ga K "_law_next_entries")) ["_law_told_here", "_law_some"]
  written : Top K mg "_law_written" sWritten (He.ga K "_law_written") (fdOf K (He.ga K "_law_written")) ["_law_deal_here", "_law_told_here", "_law_many"]
  told : Top K mg "_law_told" sToldP (He.ga K "_law_told") (fdOf K (He.ga K "_law_told")) ["_law_played"]
  law : Top K mg "law" sLaw (He.ga K "law") (fdOf K (He.ga K "law")) ["_law_script"]
def spToldP (K : PySem.W.Frag) (q : Pl) : Sp := fun vs H Q _ => ∃ (v : V) (r : Stn × Option Nat), vs = [v] ∧ PlayAt K q H v r ∧ PlayOk r ∧ ∀ H', Same H H' → Q (.str (playD r).shown) H'
theorem RowAt.hardT {K : PySem.W.Frag} {a : Ad} {H : Hp} {v : V} {r : Row0} (h : RowAt K a H v r) : RowAt K a (hard H) v r := by
  obtain ⟨x, dx, fs, e, hx, hf, hb⟩ := h.ex
  refine ⟨x, dx, fs, e, hard_of hx (fun _ z => nomatch z), ?_, hb⟩
  cases r with
  | ask p n ws =>
    obtain ⟨h1, h2, ⟨wa, h3, h4⟩, h5⟩ := hf
    exact ⟨h1, h2, ⟨wa, h3, dp_hard _ _ (by rw [noL]; exact noLs_of fun w _ => rfl) h4⟩, h5⟩
  | _ => exact hf
theorem RowsAt.hardT {K : PySem.W.Frag} {a : Ad} {H : Hp} : ∀ {xs : List V} {rs : List Row0}, RowsAt K a H xs rs → RowsAt K a (hard H) xs rs
  | _, _, .nil => .nil
  | _, _, .cons h t => .cons h.hardT t.hardT
theorem EdAt.hardT {K : PySem.W.Frag} {H : Hp} {fs : List (Str × V)} {xs : List V} {rs : List Row0} {d : PyData} (h : EdAt K H fs xs rs d) : EdAt K (hard H) fs xs rs d := by
  obtain ⟨⟨t1, a1, b1⟩, ⟨t2, dz, a2, b2, c2, d2⟩, h3, ⟨t4, z4, a4, b4, c4⟩, ⟨t5, z5, a5, b5, c5⟩, ⟨t6, z6, a6, b6, c6⟩, ⟨t7, a7, b7⟩, h8⟩ := h
  exact ⟨⟨t1, a1, hard_tup b1⟩, ⟨t2, dz, a2, hard_tup b2, c2, d2⟩, h3, ⟨t4, z4, a4, hard_tup b4, c4⟩, ⟨t5, z5, a5, hard_tup b5, c5⟩, ⟨t6, z6, a6, hard_tup b6, c6⟩, ⟨t7, a7, hard_of b7 fun _ z => by cases z⟩, h8⟩
theorem EdOk.hardT {K : PySem.W.Frag} {a : Ad} {b : Ae} {H : Hp} {v : V} {rs : List Row0} {dz : List Str} (h : EdOk K a b H v rs dz) : EdOk K a b (hard H) v rs dz := by
  obtain ⟨x, dx, fs, xs, e, h1, h2, h3⟩ := h.ex
  exact ⟨⟨x, dx, fs, xs, e, hard_of h1 (fun _ z => nomatch z), h2.hardT, h3.hardT⟩, h.right, h.marks, h.dzok, h.fewz⟩
theorem gd_perm {rs : List Row0} {ps dz : List Str} (h : Gd rs ps) (p : dz.Perm ps) : Gd rs dz := ⟨h.on, h.ne, h.good, h.few, p.nodup_iff.mpr h.ndp, fun z hz => h.four z (p.mem_iff.mp hz), fun a b c m hr hm => h.not a b c m hr (p.mem_iff.mp hm)⟩
theorem cut30 (xs : List V) : cutV xs none (some 30) = xs.take (min 30 xs.length) := by
  unfold cutV
  rw [HT.sIx_none, List.drop_zero, show HT.sIx xs.length xs.length (some 30) = min 30 xs.length from HT.sIx_nat _ _ 30, Nat.sub_zero]
/-- what is kept of a log played: the edition, the log, what is due -/
structure Kp (K : PySem.W.Frag) (H : Hp) (x : V) : Prop where
  ex : ∃ (t lp : Addr) (ev : V) (ys : List V) (rs : List Row0) (dz : List Str) (es : List (List Str)), x = .ref t ∧ SqT K H t [ev, .ref lp, .str (playD (playF rs dz es)).shown] ∧ EdOk K (paK K).a (paK K).b H ev rs dz ∧ SqT K H lp ys ∧ DpAll K H ys (es.map entD) ∧ LogOk es ∧ PlayOk (playF rs dz es)
theorem Kp.same {K : PySem.W.Frag} {H H' : Hp} {x : V} (h : Kp K H x) (s : Same H H') : Kp K H' x := by
  obtain ⟨t, lp, ev, ys, rs, dz, es, e, h1, h2, h3, h4, h5, h6⟩ := h.ex
  exact ⟨t, lp, ev, ys, rs, dz, es, e, same_tup s h1, h2.same s, same_tup s h3, dpAll_same s _ _ h4, h5, h6⟩
theorem ent_noL (e : List Str) : noL (entD e) = true := by unfold entD; exact noLs_of fun _ _ => rfl
theorem Kp.hardT {K : PySem.W.Frag} {H : Hp} {x : V} (h : Kp K H x) : Kp K (hard H) x := by
  obtain ⟨t, lp, ev, ys, rs, dz, es, e, h1, h2, h3, h4, h5, h6⟩ := h.ex
  exact ⟨t, lp, ev, ys, rs, dz, es, e, hard_tup h1, h2.hardT, hard_tup h3, dpAll_hard _ _ (noLs_of fun e _ => ent_noL e) h4, h5, h6⟩
section
variable {P : Program} {w : World} {K : PySem.W.Frag} {mg : Str → Option Value} {base : Heap}
theorem scToldP : FnScope ["_law_played"] ["_law_played"] (defScope sToldP) := ⟨rfl, rfl, rfl, by decide +kernel, rfl, by decide +kernel, by decide +kernel⟩
theorem LawF.okTold (L : LawF K mg) : FnG P w K mg base CX0 1 (He.ga K "_law_told") (fdOf K (He.ga K "_law_told")) ["_law_played"] (spToldP K (plK K)) := by
  refine fun_okG0 L.told.F scToldP (fun vs H Q E h => ?_) (fun cdv A outer s H vs Q E hr hg h => ?_)
  · obtain ⟨v, r, rfl, _⟩ := h
    rfl
  · obtain ⟨v, r, rfl, hP, ok, fin⟩ := h
    have hu := hr.units
    refine ⟨_, pss_one (ps_ret (pe_callB (call_repr hg hu) (by rfl) L.tRepr (by decide +kernel) (pa_cons (pe_tup (pa_cons (pe_fld (pv 0) rfl) (pa_cons (pe_fld (pv 0) rfl) (pa_cons (pe_fld (pv 0) rfl) (pa_cons (pe_fld (pv 0) rfl) pa_nil))))) pa_nil))), ?_⟩
    obtain ⟨x, dx, fs, wv, rfl, h1, h2, h3, h4, h5, h6⟩ := hP.ex
    obtain ⟨w1, w2, w3, w4⟩ := play_shown ok
    have cl := L.P.cl
    have no := L.P.no
    refine ⟨_, rfl, x, _, dx, fs, _, rfl, h1, cl, no "place" (by simp), h2, _, rfl, x, _, dx, fs, _, rfl, h1, cl, no "ways" (by simp), h3, _, rfl, x, _, dx, fs, _, rfl, h1, cl, no "word" (by simp), h5, _, rfl, x, _, dx, fs, _, rfl, h1, cl, no "stuck" (by simp), h6, by show 4 ≤ sizeLine; decide, fun t ut => ?_⟩
    have s1 := same_new (o := .tup [.str r.1.place, wv, optV r.1.word, optI r.2]) ut
    exact ⟨_, playD r, rfl, .tup (SqT.of upd_same) (.cons (.str _) (.cons (dp_same s1 _ _ h4) (.cons (dp_optV _) (.cons (dp_optI _) .nil)))), w1, w2, w3, w4, fin _ s1⟩
abbrev nLaw : List Str := ["_law_script", "_law_deal_here", "_law_kept", "_law_turn", "_law_first", "_law_other", "_law_told_here", "_law_made_here", "_law_writer", "_law_some", "_law_many", "_law_half", "_law_due", "_law_given"]
theorem scLaw : FnScope nLaw ["_law_script"] (defScope sLaw) := ⟨rfl, rfl, rfl, by decide +kernel, rfl, by decide +kernel, by decide +kernel⟩
theorem LawF.okLaw (L : LawF K mg) : FnG P w K mg base CX0 12 (He.ga K "law") (fdOf K (He.ga K "law")) ["_law_script"] (spLaw K) := by
  have F := L.P.F
  have LX := L.X
  have T := F.T
  refine fun_okG0 L.law.F scLaw (fun vs H Q E h => ?_) (fun cdv A outer s H vs Q E hr hg h => ?_)
  · obtain ⟨sa, ns, rfl, _⟩ := h
    rfl
  · obtain ⟨sa, ns, rfl, hS, hlen, fin⟩ := h
    have hr1 : Room 1 _ := hr.mono (by decide)
    have hr2 : Room 2 _ := hr.mono (by decide)
    have hr3 : Room 3 _ := hr.mono (by decide)
    have hr4 : Room 4 _ := hr.mono (by decide)
    have hr6 : Room 6 _ := hr.mono (by decide)
    have hu : (A.deeper (PyProof.Rows.envOfC (Str.ofString "law") (defScope sLaw) s.heap.objs.size (He.ga K "law") cdv)).units + 64 < cLine := hr.units
    have OD : FnOk P w K mg base CX0 1 (He.ga K "_law_deal") (fdOf K (He.ga K "_law_deal")) ["_law_script", "_law_base"] (spDeal K) := ok_deal L.deal.F L.tInt L.tAbs
    have GD : FnOk P w K mg base CX0 1 (He.ga K "_law_draw") (fdOf K (He.ga K "_law_draw")) ["_law_deal_here", "_law_many"] spDraw := ok_draw L.draw.F L.tInt
    have GP : FnOk P w K mg base CX0 2 (He.ga K "_law_pick") (fdOf K (He.ga K "_law_pick")) ["_law_deal_here", "_law_some"] (spPick K) := ok_pick L.pick.F L.draw.F L.draw.g L.draw.b L.tInt T.tLen
    have OR : FnOk P w K mg base CX0 1 (He.ga K "_law_row_text") (fdOf K (He.ga K "_law_row_text")) ["_law_row"] (spRowText K) := okRowText L.rowT.F T.tList
    have OT : FnOk P w K mg base CX0 2 (He.ga K "_law_text") (fdOf K (He.ga K "_law_text")) ["_law_told_here"] (spToldText K) := okToldText L.text.F OR L.rowT.F.kp L.rowT.g L.rowT.b F.E.N.sorted T.tStr
    have okRd := okEdRead (P := P) (w := w) (base := base) T F.R F.L F.E F.strI F.strAt F.D
    have OM : FnOk P w K mg base CX0 11 (He.ga K "_law_made") (fdOf K (He.ga K "_law_made")) ["_law_told_here"] (spToldMade K (paK K).a (paK K).b) := okToldMade L.made.F OT L.text.F.kp L.text.g L.text.b F.M.g F.D.edR F.D.edM okRd F.D.edB
    have OO : FnOk P w K mg base CX0 2 (He.ga K "_law_onward") (fdOf K (He.ga K "_law_onward")) ["_law_deal_here", "_law_spots", "_law_at"] (spOnw K) := okOnw L.onward.F GD L.draw.F.kp L.draw.g L.draw.b L.tInt T.tLen L.tMin
    have OW : FnOk P w K mg base CX0 3 (He.ga K "_law_drawn") (fdOf K (He.ga K "_law_drawn")) ["_law_deal_here", "_law_many"] (spToldDrawn K) := okToldDrawn L.drawn.F GP L.pick.F.kp L.pick.g L.pick.b GD L.draw.F.kp L.draw.g L.draw.b OO L.onward.F.kp L.onward.g L.onward.b T.tTuple F.D.enum
    have OE : FnOk P w K mg base CX0 1 (He.ga K "_law_end_of") (fdOf K (He.ga K "_law_end_of")) ["_law_goes", "_law_spot"] spEndOf := okEndOf L.endOf.F L.tRange
    have OG : FnOk P w K mg base CX0 2 (He.ga K "_law_gone") (fdOf K (He.ga K "_law_gone")) ["_law_told_here", "_law_mark"] (spGone K) := okGone L.gone.F OE L.endOf.F.kp L.endOf.g L.endOf.b L.tDict T.tTuple T.tStr F.E.N.sorted
    have ON : FnOk P w K mg base CX0 3 (He.ga K "_law_near") (fdOf K (He.ga K "_law_near")) ["_law_deal_here", "_law_told_here"] (spNear K) := okNear L.near.F GP L.pick.F.kp L.pick.g L.pick.b GD L.draw.F.kp L.draw.g L.draw.b OG L.gone.F.kp L.gone.g L.gone.b T.tTuple T.tList T.tLen
    have OC : FnOk P w K mg base CX0 1 (He.ga K "_law_chosen") (fdOf K (He.ga K "_law_chosen")) ["_law_chosen_here"] (spChosen K) := okChosen L.chosen.F T.tTuple F.E.N.sorted T.tStr
    have OS : FnOk P w K mg base CX0 2 (He.ga K "_law_stand") (fdOf K (He.ga K "_law_stand")) ["_law_told_here", "_law_some"] (spStand K) := okStand L.stand.F OC L.chosen.F.kp L.chosen.g L.chosen.b L.tDict L.tRange T.tLen L.tInt
    have OY : FnOk P w K mg base CX0 3 (He.ga K "_law_entry") (fdOf K (He.ga K "_law_entry")) ["_law_deal_here"] (spDEntry K) := okEntry L.entry.F GP L.pick.F.kp L.pick.g L.pick.b GD L.draw.F.kp L.draw.g L.draw.b
    have OX : FnOk P w K mg base CX0 3 (He.ga K "_law_next_entries") (fdOf K (He.ga K "_law_next_entries")) ["_law_told_here", "_law_some"] (spNextE K) := okNextE L.nextE.F OS L.stand.F.kp L.stand.g L.stand.b
    have OQ : FnOk P w K mg base CX0 4 (He.ga K "_law_written") (fdOf K (He.ga K "_law_written")) ["_law_deal_here", "_law_told_here", "_law_many"] (spWritten K) := okWritten L.written.F GP L.pick.F.kp L.pick.g L.pick.b OX L.nextE.F.kp L.nextE.g L.nextE.b L.tRange
    have OP : FnOk P w K mg base CX0 6 (plK K).fRp (plK K).dRp ["edition", "log"] (spReplay K (paK K) (plK K)) := L.P.okReplay
    have OZ : FnG P w K mg base CX0 1 (He.ga K "_law_told") (fdOf K (He.ga K "_law_told")) ["_law_played"] (spToldP K (plK K)) := L.okTold
    have eStr : FnOk P w K mg base CX0 1 (paK K).gStr (paK K).hStr ["self"] (spEdStr (paK K).b.cEd) := F.M.okStr T
    refine ⟨_, pss_cons (ps_set (i := 1) scLaw.nd rfl (Or.inl rfl) (pe_call OD hr1 rfl L.deal.g L.deal.F.kp L.deal.b .nil pass0 (pa_cons (pv 0) (pa_cons pe_int pa_nil))))
      (pss_cons (ps_set (i := 2) scLaw.nd rfl (Or.inl rfl) (pe_lst pa_nil))
      (pss_cons (ps_for PassesOwn.never rfl (pi_range1 rfl L.tRange (pa_cons pe_int pa_nil)) (pg_name (i := 3) scLaw.nd rfl (Or.inl rfl))
        (pss_cons (ps_set (i := 4) scLaw.nd rfl (Or.inl rfl) (pe_call OW hr3 rfl L.drawn.g L.drawn.F.kp L.drawn.b .nil pass0 (pa_cons (pv 1) (pa_cons (pe_op op_add pe_int (pe_call GD hr1 rfl L.draw.g L.draw.F.kp L.draw.b .nil pass0 (pa_cons (pv 1) (pa_cons pe_int pa_nil)))) pa_nil))))
        (pss_cons (ps_set (i := 5) scLaw.nd rfl (Or.inl rfl) (pe_call ON hr3 rfl L.near.g L.near.F.kp L.near.b .nil pass0 (pa_cons (pv 1) (pa_cons (pe_call ON hr3 rfl L.near.g L.near.F.kp L.near.b .nil pass0 (pa_cons (pv 1) (pa_cons (pv 4) pa_nil))) pa_nil))))
        (pss_one (ps_for PassesOwn.never rfl (pi_tup (pe_tup (pa_cons (pv 4) (pa_cons (pv 5) pa_nil)))) (pg_name (i := 6) scLaw.nd rfl (Or.inl rfl))
          (pss_cons (ps_set (i := 7) scLaw.nd rfl (Or.inl rfl) (pe_call OM hr rfl L.made.g L.made.F.kp L.made.b .nil pass0 (pa_cons (pv 6) pa_nil)))
          (pss_cons (ps_set (i := 8) scLaw.nd rfl (Or.inl rfl) (pe_call GP hr2 rfl L.pick.g L.pick.F.kp L.pick.b .nil pass0 (pa_cons (pv 1) (pa_cons (pe_lst (pa_cons (pv 4) (pa_cons (pv 5) (pa_cons (pv 5) pa_nil)))) pa_nil))))
          (pss_cons (ps_set (i := 9) scLaw.nd rfl (Or.inl rfl) (pe_call OQ hr4 rfl L.written.g L.written.F.kp L.written.b .nil pass0 (pa_cons (pv 1) (pa_cons (pv 8) (pa_cons (pe_call GP hr2 rfl L.pick.g L.pick.F.kp L.pick.b .nil pass0 (pa_cons (pv 1) (pa_cons (pe_lst (pa_cons pe_int (pa_cons pe_int (pa_cons pe_int (pa_cons pe_int pa_nil))))) pa_nil))) pa_nil)))))
          (pss_cons (ps_if (pt_cmpR op_eq (pe_call GD hr1 rfl L.draw.g L.draw.F.kp L.draw.b .nil pass0 (pa_cons (pv 1) (pa_cons pe_int pa_nil))) pe_int (nomark _))
            (pss_cons (ps_set (i := 10) scLaw.nd rfl (Or.inl rfl) (pe_call GD hr1 rfl L.draw.g L.draw.F.kp L.draw.b .nil pass0 (pa_cons (pv 1) (pa_cons (pe_op op_add (pe_callB call_len_seq (by rfl) T.tLen PySem.boot_len (pa_cons (pv 9) pa_nil)) pe_int) pa_nil))))
            (pss_cons (ps_set (i := 11) scLaw.nd rfl (Or.inl rfl) (pe_slice sl_list (pv 9) (po_some (pe_op op_fdiv (pe_callB call_len_seq (by rfl) T.tLen PySem.boot_len (pa_cons (pv 9) pa_nil)) pe_int)) po_none))
            (pss_one (ps_set (i := 9) scLaw.nd rfl (Or.inl rfl) (pe_slice sl_list (pe_op op_cat (pe_op op_cat (pe_slice sl_list (pv 9) po_none (po_some (pv 10))) (pe_lst (pa_cons (pe_call OY hr3 rfl L.entry.g L.entry.F.kp L.entry.b .nil pass0 (pa_cons (pv 1) pa_nil)) pa_nil))) (pv 11)) po_none (po_some pe_int))))))
            pss_nil)
          (pss_cons (ps_par (i := 12) (j := 13) (by rfl) scLaw.nd rfl rfl (by decide) rfl rfl (pa_cons (pe_callB (call_repr hg hu) (by rfl) L.tRepr (by decide +kernel) (pa_cons (pe_call OS hr2 rfl L.stand.g L.stand.F.kp L.stand.b .nil pass0 (pa_cons (pv 6) (pa_cons (pv 9) pa_nil))) pa_nil)) (pa_cons (pe_callTy call_list_of (by rfl) T.tList PyProof.Rows.boot_list (pa_cons (pv 9) pa_nil)) pa_nil)) (by rfl))
          (pss_cons (ps_if (PW.pt (pw_or (pt_cmpR op_ne (pe_callG OZ hr1 hg rfl L.told.g L.told.F.kp L.told.b pass0 (pa_cons (pe_call OP hr6 rfl L.P.rep.g L.P.rep.F.kp L.P.rep.b .nil pass0 (pa_cons (pv 7) (pa_cons (pv 13) pa_nil))) pa_nil)) (pv 12) (nomark _)) (pw_or1 (pt_cmpR (op_neD hu) (pv 13) (pv 9) (nomark _))))) (pss_one (ps_ret pe_bl)) pss_nil)
          (pss_cons (ps_if (pt_cmpR op_ne (pe_callTy (call_strOwn eStr hr3 L.X.strI F.M.strB pass0) (by rfl) T.tStr PyProof.Rows.boot_str (pa_cons (pv 7) pa_nil)) (pe_call OT hr2 rfl L.text.g L.text.F.kp L.text.b .nil pass0 (pa_cons (pv 6) pa_nil)) (nomark _)) (pss_one (ps_ret pe_bl)) pss_nil)
          (pss_one (ps_expr (pe_bm PySem.F.plainAttrs_list PySem.F.slot_list_append PySem.F.type_list_append mt_append (pv 2) (pa_cons (pe_tup (pa_cons (pv 7) (pa_cons (pe_callTy call_tuple_of (by rfl) T.tTuple PyProof.Rows.boot_tuple (pa_cons (pv 9) pa_nil)) (pa_cons (pv 12) pa_nil)))) pa_nil))))))))))))))))
      (pss_cons (ps_for PassesOwn.never rfl (pi_list (pv 2)) (pg_tup rfl (pgs_cons (pg_name (i := 7) scLaw.nd rfl (.inl rfl)) (pgs_cons (pg_name (i := 9) scLaw.nd rfl (.inl rfl)) (pgs_cons (pg_name (i := 12) scLaw.nd rfl (.inl rfl)) pgs_nil))))
        (pss_one (ps_if (pt_cmpR op_ne (pe_callG OZ hr1 hg rfl L.told.g L.told.F.kp L.told.b pass0 (pa_cons (pe_call OP hr6 rfl L.P.rep.g L.P.rep.F.kp L.P.rep.b .nil pass0 (pa_cons (pv 7) (pa_cons (pv 9) pa_nil))) pa_nil)) (pv 12) (nomark _)) (pss_one (ps_ret pe_bl)) pss_nil)))
      (pss_one (ps_ret pe_bl))))), ?_⟩
    refine seq_cut (fun σ1 H1 => ∃ (G1 : Hp) (d l : Addr), σ1 = [some (.ref sa), some (.ref d), none, none, none, none, none, none, none, none, none, none, none, none] ∧ Deal G1 H1 d l) ?_ fun after => ⟨_, rfl, sa, ns, 0, rfl, hS, hlen, by decide, by decide, fun H0 d l D0 => after _ _ ⟨_, d, l, rfl, D0⟩⟩
    rintro _ H1 ⟨G1, d, l, rfl, D1⟩
    let Pv : Addr → Nat → L2.St → Hp → Prop := fun kd i σ1 H2 => ∃ (G2 : Hp) (xs : List V) (V11 : Option V), ∃ v3 v4 v5 v6 v7 v8 v9 v10 v11 v12 v13 : Option V, σ1 = [some (.ref sa), some (.ref d), some (.ref kd), v3, v4, v5, v6, v7, v8, v9, v10, v11, v12, v13] ∧ Deal G2 H2 d l ∧ G2 kd = some (.lst xs) ∧ (∀ x ∈ xs, Kp K G2 x) ∧ xs.length ≤ i
    refine seq_cut (fun σ1 H2 => ∃ kd, Pv kd 0 σ1 H2) ?_ fun after => ⟨by show 0 ≤ sizeLine; decide, fun kd u => ?_⟩
    rotate_left
    · obtain ⟨G2, H2, e2, D2, h2, k2, _⟩ := D1.lay u (.lst [])
      rw [← e2]
      exact after _ _ ⟨kd, G2, [], none, _, _, _, _, _, _, _, _, _, _, _, rfl, D2, h2, fun x hx => (by cases hx), Nat.le_refl _⟩
    rintro _ H2 ⟨kd, hPv0⟩
    refine seq_cut (Pv kd 8) ?_ fun after => ?_
    · rintro _ H3 ⟨G3, xs, _, v3, v4, v5, v6, v7, v8, v9, v10, v11, v12, v13, rfl, D3, hk, hkp, few⟩
      refine seq_cut (fun σ1 H4 => True) ?_ fun after => ?_
      · rintro _ H4 _
        exact fin H4
      · refine ⟨_, rfl, kd, rfl, ⟨xs, SqL.of (D3.same _ _ hk)⟩, ?_⟩
        refine for_list (K := K) (a := kd) (xs := xs) (fun j σ1 H4 => ∃ v3 v4 v5 v6 v7 v8 v9 v10 v11 v12 v13 : Option V, σ1 = [some (.ref sa), some (.ref d), some (.ref kd), v3, v4, v5, v6, v7, v8, v9, v10, v11, v12, v13] ∧ Same G3 H4) ⟨_, _, _, _, _, _, _, _, _, _, _, rfl, D3.same⟩ (fun j σ1 H4 _ ⟨_, _, _, _, _, _, _, _, _, _, _, _, k⟩ => SqL.of (k _ _ hk)) ?_ (fun σ1 H4 _ => after σ1 H4 trivial)
        rintro j x _ H4 hj ⟨v3, v4, v5, v6, v7, v8, v9, v10, v11, v12, v13, rfl, k4⟩
        obtain ⟨t, lp, ev, ys, rs, dz, es, rfl, h1, h2, h3, h4, h5, h6⟩ := (hkp x (List.mem_of_getElem? hj)).ex
        refine ⟨t, _, rfl, same_tup k4 h1, rfl, _, _, rfl, _, _, rfl, _, _, rfl, rfl, ?_⟩
        refine ⟨_, rfl, _, rfl, ev, .ref lp, rs, dz, es, rfl, h2.same k4, ⟨h5, lp, ys, rfl, .inr (same_tup k4 h3), dpAll_same k4 _ _ h4⟩, fun H5 v s5 pl => ⟨v, _, rfl, pl, h6, fun H6 s6 => ⟨_, rfl, rfl, _, rfl, iteNS rfl ?_⟩⟩⟩
        exact ⟨_, _, _, _, _, _, _, _, _, _, _, rfl, k4.trans (s5.trans s6)⟩
    · refine ⟨_, rfl, by omega, by omega, for_range (lo := 0) (fun i => Pv kd (2 * i)) hPv0 ?_ ?_⟩
      · rintro i _ H3 hi ⟨G3, xs, _, v3, v4, v5, v6, v7, v8, v9, v10, v11, v12, v13, rfl, D3, hk, hkp, few⟩
        have hi : i < 4 := by omega
        refine seq_cut (fun σ1 H4 => ∃ (G4 : Hp) (w1 : V) (rs1 : List Row0), σ1 = [some (.ref sa), some (.ref d), some (.ref kd), some (.int (0 + (i : Nat))), some w1, v5, v6, v7, v8, v9, v10, v11, v12, v13] ∧ Same G3 G4 ∧ Deal G4 H4 d l ∧ ToldN K G3 G4 w1 rs1 [] ∧ Gk rs1 []) ?_ fun after => ?_
        · rintro _ H4 ⟨G4, w1, rs1, rfl, k4, D4, T1, K1⟩
          refine seq_cut (fun σ1 H5 => ∃ (G5 : Hp) (w2 : V) (rs2 : List Row0) (ps2 : List Str), σ1 = [some (.ref sa), some (.ref d), some (.ref kd), some (.int (0 + (i : Nat))), some w1, some w2, v6, v7, v8, v9, v10, v11, v12, v13] ∧ Same G4 G5 ∧ Deal G5 H5 d l ∧ ToldN K G4 G5 w2 rs2 ps2 ∧ Gk rs2 ps2) ?_ fun after => ⟨_, rfl, _, rfl, _, rfl, G4, d, l, w1, rs1, [], rfl, D4, T1.told, K1, fun G5 H5 w2 rs2 ps2 s5 D5 T5 K5 => ⟨G5, d, l, w2, rs2, ps2, rfl, D5, T5.told, K5, fun G6 H6 w3 rs3 ps3 s6 D6 T6 K6 => after _ _ ⟨G6, w3, rs3, ps3, rfl, s5.trans s6, D6, ?_, K6⟩⟩⟩
          rotate_left
          · obtain ⟨q, lp, tp, xs, e, h1, h2, h3, h4, n1, n2⟩ := T6.ex
            exact ⟨⟨q, lp, tp, xs, e, h1, h2, h3, h4, s5.free n1, s5.free n2⟩, T6.good, T6.few, T6.names, T6.fewp⟩
          rintro _ H5 ⟨G5, w2, rs2, ps2, rfl, k5, D5, T2, K2'⟩
          have hk4 := k4 _ _ hk
          have hk5 := k5 _ _ hk4
          refine ⟨_, rfl, _, rfl, by show 2 ≤ sizeLine; decide, fun tt ut => ?_⟩
          obtain ⟨G6, H6, e6, D6, h6, k6, _⟩ := D5.lay ut (.tup [w1, w2])
          rw [← e6]
          have hk6 := k6 _ _ hk5
          have ToldA : Told K (Lw.hide kd G6) w1 rs1 [] := by
            have z := T1.hide hk hk4
            refine z.same fun b o e => ?_
            have nb : b ≠ kd := fun y => by rw [y, hide_same] at e; cases e
            rw [hide_ne nb] at e ⊢
            exact k6 _ _ (k5 _ _ e)
          have ToldB : Told K (Lw.hide kd G6) w2 rs2 ps2 := by
            have z := T2.hide hk4 hk5
            refine z.same fun b o e => ?_
            have nb : b ≠ kd := fun y => by rw [y, hide_same] at e; cases e
            rw [hide_ne nb] at e ⊢
            exact k6 _ _ e
          have tnk : tt ≠ kd := fun y => by rw [y, D5.same _ _ hk5] at ut; cases ut
          have htt : (Lw.hide kd G6) tt = some (.tup [w1, w2]) := by rw [hide_ne tnk]; exact h6
          have hkp6 : ∀ x ∈ xs, Kp K G6 x := fun x hx => (hkp x hx).same (k4.trans (k5.trans k6))
          have kH : Same (Lw.hide kd G6) G6 := fun b o e => by
            have nb : b ≠ kd := fun z => by rw [z, hide_same] at e; cases e
            rw [hide_ne nb] at e
            exact e
          have nk : (Lw.hide kd G6) kd = none := hide_same
          generalize Lw.hide kd G6 = G0 at ToldA ToldB htt kH nk
          clear hkp T1 T2 hk hk4 hk5
          refine ⟨tt, rfl, ⟨_, SqT.of (D6.same _ _ h6)⟩, ?_⟩
          refine for_tup (K := K) (a := tt) (xs := [w1, w2]) (fun j σ1 H7 => ∃ (G7 : Hp) (xs7 : List V), ∃ v6 v7 v8 v9 v10 v11 v12 v13 : Option V, σ1 = [some (.ref sa), some (.ref d), some (.ref kd), some (.int (0 + (i : Nat))), some w1, some w2, v6, v7, v8, v9, v10, v11, v12, v13] ∧ Same G0 G7 ∧ Deal G7 H7 d l ∧ G7 kd = some (.lst xs7) ∧ (∀ x ∈ xs7, Kp K G7 x) ∧ xs7.length ≤ 2 * i + j)
            ⟨G6, xs, _, _, _, _, _, _, _, _, rfl, kH, D6, hk6, hkp6, few⟩ (fun j σ1 H7 _ ⟨G7, _, _, _, _, _, _, _, _, _, _, k7, D7, _⟩ => SqT.of (D7.same _ _ (k7 _ _ htt))) ?_ ?_
          · rintro j x _ H7 hj ⟨G7, xs7, v6, v7, v8, v9, v10, v11, v12, v13, rfl, k7, D7, hk7, hkp7, few7⟩
            obtain ⟨rs, ps, hT, hG⟩ : ∃ rs ps, Told K G0 x rs ps ∧ Gk rs ps := by
              match j, hj with
              | 0, hj => cases hj; exact ⟨rs1, [], ToldA, K1⟩
              | 1, hj => cases hj; exact ⟨rs2, ps2, ToldB, K2'⟩
              | j + 2, hj => simp at hj
            have hT7 := hT.same k7
            refine seq_cut (fun σ1 H8 => ∃ (G8 : Hp) (ev : V) (dz : List Str), σ1 = [some (.ref sa), some (.ref d), some (.ref kd), some (.int (0 + (i : Nat))), some w1, some w2, some x, some ev, v8, v9, v10, v11, v12, v13] ∧ Same G7 G8 ∧ Deal G8 H8 d l ∧ EdOk K (paK K).a (paK K).b G8 ev rs dz ∧ dz.Perm ps ∧ PyProof.Rows.sortedS dz = true) ?_ fun after => ?_
            rotate_left
            · refine ⟨_, rfl, x, rs, ps, rfl, hT7.same D7.same, hG.gd.ne, fun dz pz => ?_, fun H8 ea dx fs xs8 dz s8 h8 hE hR pz sz => ?_⟩
              · exact (gd_perm hG.gd pz).ok
              · have W := (D7.on s8).wide
                have gdz := gd_perm hG.gd pz
                have rr := right_of (d := dropsD dz) hG.gd.good (by have := hG.few; omega) gdz.ok
                have nz : ∀ z ∈ dz, nameOk z = true := fun z hz => marks_names z (gdz.four z hz)
                have few4 : dz.length ≤ 60 := Nat.le_trans (nodup_le (m := (["m", "n", "mark", "k"] : List Str)) gdz.ndp gdz.four) (by decide)
                have eo : EdOk K (paK K).a (paK K).b H8 (.ref ea) rs dz := ⟨⟨ea, dx, fs, xs8, rfl, h8, hE, hR⟩, rr.1, by have := rr.2; rw [drops_of] at this; exact this, nz, few4⟩
                exact after _ _ ⟨_, .ref ea, dz, rfl, plus_left, W, (eo.hardT).same (plus_right (D7.on s8).same), pz, sz⟩
            rintro _ H8 ⟨G8, ev, dz, rfl, k8, D8, hev, pz, sz⟩
            have hk8 := k8 _ _ hk7
            refine seq_cut (fun σ1 H9 => ∃ (G9 : Hp) (wr : V) (rsw : List Row0) (psw : List Str), σ1 = [some (.ref sa), some (.ref d), some (.ref kd), some (.int (0 + (i : Nat))), some w1, some w2, some x, some ev, some wr, v9, v10, v11, v12, v13] ∧ Same G8 G9 ∧ Deal G9 H9 d l ∧ Told K G0 wr rsw psw ∧ Gk rsw psw) ?_ fun after => ⟨_, rfl, _, rfl, _, rfl, _, rfl, by show 3 ≤ sizeLine; decide, fun p1 u1 => ?_⟩
            rotate_left
            · obtain ⟨G9, H9, e9, D9, h9, k9, _⟩ := D8.lay u1 (.lst [w1, w2, w2])
              rw [← e9]
              refine ⟨G9, d, l, p1, _, rfl, D9, SqL.of h9, by simp, by show 3 < 1000; decide, fun H10 wr D10 hwr => ?_⟩
              simp only [List.mem_cons, List.not_mem_nil, or_false] at hwr
              rcases hwr with rfl | rfl | rfl
              · exact after _ _ ⟨G9, _, rs1, [], rfl, k9, D10, ToldA, K1⟩
              · exact after _ _ ⟨G9, _, rs2, ps2, rfl, k9, D10, ToldB, K2'⟩
              · exact after _ _ ⟨G9, _, rs2, ps2, rfl, k9, D10, ToldB, K2'⟩
            rintro _ H9 ⟨Gw, wr, rsw, psw, rfl, kw, Dw, hTw, hGw⟩
            refine seq_cut (fun σ1 H9 => ∃ (G9 : Hp) (L : Addr) (ys : List V) (es : List (List Str)) (v8 v10 v11 : Option V), σ1 = [some (.ref sa), some (.ref d), some (.ref kd), some (.int (0 + (i : Nat))), some w1, some w2, some x, some ev, v8, some (.ref L), v10, v11, v12, v13] ∧ Same G8 G9 ∧ Deal G9 H9 d l ∧ G9 L = some (.lst ys) ∧ DpAll K G9 ys (es.map entD) ∧ (∀ e ∈ es, EntOk e) ∧ es.length ≤ 30 ∧ L ≠ kd) ?_ fun after => ⟨_, rfl, _, rfl, _, rfl, by show 4 ≤ sizeLine; decide, fun p2 u2 => ?_⟩
            rotate_left
            · obtain ⟨Gx, Hx, ex, Dx, hx2, kx, _⟩ := Dw.lay u2 (.lst [.int 0, .int 3, .int 8, .int 30])
              rw [← ex]
              refine ⟨Gx, d, l, p2, _, rfl, Dx, SqL.of hx2, by simp, by show 4 < 1000; decide, fun Hy m Dy hm => ?_⟩
              have small : ∃ m' : Nat, m = .int (m' : Int) ∧ m' ≤ 30 := by
                simp only [List.mem_cons, List.not_mem_nil, or_false] at hm
                rcases hm with rfl | rfl | rfl | rfl
                · exact ⟨0, rfl, by decide⟩
                · exact ⟨3, rfl, by decide⟩
                · exact ⟨8, rfl, by decide⟩
                · exact ⟨30, rfl, by decide⟩
              obtain ⟨m', rfl, m30⟩ := small
              have kw' := kw.trans kx
              refine ⟨Gx, d, l, wr, rsw, psw, m', rfl, Dy, hTw.same (k7.trans (k8.trans kw')), hGw, by omega, fun Gz Hz L ys es sz' Dz nL hL hys hes el _ => ?_⟩
              have nk2 : L ≠ kd := fun e => by
                have := kw' _ _ hk8
                rw [e, this] at nL
                cases nL
              exact after _ _ ⟨Gz, L, ys, es, _, _, _, rfl, kw'.trans sz', Dz, hL, hys, hes, by omega, nk2⟩
            rintro _ H9 ⟨G9, L, ys, es, v8', v10', v11', rfl, k9, D9, hL, hys, hes, el, nL⟩
            refine seq_cut (fun σ1 H9 => ∃ (G9 : Hp) (L : Addr) (ys : List V) (es : List (List Str)) (v8 v10 v11 : Option V), σ1 = [some (.ref sa), some (.ref d), some (.ref kd), some (.int (0 + (i : Nat))), some w1, some w2, some x, some ev, v8, some (.ref L), v10, v11, v12, v13] ∧ Same G8 G9 ∧ Deal G9 H9 d l ∧ G9 L = some (.lst ys) ∧ DpAll K G9 ys (es.map entD) ∧ (∀ e ∈ es, EntOk e) ∧ es.length ≤ 30 ∧ L ≠ kd) ?_ fun after => ?_
            rotate_left
            · refine ⟨_, rfl, G9, d, l, 3, rfl, D9, by decide, by decide, fun Ha r Da _ _ => ⟨rfl, _, rfl, ?_⟩⟩
              refine ite2 (fun _ => ?_) fun _ => after _ _ ⟨G9, L, ys, es, _, _, _, rfl, k9, Da, hL, hys, hes, el, nL⟩
              have yl : ys.length = es.length := by rw [dpAll_len hys, List.length_map]
              refine ⟨_, rfl, _, rfl, L, ys, rfl, .inl (SqL.of (Da.same _ _ hL)), _, _, rfl, rfl, G9, d, l, _, rfl, Da, by omega, by omega, fun Hb m Db m0 m1 => ?_⟩
              obtain ⟨m, rfl⟩ : ∃ n : Nat, m = (n : Nat) := ⟨m.toNat, by omega⟩
              refine ⟨_, rfl, _, rfl, L, ys, rfl, .inl (SqL.of (Db.same _ _ hL)), _, _, rfl, rfl, ⟨by decide, by decide⟩, _, rfl, L, ys, rfl, SqL.of (Db.same _ _ hL), fun hf uf => ?_⟩
              rw [show cutV ys (some ((ys.length : Int) / 2)) none = ys.drop (ys.length / 2) from cutD (ys := ys) (ys.length / 2)]
              obtain ⟨Gc, Hc, ec, Dc, hc, kc, _⟩ := Db.lay uf (.lst (ys.drop (ys.length / 2)))
              rw [← ec]
              refine ⟨_, rfl, _, rfl, _, rfl, L, ys, rfl, SqL.of (Dc.same _ _ (kc _ _ hL)), fun c1 u1 => ?_⟩
              rw [show cutV ys none (some (m : Int)) = ys.take m from cutT m (by omega)]
              obtain ⟨Gd, Hd, ed, Dd, hd, kd1, _⟩ := Dc.lay u1 (.lst (ys.take m))
              rw [← ed]
              refine ⟨_, rfl, Gd, d, l, rfl, Dd, fun Ge He t e se De hte oe => ⟨by show 1 ≤ sizeLine; decide, fun c2 u2 => ?_⟩⟩
              obtain ⟨Gf, Hf, ef, Df, hf2, kf, _⟩ := De.lay u2 (.lst [.ref t])
              rw [← ef]
              have kdf := se.trans kf
              refine ⟨c1, c2, _, _, rfl, rfl, Df.same _ _ (kdf _ _ hd), Df.same _ _ hf2, Nat.le_trans (show _ ≤ 100 by rw [List.length_take, List.length_singleton]; omega) (by decide), fun c3 u3 => ?_⟩
              obtain ⟨Gg, Hg, eg, Dg, hg3, kg, _⟩ := Df.lay u3 (.lst (ys.take m ++ [.ref t]))
              rw [← eg]
              have kcg := kd1.trans (kdf.trans kg)
              refine ⟨_, rfl, c3, hf, _, _, rfl, rfl, Dg.same _ _ hg3, Dg.same _ _ (kcg _ _ hc), Nat.le_trans (show _ ≤ 200 by rw [List.length_append, List.length_take, List.length_drop, List.length_singleton]; omega) (by decide), fun c4 u4 => ?_⟩
              obtain ⟨Gh, Hh, eh, Dh, hh, kh, _⟩ := Dg.lay u4 (.lst (ys.take m ++ [.ref t] ++ ys.drop (ys.length / 2)))
              rw [← eh]
              refine ⟨_, rfl, c4, _, rfl, SqL.of (Dh.same _ _ hh), fun c5 u5 => ?_⟩
              rw [cut30]
              obtain ⟨Gi, Hi, ei, Di, hi2, ki, _⟩ := Dh.lay u5 (.lst ((ys.take m ++ [V.ref t] ++ ys.drop (ys.length / 2)).take (min 30 (ys.take m ++ [V.ref t] ++ ys.drop (ys.length / 2)).length)))
              rw [← ei]
              have k9i := kc.trans (kcg.trans (kh.trans ki))
              have hyi := dpAll_same k9i _ _ hys
              have nk5 : c5 ≠ kd := fun y => by
                have z := ((k9.trans (kc.trans (kcg.trans kh))).trans Dh.same) _ _ hk8
                rw [y, z] at u5
                cases u5
              refine after _ _ ⟨Gi, c5, _, (es.take m ++ [e] ++ es.drop (ys.length / 2)).take (min 30 (ys.take m ++ [V.ref t] ++ ys.drop (ys.length / 2)).length), _, _, _, rfl, k9.trans k9i, Di, hi2, ?_, fun y hy => ?_, ?_, nk5⟩
              · rw [List.map_take, List.map_append, List.map_append, List.map_take, List.map_drop]
                exact dpAll_take _ (dpAll_app (dpAll_app (dpAll_take m hyi) (.cons (.tup (same_tup (kf.trans (kg.trans (kh.trans ki))) hte) (strs_dp e)) .nil)) (dpAll_drop _ hyi))
              · have hy := List.mem_of_mem_take hy
                rcases List.mem_append.mp hy with hy | hy
                · rcases List.mem_append.mp hy with hy | hy
                  · exact hes y (List.mem_of_mem_take hy)
                  · rw [List.mem_singleton.mp hy]
                    exact oe
                · exact hes y (List.mem_of_mem_drop hy)
              · rw [List.length_take]
                omega
            rintro _ H9 ⟨G9, L, ys, es, v8', v10', v11', rfl, k9, D9, hL, hys, hes, el, nL⟩
            have hdz : ∀ z, z ∈ dz ↔ z ∈ ps := fun z => pz.mem_iff
            have R := hG.plays hdz (es := es) (by omega)
            have okp := hG.told hdz (es := es) (by omega)
            obtain ⟨p1, p2, p3, p4⟩ := play_shown okp
            have hL0 : LogOk es := ⟨by omega, hes⟩
            have k79 := k8.trans k9
            have hev9 := hev.same k9
            refine seq_cut (fun σ1 H10 => ∃ (Gb : Hp) (g : Addr), σ1 = [some (.ref sa), some (.ref d), some (.ref kd), some (.int (0 + (i : Nat))), some w1, some w2, some x, some ev, v8', some (.ref L), v10', v11', some (.str (playD (playF rs dz es)).shown), some (.ref g)] ∧ Same G9 Gb ∧ Deal Gb H10 d l ∧ Gb g = some (.lst ys)) ?_ fun after => ⟨_, rfl, _, rfl, x, rs, ps, L, ys, es, rfl, (hT.same (k7.trans k79)).same D9.same, hG, SqL.of (D9.same _ _ hL), dpAll_same D9.same _ _ hys, hes, by omega, fun Ha t wv dz2 sa2 ht hw pm so => ?_⟩
            rotate_left
            · have Da := D9.on sa2
              have dpl : Dp K Ha (.ref t) (playD (playF rs dz es)) := by
                rw [told_ways R.nd R.ways R.so pm so] at hw
                rw [R.spot, R.said, R.stuck] at ht
                exact .tup ht (.cons (.str _) (.cons hw (.cons (dp_optV _) (.cons (dp_optI2 _) .nil))))
              refine ⟨.ref t, _, rfl, dpl, p1, p2, p3, p4, _, rfl, L, ys, rfl, .inl (SqL.of (Da.same _ _ hL)), fun g ug => ?_⟩
              obtain ⟨Gb, Hb, eb, Db, hb, kb, _⟩ := Da.lay ug (.lst ys)
              rw [← eb]
              exact ⟨_, _, rfl, after _ _ ⟨Gb, g, rfl, kb, Db, hb⟩⟩
            rintro _ Hb ⟨Gb, g, rfl, kb, Db, hb⟩
            have hyb := dpAll_same kb _ _ hys
            refine seq_cut (fun σ1 H10 => σ1 = [some (.ref sa), some (.ref d), some (.ref kd), some (.int (0 + (i : Nat))), some w1, some w2, some x, some ev, v8', some (.ref L), v10', v11', some (.str (playD (playF rs dz es)).shown), some (.ref g)] ∧ Same Hb H10) ?_ fun after => ?_
            rotate_left
            · refine ⟨_, rfl, _, rfl, ev, .ref g, rs, dz, es, rfl, (hev9.same kb).same Db.same, ⟨hL0, g, ys, rfl, .inl (SqL.of (Db.same _ _ hb)), dpAll_same Db.same _ _ hyb⟩, fun Hc v sc pl => ⟨v, _, rfl, pl, okp, fun Hd sd => ⟨_, rfl, rfl, _, rfl, iteNS rfl ?_⟩⟩⟩
              have sbd := sc.trans sd
              refine ⟨_, rfl, _, rfl, .list (es.map entD), .list (es.map entD), .lst (SqL.of (sbd _ _ (Db.same _ _ hb))) (dpAll_same (Db.same.trans sbd) _ _ hyb), .lst (SqL.of (sbd _ _ (Db.same _ _ (kb _ _ hL)))) (dpAll_same (Db.same.trans sbd) _ _ hyb), ents_shape hes, ents_shape hes, _, rfl, ?_⟩
              rw [eqvSelf _ (by rw [fine, (log_fine hL0).1, Bool.and_true]; exact decide_eq_true (log_fine hL0).2)]
              exact iteF (after _ _ ⟨rfl, sbd⟩)
            rintro _ H10 ⟨rfl, s10⟩
            have Db10 := Db.on s10
            have jl : j < 2 := (List.getElem?_eq_some_iff.mp hj).1
            have hevb := hev9.same kb
            obtain ⟨ea, edx, efs, exs, rfl, g1, g2, g3⟩ := hevb.ex
            refine seq_cut (fun σ1 H11 => σ1 = [some (.ref sa), some (.ref d), some (.ref kd), some (.int (0 + (i : Nat))), some w1, some w2, some x, some (.ref ea), v8', some (.ref L), v10', v11', some (.str (playD (playF rs dz es)).shown), some (.ref g)] ∧ Same H10 H11) ?_ fun after => ?_
            rotate_left
            · obtain ⟨td, dq, t1, t2, t3, t4⟩ := g2.drops
              refine ⟨_, rfl, ea, _, edx, efs, rfl, Db10.same _ _ g1, LX.strAt, ea, edx, efs, _, rfl, Db10.same _ _ g1, t4, _, rfl, ?_⟩
              refine ⟨_, rfl, x, rs, ps, rfl, (hT.same (k7.trans (k79.trans kb))).same Db10.same, fun H11 dz3 s11 pz3 sz3 => ⟨rfl, _, rfl, ?_⟩⟩
              have eqz : dq = dz3 := sorted_eq (sorted_pair t3.1) (sorted_pair sz3) t3.2.1 (pz3.nodup_iff.mpr hG.gd.ndp) fun k => by
                rw [t3.2.2, drops_of, pz.mem_iff, pz3.mem_iff]
              rw [eqz]
              exact iteNS rfl (after _ _ ⟨rfl, s11⟩)
            rintro _ H11 ⟨rfl, s11⟩
            have D11 := Db10.on s11
            have hkb := (k79.trans kb) _ _ hk7
            refine ⟨_, rfl, .inl ⟨rfl, _, SqL.of (D11.same _ _ hkb)⟩, _, rfl, _, rfl, L, ys, rfl, .inl ⟨SqL.of (D11.same _ _ (kb _ _ hL)), fun lt ult => ?_⟩⟩
            obtain ⟨Gm, Hm, em, Dm, hm, km, _⟩ := D11.lay ult (.tup ys)
            rw [← em]
            refine ⟨_, rfl, by show 3 ≤ sizeLine; decide, fun it uit => ?_⟩
            obtain ⟨Gn, Hn, en, Dn, hn, kn, _⟩ := Dm.lay uit (.tup [.ref ea, .ref lt, .str (playD (playF rs dz es)).shown])
            rw [← en]
            have kmn := km.trans kn
            have hkn := kmn _ _ hkb
            have kall := k79.trans (kb.trans kmn)
            have nw : Kp K Gn (.ref it) := ⟨⟨it, lt, .ref ea, ys, rs, dz, es, rfl, SqT.of hn, hevb.same kmn, SqT.of (kn _ _ hm), dpAll_same kmn _ _ hyb, hL0, okp⟩⟩
            refine ⟨kd, xs7, .ref it, rfl, rfl, Dn.same _ _ hkn, Nat.lt_of_le_of_lt (show _ ≤ 100 by omega) (by decide), upd Gn kd (.lst (xs7 ++ [.ref it])), xs7 ++ [.ref it], _, _, _, _, _, _, _, _, rfl, same_edit (k7.trans kall) nk, Dn.edit hkn, upd_same, fun y hy => ?_, by rw [List.length_append, List.length_singleton]; omega⟩
            rcases List.mem_append.mp hy with hy | hy
            · exact (((hkp7 y hy).same kall).hardT).same (hard_upd hkn)
            · rw [List.mem_singleton.mp hy]
              exact nw.hardT.same (hard_upd hkn)
          · rintro _ H7 ⟨G7, xs7, v6, v7, v8, v9, v10, v11, v12, v13, rfl, k7, D7, hk7, hkp7, few7⟩
            exact ⟨G7, xs7, none, _, _, _, _, _, _, _, _, _, _, _, rfl, D7, hk7, hkp7, by
              have : ([w1, w2] : List V).length = 2 := rfl
              omega⟩
        · refine ⟨_, rfl, _, rfl, G3, d, l, 6, rfl, D3, by decide, by decide, fun H4 r D4 r0 r1 => ?_⟩
          obtain ⟨r, rfl⟩ : ∃ n : Nat, r = (n : Nat) := ⟨r.toNat, by omega⟩
          exact ⟨_, _, rfl, rfl, G3, d, l, 3 + r, by rw [Int.natCast_add]; rfl, D4, by omega, by omega, fun G5 H5 w1 rs1 s5 D5 T5 hGs _ few8 => after _ _ ⟨G5, w1, rs1, rfl, s5, D5, T5, hGs.gk few8⟩⟩
      · rintro _ H3 h
        exact after _ _ h
end
end K2

set_option Elab.async false
set_option linter.all false
set_option maxRecDepth 100000
set_option maxHeartbeats 0
namespace K2
open PySem PySem.Spec PyProof.Rows L2 Lw TL SxT Hd
section
variable {K : PySem.W.Frag} {h : Heap} {mg : PySem.Str → Option Value}
theorem facts {P : Program} {w : World} {f : Addr} (X : K.In h) (G : h.Ns mainGlobals mg) (hfa : mg ("law" : PySem.Str) = some (.ref f)) (c : He5.SaysA fasA fnsA K) (ex : extra K = true) :
    ∃ fd : FuncData, (∀ (s : Shared) (v : Value), BindsTo s fd ⟨[v], []⟩ [("_law_script", v)]) ∧ ∀ base : Heap, K.In base → base.Ns mainGlobals mg → FnG P w K mg base CX0 12 f fd ["_law_script"] (spLaw K) := by
  unfold extra at ex
  simp only [Bool.and_eq_true] at ex
  obtain ⟨ex1, ex2⟩ := ex
  have pf := plF_of (fun _ z => List.mem_append_left _ z) (fun _ z => List.mem_append_left _ z) X G c ex1
  have L : LawF K mg := {
    P := pf
    X := edX_of ex1
    tInt := He.free_ok X G (fa_mem c (List.mem_append_right _ (List.mem_of_getElem? (i := 18) rfl)))
    tAbs := He.free_ok X G (fa_mem c (List.mem_append_right _ (List.mem_of_getElem? (i := 19) rfl)))
    tRange := He.free_ok X G (fa_mem c (List.mem_append_right _ (List.mem_of_getElem? (i := 20) rfl)))
    tMin := He.free_ok X G (fa_mem c (List.mem_append_right _ (List.mem_of_getElem? (i := 21) rfl)))
    tDict := He.free_ok X G (fa_mem c (List.mem_append_right _ (List.mem_of_getElem? (i := 22) rfl)))
    tRepr := He.free_ok X G (fa_mem c (List.mem_append_right _ (List.mem_of_getElem? (i := 23) rfl)))
    deal := topA X G c (List.mem_append_right _ (List.mem_of_getElem? (i := 0) rfl)) (List.mem_append_right _ (List.mem_of_getElem? (i := 0) rfl)) (fun _ _ _ _ _ _ us hl => match us, hl with | [_, _], _ => rfl)
    draw := topA X G c (List.mem_append_right _ (List.mem_of_getElem? (i := 1) rfl)) (List.mem_append_right _ (List.mem_of_getElem? (i := 1) rfl)) (fun _ _ _ _ _ _ us hl => match us, hl with | [_, _], _ => rfl)
    pick := topA X G c (List.mem_append_right _ (List.mem_of_getElem? (i := 2) rfl)) (List.mem_append_right _ (List.mem_of_getElem? (i := 2) rfl)) (fun _ _ _ _ _ _ us hl => match us, hl with | [_, _], _ => rfl)
    rowT := topA X G c (List.mem_append_right _ (List.mem_of_getElem? (i := 3) rfl)) (List.mem_append_right _ (List.mem_of_getElem? (i := 3) rfl)) (fun _ _ _ _ _ _ us hl => match us, hl with | [_], _ => rfl)
    text := topA X G c (List.mem_append_right _ (List.mem_of_getElem? (i := 4) rfl)) (List.mem_append_right _ (List.mem_of_getElem? (i := 4) rfl)) (fun _ _ _ _ _ _ us hl => match us, hl with | [_], _ => rfl)
    made := topA X G c (List.mem_append_right _ (List.mem_of_getElem? (i := 5) rfl)) (List.mem_append_right _ (List.mem_of_getElem? (i := 5) rfl)) (fun _ _ _ _ _ _ us hl => match us, hl with | [_], _ => rfl)
    onward := topA X G c (List.mem_append_right _ (List.mem_of_getElem? (i := 6) rfl)) (List.mem_append_right _ (List.mem_of_getElem? (i := 6) rfl)) (fun _ _ _ _ _ _ us hl => match us, hl with | [_, _, _], _ => rfl)
    drawn := topA X G c (List.mem_append_right _ (List.mem_of_getElem? (i := 7) rfl)) (List.mem_append_right _ (List.mem_of_getElem? (i := 7) rfl)) (fun _ _ _ _ _ _ us hl => match us, hl with | [_, _], _ => rfl)
    near := topA X G c (List.mem_append_right _ (List.mem_of_getElem? (i := 8) rfl)) (List.mem_append_right _ (List.mem_of_getElem? (i := 8) rfl)) (fun _ _ _ _ _ _ us hl => match us, hl with | [_, _], _ => rfl)
    gone := topA X G c (List.mem_append_right _ (List.mem_of_getElem? (i := 9) rfl)) (List.mem_append_right _ (List.mem_of_getElem? (i := 9) rfl)) (fun _ _ _ _ _ _ us hl => match us, hl with | [_, _], _ => rfl)
    endOf := topA X G c (List.mem_append_right _ (List.mem_of_getElem? (i := 10) rfl)) (List.mem_append_right _ (List.mem_of_getElem? (i := 10) rfl)) (fun _ _ _ _ _ _ us hl => match us, hl with | [_, _], _ => rfl)
    stand := topA X G c (List.mem_append_right _ (List.mem_of_getElem? (i := 11) rfl)) (List.mem_append_right _ (List.mem_of_getElem? (i := 11) rfl)) (fun _ _ _ _ _ _ us hl => match us, hl with | [_, _], _ => rfl)
    chosen := topA X G c (List.mem_append_right _ (List.mem_of_getElem? (i := 12) rfl)) (List.mem_append_right _ (List.mem_of_getElem? (i := 12) rfl)) (fun _ _ _ _ _ _ us hl => match us, hl with | [_], _ => rfl)
    entry := topA X G c (List.mem_append_right _ (List.mem_of_getElem? (i := 13) rfl)) (List.mem_append_right _ (List.mem_of_getElem? (i := 13) rfl)) (fun _ _ _ _ _ _ us hl => match us, hl with | [_], _ => rfl)
    nextE := topA X G c (List.mem_append_right _ (List.mem_of_getElem? (i := 14) rfl)) (List.mem_append_right _ (List.mem_of_getElem? (i := 14) rfl)) (fun _ _ _ _ _ _ us hl => match us, hl with | [_, _], _ => rfl)
    written := topA X G c (List.mem_append_right _ (List.mem_of_getElem? (i := 15) rfl)) (List.mem_append_right _ (List.mem_of_getElem? (i := 15) rfl)) (fun _ _ _ _ _ _ us hl => match us, hl with | [_, _, _], _ => rfl)
    told := topA X G c (List.mem_append_right _ (List.mem_of_getElem? (i := 16) rfl)) (List.mem_append_right _ (List.mem_of_getElem? (i := 16) rfl)) (fun _ _ _ _ _ _ us hl => match us, hl with | [_], _ => rfl)
    law := topA X G c (List.mem_append_right _ (List.mem_of_getElem? (i := 17) rfl)) (List.mem_append_right _ (List.mem_of_getElem? (i := 17) rfl)) (fun _ _ _ _ _ _ us hl => match us, hl with | [_], _ => rfl) }
  have e := hfa.symm.trans L.law.g
  cases e
  refine ⟨fdOf K (He.ga K "law"), fun s v => ?_, fun base _ _ => L.okLaw⟩
  obtain ⟨oc, od, kV, doc, pm, an, cdv, ct, osl, e, _, _⟩ := L.law.F.ex
  rw [show Hd.fdOf K (He.ga K "law") = _ from e]
  exact .of_eq rfl
end
end K2
open PySem PySem.W PySem.Calls PyProof.Rows
theorem PySem.Challenge.cw_elderlogs_k17_logs_played_holds : PySem.Challenge.rw_elderlogs_k17_logs_played.Holds := by
  w_on; o_law
  refine HandSHeadRun.head_any (r := OpenLaw.row PySem.Challenge.rw_elderlogs_k17_logs_played) (q := view (OpenLaw.row PySem.Challenge.rw_elderlogs_k17_logs_played).prog [61]) (H := K2.hk) (ob := K2.ob) (M := 8000) (loose := K2.others) (d := HandSHeadRun.topDef (OpenLaw.row PySem.Challenge.rw_elderlogs_k17_logs_played).prog 61) (kwd := []) K2.ob_eq
    (by kernel_rfl) (fun s => by kernel_rfl) K2.run (by kernel_rfl) (by kernel_rfl) (by kernel_rfl) (by rfl) (by first | assumption | decide +kernel) (by decide +kernel) ⟨rfl, rfl, rfl, rfl, rfl, by decide +kernel⟩ ?hw ?hc
  case hw => w_witness2
  case hc =>
    refine Lw.walk_ofG (l := PySem.Challenge.rw_elderlogs_k17_logs_played) (n := 63) (k := 12) (x := "_law_script") rfl (by decide) (by kernel_rfl) ⟨rfl, by decide, by decide⟩ ?F
    intro w mg fa h Y G hmg0
    obtain ⟨K, KX, c, ex⟩ := Y
    have hmg : mg ("law" : PySem.Str) = some (.ref fa) := by
      have e : (HandSHeadRun.topDef (OpenLaw.row PySem.Challenge.rw_elderlogs_k17_logs_played).prog 61).name = ("law" : PySem.Str) := by kernel_rfl
      rw [← e]
      exact hmg0
    obtain ⟨fd, hb, hF⟩ := K2.facts (P := (PySem.Challenge.rw_elderlogs_k17_logs_played).prog) (w := w) KX G hmg c ex
    exact ⟨K, fd, K2.spLaw K, KX, hb, fun H a ns hl hS => ⟨a, ns, rfl, hS, hl, fun _ => rfl⟩, hF⟩


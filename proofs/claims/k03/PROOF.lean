import PyProof.Rows.All
import Wide.All
import OpenK.AllK
import Wide.FinOn
import HandS.ForExc
import HandS.SetKeys
import HandS.Strs
import HandS.SetBool
import PyProof.IsiHeapPairs
import HandS.ForMost
import HandS.IsInst
import HandS.ClsMeth
import HandS.ExcInit
import HandS.ExcField
import KE.KExcIs
import HandS.ExcIs
import HandS.Style
import PySem.Challenge.RW_elderlogs_k03_rows_refused
import HandS.Text
import HandS.Star
import HandS.RaiseMore
import KE.KStateDown
import HandS.Defaults
import HandS.Head0
import HandS.Head1
import HandS.Head2
import HandS.HeadEnd
import HandS.HeadHook1
import HandS.HeadHook2
set_option Elab.async false
set_option linter.all false
set_option maxRecDepth 100000
set_option maxHeartbeats 4000000
/-! Sets of keys (ints, texts) made of a list, a tuple, by a comprehension; their length. -/
namespace Sx
open PySem PySem.Spec PyProof.Rows L2

theorem key_beq (a b : Key) : (a == b) = true ↔ a = b := by
  cases a with
  | inl i =>
    cases b with
    | inl j => exact ⟨fun z => congrArg Sum.inl (eq_of_beq (show (i == j) = true from z)), fun z => by cases z; exact beq_self_eq_true i⟩
    | inr y => exact ⟨fun z => absurd (show false = true from z) Bool.false_ne_true, fun z => by cases z⟩
  | inr x =>
    cases b with
    | inl j => exact ⟨fun z => absurd (show false = true from z) Bool.false_ne_true, fun z => by cases z⟩
    | inr y => exact ⟨fun z => congrArg Sum.inr (eq_of_beq (show (x == y) = true from z)), fun z => by cases z; exact beq_self_eq_true x⟩
instance keyLaw : LawfulBEq Key where
  eq_of_beq := fun {a b} h => (key_beq a b).mp h
  rfl := fun {a} => (key_beq a a).mpr rfl

/-! ### each key once, in the order of its first place -/
def put1 (acc : List Key) (k : Key) : List Key := if k ∈ acc then acc else acc ++ [k]
def nub (l : List Key) : List Key := l.foldl put1 []
theorem nub_snoc (l : List Key) (k : Key) : nub (l ++ [k]) = put1 (nub l) k := by
  unfold nub; rw [List.foldl_append]; rfl
theorem mem_put1 {acc : List Key} {k x : Key} : x ∈ put1 acc k ↔ x ∈ acc ∨ x = k := by
  unfold put1
  by_cases h : k ∈ acc
  · rw [if_pos h]
    constructor
    · exact .inl
    · rintro (q | q)
      · exact q
      · rw [q]; exact h
  · rw [if_neg h]; simp
theorem mem_nub : ∀ (n : Nat) (l : List Key), l.length = n → ∀ x, x ∈ nub l ↔ x ∈ l
  | 0, l, h, x => by
    have e : l = [] := List.length_eq_zero_iff.mp h
    subst e; exact Iff.rfl
  | n + 1, l, h, x => by
    have ne : l ≠ [] := by intro e; subst e; simp at h
    obtain ⟨r, k, e⟩ : ∃ r k, l = r ++ [k] := ⟨l.dropLast, l.getLast ne, (List.dropLast_concat_getLast ne).symm⟩
    subst e
    have hr : r.length = n := by simpa using h
    rw [nub_snoc, mem_put1, mem_nub n r hr x]; simp
theorem mem_nub' {l : List Key} {x : Key} : x ∈ nub l ↔ x ∈ l := mem_nub l.length l rfl x
theorem len_put1 {acc : List Key} {k : Key} : (put1 acc k).length = if k ∈ acc then acc.length else acc.length + 1 := by
  unfold put1; split <;> simp
theorem len_nub_le : ∀ (n : Nat) (l : List Key), l.length = n → (nub l).length ≤ l.length
  | 0, l, h => by
    have e : l = [] := List.length_eq_zero_iff.mp h
    subst e; exact Nat.le_refl _
  | n + 1, l, h => by
    have ne : l ≠ [] := by intro e; subst e; simp at h
    obtain ⟨r, k, e⟩ : ∃ r k, l = r ++ [k] := ⟨l.dropLast, l.getLast ne, (List.dropLast_concat_getLast ne).symm⟩
    subst e
    have hr : r.length = n := by simpa using h
    have ih := len_nub_le n r hr
    rw [nub_snoc, len_put1, List.length_append, List.length_singleton]
    split <;> omega
/-- as many as there are: just if each stands once -/
theorem len_nub_iff : ∀ (n : Nat) (l : List Key), l.length = n → ((nub l).length = l.length ↔ l.Nodup)
  | 0, l, h => by
    have e : l = [] := List.length_eq_zero_iff.mp h
    subst e; simp [nub]
  | n + 1, l, h => by
    have ne : l ≠ [] := by intro e; subst e; simp at h
    obtain ⟨r, k, e⟩ : ∃ r k, l = r ++ [k] := ⟨l.dropLast, l.getLast ne, (List.dropLast_concat_getLast ne).symm⟩
    subst e
    have hr : r.length = n := by simpa using h
    have ih := len_nub_iff n r hr
    have le := len_nub_le n r hr
    rw [nub_snoc, len_put1, List.length_append, List.length_singleton, List.nodup_append]
    by_cases hk : k ∈ r
    · rw [if_pos (mem_nub'.mpr hk)]
      constructor
      · intro q; omega
      · rintro ⟨_, _, q⟩
        exact absurd rfl (q k hk k (by simp))
    · rw [if_neg fun z => hk (mem_nub'.mp z)]
      constructor
      · intro q
        refine ⟨ih.mp (by omega), by simp, fun a ha b hb => ?_⟩
        have : b = k := by simpa using hb
        subst this
        intro z; subst z; exact hk ha
      · rintro ⟨q, _, _⟩
        have := ih.mpr q
        omega
theorem nub_nodup_iff {l : List Key} : (nub l).length = l.length ↔ l.Nodup := len_nub_iff l.length l rfl

/-! ### filling -/
abbrev inPre (ks : List Key) (i : Nat) : Key → Bool := fun k => decide (k ∈ ks.take i)
abbrev HasSet (P : Program) (w : World) (h : Heap) (S : Addr) (ks : List Key) : Prop := h.SetOf (mixKind P w) S (fun k => decide (k ∈ ks)) (nub ks).length
theorem hasSet_next {P : Program} {w : World} {h : Heap} {S : Addr} {ks : List Key} {k : Key}
    (x : h.SetOf (mixKind P w) S (fun j => decide (j ∈ ks) || decide (j = k)) (if decide (k ∈ ks) = true then (nub ks).length else (nub ks).length + 1)) : HasSet P w h S (ks ++ [k]) := by
  refine SetOf_congr x (fun j => ?_) ?_
  · simp [Bool.decide_or]
  · rw [nub_snoc, len_put1]
    by_cases h : k ∈ ks
    · rw [if_pos (decide_eq_true h), if_pos (mem_nub'.mpr h)]
    · rw [if_neg (by simpa using h), if_neg fun z => h (mem_nub'.mp z)]
section
variable {P : Program} {w : World} {A : Around} {R : Result → Shared → Prop} {I : Addr} {fp wr : List Addr} {G : Array GenState → Array GenState → Prop} {n : Nat} {Pv : Nat → Value → Prop} {St : Nat → Shared → Prop}
theorem fill_loop (W : WalksS P w A.in1 I fp wr G n Pv St) (S : Addr) (away : S ∉ fp) (ks : List Key) (hlen : ks.length = n)
    (vals : ∀ i v, Pv i v → ∃ k, ks[i]? = some k ∧ RelV (kV k) v) (few : n + 1 < scanBound) :
    ∀ (left i : Nat) (s : Shared), n - i = left → i ≤ n → St i s → HasSet P w s.heap S (ks.take i) →
      (∀ s', Moved (S :: wr) G s s' → HasSet P w s'.heap S ks → R (.ok (.ret .none)) s') →
      codeAny (model P w) A (.builtin "set.update.loop" ⟨[.ref S, .ref I], []⟩) R s := by
  have Sw : S ∉ wr := fun z => away (W.sub _ z)
  have more : ∀ b ∈ wr, b ∈ S :: wr := fun _ hb => List.mem_cons_of_mem _ hb
  intro left
  induction left with
  | zero =>
    intro i s hl hi st hs fin
    have ei : i = n := by omega
    subst ei
    refine codeAny_builtin (A := A) PyProof.Rows.F.entry_set_update_loop ?_
    rw [Around.under_plainId (A := A) PyProof.Rows.F.plain_set_update_loop _]
    show wpAny (model P w) A.in1 (pyNext (.ref I) >>= _) _ _ s
    refine wpAny_bind (W.done s _ _ st fun s1 mv => ?_)
    show wpAny (model P w) A.in1 (ret Value.none) _ _ s1
    refine wpAny_pure (fin s1 (mv.mono more) ?_)
    rw [List.take_of_length_le (by omega)] at hs
    obtain ⟨o, es, ep, t, ho, r⟩ := hs
    exact ⟨o, es, ep, t, mv.heap S _ Sw ho, r⟩
  | succ left ih =>
    intro i s hl hi st hs fin
    have lt : i < n := by omega
    refine codeAny_builtin (A := A) PyProof.Rows.F.entry_set_update_loop ?_
    rw [Around.under_plainId (A := A) PyProof.Rows.F.plain_set_update_loop _]
    show wpAny (model P w) A.in1 (pyNext (.ref I) >>= _) _ _ s
    refine wpAny_bind (W.item i s _ _ lt st fun v s1 hv st1 mv => ?_)
    obtain ⟨k, hk, rv⟩ := vals i v hv
    have hs1 : HasSet P w s1.heap S (ks.take i) := by
      obtain ⟨o, es, ep, t, ho, r⟩ := hs
      exact ⟨o, es, ep, t, mv.heap S _ Sw ho, r⟩
    show wpAny (model P w) A.in1 (holding [v] (setAdd S v) >>= _) _ _ s1
    refine wpAny_bind (wpAny_holding ?_)
    unfold setAdd
    refine wpAny_holding (wpAny_bind ((mixKind P w).pyHash (k := k) (kV_is rv) ?_))
    have room : (nub (ks.take i)).length + 1 < scanBound := by
      have := len_nub_le _ (ks.take i) rfl
      rw [List.length_take] at this
      omega
    refine wpAny_setAddHashed_of (knd := mixKind P w) (s := { s1 with toks := s1.toks + 1 }) (kV_is rv) (key_scan rv) hs1 room fun h2 same hs2 => ?_
    have hs3 : HasSet P w h2 S (ks.take (i + 1)) := by
      rw [List.take_add_one, hk]
      exact hasSet_next hs2
    refine wpAny_pure ⟨plainId_quiet PyProof.Rows.F.plain_set_update_loop _, ih (i + 1) _ (by omega) lt (W.frame _ s1 _ _ st1 (Nat.le_succ _) fun b hb o e => ?_) hs3 fun s2 mv2 hs4 => ?_⟩
    · exact (same.2 b fun z : b = S => away (z ▸ hb)).trans e
    · refine fin s2 (Moved.trans W.gtrans ((mv.mono more).then_heap (Nat.le_succ _) fun b o hb e => ?_) mv2) hs4
      exact (same.2 b fun z : b = S => hb (z ▸ List.mem_cons_self)).trans e
end
end Sx

set_option Elab.async false
set_option linter.all false
set_option maxRecDepth 100000
set_option maxHeartbeats 4000000
namespace Sx
open PySem PySem.Spec PyProof.Rows L2
abbrev eset (led : Bool) : Obj := { cls := .type "set", dict := none, data := .set #[] 0 (.fresh 0 0 led) }
section
variable {P : Program} {w : World} {A : Around} {E : Value → Shared → Prop} {s : Shared}
theorem set_of_list {l : Addr} {items : Array Value} {ks : List Key} {Q : Value → Shared → Prop} (calm : A.handled = none) (hl : s.heap.IsList l items) (rk : Vals (ks.map kV) items.toList) (few : items.size + 1 < scanBound)
    (fin : ∀ (h' : Heap) (tk : Nat), HasSet P w h' s.heap.objs.size ks → (∀ b o, b < s.heap.objs.size → s.heap.get? b = some o → h'.get? b = some o) → Q (.ref s.heap.objs.size) { s with heap := h', toks := tk }) :
    wpAny (model P w) A (call (.type "set") [.ref l]) Q E s := by
  obtain ⟨c0, tl0, mro0⟩ := PySem.F.called_set.mro
  have made0 := PySem.F.called_set.made
  have sub0 := PySem.F.called_set.sub
  refine wpAny_call (codeAny_of_tree ?_)
  show wpAny (model P w) _ (callAny (.type "set") _) _ _ _
  refine wpAny_pure ⟨Code.quiet_builtin _ (by decide +kernel), codeAny_builtin PySem.F.entry_type_call ?_⟩
  rw [Around.under_plain (weight_type_call_type ("set") [Value.ref l] []) rfl]
  have nt0 := PySem.F.called_set.notType
  have cc0 := PySem.F.called_set.canCreate
  have tc0 := PySem.F.typeCall_set_1 (Value.ref l)
  repeat (any_goals (first | assumption | wp_step))
  refine codeAny_mono (code_set_new_1 (.ref l) (E := E) (Q₁ := fun ob s1 => ∃ led : Bool, ob = .ref s.heap.objs.size ∧ s1 = { s with heap := s.heap.push (eset led) }) fun led => ⟨led, rfl, rfl⟩) fun r s1 hr => ?_
  cases r with
  | error e => exact hr
  | ok fl =>
    cases fl with
    | next => exact hr.elim
    | brk => exact hr.elim
    | cont => exact hr.elim
    | ret ob =>
      obtain ⟨led, rfl, rfl⟩ := hr
      have gS : (s.heap.push (eset led)).get? s.heap.objs.size = some (eset led) := Heap.get?_push_size _ rfl
      have tS : Shared.TypeIs { s with heap := s.heap.push (eset led) } (.ref s.heap.objs.size) "set" := ⟨_, gS, rfl⟩
      have li0 := PySem.F.called_set.init.lookup
      have bi0 := PySem.F.called_set.init.bind (Value.ref s.heap.objs.size)
      repeat (any_goals (first | assumption | wp_step))
      refine codeAny_mono (codeAny_call_builtin (R := wants (fun r s2 => r = .none ∧ ∃ h' tk, s2 = { s with heap := h', toks := tk } ∧ HasSet P w h' s.heap.objs.size ks ∧ (∀ b o, b < s.heap.objs.size → s.heap.get? b = some o → h'.get? b = some o)) E)
        PySem.F.called_set.init.plain PySem.F.entry_set_init (check_set_init_1 tS ?_)) fun r2 s2 hr2 => ?_
      · obtain ⟨ol, gl, cl0, nl, dl0⟩ := hl
        obtain ⟨oc, od, ot, osl⟩ := ol
        simp only at cl0 dl0
        subst cl0; subst dl0
        have gl' : (s.heap.push (eset led)).get? l = some { cls := .type "list", dict := od, data := .seq items nl, slots := osl } := Heap.get?_push_of_some _ gl
        have sb1 := PySem.F.sub_list_set
        have sb2 := PySem.F.sub_list_frozenset
        have nd0 : (Value.type "list" == Value.type "dict") = false := by decide
        have hl1 : (s.heap.push (eset led)).IsList l items := ⟨_, gl', rfl, nl, rfl⟩
        unfold Builtin.«set.__init__» noKeywords Builtin.Frozenset.updateFrom
        generalize ePI : pyIter = PI
        wp_walk
        subst ePI
        refine wpAny_pyIter_list hl1 ?_
        refine wpAny_bind (wpAny_runValue ?_)
        have llt : l < s.heap.objs.size := Heap.lt_size gl
        have calm3 : A.in1.in1.in1.handled = none := by simp [calm]
        have apart : l ≠ (s.heap.push (eset led)).objs.size := by
          rw [Heap.size_push]
          exact Nat.ne_of_lt (Nat.lt_succ_of_lt llt)
        have away : s.heap.objs.size ∉ [(s.heap.push (eset led)).objs.size, l] := fun z => by
          rw [Heap.size_push] at z
          rcases List.mem_cons.mp z with z | z
          · exact absurd z (Nat.ne_of_lt (Nat.lt_succ_self _))
          · exact absurd (List.mem_singleton.mp z) (Nat.ne_of_gt llt)
        have vals : ∀ (i : Nat) (v : Value), items[i]? = some v → ∃ k, ks[i]? = some k ∧ RelV (kV k) v := fun i v hv => by
          have hv' : items.toList[i]? = some v := by rw [Array.getElem?_toList]; exact hv
          cases e : ks[i]? with
          | none =>
            have e2 : (ks.map kV)[i]? = none := by rw [List.getElem?_map, e]; rfl
            rw [rk.none_of e2] at hv'; cases hv'
          | some k =>
            have e2 : (ks.map kV)[i]? = some (kV k) := by rw [List.getElem?_map, e]; rfl
            obtain ⟨u, hu, ru⟩ := rk.get e2
            rw [hv'] at hu; cases hu
            exact ⟨k, rfl, ru⟩
        have hlen : ks.length = items.size := by
          have q := rk.length
          rw [List.length_map, Array.length_toList] at q
          exact q
        refine fill_loop ((Walks.list calm3 _ l apart items).toS) s.heap.objs.size away ks hlen vals few (items.size - 0) 0 _ (by omega) (Nat.zero_le _)
          ⟨⟨_, Heap.get?_push_size _ rfl, rfl, rfl⟩, (hl1.push _)⟩ ?first ?last
        case first =>
          have g0 : ((s.heap.push (eset led)).push { cls := .type "list_iterator", data := .fields #[.ref l, .int 0 0] }).get? s.heap.objs.size = some (eset led) := Heap.get?_push_of_some _ gS
          exact PyProof.Rows.SetOf_congr ((PyProof.Rows.setObjOf_fresh (knd := mixKind P w) led).setOf g0 (by unfold scanBound; omega)) (fun k => by simp) rfl
        case last =>
          intro s3 mv hs3
          obtain ⟨h3, g3, d3, t3, os3⟩ := s3
          have eg : g3 = s.gens := mv.gens
          have ed : d3 = s.drawn := mv.drawn
          have eo : os3 = s.os := mv.os
          subst eg; subst ed; subst eo
          show wpAny (model P w) _ _ _ _ _
          refine wpAny_pure ?_
          show wpAny (model P w) _ (ret Value.none) _ _ _
          refine wpAny_pure ⟨rfl, h3, t3, rfl, hs3, fun b o hb e => ?_⟩
          refine mv.heap b o (fun z => ?_) (Heap.get?_push_of_some _ (Heap.get?_push_of_some _ e))
          rcases List.mem_cons.mp z with z | z
          · exact absurd z (Nat.ne_of_lt hb)
          · have z1 := List.mem_singleton.mp z
            rw [Heap.size_push] at z1
            exact absurd z1 (Nat.ne_of_lt (Nat.lt_succ_of_lt hb))
      · cases r2 with
        | error e => exact hr2
        | ok fl2 =>
          cases fl2 with
          | ret r =>
            obtain ⟨rfl, h', tk, rfl, a1, a2⟩ := hr2
            repeat (any_goals (first | assumption | wp_step))
            exact fin _ _ a1 a2
          | _ => exact hr2.elim
theorem set_of_tuple {l : Addr} {items : Array Value} {ks : List Key} {Q : Value → Shared → Prop} (calm : A.handled = none) (hl : s.heap.IsTuple l items) (rk : Vals (ks.map kV) items.toList) (few : items.size + 1 < scanBound)
    (fin : ∀ (h' : Heap) (tk : Nat), HasSet P w h' s.heap.objs.size ks → (∀ b o, b < s.heap.objs.size → s.heap.get? b = some o → h'.get? b = some o) → Q (.ref s.heap.objs.size) { s with heap := h', toks := tk }) :
    wpAny (model P w) A (call (.type "set") [.ref l]) Q E s := by
  obtain ⟨c0, tl0, mro0⟩ := PySem.F.called_set.mro
  have made0 := PySem.F.called_set.made
  have sub0 := PySem.F.called_set.sub
  refine wpAny_call (codeAny_of_tree ?_)
  show wpAny (model P w) _ (callAny (.type "set") _) _ _ _
  refine wpAny_pure ⟨Code.quiet_builtin _ (by decide +kernel), codeAny_builtin PySem.F.entry_type_call ?_⟩
  rw [Around.under_plain (weight_type_call_type ("set") [Value.ref l] []) rfl]
  have nt0 := PySem.F.called_set.notType
  have cc0 := PySem.F.called_set.canCreate
  have tc0 := PySem.F.typeCall_set_1 (Value.ref l)
  repeat (any_goals (first | assumption | wp_step))
  refine codeAny_mono (code_set_new_1 (.ref l) (E := E) (Q₁ := fun ob s1 => ∃ led : Bool, ob = .ref s.heap.objs.size ∧ s1 = { s with heap := s.heap.push (eset led) }) fun led => ⟨led, rfl, rfl⟩) fun r s1 hr => ?_
  cases r with
  | error e => exact hr
  | ok fl =>
    cases fl with
    | next => exact hr.elim
    | brk => exact hr.elim
    | cont => exact hr.elim
    | ret ob =>
      obtain ⟨led, rfl, rfl⟩ := hr
      have gS : (s.heap.push (eset led)).get? s.heap.objs.size = some (eset led) := Heap.get?_push_size _ rfl
      have tS : Shared.TypeIs { s with heap := s.heap.push (eset led) } (.ref s.heap.objs.size) "set" := ⟨_, gS, rfl⟩
      have li0 := PySem.F.called_set.init.lookup
      have bi0 := PySem.F.called_set.init.bind (Value.ref s.heap.objs.size)
      repeat (any_goals (first | assumption | wp_step))
      refine codeAny_mono (codeAny_call_builtin (R := wants (fun r s2 => r = .none ∧ ∃ h' tk, s2 = { s with heap := h', toks := tk } ∧ HasSet P w h' s.heap.objs.size ks ∧ (∀ b o, b < s.heap.objs.size → s.heap.get? b = some o → h'.get? b = some o)) E)
        PySem.F.called_set.init.plain PySem.F.entry_set_init (check_set_init_1 tS ?_)) fun r2 s2 hr2 => ?_
      · obtain ⟨ol, gl, cl0, nl, dl0⟩ := hl
        obtain ⟨oc, od, ot, osl⟩ := ol
        simp only at cl0 dl0
        subst cl0; subst dl0
        have gl' : (s.heap.push (eset led)).get? l = some { cls := .type "tuple", dict := od, data := .seq items nl, slots := osl } := Heap.get?_push_of_some _ gl
        have sb1 := PySem.F.sub_tuple_set
        have sb2 := PySem.F.sub_tuple_frozenset
        have nd0 : (Value.type "tuple" == Value.type "dict") = false := by decide
        have hl1 : (s.heap.push (eset led)).IsTuple l items := ⟨_, gl', rfl, nl, rfl⟩
        unfold Builtin.«set.__init__» noKeywords Builtin.Frozenset.updateFrom
        generalize ePI : pyIter = PI
        wp_walk
        subst ePI
        refine wpAny_pyIter_tuple hl1 ?_
        refine wpAny_bind (wpAny_runValue ?_)
        have llt : l < s.heap.objs.size := Heap.lt_size gl
        have calm3 : A.in1.in1.in1.handled = none := by simp [calm]
        have apart : l ≠ (s.heap.push (eset led)).objs.size := by
          rw [Heap.size_push]
          exact Nat.ne_of_lt (Nat.lt_succ_of_lt llt)
        have away : s.heap.objs.size ∉ [(s.heap.push (eset led)).objs.size, l] := fun z => by
          rw [Heap.size_push] at z
          rcases List.mem_cons.mp z with z | z
          · exact absurd z (Nat.ne_of_lt (Nat.lt_succ_self _))
          · exact absurd (List.mem_singleton.mp z) (Nat.ne_of_gt llt)
        have vals : ∀ (i : Nat) (v : Value), items[i]? = some v → ∃ k, ks[i]? = some k ∧ RelV (kV k) v := fun i v hv => by
          have hv' : items.toList[i]? = some v := by rw [Array.getElem?_toList]; exact hv
          cases e : ks[i]? with
          | none =>
            have e2 : (ks.map kV)[i]? = none := by rw [List.getElem?_map, e]; rfl
            rw [rk.none_of e2] at hv'; cases hv'
          | some k =>
            have e2 : (ks.map kV)[i]? = some (kV k) := by rw [List.getElem?_map, e]; rfl
            obtain ⟨u, hu, ru⟩ := rk.get e2
            rw [hv'] at hu; cases hu
            exact ⟨k, rfl, ru⟩
        have hlen : ks.length = items.size := by
          have q := rk.length
          rw [List.length_map, Array.length_toList] at q
          exact q
        refine fill_loop ((Walks.tuple calm3 _ l apart items).toS) s.heap.objs.size away ks hlen vals few (items.size - 0) 0 _ (by omega) (Nat.zero_le _)
          ⟨⟨_, Heap.get?_push_size _ rfl, rfl, rfl⟩, (hl1.push _)⟩ ?first ?last
        case first =>
          have g0 : ((s.heap.push (eset led)).push { cls := .type "tuple_iterator", data := .fields #[.ref l, .int 0 0] }).get? s.heap.objs.size = some (eset led) := Heap.get?_push_of_some _ gS
          exact PyProof.Rows.SetOf_congr ((PyProof.Rows.setObjOf_fresh (knd := mixKind P w) led).setOf g0 (by unfold scanBound; omega)) (fun k => by simp) rfl
        case last =>
          intro s3 mv hs3
          obtain ⟨h3, g3, d3, t3, os3⟩ := s3
          have eg : g3 = s.gens := mv.gens
          have ed : d3 = s.drawn := mv.drawn
          have eo : os3 = s.os := mv.os
          subst eg; subst ed; subst eo
          show wpAny (model P w) _ _ _ _ _
          refine wpAny_pure ?_
          show wpAny (model P w) _ (ret Value.none) _ _ _
          refine wpAny_pure ⟨rfl, h3, t3, rfl, hs3, fun b o hb e => ?_⟩
          refine mv.heap b o (fun z => ?_) (Heap.get?_push_of_some _ (Heap.get?_push_of_some _ e))
          rcases List.mem_cons.mp z with z | z
          · exact absurd z (Nat.ne_of_lt hb)
          · have z1 := List.mem_singleton.mp z
            rw [Heap.size_push] at z1
            exact absurd z1 (Nat.ne_of_lt (Nat.lt_succ_of_lt hb))
      · cases r2 with
        | error e => exact hr2
        | ok fl2 =>
          cases fl2 with
          | ret r =>
            obtain ⟨rfl, h', tk, rfl, a1, a2⟩ := hr2
            repeat (any_goals (first | assumption | wp_step))
            exact fin _ _ a1 a2
          | _ => exact hr2.elim
end

/-! ### over the layer -/
section
variable {X : Cx}
/-- set(xs), xs a list or a tuple of keys -/
def rSetOf (K : PySem.W.Frag) (P : Program) (w : World) : List V → Hp → VK → Prop := fun xs H Q => ∃ (l : Addr) (ks : List Key), xs = [V.ref l] ∧ (SqL K H l (ks.map kV) ∨ SqT K H l (ks.map kV)) ∧ ks.length ≤ 4000 ∧
  ∀ p, H p = none → Q (.ref p) (upd H p (SetK P w p (fun k => decide (k ∈ ks)) (nub ks).length))
theorem cr_setOf (calm : X.calm = true) : CallR X (.type "set") (rSetOf X.K X.prog X.w) := by
  intro pins s σ H xs us Q I r h
  obtain ⟨l, ks, rfl, hl, few, q⟩ := h
  obtain ⟨u, rfl, rl⟩ := vals1 r
  obtain rfl : u = Value.ref l := rl
  have un : H s.heap.objs.size = none := I.hok.fresh (Nat.le_refl _)
  have done : ∀ (h' : Heap) (tk : Nat), HasSet X.prog X.w h' s.heap.objs.size ks → (∀ b o, b < s.heap.objs.size → s.heap.get? b = some o → h'.get? b = some o) → EP X pins σ Q (.ref s.heap.objs.size) { s with heap := h', toks := tk } := fun h' tk hs kp =>
    ⟨.ref s.heap.objs.size, upd H s.heap.objs.size (SetK X.prog X.w s.heap.objs.size (fun k => decide (k ∈ ks)) (nub ks).length), I.laid (t' := tk) (fun b o e => kp b o (Heap.lt_size e) e) (Nat.le_refl _) (setK_new hs), rfl, q _ un⟩
  rcases hl with hl | hl
  · obtain ⟨its, rv, pl, hz⟩ := I.list hl
    have e1 := rv.length
    rw [List.length_map] at e1
    exact set_of_list (I.ok.hd calm) pl.isList (by simpa using rv) (by rw [List.size_toArray]; unfold scanBound; omega) done
  · obtain ⟨its, rv, pl, hz⟩ := I.tuple hl
    have e1 := rv.length
    rw [List.length_map] at e1
    exact set_of_tuple (I.ok.hd calm) pl (by simpa using rv) (by rw [List.size_toArray]; unfold scanBound; omega) done
/-- len(s), s a set of keys -/
def rLenK (P : Program) (w : World) : List V → Hp → VK → Prop := fun xs H Q => ∃ (a : Addr) (S : Key → Bool) (n : Nat), xs = [V.ref a] ∧ H a = some (SetK P w a S n) ∧ Q (.int (n : Nat)) H
theorem cr_lenK : CallR X (.builtin "len") (rLenK X.prog X.w) := by
  intro pins s σ H xs us Q I r h
  obtain ⟨a, S, n, rfl, ha, q⟩ := h
  obtain ⟨u, rfl, rl⟩ := vals1 r
  obtain rfl : u = Value.ref a := rl
  obtain ⟨o, es, ep, t, ho, hex, hd, _, _, hb, hf, hn⟩ := setK_get I ha
  refine call_len_set ho hex hd hf (by unfold scanBound at hb; omega) ⟨.int (n : Nat), H, I.tok _, ⟨_, by rw [hn]⟩, q⟩
/-- either of two rules for one call -/
theorem CallR.or {f : Value} {r r' : List V → Hp → VK → Prop} (h : CallR X f r) (h' : CallR X f r') : CallR X f (fun xs H Q => r xs H Q ∨ r' xs H Q) := by
  intro pins s σ H xs us Q I rv q
  rcases q with q | q
  · exact h pins s σ H xs us Q I rv q
  · exact h' pins s σ H xs us Q I rv q
end
end Sx

set_option Elab.async false
set_option linter.all false
set_option maxRecDepth 100000
set_option maxHeartbeats 4000000
namespace Sx
open PySem PySem.Spec PyProof.Rows L2
/-! ### a set comprehension of keys -/
section
variable {X : Cx}
/-- one key more in the set at D -/
theorem add_key {pins : List (Addr × Obj)} {σ : L2.St} {H : Hp} {s : Shared} {E : Value → Shared → Prop} {D : Addr} {S : Key → Bool} {n : Nat} {k : Key} {u : Value} {Q : Value → Shared → Prop}
    (I : Inv X pins σ H s) (at_ : H D = some (SetK X.prog X.w D S n)) (room : n + 1 < scanBound) (ru : RelV (kV k) u)
    (fin : ∀ s', Inv X pins σ (upd H D (SetK X.prog X.w D (fun j => S j || decide (j = k)) (if S k = true then n else n + 1))) s' → Q .none s') :
    wpAny (model X.prog X.w) X.A (call (.builtin "set.add") [.ref D, u]) Q E s := by
  refine PySem.call_set_add (kV_is ru) (key_scan ru) (setK_get I at_) room fun h' same new => ?_
  have there : ∃ o, h'.get? D = some o := let ⟨o, _, _, _, ho, _⟩ := new; ⟨o, ho⟩
  exact fin _ (I.write (e := D) (t' := s.toks + 1) (by rw [at_]; trivial) (.inl rfl) (fun b o hb ho => (same.2 b hb).trans ho) there (setK_new new))
/-- what a turn does with the element's value -/
def TurnK (P : Program) (w : World) (D : Addr) (Nx : Hp → Prop) : VK := fun y H4 => ∃ (k : Key) (S : Key → Bool) (n : Nat), y = kV k ∧ H4 D = some (SetK P w D S n) ∧ n + 1 < scanBound ∧
  Nx (upd H4 D (SetK P w D (fun j => S j || decide (j = k)) (if S k = true then n else n + 1)))
/-- {elt for target in iter if ..} -/
def tSck (P : Program) (w : World) (wi : TI) (g : TG) (tt : TT) (te : TE) (vs : List Nat) : TE := fun σ H Q => wi σ H fun J H1 => ∀ D, H1 D = none →
  ∃ W : Nat → Nat → Hp → Prop, (∃ m, W 0 m (upd H1 D (SetK P w D (fun _ => false) 0))) ∧ ∀ i m H, W i m H →
    (J.stop i H ∧ Q (.ref D) H) ∨
    (J.go i H ∧ ∃ Nx : Hp → Prop, (∀ H', Nx H' → ∃ m', m' < m ∧ W (i + 1) m' H') ∧ ∀ x H', J.yld i H x H' →
      g x (wipe σ vs) H' fun σ2 H2 => wipe σ2 vs = wipe σ vs ∧ tt σ2 H2 fun b H3 => if b = true then te σ2 H3 (TurnK P w D Nx) else Nx H3)
variable {elt tg iter : Expr} {ifs : List Expr} {scope : Scope} {own : List (PySem.Str × Nat)} {pos pos' : Pos} {wi : TI} {g : TG} {tt : TT} {te : TE}
/-- the context of the block -/
abbrev Blk (X : Cx) (scope : Scope) (s : Shared) (H : Hp) (C : Addr) (cl : List (PySem.Str × Addr)) (fp : List Addr) : Cx := X.blk s H scope (compEnvC scope cl C X.env) fp
theorem pe_sck (calm : X.calm = true) (nd : X.N.Nodup) (hi : PI X tg iter wi) (ok : BlkOk X.N X.env.scope scope own)
    (hg : ∀ s H C cl fp, PG (Blk X scope s H C cl fp) tg g) (ht : ∀ s H C cl fp, PTs (Blk X scope s H C cl fp) ifs tt) (he : ∀ s H C cl fp, PE (Blk X scope s H C cl fp) elt te)
    (hs : ∀ x, foldedSetIterable iter X.env x = pure x := by intro _; rfl) :
    PE X (.SetComp elt [⟨tg, iter, ifs, 0⟩] scope pos) (tSck X.prog X.w wi g tt te (own.map (·.2))) := by
  refine ⟨fun pins s σ H Q I h => ?_⟩
  rw [PpSet.eval_SetComp]
  have captured : ∀ y ∈ scope.names, y.2 = .free → ∃ c, X.env.cells.lookup y.1 = some c := fun y hy e => (ok.free y hy e).elim (fun z => I.ok.has _ (.inl z)) fun z => I.ok.has _ (.inr z)
  refine wpAny_comprehension_free (use := none) rfl hs (closure_ok captured) ok.kind (fun y hy e => by rw [ok.uniq y hy, e]) (thn (hi.run pins s σ H _ I h) fun xv s1 q1 => thn q1 fun itv s2 q2 => ?_)
  obtain ⟨it, fp, tn, J, H2, ei, I2, T, st2, f2, q⟩ := q2
  subst ei
  refine PpSet.newSet_ok (newEnv_comp ?_)
  generalize eD : s2.heap.objs.size = D
  have freeD : H2 D = none := I2.hok.fresh (Nat.le_of_eq eD)
  obtain ⟨W, ⟨m0, w0⟩, turn⟩ := q D freeD
  -- the set, empty
  generalize es3 : ({ s2 with heap := s2.heap.push { cls := .type "set", dict := none, data := .set #[] 0 (.fresh 0 0 (!X.w.params.followText "set-order")) } } : Shared) = s3
  generalize eH3 : upd H2 D (SetK X.prog X.w D (fun _ => false) 0) = H3 at w0
  have heap3 : s3.heap = s2.heap.push { cls := .type "set", dict := none, data := .set #[] 0 (.fresh 0 0 (!X.w.params.followText "set-order")) } := by rw [← es3]
  have I3 : Inv X pins σ H3 s3 := by
    rw [← es3, ← eH3]
    refine I2.laid (t' := s2.toks) (fun b o e => Heap.get?_push_of_some _ e) (Nat.le_of_eq eD) (setK_new ?_)
    rw [← eD]
    exact ⟨_, #[], 0, _, Heap.get?_push_size _ rfl, ⟨rfl, rfl, rfl⟩, rfl, (fun e z => by simp at z), (fun k => by simp), (by decide), (by rfl), rfl⟩
  have below : ∀ b ∈ fp, b < s2.heap.objs.size := fun b hb => let ⟨_, e, _⟩ := T.obj _ _ st2 b hb; Heap.lt_size e
  have f3 : ∀ b ∈ fp, FpOk X pins H3 b ∧ b < s3.heap.objs.size := fun b hb => by
    have lt := below b hb
    refine ⟨⟨?_, (f2 b hb).2⟩, ?_⟩
    · rw [← eH3, upd_ne (by rw [← eD]; exact Nat.ne_of_lt lt)]
      exact (f2 b hb).1
    · rw [heap3, Heap.size_push]
      exact Nat.lt_succ_of_lt lt
  have st3 : tn 0 s3.heap := T.keep _ _ _ st2 fun b _ o e => by rw [heap3]; exact Heap.get?_push_of_some _ e
  have I4 := block_start I3 ok nd f3
  show codeAny _ _ (.compStart (.SetComp elt [⟨tg, iter, ifs, 0⟩] scope pos) 0 (.ref it) (.ref D) (compEnvC scope (cellsFrom (s3.heap.objs.size + 1) scope.names (cloFrom X.env.cells scope.names [])) s3.heap.objs.size X.env)) (compPost (model X.prog X.w) X.A X.xe none (EP X pins σ Q) (.ref D) s3.heap.objs.size) { s3 with heap := pushCells (s3.heap.push { cls := .type "dict", data := .dict #[] }) scope.names }
  generalize cellsFrom (s3.heap.objs.size + 1) scope.names (cloFrom X.env.cells scope.names []) = cl at I4 ⊢
  have pg := hg s3 H3 s3.heap.objs.size cl fp
  have pt := ht s3 H3 s3.heap.objs.size cl fp
  have pe := he s3 H3 s3.heap.objs.size cl fp
  unfold Blk at pg pt pe
  generalize ece : compEnvC scope cl s3.heap.objs.size X.env = ce at I4 pg pt pe ⊢
  have atC : ce.locals = s3.heap.objs.size := by rw [← ece]; rfl
  generalize es4 : ({ s3 with heap := pushCells (s3.heap.push { cls := .type "dict", data := .dict #[] }) scope.names } : Shared) = s4 at I4 ⊢
  have st4 : tn 0 s4.heap := T.keep _ _ _ st3 fun b _ o e => by rw [← es4]; exact pushCells_keeps _ _ _ _ (Heap.get?_push_of_some _ e)
  have still : ∀ {σ' : L2.St} {H' : Hp} {s' : Shared}, Inv (X.blk s3 H3 scope ce fp) [] σ' H' s' → (∀ b ∈ fp, H' b = none) → ∀ b ∈ fp, FpOk (X.blk s3 H3 scope ce fp) [] H' b := fun {σ' H' s'} J' un b hb =>
    ⟨un b hb, (J'.ok.exf b hb).1, J'.ok.exfs b hb, .inl hb, fun x c e => (J'.ok.exf b hb).2 x c e, fun p hp => absurd (show p ∈ ([] : List (Addr × Obj)) ++ [] from hp) (by simp)⟩
  refine PpSet.codeAny_compStart_set ?loop (T.self X.A 0 _ _ _ st4 ?loop)
  refine PpSet.compLoopS_any (fun n s' => ∃ i H', Inv (X.blk s3 H3 scope ce fp) [] (wipe σ (own.map (·.2))) H' s' ∧ tn i s'.heap ∧ (∀ b ∈ fp, H' b = none) ∧ W i n H') ?_ m0 ⟨0, H3, I4, st4, fun b hb => (f3 b hb).1.1, w0⟩
  rintro n s5 ⟨i, H5, I5, st5, un5, w5⟩
  rcases turn i n H5 w5 with ⟨stop, fin⟩ | ⟨go, Nx, next, step⟩
  · -- the end: back in the def
    refine thnF (T.done (X.blk s3 H3 scope ce fp) rfl rfl rfl calm i [] s5 _ H5 (fun _ _ => False) I5 (still I5 un5) st5 stop) fun r s6 ⟨er, I6⟩ => ?_
    subst er
    have I7 : Inv X pins σ H5 s6 := I3.call' (ch := fp) I6.os I6.base I6.hok I6.bare fun b hb => ⟨(f3 b hb).1.2.2.2.1, (f3 b hb).1.2.1, (f3 b hb).1.2.2.2.2.1, (f3 b hb).1.2.2.2.2.2⟩
    have unC : H5 s3.heap.objs.size = none := by
      have z : H5 ce.locals = none := I6.free
      rwa [atC] at z
    obtain ⟨m, ns, _⟩ := I6.loc
    have ns : s6.heap.Ns ce.locals m := ns
    rw [atC] at ns
    refine ⟨m, ns, fun h'' sb => ?_⟩
    obtain ⟨f0, f1, _, fr3, fr4, fr5⟩ := I3.fpOk (Nat.le_refl _) unC
    exact ⟨.ref D, H5, I7.turned (t' := s6.toks) (fun b o hb e => (sb.2 b hb).trans e) f0 f1 fr3 fr4 fr5, rfl, fin⟩
  · refine thnF (T.item (X.blk s3 H3 scope ce fp) rfl rfl rfl calm i [] s5 _ H5 (fun _ _ => False) I5 (still I5 un5) st5 go) fun r s6 ⟨u, er, q6⟩ => ?_
    subst er
    refine thnF q6 fun _ s7 ⟨x, H7, I7, r7, y7, st7, un7⟩ => ?_
    have I7' := I7.pinned (still I7 un7) (T.obj _ _ st7)
    refine thnF (pg.run _ s7 _ H7 x u _ I7' r7 (step x H7 y7)) fun _ s8 ⟨σ8, H8, I8, same, q8⟩ => ?_
    refine thnF (pt.run _ s8 σ8 H8 _ I8 q8) fun b s9 ⟨H9, I9, q9⟩ => ?_
    have back : ∀ {s' : Shared} {H' : Hp}, Inv (X.blk s3 H3 scope ce fp) ([] ++ pinsAt fp s7.heap) σ8 H' s' → Nx H' →
        ∃ m, m < n ∧ ∃ i H', Inv (X.blk s3 H3 scope ce fp) [] (wipe σ (own.map (·.2))) H' s' ∧ tn i s'.heap ∧ (∀ b ∈ fp, H' b = none) ∧ W i m H' := fun {s' H'} I' nx => by
      obtain ⟨m', lt, w'⟩ := next H' nx
      have pin : ∀ b ∈ fp, ∀ o, s7.heap.get? b = some o → s'.heap.get? b = some o ∧ H' b = none := fun b hb o e =>
        let z := I'.pin (b, o) (List.mem_append_right _ (List.mem_append_right _ (mem_pinsAt hb e)))
        ⟨z.1, z.2.1⟩
      have len : (wipe σ (own.map (·.2))).length = σ8.length := by rw [← same, wipe_length]
      refine ⟨m', lt, i + 1, H', (I'.unpinned (pins := [])).weak len (fun j v e => ?_), T.keep _ _ _ st7 fun b hb o e => (pin b hb o e).1, fun b hb => ?_, w'⟩
      · rw [← same] at e
        exact (wipe_some e).1
      · obtain ⟨o, e, _⟩ := T.obj _ _ st7 b hb
        exact (pin b hb o e).2
    cases b with
    | false =>
      simp only [Bool.false_eq_true, if_false] at q9 ⊢
      exact back I9 q9
    | true =>
      simp only [if_true] at q9 ⊢
      refine thnF (pe.run _ s9 σ8 H9 _ I9 q9) fun z s10 ⟨y, H10, I10, r10, k, S0, n0, ey, at0, room, nx⟩ => ?_
      subst ey
      exact add_key (X := X.blk s3 H3 scope ce fp) I10 at0 room r10 fun s11 I11 => back I11 nx
end
end Sx

set_option Elab.async false
set_option linter.all false
set_option maxRecDepth 100000
set_option maxHeartbeats 4000000
/-! What the laws' own helpers draw from; data. -/
namespace Lw
open PySem L2
/-! ### data -/
theorem ints_data {K : PySem.W.Frag} {H : Hp} : ∀ ns : List Int, DpAll K H (ns.map V.int) (ns.map PyData.int)
  | [] => .nil
  | n :: ns => .cons (.int n) (ints_data ns)
theorem ints_lay : ∀ ns : List Int, PyData.canLayAll0 (ns.map PyData.int) = true
  | [] => by simp [PyData.canLayAll0]
  | n :: ns => by simp [PyData.canLayAll0, PyData.canLay0, ints_lay ns]
theorem ints_depth : ∀ ns : List Int, PyData.depthAll (ns.map PyData.int) = 0
  | [] => by simp [PyData.depthAll]
  | n :: ns => by simp [PyData.depthAll, PyData.depth, ints_depth ns]
theorem ints_shaped (ns : List Int) : SeqAt.shaped (.list (ns.map PyData.int)) = true := by
  simp [SeqAt.shaped, PyData.canLay0, PyData.depth, ints_lay, ints_depth]
theorem nil_shaped : SeqAt.shaped (.list []) = true := by simp [SeqAt.shaped, PyData.canLay0, PyData.depth, PyData.canLayAll0, PyData.depthAll]
theorem eqv_nil (ds : List PyData) : PyData.eqv (.list ds) (.list []) = ds.isEmpty := by
  cases ds <;> simp [PyData.eqv, PyData.eqvAll]

/-! ### a deal: great numbers to draw from, and a mixed one -/
/-- at d the deal, its list ns at l, its mixed number m -/
structure At (H : Hp) (d l : Addr) (ns : List Int) (m : Int) : Prop where
  hd : H d = some (.lst [.ref l, .int m])
  hl : H l = some (.lst (ns.map V.int))
  len : ns.length ≤ 63
  nn : ∀ n ∈ ns, 0 ≤ n
  m0 : 0 ≤ m
  m1 : m < 2147483647
/-- H is G and a deal -/
structure Deal (G H : Hp) (d l : Addr) : Prop where
  same : Same G H
  gd : G d = none
  gl : G l = none
  ne : l ≠ d
  it : ∃ ns m, At H d l ns m
theorem Deal.put {G H : Hp} {d l : Addr} (D : Deal G H d l) {p : Addr} {o : HO} (h : H p = none) : Deal (upd G p o) (upd H p o) d l := by
  obtain ⟨ns, m, h1, h2, r1, r2, r3, r4⟩ := D.it
  have nd : d ≠ p := ne_of_none h1 h
  have nl : l ≠ p := ne_of_none h2 h
  refine ⟨fun b u e => ?_, by rw [upd_ne nd]; exact D.gd, by rw [upd_ne nl]; exact D.gl, D.ne, ns, m, by rw [upd_ne nd]; exact h1, by rw [upd_ne nl]; exact h2, r1, r2, r3, r4⟩
  by_cases q : b = p
  · subst q
    rw [upd_same] at e ⊢
    exact e
  · rw [upd_ne q] at e ⊢
    exact D.same b u e
/-- something new beside it -/
theorem At.put {H : Hp} {d l : Addr} {ns : List Int} {m : Int} (a : At H d l ns m) {p : Addr} {o : HO} (h : H p = none) : At (upd H p o) d l ns m :=
  ⟨by rw [upd_ne (ne_of_none a.hd h)]; exact a.hd, by rw [upd_ne (ne_of_none a.hl h)]; exact a.hl, a.len, a.nn, a.m0, a.m1⟩
theorem Deal.more {G H : Hp} {d l : Addr} (D : Deal G H d l) {p : Addr} {o : HO} (h : H p = none) : Deal G (upd H p o) d l :=
  ⟨fun b u e => by rw [upd_ne (ne_of_none (D.same b u e) h)]; exact D.same b u e, D.gd, D.gl, D.ne, let ⟨ns, m, a⟩ := D.it; ⟨ns, m, a.put h⟩⟩
/-- only the deal's own two lists change -/
theorem Deal.set {G H : Hp} {d l : Addr} (D : Deal G H d l) {H' : Hp} {ns : List Int} {m : Int} (k : ∀ b, b ≠ d → b ≠ l → H' b = H b) (a : At H' d l ns m) : Deal G H' d l :=
  ⟨fun b u e => by
    have nd : b ≠ d := fun z => by rw [z, D.gd] at e; cases e
    have nl : b ≠ l := fun z => by rw [z, D.gl] at e; cases e
    rw [k b nd nl]; exact D.same b u e, D.gd, D.gl, D.ne, ns, m, a⟩
/-- its list is another -/
theorem Deal.list {G H : Hp} {d l : Addr} {ns ns' : List Int} {m : Int} (D : Deal G H d l) (a : At H d l ns m) (h1 : ns'.length ≤ 63) (h2 : ∀ n ∈ ns', 0 ≤ n) : Deal G (upd H l (.lst (ns'.map V.int))) d l ∧ At (upd H l (.lst (ns'.map V.int))) d l ns' m := by
  have a' : At (upd H l (.lst (ns'.map V.int))) d l ns' m := ⟨by rw [upd_ne D.ne.symm]; exact a.hd, upd_same, h1, h2, a.m0, a.m1⟩
  exact ⟨D.set (fun b _ hb => upd_ne hb) a', a'⟩
/-- its mixed number is another -/
theorem Deal.mix {G H : Hp} {d l : Addr} {ns : List Int} {m m' : Int} (D : Deal G H d l) (a : At H d l ns m) (h1 : 0 ≤ m') (h2 : m' < 2147483647) : Deal G (upd H d (.lst [.ref l, .int m'])) d l ∧ At (upd H d (.lst [.ref l, .int m'])) d l ns m' := by
  have a' : At (upd H d (.lst [.ref l, .int m'])) d l ns m' := ⟨upd_same, by rw [upd_ne D.ne]; exact a.hl, a.len, a.nn, h1, h2⟩
  exact ⟨D.set (fun b hb _ => upd_ne hb) a', a'⟩
/-- the promise of a draw below k -/
def spDraw : Sp := fun vs H Q _ => ∃ (G : Hp) (d l : Addr) (k : Int), vs = [.ref d, .int k] ∧ Deal G H d l ∧ 0 < k ∧ k < 1000000 ∧ ∀ (H' : Hp) (r : Int), Deal G H' d l → 0 ≤ r → r < k → Q (.int r) H'

/-- what follows a statement, shown once -/
theorem seq_cut {t rest : TS} {D : Ends} {σ : St} {H : Hp} (Post : St → Hp → Prop) (after : ∀ σ1 H1, Post σ1 H1 → rest D σ1 H1) (go : (∀ σ1 H1, Post σ1 H1 → rest D σ1 H1) → t { D with nx := rest D } σ H) : tSeq t rest D σ H := go after

theorem at0 {a b : V} : atI [a, b] 0 = some a := rfl
theorem at1 {a b : V} : atI [a, b] 1 = some b := rfl
theorem set0 : ixN 2 0 = some 0 := rfl
theorem set1 : ixN 2 1 = some 1 := rfl
theorem split_end {ns : List Int} (h : ns ≠ []) : ∃ r n, ns = r ++ [n] := ⟨ns.dropLast, ns.getLast h, (List.dropLast_concat_getLast h).symm⟩
theorem at_end (r : List Int) (n : Int) : atI ((r ++ [n]).map V.int) (-1) = some (.int n) := by
  rw [List.map_append]
  exact atI_last _ _
theorem get_end (r : List Int) (n : Int) : ((r ++ [n]).map V.int)[((r ++ [n]).map V.int).length - 1]? = some (.int n) := by simp
theorem drop_end (r : List Int) (n : Int) : ((r ++ [n]).map V.int).dropLast = r.map V.int := by simp

/-! ### comprehensions whose turns leave what stood -/
/-- what a turn adds -/
def outOf (out : List (Option V)) : List V := out.filterMap id
theorem outOf_take {out : List (Option V)} {j : Nat} {o : Option V} (h : out[j]? = some o) : outOf (out.take (j + 1)) = outOf (out.take j) ++ o.toList := by
  unfold outOf
  rw [List.take_add_one, h, List.filterMap_append]
  cases o <;> rfl
theorem outOf_len (out : List (Option V)) : (outOf out).length ≤ out.length := List.length_filterMap_le _ _
/-- a turn: the test, then the element -/
structure Turns (H1 : Hp) (i : Nat) (σ : L2.St) (xs : List V) (out : List (Option V)) (tt : TT) (te : TE) : Prop where
  len : out.length = xs.length
  few : xs.length ≤ 100000
  keep : ∀ (j : Nat) (x y : V) (H : Hp) (Q : VK), xs[j]? = some x → out[j]? = some (some y) → Same H1 H → (∀ H', Same H H' → Q y H') → tt (σ.set i (some x)) H fun b H3 => b = true ∧ Same H H3 ∧ te (σ.set i (some x)) H3 Q
  drop : ∀ (j : Nat) (x : V) (H : Hp), xs[j]? = some x → out[j]? = some none → Same H1 H → tt (σ.set i (some x)) H fun b H3 => b = false ∧ Same H H3
/-- a test's reading grows with what is wanted -/
def MonoT (tt : TT) : Prop := ∀ σ H (Q Q' : Bool → Hp → Prop), (∀ b H1, Q b H1 → Q' b H1) → tt σ H Q → tt σ H Q'
theorem mono_yes : MonoT tYes := fun _ _ _ _ f h => f _ _ h
theorem turn_core {H1 H : Hp} {D : Addr} {i : Nat} {σ : L2.St} {xs : List V} {out : List (Option V)} {tt : TT} {te : TE} (T : Turns H1 i (σ.set i none) xs out tt te) (mono : MonoT tt) {j : Nat} {x : V} (hx : xs[j]? = some x)
    (s1 : Same H1 H) (hD : H D = some (.lst (outOf (out.take j)))) (un : H1 D = none) {Nx : Hp → Prop} (fin : ∀ H', Same H1 H' → H' D = some (.lst (outOf (out.take (j + 1)))) → Nx H') :
    gName i x (wipe σ [i]) H fun σ2 H2 => wipe σ2 [i] = wipe σ [i] ∧ tt σ2 H2 fun b H3 => if b = true then te σ2 H3 fun y H4 => ∃ acc, H4 D = some (.lst acc) ∧ acc.length < sizeLine ∧ Nx (upd H4 D (.lst (acc ++ [y]))) else Nx H3 := by
  refine ⟨by simp [wipe], ?_⟩
  show tt ((σ.set i none).set i (some x)) H _
  have hj : j < out.length := by rw [T.len]; exact (List.getElem?_eq_some_iff.mp hx).1
  have ho : out[j]? = some out[j] := List.getElem?_eq_getElem hj
  cases e : out[j] with
  | none =>
    rw [e] at ho
    refine mono _ _ _ _ (fun b H3 ⟨eb, s3⟩ => ?_) (T.drop j x H hx ho s1)
    subst eb
    refine iteF (fin H3 (s1.trans s3) ?_)
    rw [outOf_take ho, Option.toList_none, List.append_nil]
    exact s3 _ _ hD
  | some y =>
    rw [e] at ho
    refine mono _ _ _ _ ?_ (T.keep j x y H (fun y H4 => ∃ acc, H4 D = some (.lst acc) ∧ acc.length < sizeLine ∧ Nx (upd H4 D (.lst (acc ++ [y])))) hx ho s1 ?_)
    · rintro b H3 ⟨eb, s3, q⟩
      subst eb
      exact iteT q
    · intro H4 s4
      refine ⟨_, s4 _ _ hD, ?_, fin _ (fun b o eb => ?_) ?_⟩
      · have := outOf_len (out.take j)
        rw [List.length_take] at this
        have l2 := T.few
        have l3 := T.len
        have : (outOf (out.take j)).length ≤ 100000 := by omega
        exact Nat.lt_of_le_of_lt this (by decide)
      · rw [upd_ne (ne_of_none eb un)]
        exact s4 _ _ (s1 _ _ eb)
      · rw [upd_same, outOf_take ho]
        rfl
theorem same_new {H : Hp} {p : Addr} {o : HO} (un : H p = none) : Same H (upd H p o) := fun b u e => by rw [upd_ne (ne_of_none e un)]; exact e
theorem outOf_zero (out : List (Option V)) : outOf (out.take 0) = [] := by simp [outOf]
/-- over a list -/
theorem lc_of_list {K : PySem.W.Frag} {a : Addr} {H1 : Hp} {D : Addr} {i : Nat} {σ : L2.St} {xs : List V} (out : List (Option V)) {tt : TT} {te : TE} {Qd : Hp → Prop} (hl : SqL K H1 a xs) (un : H1 D = none) (T : Turns H1 i (σ.set i none) xs out tt te) (mono : MonoT tt)
    (fin : ∀ H', Same H1 H' → H' D = some (.lst (outOf out)) → Qd H') :
    ∃ W : Nat → Nat → Hp → Prop, (∃ m, W 0 m (upd H1 D (.lst []))) ∧ ∀ i' m H, W i' m H →
      ((Itl K a).stop i' H ∧ Qd H) ∨ ((Itl K a).go i' H ∧ ∃ Nx : Hp → Prop, (∀ H', Nx H' → ∃ m', m' < m ∧ W (i' + 1) m' H') ∧ ∀ x H', (Itl K a).yld i' H x H' → gName i x (wipe σ [i]) H' fun σ2 H2 => wipe σ2 [i] = wipe σ [i] ∧ tt σ2 H2 fun b H3 =>
        if b = true then te σ2 H3 fun y H4 => ∃ acc, H4 D = some (.lst acc) ∧ acc.length < sizeLine ∧ Nx (upd H4 D (.lst (acc ++ [y]))) else Nx H3) := by
  refine lc_list (K := K) (a := a) (xs := xs) (fun j H => Same H1 H ∧ H D = some (.lst (outOf (out.take j)))) ⟨same_new un, by rw [upd_same, outOf_zero]⟩ (fun j H _ q => q.1.seq hl) (fun j x H hx q => ?_) fun H q => fin H q.1 ?_
  · exact turn_core T mono hx q.1 q.2 un fun H' a b => ⟨a, b⟩
  · have q2 := q.2
    rw [← T.len, List.take_length] at q2
    exact q2
theorem same_tup {K : PySem.W.Frag} {H H' : Hp} {a : Addr} {xs : List V} (e : Same H H') (h : SqT K H a xs) : SqT K H' a xs := by
  rcases h with (h | ⟨o, h⟩) | h
  · exact .inl (.inl (e _ _ h))
  · exact .inl (.inr ⟨o, e _ _ h⟩)
  · exact .inr h
/-- over a tuple -/
theorem lc_of_tup {K : PySem.W.Frag} {a : Addr} {H1 : Hp} {D : Addr} {i : Nat} {σ : L2.St} {xs : List V} (out : List (Option V)) {tt : TT} {te : TE} {Qd : Hp → Prop} (hl : SqT K H1 a xs) (un : H1 D = none) (T : Turns H1 i (σ.set i none) xs out tt te) (mono : MonoT tt)
    (fin : ∀ H', Same H1 H' → H' D = some (.lst (outOf out)) → Qd H') :
    ∃ W : Nat → Nat → Hp → Prop, (∃ m, W 0 m (upd H1 D (.lst []))) ∧ ∀ i' m H, W i' m H →
      ((Itt K a).stop i' H ∧ Qd H) ∨ ((Itt K a).go i' H ∧ ∃ Nx : Hp → Prop, (∀ H', Nx H' → ∃ m', m' < m ∧ W (i' + 1) m' H') ∧ ∀ x H', (Itt K a).yld i' H x H' → gName i x (wipe σ [i]) H' fun σ2 H2 => wipe σ2 [i] = wipe σ [i] ∧ tt σ2 H2 fun b H3 =>
        if b = true then te σ2 H3 fun y H4 => ∃ acc, H4 D = some (.lst acc) ∧ acc.length < sizeLine ∧ Nx (upd H4 D (.lst (acc ++ [y]))) else Nx H3) := by
  refine lc_tup (K := K) (a := a) (xs := xs) (fun j H => Same H1 H ∧ H D = some (.lst (outOf (out.take j)))) ⟨same_new un, by rw [upd_same, outOf_zero]⟩ (fun j H _ q => same_tup q.1 hl) (fun j x H hx q => ?_) fun H q => fin H q.1 ?_
  · exact turn_core T mono hx q.1 q.2 un fun H' a b => ⟨a, b⟩
  · have q2 := q.2
    rw [← T.len, List.take_length] at q2
    exact q2
theorem outOf_some (ys : List V) : outOf (ys.map some) = ys := by simp [outOf]
theorem out_map (f : V → V) : ∀ xs : List V, outOf (xs.map fun x => some (f x)) = xs.map f
  | [] => rfl
  | x :: r => by
    have ih := out_map f r
    unfold outOf at ih ⊢
    rw [List.map_cons, List.map_cons, List.filterMap_cons]
    exact congrArg _ ih
/-- no test -/
theorem turns_map {H1 : Hp} {i : Nat} {σ : L2.St} {xs : List V} (f : V → V) {te : TE} (few : xs.length ≤ 100000)
    (el : ∀ x H (Q : VK), x ∈ xs → Same H1 H → (∀ H', Same H H' → Q (f x) H') → te (σ.set i (some x)) H Q) : Turns H1 i σ xs (xs.map fun x => some (f x)) tYes te where
  len := by simp
  few := few
  keep := fun j x y H Q hx hy s1 q => by
    rw [List.getElem?_map, hx] at hy
    simp only [Option.map_some, Option.some.injEq] at hy
    subst hy
    exact ⟨rfl, Same.refl H, el x H Q (List.mem_of_getElem? hx) s1 q⟩
  drop := fun j x H hx hy _ => by
    rw [List.getElem?_map, hx] at hy
    cases hy

/-! ### readings grow with what is wanted -/
def MonoE (t : TE) : Prop := ∀ σ H (Q Q' : VK), (∀ v H1, Q v H1 → Q' v H1) → t σ H Q → t σ H Q'
def MonoR (r : R2) : Prop := ∀ x y H (Q Q' : VK), (∀ v H1, Q v H1 → Q' v H1) → r x y H Q → r x y H Q'
theorem mono_var {i : Nat} : MonoE (tVar i) := fun _ _ _ _ f ⟨v, e, q⟩ => ⟨v, e, f _ _ q⟩
theorem mono_c {v : V} : MonoE (tC v) := fun _ _ _ _ f q => f _ _ q
theorem mono_op {r : R2} {ta tb : TE} (hr : MonoR r) (ha : MonoE ta) (hb : MonoE tb) : MonoE (tOp r ta tb) := fun σ H Q Q' f q => ha _ _ _ _ (fun x H1 q1 => hb _ _ _ _ (fun y H2 q2 => hr _ _ _ _ _ f q2) q1) q
theorem mono_rI {C : Int → Int → Prop} {g : Int → Int → V} : MonoR (rI C g) := fun _ _ _ _ _ f ⟨i, j, e1, e2, c, q⟩ => ⟨i, j, e1, e2, c, f _ _ q⟩
theorem mono_rI0 {g : Int → Int → V} : MonoR (rI0 g) := fun _ _ _ _ _ f ⟨i, j, e1, e2, q⟩ => ⟨i, j, e1, e2, f _ _ q⟩
theorem mono_rEq : MonoR rEq := fun _ _ _ _ _ f ⟨e, q⟩ => ⟨e, f _ _ q⟩
theorem mono_rNe : MonoR rNe := fun _ _ _ _ _ f ⟨e, q⟩ => ⟨e, f _ _ q⟩
theorem mono_test {t : TE} (h : MonoE t) : MonoT (tTest t) := fun _ _ _ _ f q => h _ _ _ _ (fun _ _ ⟨k, e, q1⟩ => ⟨k, e, f _ _ q1⟩) q
theorem mono_tB {t : TE} (h : MonoE t) : MonoT (tB t) := fun _ _ _ _ f q => h _ _ _ _ (fun _ _ ⟨k, e, q1⟩ => ⟨k, e, f _ _ q1⟩) q

/-! ### a deal's making, a pick -/
def mag (i : Int) : Int := if i < 0 then -i else i
theorem mag_nn (i : Int) : 0 ≤ mag i := by unfold mag; split <;> omega
theorem cut_ints (ns : List Int) (lo hi : Option Int) : ∃ ms : List Int, cutV (ns.map V.int) lo hi = ms.map V.int ∧ ms.length ≤ ns.length := by
  refine ⟨(ns.drop (HT.sIx ns.length 0 lo)).take (HT.sIx ns.length ns.length hi - HT.sIx ns.length 0 lo), ?_, ?_⟩
  · unfold cutV
    rw [List.length_map, List.map_take, List.map_drop]
  · rw [List.length_take, List.length_drop]
    omega
theorem mem_ints {x : V} {ns : List Int} (h : x ∈ ns.map V.int) : ∃ n, n ∈ ns ∧ x = V.int n := by
  obtain ⟨n, hn, e⟩ := List.mem_map.mp h
  exact ⟨n, hn, e.symm⟩
/-- a deal that is made: b a number from 0 on -/
def spDeal (K : PySem.W.Frag) : Sp := fun vs H Q _ => ∃ (a : Addr) (ns : List Int) (b : Int), vs = [.ref a, .int b] ∧ SqL K H a (ns.map V.int) ∧ ns.length ≤ 63 ∧ 0 ≤ b ∧ b < 1000 ∧
  ∀ (H' : Hp) (d l : Addr), Deal H H' d l → Q (.ref d) H'
/-- one of these, a list or a tuple of at least one -/
def spPick (K : PySem.W.Frag) : Sp := fun vs H Q _ => ∃ (G : Hp) (d l a : Addr) (xs : List V), vs = [.ref d, .ref a] ∧ Deal G H d l ∧ SqL K G a xs ∧ xs ≠ [] ∧ xs.length < 1000 ∧ ∀ (H' : Hp) (x : V), Deal G H' d l → x ∈ xs → Q x H'
theorem at_int {xs : List V} {r : Int} (h0 : 0 ≤ r) (h1 : r < xs.length) : ∃ x, x ∈ xs ∧ atI xs r = some x := by
  have h : r.toNat < xs.length := by omega
  refine ⟨xs[r.toNat], List.getElem_mem h, ?_⟩
  have q := atI_nat (List.getElem?_eq_getElem h)
  rwa [Int.toNat_of_nonneg h0] at q
def magV : V → V
  | .int i => .int (mag i)
  | v => v
theorem magV_map (ms : List Int) : (ms.map V.int).map magV = (ms.map mag).map V.int := by
  rw [List.map_map, List.map_map]; rfl
def bigV : V → Option V
  | .int i => if decide ((10 : Int) ^ (18 : Int).toNat ≤ i) = true then some (.int i) else none
  | _ => none
theorem big_out (ms : List Int) : outOf ((ms.map V.int).map bigV) = (ms.filter fun i => decide ((10 : Int) ^ (18 : Int).toNat ≤ i)).map V.int := by
  unfold outOf
  induction ms with
  | nil => rfl
  | cons m r ih =>
    rw [List.map_cons, List.map_cons, List.filterMap_cons, List.filter_cons]
    by_cases h : decide ((10 : Int) ^ (18 : Int).toNat ≤ m) = true
    · have e : bigV (.int m) = some (.int m) := if_pos h
      rw [if_pos h, List.map_cons, e]
      exact congrArg _ ih
    · have e : bigV (.int m) = none := if_neg h
      rw [if_neg h, e]
      exact ih

/-! ### data: what stands stays; its type -/
mutual
theorem dp_same {K : PySem.W.Frag} {H H' : Hp} (e : Same H H') : ∀ (d : PyData) (v : V), Dp K H v d → Dp K H' v d
  | .none, _, h => by cases h; exact .non
  | .bool b, _, h => by cases h; exact .bl b
  | .int i, _, h => by cases h; exact .int i
  | .str x, _, h => by cases h; exact .str x
  | .list ds, _, h => by
    cases h with
    | lst h1 h2 => exact .lst (e.seq h1) (dpAll_same e ds _ h2)
  | .tuple ds, _, h => by
    cases h with
    | tup h1 h2 => exact .tup (same_tup e h1) (dpAll_same e ds _ h2)
  | .dict _, _, h => by cases h
theorem dpAll_same {K : PySem.W.Frag} {H H' : Hp} (e : Same H H') : ∀ (ds : List PyData) (vs : List V), DpAll K H vs ds → DpAll K H' vs ds
  | [], _, h => by cases h; exact .nil
  | d :: ds, _, h => by
    cases h with
    | cons h1 h2 => exact .cons (dp_same e d _ h1) (dpAll_same e ds _ h2)
end
theorem dpAll_len {K : PySem.W.Frag} {H : Hp} : ∀ {vs : List V} {ds : List PyData}, DpAll K H vs ds → vs.length = ds.length
  | _, _, .nil => rfl
  | _, _, .cons _ t => congrArg (· + 1) (dpAll_len t)
theorem dpAll_at {K : PySem.W.Frag} {H : Hp} : ∀ {vs : List V} {ds : List PyData} {i : Nat} {v : V}, DpAll K H vs ds → vs[i]? = some v → ∃ d, ds[i]? = some d ∧ Dp K H v d
  | _, _, _, _, .nil, e => by simp at e
  | _, _, 0, _, .cons h _, e => by
    have e' := Option.some.inj e
    subst e'
    exact ⟨_, rfl, h⟩
  | _, _, i + 1, _, .cons _ t, e => dpAll_at (i := i) t (by simpa using e)
theorem dpAll_mem {K : PySem.W.Frag} {H : Hp} {vs : List V} {ds : List PyData} {v : V} (h : DpAll K H vs ds) (m : v ∈ vs) : ∃ d, d ∈ ds ∧ Dp K H v d := by
  obtain ⟨i, hi⟩ := List.getElem?_of_mem m
  obtain ⟨d, e, q⟩ := dpAll_at h hi
  exact ⟨d, List.mem_of_getElem? e, q⟩
def tyD : PyData → String
  | .none => "NoneType" | .bool _ => "bool" | .int _ => "int" | .str _ => "str" | .list _ => "list" | .tuple _ => "tuple" | .dict _ => "dict"
theorem ty_data {K : PySem.W.Frag} {H : Hp} {v : V} {d : PyData} (h : Dp K H v d) : TyX K H v (.type (tyD d)) := by
  cases h with
  | non => exact .base .non
  | bl b => exact .base (.bl b)
  | int i => exact .base (.int i)
  | str x => exact .base (.str x)
  | lst hs _ =>
    rcases hs with (hs | ⟨o, hs⟩) | ⟨o, _, _, hs, hc, _⟩
    · exact .base (.lst hs)
    · exact .base (.frz hs)
    · exact .kList hs hc
  | tup hs _ =>
    rcases hs with (hs | ⟨o, hs⟩) | ⟨o, _, _, hs, hc, _⟩
    · exact .base (.tup hs)
    · exact .fTuple hs
    · exact .kTuple hs hc
def isStr : PyData → Bool | .str _ => true | _ => false
def isTup : PyData → Bool | .tuple _ => true | _ => false
def isSeq : PyData → Bool | .list _ => true | .tuple _ => true | _ => false
theorem kit_str {K : PySem.W.Frag} {d : PyData} (h : ∀ kvs, d ≠ .dict kvs) : PySem.W.kitOne K (.type (tyD d)) (.type "str") = some (isStr d) := by
  cases d with
  | dict kvs => exact absurd rfl (h kvs)
  | _ => exact kit_ty (by dsimp only [tyD, isStr, isTup]; decide +kernel)
theorem kit_tup {K : PySem.W.Frag} {d : PyData} (h : ∀ kvs, d ≠ .dict kvs) : PySem.W.kitOne K (.type (tyD d)) (.type "tuple") = some (isTup d) := by
  cases d with
  | dict kvs => exact absurd rfl (h kvs)
  | _ => exact kit_ty (by dsimp only [tyD, isStr, isTup]; decide +kernel)
theorem kit_seq {K : PySem.W.Frag} {d : PyData} (h : ∀ kvs, d ≠ .dict kvs) : PySem.W.kitAny K (.type (tyD d)) [.type "list", .type "tuple"] = some (isSeq d) := by
  cases d with
  | dict kvs => exact absurd rfl (h kvs)
  | list _ => exact kitAny_cons (b := true) (kit_ty (by dsimp only [tyD, isStr, isTup]; decide +kernel)) (fun z => nomatch z) (fun _ => rfl)
  | tuple _ => exact kitAny_cons (b := false) (kit_ty (by dsimp only [tyD, isStr, isTup]; decide +kernel)) (fun _ => kitAny_cons (b := true) (kit_ty (by dsimp only [tyD, isStr, isTup]; decide +kernel)) (fun z => nomatch z) (fun _ => rfl)) (fun z => nomatch z)
  | _ => exact kitAny_cons (b := false) (kit_ty (by dsimp only [tyD, isStr, isTup]; decide +kernel)) (fun _ => kitAny_cons (b := false) (kit_ty (by dsimp only [tyD, isStr, isTup]; decide +kernel)) (fun _ => kitAny_nil) (fun z => nomatch z)) (fun z => nomatch z)
theorem no_dict {K : PySem.W.Frag} {H : Hp} {v : V} {d : PyData} (h : Dp K H v d) : ∀ kvs, d ≠ .dict kvs := fun kvs z => by
  subst z
  cases h

mutual
/-- no dict in it, no long text, no long list -/
def fine : PyData → Bool
  | .str x => decide (x.length ≤ 1000) && PyData.strOk x
  | .list ds => decide (ds.length ≤ 1000) && fineAll ds
  | .tuple ds => decide (ds.length ≤ 1000) && fineAll ds
  | .dict _ => false
  | .none => true
  | .bool _ => true
  | .int _ => true
def fineAll : List PyData → Bool
  | [] => true
  | d :: ds => fine d && fineAll ds
end
theorem fineAll_mem : ∀ {ds : List PyData} {d : PyData}, fineAll ds = true → d ∈ ds → fine d = true
  | e :: ds, d, h, m => by
    have h' : (fine e && fineAll ds) = true := by rw [fineAll] at h; exact h
    obtain ⟨h1, h2⟩ := Bool.and_eq_true_iff.mp h'
    rcases List.mem_cons.mp m with q | q
    · rw [q]; exact h1
    · exact fineAll_mem h2 q

theorem fine_str {z : Str} (h : fine (.str z) = true) : z.length ≤ 1000 ∧ PyData.strOk z = true := by
  rw [fine] at h
  obtain ⟨h1, h2⟩ := Bool.and_eq_true_iff.mp h
  exact ⟨of_decide_eq_true h1, h2⟩
theorem strs_lay : ∀ zs : List Str, (∀ z ∈ zs, PyData.strOk z = true) → PyData.canLayAll0 (zs.map PyData.str) = true
  | [], _ => by simp [PyData.canLayAll0]
  | z :: r, h => by
    have h1 := h z List.mem_cons_self
    have h2 := strs_lay r fun y hy => h y (List.mem_cons_of_mem _ hy)
    simp [PyData.canLayAll0, PyData.canLay0, h1, h2]
theorem strs_depth : ∀ zs : List Str, PyData.depthAll (zs.map PyData.str) = 0
  | [] => by simp [PyData.depthAll]
  | z :: r => by simp [PyData.depthAll, PyData.depth, strs_depth r]
theorem strs_shaped {zs : List Str} (h : ∀ z ∈ zs, PyData.strOk z = true) : SeqAt.shaped (.list (zs.map PyData.str)) = true := by
  simp [SeqAt.shaped, PyData.canLay0, PyData.depth, strs_lay zs h, strs_depth]
theorem strs_data {K : PySem.W.Frag} {H : Hp} : ∀ zs : List Str, DpAll K H (zs.map V.str) (zs.map PyData.str)
  | [] => .nil
  | z :: r => .cons (.str z) (strs_data r)

/-! ### a comprehension over a text -/
abbrev signsOf (z : Str) : List V := z.cps.toList.map fun c => V.str ⟨#[c]⟩
theorem lc_of_str {z : Str} {H1 : Hp} {D : Addr} {i : Nat} {σ : L2.St} (out : List (Option V)) {tt : TT} {te : TE} {Qd : Hp → Prop} (un : H1 D = none) (T : Turns H1 i (σ.set i none) (signsOf z) out tt te) (mono : MonoT tt)
    (fin : ∀ H', Same H1 H' → H' D = some (.lst (outOf out)) → Qd H') :
    ∃ W : Nat → Nat → Hp → Prop, (∃ m, W 0 m (upd H1 D (.lst []))) ∧ ∀ i' m H, W i' m H →
      ((Its z).stop i' H ∧ Qd H) ∨ ((Its z).go i' H ∧ ∃ Nx : Hp → Prop, (∀ H', Nx H' → ∃ m', m' < m ∧ W (i' + 1) m' H') ∧ ∀ x H', (Its z).yld i' H x H' → gName i x (wipe σ [i]) H' fun σ2 H2 => wipe σ2 [i] = wipe σ [i] ∧ tt σ2 H2 fun b H3 =>
        if b = true then te σ2 H3 fun y H4 => ∃ acc, H4 D = some (.lst acc) ∧ acc.length < sizeLine ∧ Nx (upd H4 D (.lst (acc ++ [y]))) else Nx H3) := by
  refine ⟨fun j m H => m = z.cps.size - j ∧ j ≤ z.cps.size ∧ Same H1 H ∧ H D = some (.lst (outOf (out.take j))), ⟨z.cps.size, rfl, Nat.zero_le _, same_new un, by rw [upd_same, outOf_zero]⟩, ?_⟩
  rintro j m H ⟨rfl, hj, s1, hD⟩
  have ol : out.length = z.cps.size := by rw [T.len, List.length_map, Array.length_toList]
  by_cases lt : j < z.cps.size
  · refine .inr ⟨lt, fun H' => Same H1 H' ∧ H' D = some (.lst (outOf (out.take (j + 1)))), fun H' q => ⟨z.cps.size - (j + 1), by omega, rfl, lt, q⟩, fun x H' y => ?_⟩
    obtain ⟨rfl, c, hc, rfl⟩ := y
    refine turn_core T mono (j := j) ?_ s1 hD un fun H'' a b => ⟨a, b⟩
    rw [List.getElem?_map, Array.getElem?_toList, hc]
    rfl
  · have e : j = z.cps.size := by omega
    subst e
    refine .inl ⟨Nat.le_refl _, fin H s1 ?_⟩
    rw [← ol, List.take_length] at hD
    exact hD
end Lw

set_option Elab.async false
set_option linter.all false
set_option maxRecDepth 100000
set_option maxHeartbeats 4000000
/-! Two rules: C.f(e, ..) of a class's plain def; C(e, ..) that may raise, in a try. An own error's making. -/
namespace Lw
open PySem PySem.Spec PyProof.Rows L2
section
variable {X : Cx} {CX : CXT} {k : Nat} {f C : Addr} {fd : FuncData} {ps : List Str} {sp : Sp} {dvs : List V} {ds : List Value} {E : XK} {x m : Str} {p pos apos : Pos} {e o : Expr} {es : List Expr} {ta : TE} {t : TA} {mc : Value} {pl : Sem Bool}
/-- C.f(e, ..), C a class, f a def of it -/
def tCFun (C : Addr) (sp : Sp) (E : XK) (ta : TE) (t : TA) : TE := fun σ H Q => ta σ H fun x H1 => x = .ref C ∧ t σ H1 fun vs H2 => sp vs H2 Q E
theorem pe_cfun (he : PE X o ta) (r : ClX.CRead X.K C mc) (c : ClX.CVal X.K C mc m (.ref f) (.ref f)) (F : FnOk X.prog X.w X.K X.mg X.base CX k f fd ps sp) (hr : Room k X.A) (hk : PySem.W.keepIn X.K (.ref f) = true) (hb : Binds X.K fd ps []) (hx : Passes CX X E) (ha : PA X (e :: es) t)
    (hst : starEach (e :: es) X.env = (false, eval e X.env) :: starEach es X.env := by rfl) (hpl : (backTo pos (starEach es X.env)).any (·.1) = false := by rfl)
    (ht : eval (.Call (.Attribute o m apos) (e :: es) [] pos) X.env = (do
      let ov ← eval o X.env
      standAt apos.atName
      let (f, first) ← holding [ov] (getMethod ov m pl)
      callWith pos f first (backTo pos (starEach (e :: es) X.env)) (backToKw pos (keywordEach [] X.env))) := by rfl) :
    PE X (.Call (.Attribute o m apos) (e :: es) [] pos) (tCFun C sp E ta t) := by
  refine ⟨fun pins s σ H Q I h => ?_⟩
  refine PySem.W.methodCall_KW (pl := pl) (thn (he.run pins s σ H _ I h) fun u s1 ⟨x, H1, I1, rx, ex, q⟩ => ?_) ht
  subst ex
  obtain rfl : u = Value.ref C := rx
  refine PySem.W.method_cls I1.kIn r.ga (ClX.getcval_ok I1 r c fun s2 I2 => ?_)
  refine PySem.W.callWith_K (h₀ := X.base) I2.ok.mod.kin hk (thn (ha.run pos pins s2 σ H1 _ I2 q) fun us s3 ⟨vs, H2, I3, r3, q3⟩ => ⟨I3.kIn, ?_⟩) hst hpl
  exact run_fn F hr hb .nil hx I3 r3 (by rw [List.append_nil]; exact q3)
/-- C(e, ..), what it raises wished for at the slots -/
def tMakeS (C : Addr) (sp : Sp) (dvs : List V) (E : L2.St → XK) (t : TA) : TE := fun σ H Q => t σ H fun vs H1 => ∀ x dx, H1 x = none → H1 dx = none → dx ≠ x →
  sp (.ref x :: (vs ++ dvs)) (upd (upd H1 dx (.own x)) x (.ins C dx [])) (fun v H2 => v = .non ∧ Q (.ref x) H2) (E σ)
theorem pe_makeS {E : L2.St → XK} (M : Mk X.K C f) (F : FnOk X.prog X.w X.K X.mg X.base CX k f fd ps sp) (hr : Room (k + 1) X.A) (hg : Gl X x) (hm : X.mg x = some (.ref C)) (hb : Binds X.K fd ps ds) (hd : Vals dvs ds) (hx : ∀ σ, PassesAt CX X σ (E σ))
    (ha : PA X (e :: es) t) (hdb : (x == ("__debug__" : Str)) = false := by decide) (he : starEach (e :: es) X.env = (false, eval e X.env) :: starEach es X.env := by rfl) (hpl : (backTo pos (starEach es X.env)).any (·.1) = false := by rfl) :
    PE X (.Call (.Name x p) (e :: es) [] pos) (tMakeS C sp dvs E t) := by
  refine ⟨fun pins s σ H Q I h => ?_⟩
  refine wpAny_Call_Name_kw (ld_glob I hg hm ?_ hdb)
  refine PySem.W.callWith_K (h₀ := X.base) I.ok.mod.kin M.kp (thn (ha.run pos pins s σ H _ I h) fun us s1 ⟨vs, H1, I1, r, q⟩ => ⟨I1.kIn, ?_⟩) he hpl
  have hq := q (s1.heap.objs.size + 1) s1.heap.objs.size (I1.hok.fresh (Nat.le_succ _)) (I1.hok.fresh (Nat.le_refl _)) (Nat.ne_of_lt (Nat.lt_succ_self _))
  have I2 := Inv.made (C := C) I1
  have r2 : Vals (V.ref (s1.heap.objs.size + 1) :: (vs ++ dvs)) (Value.ref (s1.heap.objs.size + 1) :: (us ++ ds)) := .cons rfl (r.append hd)
  have hl : (Value.ref (s1.heap.objs.size + 1) :: us ++ ds).length = ps.length := by
    have e := r2.length
    rw [F.len _ _ _ _ hq] at e
    exact e.symm
  refine wpAny_call (make_map (f := f) I1.kIn M.makes M.init (beq_iff_eq.mp M.fn) (codeAny_mono (F.run _ X.stack _ _ ⟨Value.ref (s1.heap.objs.size + 1) :: us, []⟩ (Value.ref (s1.heap.objs.size + 1) :: (us ++ ds)) _ _ (E σ) (hr.make C us [])
    (I2.env0.make C us []) (hb _ (Value.ref (s1.heap.objs.size + 1) :: us) I2.kIn hl) r2 hq) fun r s' hq' => ?_))
  cases r with
  | error e => exact hx σ pins _ _ e s' I2 hq'
  | ok fl =>
    cases fl with
    | ret u =>
      obtain ⟨v, H', I3, rv, ev, q3⟩ := I2.after hq'
      subst ev
      exact ⟨rv, ⟨V.ref (s1.heap.objs.size + 1), H', I3, rfl, q3⟩⟩
    | next => exact False.elim hq'
    | brk => exact False.elim hq'
    | cont => exact False.elim hq'
end
/-- the promise of an own error's __init__ that keeps one argument -/
def spErr (C : Addr) (f : Str) : Sp := fun vs H Q _ => ∃ (a : Addr) (x : V), vs = [.ref a, x] ∧ H a = some (exo a C none) ∧ (∀ dx, H dx = none → dx ≠ a → Q .non (upd (upd H dx (exd dx [(f, x)])) a (exo a C (some dx))))
/-- what is asked of the heap behind the making of an own error -/
theorem err_heap {H : Hp} {a d : Addr} {C : Addr} {f : Str} {x : V} (ha : H a = none) (hd : (upd H a (exo a C none)) d = none) (ne : d ≠ a) :
    upd (del (upd (upd (upd H a (exo a C none)) d (exd d [(f, x)])) a (exo a C (some d))) a) d (.xd [(f, x)]) = upd H d (.xd [(f, x)]) := by
  funext b
  by_cases e : b = d
  · subst e
    rw [upd_same, upd_same]
  · rw [upd_ne e, upd_ne e]
    by_cases e2 : b = a
    · subst e2
      rw [del_same, ha]
    · rw [del_ne e2, upd_ne e2, upd_ne e, upd_ne e2]
end Lw

set_option Elab.async false
set_option linter.all false
set_option maxRecDepth 100000
set_option maxHeartbeats 4000000
/-! What is walked is a list or a tuple. -/
namespace Lw
open PySem PySem.Spec PyProof.Rows L2
section
variable {X : Cx} {tg l : Expr} {t1 t2 : TI}
theorem PI.or (h1 : PI X tg l t1) (h2 : PI X tg l t2) : PI X tg l (fun σ H R => t1 σ H R ∨ t2 σ H R) := by
  refine ⟨fun pins s σ H R I h => ?_⟩
  rcases h with h | h
  · exact h1.run pins s σ H R I h
  · exact h2.run pins s σ H R I h
end
def SqA (K : PySem.W.Frag) (H : Hp) (a : Addr) (xs : List V) : Prop := SqL K H a xs ∨ SqT K H a xs
theorem SqA.same {K : PySem.W.Frag} {H H' : Hp} {a : Addr} {xs : List V} (e : Same H H') (h : SqA K H a xs) : SqA K H' a xs := h.elim (fun h => .inl (e.seq h)) fun h => .inr (same_tup e h)
abbrev iSeq (K : PySem.W.Frag) (tl : TE) : TI := fun σ H R => iList K tl σ H R ∨ iTup K tl σ H R
theorem pi_seq {X : Cx} {tg l : Expr} {tl : TE} (h : PE X l tl) : PI X tg l (iSeq X.K tl) := PI.or (pi_list h) (pi_tup h)
/-- how it is walked -/
inductive JA (K : PySem.W.Frag) (H : Hp) (a : Addr) (xs : List V) : L2.It → Prop
  | l (h : SqL K H a xs) : JA K H a xs (Itl K a)
  | t (h : SqT K H a xs) : JA K H a xs (Itt K a)
theorem seq_run {K : PySem.W.Frag} {a : Addr} {xs : List V} {σ : L2.St} {H : Hp} {i0 : Nat} {R : L2.It → Hp → Prop} (e : σ[i0]? = some (some (.ref a))) (hs : SqA K H a xs) (f : ∀ J, JA K H a xs J → R J H) : iList K (tVar i0) σ H R ∨ iTup K (tVar i0) σ H R := by
  rcases hs with hs | hs
  · exact .inl ⟨_, e, a, rfl, ⟨_, hs⟩, f _ (.l hs)⟩
  · exact .inr ⟨_, e, a, rfl, ⟨_, hs⟩, f _ (.t hs)⟩
theorem lc_of_J {K : PySem.W.Frag} {a : Addr} {H1 : Hp} {D : Addr} {i : Nat} {σ : L2.St} {xs : List V} {J : L2.It} (out : List (Option V)) {tt : TT} {te : TE} {Qd : Hp → Prop} (hl : JA K H1 a xs J) (un : H1 D = none) (T : Turns H1 i (σ.set i none) xs out tt te) (mono : MonoT tt)
    (fin : ∀ H', Same H1 H' → H' D = some (.lst (outOf out)) → Qd H') :
    ∃ W : Nat → Nat → Hp → Prop, (∃ m, W 0 m (upd H1 D (.lst []))) ∧ ∀ i' m H, W i' m H →
      (J.stop i' H ∧ Qd H) ∨ (J.go i' H ∧ ∃ Nx : Hp → Prop, (∀ H', Nx H' → ∃ m', m' < m ∧ W (i' + 1) m' H') ∧ ∀ x H', J.yld i' H x H' → gName i x (wipe σ [i]) H' fun σ2 H2 => wipe σ2 [i] = wipe σ [i] ∧ tt σ2 H2 fun b H3 =>
        if b = true then te σ2 H3 fun y H4 => ∃ acc, H4 D = some (.lst acc) ∧ acc.length < sizeLine ∧ Nx (upd H4 D (.lst (acc ++ [y]))) else Nx H3) := by
  cases hl with
  | l h => exact lc_of_list out h un T mono fin
  | t h => exact lc_of_tup out h un T mono fin
theorem for_J {K : PySem.W.Frag} {a : Addr} {xs : List V} {σ : L2.St} {H : Hp} {J : L2.It} {g : TG} {t : TS} {D : Ends} (hs : JA K H a xs J) (Pv : Nat → L2.St → Hp → Prop) (h0 : Pv 0 σ H) (keep : ∀ i σ' H', Pv i σ' H' → Same H H')
    (turn : ∀ i x σ' H', xs[i]? = some x → Pv i σ' H' → g x σ' H' fun σ2 H2 => t { D with nx := Pv (i + 1), ct := Pv (i + 1), bk := D.nx } σ2 H2) (done : ∀ σ' H', Pv xs.length σ' H' → D.nx σ' H') :
    ∃ W : Nat → Nat → L2.St → Hp → Prop, (∃ m, W 0 m σ H) ∧ ∀ i m σ H, W i m σ H →
      (J.stop i H ∧ D.nx σ H) ∨ (J.go i H ∧ ∃ N : L2.St → Hp → Prop, (∀ σ' H', N σ' H' → ∃ m', m' < m ∧ W (i + 1) m' σ' H') ∧ ∀ x H', J.yld i H x H' → g x σ H' fun σ2 H2 => t { D with nx := N, ct := N, bk := D.nx } σ2 H2) := by
  cases hs with
  | l h => exact for_list (K := K) (a := a) (xs := xs) Pv h0 (fun i σ' H' _ p => (keep i σ' H' p).seq h) turn done
  | t h => exact for_tup (K := K) (a := a) (xs := xs) Pv h0 (fun i σ' H' _ p => same_tup (keep i σ' H' p) h) turn done
/-- the turns of a set comprehension -/
structure TurnsK (H1 : Hp) (i : Nat) (σ : L2.St) (xs : List V) (ks : List Key) (te : TE) : Prop where
  len : ks.length = xs.length
  few : xs.length ≤ 1000
  el : ∀ (j : Nat) (x : V) (k : Key) (H : Hp) (Q : VK), xs[j]? = some x → ks[j]? = some k → Same H1 H → (∀ H', Same H H' → Q (kV k) H') → te (σ.set i (some x)) H Q
theorem turnK_core {P : Program} {w : World} {H1 H : Hp} {D : Addr} {i : Nat} {σ : L2.St} {xs : List V} {ks : List Key} {te : TE} (T : TurnsK H1 i (σ.set i none) xs ks te) {j : Nat} {x : V} (hx : xs[j]? = some x)
    (s1 : Same H1 H) (hD : H D = some (SetK P w D (fun k => decide (k ∈ ks.take j)) (Sx.nub (ks.take j)).length)) (un : H1 D = none) {Nx : Hp → Prop} (fin : ∀ H', Same H1 H' → H' D = some (SetK P w D (fun k => decide (k ∈ ks.take (j + 1))) (Sx.nub (ks.take (j + 1))).length) → Nx H') :
    gName i x (wipe σ [i]) H fun σ2 H2 => wipe σ2 [i] = wipe σ [i] ∧ tYes σ2 H2 fun b H3 => if b = true then te σ2 H3 (Sx.TurnK P w D Nx) else Nx H3 := by
  refine ⟨by simp [wipe], ?_⟩
  show if true = true then te ((σ.set i none).set i (some x)) H (Sx.TurnK P w D Nx) else Nx H
  refine iteT ?_
  have hj : j < ks.length := by rw [T.len]; exact (List.getElem?_eq_some_iff.mp hx).1
  have hk : ks[j]? = some ks[j] := List.getElem?_eq_getElem hj
  refine T.el j x ks[j] H _ hx hk s1 fun H4 s4 => ⟨ks[j], _, _, rfl, s4 _ _ hD, ?_, fin _ (fun b o eb => ?_) ?_⟩
  · have := Sx.len_nub_le _ (ks.take j) rfl
    rw [List.length_take] at this
    have l2 := T.few
    have l3 := T.len
    exact Nat.lt_of_le_of_lt (show (Sx.nub (ks.take j)).length + 1 ≤ 1001 by omega) (by decide)
  · rw [upd_ne (ne_of_none eb un)]
    exact s4 _ _ (s1 _ _ eb)
  · have tk : ks.take (j + 1) = ks.take j ++ [ks[j]] := by rw [List.take_add_one, hk]; rfl
    have e1 : (fun k => decide (k ∈ ks.take j) || decide (k = ks[j])) = fun k => decide (k ∈ ks.take (j + 1)) := by
      funext k
      have q : k ∈ ks.take (j + 1) ↔ k ∈ ks.take j ∨ k = ks[j] := by rw [tk, List.mem_append, List.mem_singleton]
      rw [decide_eq_decide.mpr q, Bool.decide_or]
    have e2 : (if decide (ks[j] ∈ ks.take j) = true then (Sx.nub (ks.take j)).length else (Sx.nub (ks.take j)).length + 1) = (Sx.nub (ks.take (j + 1))).length := by
      rw [tk, Sx.nub_snoc, Sx.len_put1]
      by_cases h : ks[j] ∈ ks.take j
      · rw [if_pos (decide_eq_true h), if_pos (Sx.mem_nub'.mpr h)]
      · rw [if_neg (by simpa using h), if_neg fun z => h (Sx.mem_nub'.mp z)]
    rw [upd_same]
    show some (SetK P w D (fun k => decide (k ∈ ks.take j) || decide (k = ks[j])) (if decide (ks[j] ∈ ks.take j) = true then (Sx.nub (ks.take j)).length else (Sx.nub (ks.take j)).length + 1)) = _
    rw [e1, e2]
theorem sck_of_J {P : Program} {w : World} {K : PySem.W.Frag} {a : Addr} {xs : List V} {ks : List Key} {σ : L2.St} {H1 : Hp} {D : Addr} {i : Nat} {te : TE} {Qd : Hp → Prop} {J : L2.It} (hs : JA K H1 a xs J) (un : H1 D = none) (T : TurnsK H1 i (σ.set i none) xs ks te)
    (fin : ∀ H', Same H1 H' → H' D = some (SetK P w D (fun k => decide (k ∈ ks)) (Sx.nub ks).length) → Qd H') :
    ∃ W : Nat → Nat → Hp → Prop, (∃ m, W 0 m (upd H1 D (SetK P w D (fun _ => false) 0))) ∧ ∀ i' m H, W i' m H →
      (J.stop i' H ∧ Qd H) ∨ (J.go i' H ∧ ∃ Nx : Hp → Prop, (∀ H', Nx H' → ∃ m', m' < m ∧ W (i' + 1) m' H') ∧ ∀ x H', J.yld i' H x H' →
        gName i x (wipe σ [i]) H' fun σ2 H2 => wipe σ2 [i] = wipe σ [i] ∧ tYes σ2 H2 fun b H3 => if b = true then te σ2 H3 (Sx.TurnK P w D Nx) else Nx H3) := by
  have all : ∀ {H' : Hp}, H' D = some (SetK P w D (fun k => decide (k ∈ ks.take xs.length)) (Sx.nub (ks.take xs.length)).length) → H' D = some (SetK P w D (fun k => decide (k ∈ ks)) (Sx.nub ks).length) := fun {H'} h => by
    rwa [← T.len, List.take_length] at h
  have zero : (upd H1 D (SetK P w D (fun _ => false) 0)) D = some (SetK P w D (fun k => decide (k ∈ ks.take 0)) (Sx.nub (ks.take 0)).length) := by
    rw [upd_same]
    have e1 : (fun k : Key => decide (k ∈ ks.take 0)) = fun _ => false := by
      funext k
      simp
    rw [e1]
    rfl
  refine ⟨fun j m H' => m = xs.length - j ∧ j ≤ xs.length ∧ Same H1 H' ∧ H' D = some (SetK P w D (fun k => decide (k ∈ ks.take j)) (Sx.nub (ks.take j)).length), ⟨xs.length, by simp, Nat.zero_le _, same_new un, zero⟩, ?_⟩
  rintro j m H' ⟨rfl, hj, s1, hD⟩
  cases hs with
  | l hs =>
    have q : SqL K H' a xs := s1.seq hs
    by_cases lt : j < xs.length
    · refine .inr ⟨⟨xs, xs[j], q, by simp [lt]⟩, fun H' => Same H1 H' ∧ H' D = some (SetK P w D (fun k => decide (k ∈ ks.take (j + 1))) (Sx.nub (ks.take (j + 1))).length), fun H' p' => ⟨xs.length - (j + 1), by omega, rfl, lt, p'⟩, fun x H'' y => ?_⟩
      obtain ⟨e, y⟩ := y
      subst e
      exact turnK_core T (y xs q) s1 hD un fun _ a b => ⟨a, b⟩
    · have e : j = xs.length := by omega
      subst e
      exact .inl ⟨⟨xs, q, Nat.le_refl _⟩, fin H' s1 (all hD)⟩
  | t hs =>
    have q : SqT K H' a xs := same_tup s1 hs
    by_cases lt : j < xs.length
    · refine .inr ⟨⟨xs, xs[j], q, by simp [lt]⟩, fun H' => Same H1 H' ∧ H' D = some (SetK P w D (fun k => decide (k ∈ ks.take (j + 1))) (Sx.nub (ks.take (j + 1))).length), fun H' p' => ⟨xs.length - (j + 1), by omega, rfl, lt, p'⟩, fun x H'' y => ?_⟩
      obtain ⟨e, y⟩ := y
      subst e
      exact turnK_core T (y xs q) s1 hD un fun _ a b => ⟨a, b⟩
    · have e : j = xs.length := by omega
      subst e
      exact .inl ⟨⟨xs, q, Nat.le_refl _⟩, fin H' s1 (all hD)⟩
end Lw

set_option Elab.async false
set_option linter.all false
set_option maxRecDepth 100000
set_option maxHeartbeats 4000000
namespace Lw
open PySem PySem.Spec PyProof.Rows L2
/-- all but what stands at p, an instance -/
def But (p : Addr) (H H' : Hp) : Prop := ∀ b o, H b = some o → b ≠ p → H' b = some o
theorem But.seq {K : PySem.W.Frag} {H H' : Hp} {p a C dx : Addr} {fs : List (Str × V)} {xs : List V} (hp : H p = some (.ins C dx fs)) (k : But p H H') (h : SqL K H a xs) : SqL K H' a xs := by
  rcases h with (h | ⟨o, h⟩) | h
  · exact .inl (.inl (k _ _ h fun z => by rw [z, hp] at h; cases h))
  · exact .inl (.inr ⟨o, k _ _ h fun z => by rw [z, hp] at h; cases h⟩)
  · exact .inr h
theorem But.tup {K : PySem.W.Frag} {H H' : Hp} {p a C dx : Addr} {fs : List (Str × V)} {xs : List V} (hp : H p = some (.ins C dx fs)) (k : But p H H') (h : SqT K H a xs) : SqT K H' a xs := by
  rcases h with (h | ⟨o, h⟩) | h
  · exact .inl (.inl (k _ _ h fun z => by rw [z, hp] at h; cases h))
  · exact .inl (.inr ⟨o, k _ _ h fun z => by rw [z, hp] at h; cases h⟩)
  · exact .inr h
theorem But.sqA {K : PySem.W.Frag} {H H' : Hp} {p a C dx : Addr} {fs : List (Str × V)} {xs : List V} (hp : H p = some (.ins C dx fs)) (k : But p H H') (h : SqA K H a xs) : SqA K H' a xs := h.elim (fun h => .inl (k.seq hp h)) fun h => .inr (k.tup hp h)
/-- [y for t in ts for y in t], ts a list or a tuple of tuples -/
theorem lc2_flat {K : PySem.W.Frag} {a : Addr} {H1 : Hp} {D : Addr} {s0 s1 s2 s3 v4 v5 : Option V} {xs : List V} {J : L2.It} {Qd : Hp → Prop} (hJ : JA K H1 a xs J) (un : H1 D = none) (yss : List (List V)) (len : yss.length = xs.length)
    (each : ∀ (j : Nat) (x : V), xs[j]? = some x → ∃ (p : Addr) (ys : List V), x = .ref p ∧ yss[j]? = some ys ∧ SqT K H1 p ys) (few : yss.flatten.length ≤ 100000) (fin : ∀ H', Same H1 H' → H' D = some (.lst yss.flatten) → Qd H') :
    ∃ W : Nat → Nat → Hp → Prop, (∃ m, W 0 m (upd H1 D (.lst []))) ∧ ∀ i m H, W i m H →
      (J.stop i H ∧ Qd H) ∨ (J.go i H ∧ ∃ Nx : Hp → Prop, (∀ H', Nx H' → ∃ m', m' < m ∧ W (i + 1) m' H') ∧ ∀ x H', J.yld i H x H' → gName 4 x (wipe [s0, s1, s2, s3, v4, v5] [4, 5]) H' fun σ2 H2 => wipe σ2 [4, 5] = wipe [s0, s1, s2, s3, v4, v5] [4, 5] ∧ tYes σ2 H2 fun b H3 =>
        if b = true then iTup K (tVar 4) σ2 H3 fun J1 H4 => ∃ W1 : Nat → Nat → Hp → Prop, (∃ m, W1 0 m H4) ∧ ∀ j k H, W1 j k H →
          (J1.stop j H ∧ Nx H) ∨ (J1.go j H ∧ ∃ Nx1 : Hp → Prop, (∀ H', Nx1 H' → ∃ k', k' < k ∧ W1 (j + 1) k' H') ∧ ∀ x H', J1.yld j H x H' → gName 5 x (wipe σ2 [5]) H' fun σ3 H5 => wipe σ3 [5] = wipe σ2 [5] ∧ tYes σ3 H5 fun b H6 =>
            if b = true then tVar 5 σ3 H6 fun y H7 => ∃ acc, H7 D = some (.lst acc) ∧ acc.length < sizeLine ∧ Nx1 (upd H7 D (.lst (acc ++ [y]))) else Nx1 H6)
        else Nx H3) := by
  have turn : ∀ (j : Nat) (x : V) (H : Hp), xs[j]? = some x → Same H1 H → H D = some (.lst (yss.take j).flatten) →
      gName 4 x (wipe [s0, s1, s2, s3, v4, v5] [4, 5]) H fun σ2 H2 => wipe σ2 [4, 5] = wipe [s0, s1, s2, s3, v4, v5] [4, 5] ∧ tYes σ2 H2 fun b H3 =>
        if b = true then iTup K (tVar 4) σ2 H3 fun J1 H4 => ∃ W1 : Nat → Nat → Hp → Prop, (∃ m, W1 0 m H4) ∧ ∀ j' k H, W1 j' k H →
          (J1.stop j' H ∧ (Same H1 H ∧ H D = some (.lst (yss.take (j + 1)).flatten))) ∨ (J1.go j' H ∧ ∃ Nx1 : Hp → Prop, (∀ H', Nx1 H' → ∃ k', k' < k ∧ W1 (j' + 1) k' H') ∧ ∀ x H', J1.yld j' H x H' → gName 5 x (wipe σ2 [5]) H' fun σ3 H5 => wipe σ3 [5] = wipe σ2 [5] ∧ tYes σ3 H5 fun b H6 =>
            if b = true then tVar 5 σ3 H6 fun y H7 => ∃ acc, H7 D = some (.lst acc) ∧ acc.length < sizeLine ∧ Nx1 (upd H7 D (.lst (acc ++ [y]))) else Nx1 H6)
        else (Same H1 H3 ∧ H3 D = some (.lst (yss.take (j + 1)).flatten)) := by
    intro j x H hx s1' hD
    obtain ⟨p, ys, rfl, hy, ht⟩ := each j x hx
    have htk : (yss.take (j + 1)).flatten = (yss.take j).flatten ++ ys := by
      rw [List.take_add_one, hy, List.flatten_append]
      simp
    have bound : (yss.take j).flatten.length + ys.length ≤ 100000 := by
      have e : yss.flatten = (yss.take (j + 1)).flatten ++ (yss.drop (j + 1)).flatten := by rw [← List.flatten_append, List.take_append_drop]
      have := congrArg List.length e
      rw [List.length_append, htk, List.length_append] at this
      omega
    have ht' : SqT K H p ys := same_tup s1' ht
    refine ⟨rfl, ?_⟩
    dsimp only [tYes]
    refine iteT ⟨_, rfl, p, rfl, ⟨_, ht'⟩, fun j' k H' => k = ys.length - j' ∧ j' ≤ ys.length ∧ Same H1 H' ∧ H' D = some (.lst ((yss.take j).flatten ++ ys.take j')), ⟨ys.length, by simp, Nat.zero_le _, s1', by simpa using hD⟩, ?_⟩
    rintro j' k H' ⟨rfl, hj, s2', hD'⟩
    have q : SqT K H' p ys := same_tup s2' ht
    by_cases lt : j' < ys.length
    · refine .inr ⟨⟨ys, ys[j'], q, by simp [lt]⟩, fun H'' => Same H1 H'' ∧ H'' D = some (.lst ((yss.take j).flatten ++ ys.take (j' + 1))), fun H'' z => ⟨ys.length - (j' + 1), by omega, rfl, lt, z⟩, fun y H'' yy => ?_⟩
      obtain ⟨e, yy⟩ := yy
      subst e
      have ey := yy ys q
      refine ⟨rfl, ?_⟩
      dsimp only [tYes]
      refine iteT ⟨_, rfl, _, hD', ?_, fun b o eb => ?_, ?_⟩
      · rw [List.length_append, List.length_take]
        exact Nat.lt_of_le_of_lt (show _ ≤ 100000 by omega) (by decide)
      · rw [upd_ne (ne_of_none eb un)]
        exact s2' _ _ eb
      · rw [upd_same, List.take_add_one, ey, List.append_assoc]
        rfl
    · have e : j' = ys.length := by omega
      subst e
      rw [List.take_length] at hD'
      exact .inl ⟨⟨ys, q, Nat.le_refl _⟩, s2', by rw [htk]; exact hD'⟩
  refine ⟨fun j m H' => m = xs.length - j ∧ j ≤ xs.length ∧ Same H1 H' ∧ H' D = some (.lst (yss.take j).flatten), ⟨xs.length, by simp, Nat.zero_le _, same_new un, by rw [upd_same]; simp⟩, ?_⟩
  rintro j m H' ⟨rfl, hj, s1', hD⟩
  have done : j = xs.length → Qd H' := fun e => fin H' s1' (by rwa [e, ← len, List.take_length] at hD)
  cases hJ with
  | l hs =>
    have q : SqL K H' a xs := s1'.seq hs
    by_cases lt : j < xs.length
    · refine .inr ⟨⟨xs, xs[j], q, by simp [lt]⟩, fun H' => Same H1 H' ∧ H' D = some (.lst (yss.take (j + 1)).flatten), fun H' p' => ⟨xs.length - (j + 1), by omega, rfl, lt, p'⟩, fun x H'' y => ?_⟩
      obtain ⟨e, y⟩ := y
      subst e
      exact turn j x _ (y xs q) s1' hD
    · have e : j = xs.length := by omega
      subst e
      exact .inl ⟨⟨xs, q, Nat.le_refl _⟩, done rfl⟩
  | t hs =>
    have q : SqT K H' a xs := same_tup s1' hs
    by_cases lt : j < xs.length
    · refine .inr ⟨⟨xs, xs[j], q, by simp [lt]⟩, fun H' => Same H1 H' ∧ H' D = some (.lst (yss.take (j + 1)).flatten), fun H' p' => ⟨xs.length - (j + 1), by omega, rfl, lt, p'⟩, fun x H'' y => ?_⟩
      obtain ⟨e, y⟩ := y
      subst e
      exact turn j x _ (y xs q) s1' hD
    · have e : j = xs.length := by omega
      subst e
      exact .inl ⟨⟨xs, q, Nat.le_refl _⟩, done rfl⟩
end Lw

set_option Elab.async false
set_option linter.all false
set_option maxRecDepth 100000
set_option maxHeartbeats 4000000
namespace Lw
open PySem PySem.Spec PyProof.Rows L2
/-- isinstance(e, c), e the exception that the suite holds, one with a dict of its own -/
def rIsV (K : PySem.W.Frag) (a : Addr) (cls : Value) (d : Option Addr) : List V → Hp → VK → Prop := fun xs H Q => ∃ (D dd : Addr) (fs : List (PySem.Str × V)) (c : V) (cv : Value) (b : Bool),
  cls = .ref D ∧ d = some dd ∧ H dd = some (.xd fs) ∧ ExcC K D ∧ xs = [.ref a, c] ∧ (∀ u, RelV c u → u = cv) ∧ PySem.W.kitOne K (.ref D) cv = some b ∧ Q (.bl b) H
theorem call_isV {X : Cx} {a : Addr} {cls : Value} {d : Option Addr} {oe : Obj} {pn : List (Addr × Obj)} (hz : Zc cls d oe) (hf : ∃ vs, oe.data = .fields vs) : CallR (X.suite a ((a, oe) :: pn)) (.builtin "isinstance") (rIsV X.K a cls d) := by
  intro pins s σ H xs us Q I r h
  obtain ⟨D, dd, fs, c, cv, b, rfl, rfl, hdd, C, rfl, hcv, e, q⟩ := h
  cases r with
  | cons rx rr =>
    cases rr with
    | cons rt rr =>
      cases rr
      cases rx
      have ec := hcv _ rt
      subst ec
      obtain ⟨hget, _⟩ := I.pin (a, oe) (List.mem_append.mpr (.inl List.mem_cons_self))
      obtain ⟨vs, hv⟩ := hf
      have hx : ObjOk X.prog X.w H s.heap dd (.xd fs) := I.hok dd _ hdd
      obtain ⟨mA, hns, _⟩ := hx
      obtain ⟨od, ho, _⟩ := lookIn_ns hns
      have J : PySem.W.InstAt s.heap a oe D (some od) := ⟨hget, hz.1, by unfold PySem.W.notCls; rw [hv] <;> rfl, by rw [hz.2]; exact ho⟩
      have hcl : (PySem.W.clsIn X.K D).isSome = true := by
        obtain ⟨cd, hc, _⟩ := PySem.W.any_some C.hd
        rw [hc]
        rfl
      exact PySem.W.kia_one (PySem.W.kitx_exc hcl C.hg C.hk C.hs C.ha C.hn C.ht C.hm) I.kIn J e (fun z => nomatch z) fun tk => ⟨.bl b, H, I.kept (t' := tk) fun _ _ z => z, rfl, q⟩
end Lw

set_option Elab.async false
set_option linter.all false
set_option maxRecDepth 100000
set_option maxHeartbeats 4000000
namespace Lw
open PySem PySem.Spec PyProof.Rows L2
/-- from the deal's heap H on: G' beside the deal, N only new things -/
structure News (G H G' N : Hp) (d l : Addr) : Prop where
  dl : Deal G' H d l
  kp : Same G G'
  sub : Same N G'
  dis : ∀ b o, N b = some o → G b = none
theorem News.zero {G H : Hp} {d l : Addr} (D : Deal G H d l) : News G H G (fun _ => none) d l := ⟨D, Same.refl G, fun b o e => (by cases e), fun b o e => (by cases e)⟩
theorem News.put {G H G' N : Hp} {d l p : Addr} {o : HO} (n : News G H G' N d l) (h : H p = none) : News G (upd H p o) (upd G' p o) (upd N p o) d l := by
  have gp : G' p = none := n.dl.same.free h
  refine ⟨n.dl.put h, fun b u e => ?_, fun b u e => ?_, fun b u e => ?_⟩
  · rw [upd_ne (ne_of_none (n.kp _ _ e) gp)]
    exact n.kp _ _ e
  · by_cases q : b = p
    · subst q
      rw [upd_same] at e ⊢
      exact e
    · rw [upd_ne q] at e ⊢
      exact n.sub _ _ e
  · by_cases q : b = p
    · subst q
      exact n.kp.free gp
    · rw [upd_ne q] at e
      exact n.dis _ _ e
theorem News.here {G H G' N : Hp} {d l p : Addr} {o : HO} (n : News G H G' N d l) (h : H p = none) : upd N p o p = some o := upd_same
theorem News.stay {G H G' N : Hp} {d l p : Addr} {o : HO} (n : News G H G' N d l) (h : H p = none) : Same N (upd N p o) := same_new (n.sub.free (n.dl.same.free h))
theorem News.redeal {G H H2 G' N : Hp} {d l : Addr} (n : News G H G' N d l) (D : Deal G' H2 d l) : News G H2 G' N d l := ⟨D, n.kp, n.sub, n.dis⟩
/-- what is new behind what is new -/
theorem News.more {G H G1 N1 H2 G2 N2 : Hp} {d l : Addr} (n : News G H G1 N1 d l) (m : News G1 H2 G2 N2 d l) : News G H2 G2 (fun b => match N1 b with | some o => some o | none => N2 b) d l := by
  refine ⟨m.dl, n.kp.trans m.kp, fun b o e => ?_, fun b o e => ?_⟩
  · cases h : N1 b with
    | some u =>
      have e' : some u = some o := by simpa [h] using e
      cases e'
      exact m.kp _ _ (n.sub _ _ h)
    | none =>
      have e' : N2 b = some o := by simpa [h] using e
      exact m.sub _ _ e'
  · cases h : N1 b with
    | some u => exact n.dis _ _ h
    | none =>
      have e' : N2 b = some o := by simpa [h] using e
      exact n.kp.free (m.dis _ _ e')
theorem News.left {G H G1 N1 H2 G2 N2 : Hp} {d l : Addr} (n : News G H G1 N1 d l) (m : News G1 H2 G2 N2 d l) : Same N1 (fun b => match N1 b with | some o => some o | none => N2 b) := fun b o e => by simp [e]
theorem News.right {G H G1 N1 H2 G2 N2 : Hp} {d l : Addr} (n : News G H G1 N1 d l) (m : News G1 H2 G2 N2 d l) : Same N2 (fun b => match N1 b with | some o => some o | none => N2 b) := fun b o e => by
  have h : N1 b = none := by
    cases q : N1 b with
    | none => rfl
    | some u =>
      have := m.dis _ _ e
      rw [n.sub _ _ q] at this
      cases this
  simp [h, e]
theorem Deal.over {G H : Hp} {d l D : Addr} {o u : HO} (n : Deal (upd G D u) H d l) : Deal (upd G D o) (upd H D o) d l := by
  have nd : d ≠ D := fun z => by have := n.gd; rw [z, upd_same] at this; cases this
  have nl : l ≠ D := fun z => by have := n.gl; rw [z, upd_same] at this; cases this
  obtain ⟨ns, m, a⟩ := n.it
  refine ⟨fun b v e => ?_, ?_, ?_, n.ne, ns, m, ?_⟩
  · by_cases q : b = D
    · subst q
      rw [upd_same] at e ⊢
      exact e
    · rw [upd_ne q] at e ⊢
      exact n.same _ _ (by rw [upd_ne q]; exact e)
  · have := n.gd
    rwa [upd_ne nd] at this ⊢
  · have := n.gl
    rwa [upd_ne nl] at this ⊢
  · exact ⟨by rw [upd_ne nd]; exact a.hd, by rw [upd_ne nl]; exact a.hl, a.len, a.nn, a.m0, a.m1⟩
theorem News.inH {G H G' N : Hp} {d l : Addr} (n : News G H G' N d l) : Same N H := n.sub.trans n.dl.same
theorem News.tup {G H G' N : Hp} {d l t : Addr} (n : News G H G' N d l) (u : H t = none) (xs : List V) : ∃ H1 G1 N1 : Hp, H1 = upd H t (.tup xs) ∧ News G H1 G1 N1 d l ∧ N1 t = some (.tup xs) ∧ Same N N1 := ⟨_, _, _, rfl, n.put u, upd_same, n.stay u⟩
theorem News.lst {G H G' N : Hp} {d l t : Addr} (n : News G H G' N d l) (u : H t = none) (xs : List V) : ∃ H1 G1 N1 : Hp, H1 = upd H t (.lst xs) ∧ News G H1 G1 N1 d l ∧ N1 t = some (.lst xs) ∧ Same N N1 := ⟨_, _, _, rfl, n.put u, upd_same, n.stay u⟩
/-- a heap without what stands at D -/
def hide (D : Addr) (G : Hp) : Hp := fun b => if b = D then none else G b
theorem hide_ne {D b : Addr} {G : Hp} (h : b ≠ D) : hide D G b = G b := if_neg h
theorem hide_same {D : Addr} {G : Hp} : hide D G D = none := if_pos rfl
theorem hide_upd {D : Addr} {G : Hp} {o : HO} : upd (hide D G) D o = upd G D o := by
  funext b
  by_cases q : b = D
  · subst q
    rw [upd_same, upd_same]
  · rw [upd_ne q, upd_ne q, hide_ne q]
/-- the promise of what hands a thing back -/
def Hands (K : PySem.W.Frag) (G : Hp) (d l : Addr) (Q : VK) : Prop := ∀ (G' H' N : Hp) (x : V) (pd : PyData), News G H' G' N d l → Dp K N x pd → fine pd = true → Q x H'
end Lw

set_option Elab.async false
set_option linter.all false
set_option maxRecDepth 100000
set_option maxHeartbeats 4000000
namespace K3
open PySem L2 Lw
def top (i : Nat) : Stmt := PySem.Challenge.pw_elderlogs_k03_rows_refused.main.body.getD i (.Pass ⟨0, 0, 0, 0⟩)
abbrev sDeal : Stmt := top 20
abbrev sDraw : Stmt := top 21
abbrev sPick : Stmt := top 22
section
variable {P : Program} {w : World} {K : PySem.W.Frag} {mg : Str → Option Value} {base : Heap}
theorem scDraw : FnScope ["_law_deal_here", "_law_many", "_law_left"] ["_law_deal_here", "_law_many"] (defScope sDraw) := ⟨rfl, rfl, rfl, by decide +kernel, rfl, by decide +kernel, by decide +kernel⟩
theorem ok_draw {f : Addr} {fd : FuncData} (F : Fun K "_law_draw" "_law_draw" sDraw f fd) (tI : mg "int" = none) : FnOk P w K mg base CX0 1 f fd ["_law_deal_here", "_law_many"] spDraw := by
  refine F.ok scDraw (fun vs H Q E h => ?_) (fun cdv A outer s H vs Q E hr h => ?_)
  · obtain ⟨G, d, l, k, rfl, _⟩ := h
    rfl
  · obtain ⟨G, d, l, k, rfl, D, k0, k1, fin⟩ := h
    have hu : _ := hr.units
    refine ⟨_, pss_cons (ps_while PassesOwn.never (PW.pt (pw_and (pt_cmpR (op_neD hu) (pe_ix ix_list (pv 0) pe_int (fun _ _ => rfl)) (pe_lst pa_nil) (nomark _))
        (pw_and1 (pt_cmpR op_eq (pe_ix ix_list (pe_ix ix_list (pv 0) pe_int (fun _ _ => rfl)) (pe_un un_neg pe_int) (fun _ _ => rfl)) pe_int (nomark _)))))
        (pss_one (ps_expr (pe_bm0 PySem.F.plainAttrs_list PySem.F.slot_list_pop PySem.F.type_list_pop mt_pop (pe_ix ix_list (pv 0) pe_int (fun _ _ => rfl))))))
      (pss_cons (ps_if (pt_cmpR (op_neD hu) (pe_ix ix_list (pv 0) pe_int (fun _ _ => rfl)) (pe_lst pa_nil) (nomark _))
        (pss_cons (ps_set (i := 2) scDraw.nd rfl (Or.inl rfl) (pe_bm0 PySem.F.plainAttrs_list PySem.F.slot_list_pop PySem.F.type_list_pop mt_pop (pe_ix ix_list (pv 0) pe_int (fun _ _ => rfl))))
          (pss_cons (ps_expr (pe_bm PySem.F.plainAttrs_list PySem.F.slot_list_append PySem.F.type_list_append mt_append (pe_ix ix_list (pv 0) pe_int (fun _ _ => rfl)) (pa_cons (pe_op op_fdiv (pv 2) (pv 1)) pa_nil)))
            (pss_one (ps_ret (pe_op op_mod (pe_callTy call_int1 (by rfl) tI PyProof.Rows.boot_int (pa_cons (pv 2) pa_nil)) (pv 1))))))
        pss_nil)
      (pss_cons (ps_asg (pe_op op_mod (pe_callTy call_int1 (by rfl) tI PyProof.Rows.boot_int (pa_cons (pe_op op_add (pe_op op_mul (pe_ix ix_list (pv 0) pe_int (fun _ _ => rfl)) pe_int) pe_int) pa_nil)) pe_int) (pg_sub (pv 0) pe_int set_list))
        (pss_one (ps_ret (pe_op op_mod (pe_callTy call_int1 (by rfl) tI PyProof.Rows.boot_int (pa_cons (pe_op op_fdiv (pe_ix ix_list (pv 0) pe_int (fun _ _ => rfl)) pe_int) pa_nil)) (pv 1)))))), ?_⟩
    obtain ⟨ns0, m0, a0⟩ := D.it
    refine seq_cut (fun σ1 H1 => σ1 = [some (.ref d), some (.int k), none] ∧ Deal G H1 d l ∧ ∃ ns m, At H1 d l ns m) ?after fun after => ?loop
    case loop =>
      refine ⟨fun c σ H1 => ∃ ns m, c = ns.length ∧ σ = [some (.ref d), some (.int k), none] ∧ Deal G H1 d l ∧ At H1 d l ns m, ⟨_, ns0, m0, rfl, rfl, D, a0⟩, ?_⟩
      rintro _ _ H1 ⟨ns, m, rfl, rfl, D1, a1⟩
      refine ⟨_, rfl, d, _, 0, _, rfl, rfl, SqL.of a1.hd, at0, Nat.zero_le _, fun p hp => ?_⟩
      have D2 := D1.more (o := .lst []) hp
      have a2 := a1.put (o := .lst []) hp
      refine ⟨_, _, .lst (SqL.of a2.hl) (ints_data ns), .lst (SqL.of upd_same) .nil, ints_shaped ns, nil_shaped, _, rfl, ?_⟩
      rw [eqv_nil]
      by_cases e : ns = []
      · subst e
        exact iteF (iteF (after _ _ ⟨rfl, D2, _, _, a2⟩))
      · obtain ⟨r, n, rfl⟩ := split_end e
        have e1 : (!((r ++ [n]).map PyData.int).isEmpty) = true := by simp
        rw [e1]
        refine iteT ⟨_, rfl, d, _, 0, _, rfl, rfl, SqL.of a2.hd, at0, _, rfl, l, _, -1, _, rfl, rfl, SqL.of a2.hl, at_end r n, rfl, _, rfl, ?_⟩
        refine ite2 (fun z => ?_) (fun _ => after _ _ ⟨rfl, D2, _, _, a2⟩)
        obtain ⟨D3, a3⟩ := D2.list a2 (ns' := r) (by have := a2.len; simp at this; omega) (fun x hx => a2.nn x (by simp [hx]))
        refine ⟨fun σ1 H3 => σ1 = [some (.ref d), some (.int k), none] ∧ Deal G H3 d l ∧ At H3 d l r m, fun σ1 H3 ⟨q1, q2, q3⟩ => ⟨r.length, by simp, r, m, rfl, q1, q2, q3⟩, ?_⟩
        refine ⟨_, rfl, d, _, 0, _, rfl, rfl, SqL.of a2.hd, at0, .inl ⟨rfl, _, SqL.of a2.hl⟩, l, _, _, rfl, rfl, a2.hl, get_end r n, ?_⟩
        rw [drop_end]
        exact ⟨rfl, D3, a3⟩
    case after =>
      rintro _ H1 ⟨rfl, D1, ns, m, a1⟩
      refine ⟨_, rfl, d, _, 0, _, rfl, rfl, SqL.of a1.hd, at0, Nat.zero_le _, fun p hp => ?_⟩
      have D2 := D1.more (o := .lst []) hp
      have a2 := a1.put (o := .lst []) hp
      refine ⟨_, _, .lst (SqL.of a2.hl) (ints_data ns), .lst (SqL.of upd_same) .nil, ints_shaped ns, nil_shaped, _, rfl, ?_⟩
      rw [eqv_nil]
      by_cases e : ns = []
      · subst e
        refine iteF ?_
        -- deal[1] = ..
        refine ⟨_, rfl, d, _, 1, _, rfl, rfl, SqL.of a2.hd, at1, _, _, rfl, rfl, .inr ⟨by decide, by decide⟩, _, _, rfl, rfl, .inl ⟨_, rfl, _, _, rfl, rfl, (by show (0 : Int) < 2147483647; decide), ?_⟩⟩
        have b0 : 0 ≤ (m * 48271 + 17) % 2147483647 := Int.emod_nonneg _ (by decide)
        have b1 : (m * 48271 + 17) % 2147483647 < 2147483647 := Int.emod_lt_of_pos _ (by decide)
        obtain ⟨D3, a3⟩ := D2.mix a2 b0 b1
        refine ⟨_, rfl, d, _, 1, 1, rfl, rfl, a2.hd, set1, ?_⟩
        refine ⟨_, rfl, d, _, 1, _, rfl, rfl, SqL.of a3.hd, at1, _, _, rfl, rfl, ⟨by decide, by decide⟩, .inl ⟨_, rfl, _, rfl, _, _, rfl, rfl, k0, ?_⟩⟩
        exact fin _ _ D3 (Int.emod_nonneg _ (by omega)) (Int.emod_lt_of_pos _ k0)
      · obtain ⟨r, n, rfl⟩ := split_end e
        have e1 : (!((r ++ [n]).map PyData.int).isEmpty) = true := by simp
        rw [e1]
        have n0 : 0 ≤ n := a2.nn n (by simp)
        refine iteT ⟨_, rfl, d, _, 0, _, rfl, rfl, SqL.of a2.hd, at0, .inl ⟨rfl, _, SqL.of a2.hl⟩, l, _, _, rfl, rfl, a2.hl, get_end r n, ?_⟩
        rw [drop_end]
        obtain ⟨D3, a3⟩ := D2.list a2 (ns' := r) (by have := a2.len; simp at this; omega) (fun x hx => a2.nn x (by simp [hx]))
        refine ⟨_, rfl, d, _, 0, _, rfl, rfl, SqL.of a3.hd, at0, .inl ⟨rfl, _, SqL.of a3.hl⟩, _, rfl, _, rfl, _, _, rfl, rfl, ⟨k0, by omega⟩, l, _, _, rfl, rfl, a3.hl, (by rw [List.length_map]; have := a3.len; exact Nat.lt_of_le_of_lt this (by decide)), ?_⟩
        obtain ⟨D4, a4⟩ := D3.list a3 (ns' := r ++ [n / k]) (by have := a2.len; simp at this ⊢; omega) (fun x hx => by
          rcases List.mem_append.mp hx with q | q
          · exact a3.nn x q
          · rw [List.mem_singleton.mp q]
            exact Int.ediv_nonneg n0 (by omega))
        rw [upd_upd, List.map_append, List.map_cons, List.map_nil] at D4
        rw [upd_upd]
        refine ⟨_, rfl, .inl ⟨n, rfl, _, rfl, _, _, rfl, rfl, k0, ?_⟩⟩
        exact fin _ _ D4 (Int.emod_nonneg _ (by omega)) (Int.emod_lt_of_pos _ k0)

/-! ### a deal -/
abbrev nDeal : List Str := ["_law_script", "_law_base", "_law_cells", "_law_mixed_here", "_law_cell"]
theorem scDeal : FnScope nDeal ["_law_script", "_law_base"] (defScope sDeal) := ⟨rfl, rfl, rfl, by decide +kernel, rfl, by decide +kernel, by decide +kernel⟩
theorem ok_deal {f : Addr} {fd : FuncData} (F : Fun K "_law_deal" "_law_deal" sDeal f fd) (tI : mg "int" = none) (tA : mg "abs" = none) : FnOk P w K mg base CX0 1 f fd ["_law_script", "_law_base"] (spDeal K) := by
  refine F.ok scDeal (fun vs H Q E h => ?_) (fun cdv A outer s H vs Q E hr h => ?_)
  · obtain ⟨a, ns, b, rfl, _⟩ := h
    rfl
  · obtain ⟨a, ns, b, rfl, hS, len, b0, b1, fin⟩ := h
    refine ⟨_, pss_cons (ps_setLc (i := 2) (own := [("_law_cell", 4)]) (g := gName 4) (tt := tYes) (by rfl) scDeal.nd rfl rfl (sw_true rfl rfl rfl (by decide +kernel)) (pi_list (pe_slice sl_list (pv 0) (po_some (pv 1)) (po_some pe_int)))
          (blkOk_by (own := [("_law_cell", 4)]) (N := nDeal) (sc := defScope sDeal) (by decide +kernel)) (fun _ _ _ _ _ => pg_name (i := 4) scDeal.nd rfl (Or.inl rfl)) (fun _ _ _ _ _ => pts_nil)
          (fun _ _ _ _ _ => pe_callB call_abs (by rfl) tA PyProof.Rows.boot_abs (pa_cons (pe_callTy call_int1 (by rfl) tI PyProof.Rows.boot_int (pa_cons (pv 4) pa_nil)) pa_nil)))
      (pss_cons (ps_set (i := 3) scDeal.nd rfl (Or.inl rfl) (pe_op op_add pe_int (pe_op op_mul pe_int (pv 1))))
      (pss_cons (ps_for PassesOwn.never rfl (pi_list (pv 2)) (pg_name (i := 4) scDeal.nd rfl (Or.inl rfl))
        (pss_one (ps_set (i := 3) scDeal.nd rfl (Or.inl rfl) (pe_op op_mod (pe_callTy call_int1 (by rfl) tI PyProof.Rows.boot_int (pa_cons (pe_op op_add (pe_op op_add (pe_op op_mul (pv 3) pe_int) (pe_op op_mod (pe_callTy call_int1 (by rfl) tI PyProof.Rows.boot_int (pa_cons (pv 4) pa_nil)) pe_int)) pe_int) pa_nil)) pe_int))))
      (pss_one (ps_ret (pe_lst (pa_cons (pe_revL (pe_lc (own := [("_law_cell", 4)]) (g := gName 4) (tt := _) (by rfl) scDeal.nd (pi_list (pv 2))
          (blkOk_by (own := [("_law_cell", 4)]) (N := nDeal) (sc := defScope sDeal) (by decide +kernel)) (fun _ _ _ _ _ => pg_name (i := 4) scDeal.nd rfl (Or.inl rfl))
          (fun _ _ _ _ _ => pts_one (pt_cmpR op_ge (pv 4) (pe_op op_pow pe_int pe_int) (nomark _))) (fun _ _ _ _ _ => pv 4))) (pa_cons (pv 3) pa_nil))))))), ?_⟩
    -- cells
    refine ⟨_, rfl, _, rfl, _, rfl, _, rfl, a, _, rfl, hS, fun p1 u1 => ?_⟩
    obtain ⟨ms, ecut, lms⟩ := cut_ints ns (some b) (some 62)
    rw [ecut]
    have s1 : Same H (upd H p1 (.lst (ms.map V.int))) := same_new u1
    refine ⟨p1, rfl, ⟨_, SqL.of upd_same⟩, fun c u2 => ?_⟩
    have few : (ms.map V.int).length ≤ 100000 := by rw [List.length_map]; omega
    have u2' : H c = none := s1.free u2
    refine lc_of_list ((ms.map V.int).map fun x => some (magV x)) (SqL.of upd_same) u2 (turns_map magV few fun x H2 Q2 hx _ q => ?_) mono_yes fun H2 s2 h2 => ?_
    · obtain ⟨n, _, rfl⟩ := mem_ints hx
      exact ⟨_, rfl, .inl ⟨n, rfl, n, rfl, q _ (Same.refl _)⟩⟩
    rw [out_map, magV_map] at h2
    have s12 := s1.trans s2
    -- mixed
    refine ⟨_, rfl, _, _, rfl, rfl, .inl ⟨by decide, by decide⟩, _, _, rfl, rfl, ?_⟩
    -- the loop
    dsimp only [gName]
    refine seq_cut (fun σ1 H3 => ∃ m v, σ1 = [some (.ref a), some (.int b), some (.ref c), some (.int m), v] ∧ H3 = H2 ∧ 0 ≤ m ∧ m < 2147483647) ?after fun after => ?loop
    case loop =>
      refine ⟨_, rfl, c, rfl, ⟨_, SqL.of h2⟩, for_list (K := K) (a := c) (xs := (ms.map mag).map V.int) (fun i σ1 H3 => ∃ m v, σ1 = [some (.ref a), some (.int b), some (.ref c), some (.int m), v] ∧ H3 = H2 ∧ 0 ≤ m ∧ m < 2147483647)
        ⟨_, _, rfl, rfl, by omega, by omega⟩ (fun i σ1 H3 _ ⟨m, v, _, e3, _⟩ => by rw [e3]; exact SqL.of h2) ?_ (fun σ1 H3 q => after σ1 H3 q)⟩
      rintro i x σ1 H3 hx ⟨m, v, rfl, rfl, m0, _⟩
      obtain ⟨n, _, rfl⟩ := mem_ints (List.mem_of_getElem? hx)
      refine ⟨_, rfl, _, _, rfl, rfl, .inr ⟨by decide, by decide⟩, _, rfl, .inl ⟨n, rfl, _, _, rfl, rfl, (by show (0 : Int) < 2147483629; decide), _, _, rfl, rfl, _, _, rfl, rfl, .inl ⟨_, rfl, _, _, rfl, rfl, (by show (0 : Int) < 2147483647; decide), ?_⟩⟩⟩
      exact ⟨_, _, rfl, rfl, Int.emod_nonneg _ (by decide), Int.emod_lt_of_pos _ (by decide)⟩
    case after =>
      rintro _ _ ⟨m, v, rfl, rfl, m0, m1⟩
      -- the great ones
      refine ⟨_, rfl, c, rfl, ⟨_, SqL.of h2⟩, fun g u3 => ?_⟩
      have few2 : ((ms.map mag).map V.int).length ≤ 100000 := by rw [List.length_map, List.length_map]; omega
      refine lc_of_list (((ms.map mag).map V.int).map bigV) (SqL.of h2) u3 ⟨by simp, few2, fun j x y H3 Q3 hx hy _ q => ?_, fun j x H3 hx hy _ => ?_⟩ (mono_test (mono_op mono_rI0 mono_var (mono_op mono_rI mono_c mono_c))) fun H3 s3 h3 => ?_
      · obtain ⟨n, _, rfl⟩ := mem_ints (List.mem_of_getElem? hx)
        rw [List.getElem?_map, hx] at hy
        have hy : bigV (.int n) = some y := by simpa using hy
        refine ⟨_, rfl, _, _, rfl, rfl, ⟨by decide, by decide, by decide⟩, _, _, rfl, rfl, _, rfl, ?_⟩
        by_cases z : decide ((10 : Int) ^ (18 : Int).toNat ≤ n) = true
        · rw [show bigV (.int n) = some (.int n) from if_pos z] at hy
          cases hy
          exact ⟨z, Same.refl _, _, rfl, q _ (Same.refl _)⟩
        · rw [show bigV (.int n) = none from if_neg z] at hy
          cases hy
      · obtain ⟨n, _, rfl⟩ := mem_ints (List.mem_of_getElem? hx)
        rw [List.getElem?_map, hx] at hy
        have hy : bigV (.int n) = none := by simpa using hy
        refine ⟨_, rfl, _, _, rfl, rfl, ⟨by decide, by decide, by decide⟩, _, _, rfl, rfl, _, rfl, ?_⟩
        by_cases z : decide ((10 : Int) ^ (18 : Int).toNat ≤ n) = true
        · rw [show bigV (.int n) = some (.int n) from if_pos z] at hy
          cases hy
        · exact ⟨by simpa using z, Same.refl _⟩
      rw [big_out] at h3
      refine ⟨g, _, rfl, SqL.of h3, fun l u4 => ?_⟩
      refine ⟨_, rfl, (by show 2 ≤ sizeLine; decide), fun d u5 => ?_⟩
      have nl : l ≠ d := fun z => by rw [z, upd_same] at u5; cases u5
      have s4 := s12.trans s3
      have u4' : H l = none := s4.free u4
      have u5' : H d = none := by rw [upd_ne nl.symm] at u5; exact s4.free u5
      refine fin _ d l ⟨fun p o e => ?_, u5', u4', nl, ((ms.map mag).filter fun i => decide ((10 : Int) ^ (18 : Int).toNat ≤ i)).reverse, m, upd_same, ?_, ?_, fun n hn => ?_, m0, m1⟩
      · rw [upd_ne (ne_of_none e u5'), upd_ne (ne_of_none e u4')]
        exact s4 _ _ e
      · rw [upd_ne nl, upd_same, List.map_reverse]
      · rw [List.length_reverse]
        have := List.length_filter_le (fun i => decide ((10 : Int) ^ (18 : Int).toNat ≤ i)) (ms.map mag)
        rw [List.length_map] at this
        omega
      · obtain ⟨i, _, rfl⟩ := List.mem_map.mp (List.mem_filter.mp (List.mem_reverse.mp hn)).1
        exact mag_nn i

/-! ### a pick -/
theorem scPick : FnScope ["_law_deal_here", "_law_some"] ["_law_deal_here", "_law_some"] (defScope sPick) := ⟨rfl, rfl, rfl, by decide +kernel, rfl, by decide +kernel, by decide +kernel⟩
theorem ok_pick {f fD : Addr} {fd fdD : FuncData} (F : Fun K "_law_pick" "_law_pick" sPick f fd) (FD : Fun K "_law_draw" "_law_draw" sDraw fD fdD) (tD : mg "_law_draw" = some (.ref fD)) (bD : Binds K fdD ["_law_deal_here", "_law_many"] [])
    (tI : mg "int" = none) (tL : mg "len" = none) : FnOk P w K mg base CX0 2 f fd ["_law_deal_here", "_law_some"] (spPick K) := by
  have GD : FnOk P w K mg base CX0 1 fD fdD ["_law_deal_here", "_law_many"] spDraw := ok_draw FD tI
  refine F.ok scPick (fun vs H Q E h => ?_) (fun cdv A outer s H vs Q E hr h => ?_)
  · obtain ⟨G, d, l, a, xs, rfl, _⟩ := h
    rfl
  · obtain ⟨G, d, l, a, xs, rfl, D, hS, ne, few, fin⟩ := h
    refine ⟨_, pss_one (ps_ret (pe_ix ix_list (pv 1) (pe_call GD hr rfl tD FD.kp bD .nil pass0 (pa_cons (pv 0) (pa_cons (pe_callB call_len (by rfl) tL PySem.boot_len (pa_cons (pv 1) pa_nil)) pa_nil))) (fun _ _ => rfl))), ?_⟩
    have hS1 : SqL K H a xs := D.same.seq hS
    have pos : 0 < xs.length := List.length_pos_iff.mpr ne
    refine ⟨_, rfl, _, rfl, _, rfl, _, _, rfl, .inl ⟨_, hS1, rfl⟩, G, d, l, _, rfl, D, by omega, by omega, fun H' r D' r0 r1 => ?_⟩
    obtain ⟨x, hx, ex⟩ := at_int r0 r1
    exact ⟨a, _, r, x, rfl, rfl, D'.same.seq hS, ex, fin H' x D' hx⟩
end
end K3

set_option Elab.async false
set_option linter.all false
set_option maxRecDepth 100000
set_option maxHeartbeats 4000000
namespace K3
open PySem L2 Lw
abbrev sIsName : Stmt := top 8
/-! ### names -/
def abc : Str := "abcdefghijklmnopqrstuvwxyz"
def isAbc (c : Nat) : Bool := decide (c ∈ abc.cps.toList)
def nameOk (z : Str) : Bool := decide (1 ≤ (z.length : Int)) && decide ((z.length : Int) ≤ 4) && z.cps.toList.all isAbc
def nameD : PyData → Bool
  | .str z => nameOk z
  | _ => false
def spIsName (K : PySem.W.Frag) : Sp := fun vs H Q _ => ∃ (v : V) (d : PyData), vs = [v] ∧ Dp K H v d ∧ fine d = true ∧ ∀ H', Same H H' → Q (.bl (nameD d)) H'
section
variable {P : Program} {w : World} {K : PySem.W.Frag} {mg : Str → Option Value} {base : Heap}
theorem scIsName : FnScope ["value", "letter"] ["value"] (defScope sIsName) := ⟨rfl, rfl, rfl, by decide +kernel, rfl, by decide +kernel, by decide +kernel⟩
theorem ok_isName {f : Addr} {fd : FuncData} {tk : Tok} (F : Fun K "is_name" "is_name" sIsName f fd) (tS : mg "str" = none) (tIs : mg "isinstance" = none) (tL : mg "len" = none) (tAll : mg "all" = none) (tAbc : mg "_LETTERS" = some (.str abc tk)) :
    FnOk P w K mg base CX0 1 f fd ["value"] (spIsName K) := by
  refine F.ok scIsName (fun vs H Q E h => ?_) (fun cdv A outer s H vs Q E hr h => ?_)
  · obtain ⟨v, d, rfl, _⟩ := h
    rfl
  · obtain ⟨v, d, rfl, hd, hz, fin⟩ := h
    refine ⟨_, pss_one (ps_ret (pe_and (pe_callB call_isi (by rfl) tIs PyProof.Rows.boot_isinstance (pa_cons (pv 0) (pa_cons (pe_bltn (v := .ty "str") (by rfl) tS PyProof.Rows.boot_str rfl) pa_nil)))
      (pe_and (pe_chain op_le op_le pe_int (pe_callB call_len (by rfl) tL PySem.boot_len (pa_cons (pv 0) pa_nil)) pe_int)
        (pe_one (pe_callB (cr_all rfl) (by rfl) tAll PyProof.Rows.boot_all (pa_cons (pe_lc (own := [("letter", 1)]) (g := gName 1) (tt := tYes) (by rfl) scIsName.nd (pi_str (pv 0))
          (blkOk_by (own := [("letter", 1)]) (N := ["value", "letter"]) (sc := defScope sIsName) (by decide +kernel)) (fun _ _ _ _ _ => pg_name (i := 1) scIsName.nd rfl (Or.inl rfl)) (fun _ _ _ _ _ => pts_nil)
          (fun _ _ _ _ _ => pe_cmpR op_in_sign (pv 1) (pe_glob (v := .str abc) (by rfl) tAbc ⟨_, rfl⟩) rfl)) pa_nil)))))), ?_⟩
    refine ⟨_, rfl, _, _, _, _, _, rfl, .ty "str", ty_data hd, kit_str (no_dict hd), _, rfl, ?_⟩
    cases d with
    | str z =>
      cases hd
      have len : z.length ≤ 1000 := (fine_str hz).1
      have small : z.length ≤ sizeLine := Nat.le_of_lt (small1000 len)
      refine iteT ⟨_, rfl, _, _, rfl, ⟨small, rfl⟩, _, _, rfl, rfl, _, rfl, ?_⟩
      by_cases h1 : decide (1 ≤ (z.length : Int)) = true
      · rw [h1]
        refine iteT ⟨_, _, rfl, rfl, _, rfl, ?_⟩
        by_cases h2 : decide ((z.length : Int) ≤ 4) = true
        · rw [h2]
          refine iteT ⟨_, rfl, z, rfl, fun D un => ?_⟩
          refine lc_of_str ((signsOf z).map fun x => some (match x with | .str y => .bl (isAbc (y.cps.getD 0 0)) | _ => .non)) un (turns_map (fun x => match x with | .str y => .bl (isAbc (y.cps.getD 0 0)) | _ => .non) (by rw [List.length_map, Array.length_toList]; exact Nat.le_trans len (by decide)) fun x H2 Q2 hx _ q => ?_) mono_yes fun H2 s2 h2 => ?_
          · obtain ⟨c, _, rfl⟩ := List.mem_map.mp hx
            exact ⟨_, rfl, c, abc, rfl, rfl, q _ (Same.refl _)⟩
          · rw [out_map] at h2
            have e : (signsOf z).map (fun x => match x with | .str y => V.bl (isAbc (y.cps.getD 0 0)) | _ => .non) = (z.cps.toList.map isAbc).map V.bl := by
              rw [List.map_map, List.map_map]
              rfl
            rw [e] at h2
            refine ⟨D, _, rfl, SqL.of h2, ?_⟩
            have e2 : (List.map isAbc z.cps.toList).all id = nameD (.str z) := by
              show _ = (decide (1 ≤ (z.length : Int)) && decide ((z.length : Int) ≤ 4) && z.cps.toList.all isAbc)
              rw [h1, ‹decide ((z.length : Int) ≤ 4) = true›, List.all_map]
              rfl
            rw [e2]
            exact fin _ s2
        · have h3 : decide ((z.length : Int) ≤ 4) = false := by simpa using h2
          rw [h3]
          refine iteF ?_
          have e2 : nameD (.str z) = false := by
            show (decide (1 ≤ (z.length : Int)) && decide ((z.length : Int) ≤ 4) && z.cps.toList.all isAbc) = false
            rw [h3, Bool.and_false, Bool.false_and]
          rw [← e2]
          exact fin _ (Same.refl _)
      · have h3 : decide (1 ≤ (z.length : Int)) = false := by simpa using h1
        rw [h3]
        refine iteF ⟨_, rfl, iteF ?_⟩
        have e2 : nameD (.str z) = false := by
          show (decide (1 ≤ (z.length : Int)) && decide ((z.length : Int) ≤ 4) && z.cps.toList.all isAbc) = false
          rw [h3, Bool.false_and, Bool.false_and]
        rw [← e2]
        exact fin _ (Same.refl _)
    | _ => exact iteF (fin H (Same.refl H))
end
end K3

set_option Elab.async false
set_option linter.all false
set_option maxRecDepth 100000
set_option maxHeartbeats 4000000
/-! What the top of law k03's text has written. -/
namespace K3
open PySem L2 Lw
abbrev sIr : Stmt := inClass (top 3) 0
abbrev sRow : Stmt := inClass (top 10) 0
abbrev sAsk : Stmt := inClass (top 11) 0
abbrev sNote : Stmt := inClass (top 12) 0
abbrev sGate : Stmt := inClass (top 13) 0
abbrev sEnd : Stmt := inClass (top 14) 0
abbrev sExpect : Stmt := top 15
abbrev sWays : Stmt := top 16
abbrev sWay : Stmt := top 17
abbrev sThing : Stmt := top 24
abbrev sTitle : Stmt := top 25
abbrev sHeard : Stmt := top 26
abbrev sPairs : Stmt := top 27
abbrev sDue : Stmt := top 28
abbrev sOdd : Stmt := top 29
abbrev sLaw : Stmt := top 30
/-- where they stand -/
structure Ad where
  cLog : Addr
  cIr : Addr
  cIe : Addr
  cRow : Addr
  cAsk : Addr
  cNote : Addr
  cGate : Addr
  cEnd : Addr
  fIr : Addr
  fRow : Addr
  fAsk : Addr
  fNote : Addr
  fGate : Addr
  fEnd : Addr
  fN : Addr
  fX : Addr
  fWs : Addr
  fW : Addr
  fDeal : Addr
  fDraw : Addr
  fPick : Addr
  fThing : Addr
  fTitle : Addr
  fHeard : Addr
  fPairs : Addr
  fDue : Addr
  fOdd : Addr
  fLaw : Addr
  dIr : FuncData
  dRow : FuncData
  dAsk : FuncData
  dNote : FuncData
  dGate : FuncData
  dEnd : FuncData
  dN : FuncData
  dX : FuncData
  dWs : FuncData
  dW : FuncData
  dDeal : FuncData
  dDraw : FuncData
  dPick : FuncData
  dThing : FuncData
  dTitle : FuncData
  dHeard : FuncData
  dPairs : FuncData
  dDue : FuncData
  dOdd : FuncData
  dLaw : FuncData
/-- a def of the top -/
structure Top (K : PySem.W.Frag) (mg : Str → Option Value) (x : Str) (st : Stmt) (f : Addr) (fd : FuncData) (ps : List Str) : Prop where
  F : Fun K x x st f fd
  g : mg x = some (.ref f)
  b : Binds K fd ps []
/-- a class of rows: its __init__ -/
structure RowC (K : PySem.W.Frag) (mg : Str → Option Value) (x qual : Str) (st : Stmt) (C f : Addr) (fd : FuncData) (ps : List Str) : Prop where
  F : Fun K "__init__" qual st f fd
  b : Binds K fd ps []
  g : mg x = some (.ref C)
  cl : Cls K C
  mkd : Mk K C f
structure Txt (K : PySem.W.Frag) (mg : Str → Option Value) (a : Ad) : Prop where
  tStr : mg "str" = none
  tInt : mg "int" = none
  tAbs : mg "abs" = none
  tLen : mg "len" = none
  tAll : mg "all" = none
  tIs : mg "isinstance" = none
  tTuple : mg "tuple" = none
  tList : mg "list" = none
  tSet : mg "set" = none
  tRange : mg "range" = none
  tZip : mg "zip" = none
  tMax : mg "max" = none
  tMin : mg "min" = none
  abc : ∃ tk, mg "_LETTERS" = some (.str abc tk)
  isName : Top K mg "is_name" sIsName a.fN a.dN ["value"]
  expect : Top K mg "_expect_names" sExpect a.fX a.dX ["pairs"]
  areWays : Top K mg "_are_ways" sWays a.fWs a.dWs ["value"]
  isWay : Top K mg "_is_way" sWay a.fW a.dW ["value"]
  deal : Top K mg "_law_deal" sDeal a.fDeal a.dDeal ["_law_script", "_law_base"]
  draw : Top K mg "_law_draw" sDraw a.fDraw a.dDraw ["_law_deal_here", "_law_many"]
  pick : Top K mg "_law_pick" sPick a.fPick a.dPick ["_law_deal_here", "_law_some"]
  thing : Top K mg "_law_thing" sThing a.fThing a.dThing ["_law_deal_here", "_law_deep"]
  title : Top K mg "_law_is_title" sTitle a.fTitle a.dTitle ["_law_thing_here"]
  heard : Top K mg "_law_heard" sHeard a.fHeard a.dHeard ["_law_kind", "_law_parts"]
  pairs : Top K mg "_law_are_pairs" sPairs a.fPairs a.dPairs ["_law_thing_here"]
  due : Top K mg "_law_due" sDue a.fDue a.dDue ["_law_kind", "_law_parts"]
  odd : Top K mg "_law_odd_pairs" sOdd a.fOdd a.dOdd ["_law_deal_here"]
  law : Top K mg "law" sLaw a.fLaw a.dLaw ["_law_script"]
  -- the error
  gLog : mg "LogError" = some (.ref a.cLog)
  gIr : mg "InvalidRow" = some (.ref a.cIr)
  gIe : mg "InvalidEdition" = some (.ref a.cIe)
  ir : OexC K a.cIr
  irF : Fun K "__init__" "InvalidRow.__init__" sIr a.fIr a.dIr
  irB : Binds K a.dIr ["self", "word"] []
  irI : PySem.W.findIn K (.ref a.cIr) "__init__" = some (some (.ref a.fIr))
  irT : PySem.W.typeIn K (.ref a.fIr) = some (.type "function")
  irW : PySem.W.findIn K (.ref a.cIr) "word" = some none
  irX : XfC K a.cIr
  irC : ExcC K a.cIr
  ieK : PySem.W.kitOne K (.ref a.cIr) (.ref a.cIe) = some false
  irE : PySem.W.exmOne K (.ref a.cIr) (.ref a.cLog) = some true
  -- rows
  row : RowC K mg "Row" "Row.__init__" sRow a.cRow a.fRow a.dRow ["self", "words"]
  ask : RowC K mg "Ask" "Ask.__init__" sAsk a.cAsk a.fAsk a.dAsk ["self", "place", "name", "ways"]
  note : RowC K mg "Note" "Note.__init__" sNote a.cNote a.fNote a.dNote ["self", "place", "word", "then"]
  gate : RowC K mg "Gate" "Gate.__init__" sGate a.cGate a.fGate a.dGate ["self", "place", "mark", "newer", "elder"]
  end_ : RowC K mg "End" "End.__init__" sEnd a.cEnd a.fEnd a.dEnd ["self", "place"]
  rowR : ClX.CRead K a.cRow (.type "type")
  rowI : ClX.CVal K a.cRow (.type "type") "__init__" (.ref a.fRow) (.ref a.fRow)
  -- attributes that no class of rows has
  no : ∀ C ∈ [a.cAsk, a.cNote, a.cGate, a.cEnd], ∀ n ∈ (["place", "name", "ways", "word", "then", "mark", "newer", "elder", "_text"] : List Str), NoAttr K C n
section
variable {P : Program} {w : World} {K : PySem.W.Frag} {mg : Str → Option Value} {base : Heap} {a : Ad}
theorem Txt.okN (T : Txt K mg a) : FnOk P w K mg base CX0 1 a.fN a.dN ["value"] (spIsName K) := by
  obtain ⟨tk, h⟩ := T.abc
  exact ok_isName T.isName.F T.tStr T.tIs T.tLen T.tAll h
theorem scIr : FnScope ["self", "word"] ["self", "word"] (defScope sIr) := ⟨rfl, rfl, rfl, by decide +kernel, rfl, by decide +kernel, by decide +kernel⟩
theorem Txt.okIr (T : Txt K mg a) : FnOk P w K mg base CX0 1 a.fIr a.dIr ["self", "word"] (spErr a.cIr "word") := by
  refine T.irF.ok scIr (fun vs H Q E h => ?_) (fun cdv A outer s H vs Q E hr h => ?_)
  · obtain ⟨a, x, rfl, _⟩ := h
    rfl
  · obtain ⟨x, v, rfl, hx, fin⟩ := h
    exact ⟨_, pss_one (ps_ost (pv 0) (pv 1)), _, rfl, _, rfl, x, _, rfl, T.ir, T.irW, .inl ⟨hx, fin⟩⟩
end
end K3

set_option Elab.async false
set_option linter.all false
set_option maxRecDepth 100000
set_option maxHeartbeats 4000000
namespace K3
open PySem L2 Lw
/-! ### a way -/
def wayOk : PyData → Bool
  | .tuple [a, b] => nameD a && nameD b
  | _ => false
def spIsWay (K : PySem.W.Frag) : Sp := fun vs H Q _ => ∃ (v : V) (d : PyData), vs = [v] ∧ Dp K H v d ∧ fine d = true ∧ ∀ H', Same H H' → Q (.bl (wayOk d)) H'
/-- what _expect_names is handed: tuples of a word and a value -/
structure It where
  t : Addr
  w : Str
  v : V
  d : PyData
def firstBad (its : List It) : Option Str := (its.find? fun i => !nameD i.d).map (·.w)
def spExpect (K : PySem.W.Frag) (C : Addr) : Sp := fun vs H Q E => ∃ (a : Addr) (its : List It), vs = [.ref a] ∧ SqL K H a (its.map fun i => .ref i.t) ∧
  (∀ i ∈ its, SqT K H i.t [.str i.w, i.v] ∧ Dp K H i.v i.d ∧ fine i.d = true) ∧ (firstBad its = none → ∀ H', Same H H' → Q .non H') ∧
  (∀ w, firstBad its = some w → ∀ (H' : Hp) (d : Addr), Same H H' → H d = none → H' d = some (.xd [("word", .str w)]) → E (.ref C) (some d) H')
theorem fine_tup {ds : List PyData} (h : fine (.tuple ds) = true) : ds.length ≤ 1000 ∧ fineAll ds = true := by
  rw [fine] at h
  obtain ⟨h1, h2⟩ := Bool.and_eq_true_iff.mp h
  exact ⟨of_decide_eq_true h1, h2⟩
theorem fine_list {ds : List PyData} (h : fine (.list ds) = true) : ds.length ≤ 1000 ∧ fineAll ds = true := by
  rw [fine] at h
  obtain ⟨h1, h2⟩ := Bool.and_eq_true_iff.mp h
  exact ⟨of_decide_eq_true h1, h2⟩
section
variable {P : Program} {w : World} {K : PySem.W.Frag} {mg : Str → Option Value} {base : Heap} {a : Ad}
theorem scWay : FnScope ["value"] ["value"] (defScope sWay) := ⟨rfl, rfl, rfl, by decide +kernel, rfl, by decide +kernel, by decide +kernel⟩
theorem Txt.okW (T : Txt K mg a) : FnOk P w K mg base CX0 2 a.fW a.dW ["value"] (spIsWay K) := by
  refine T.isWay.F.ok scWay (fun vs H Q E h => ?_) (fun cdv A outer s H vs Q E hr h => ?_)
  · obtain ⟨v, d, rfl, _⟩ := h
    rfl
  · obtain ⟨v, d, rfl, hd, hz, fin⟩ := h
    refine ⟨_, pss_one (ps_ret (pe_and (pe_callB call_isi (by rfl) T.tIs PyProof.Rows.boot_isinstance (pa_cons (pv 0) (pa_cons (pe_bltn (v := .ty "tuple") (by rfl) T.tTuple PyProof.Rows.boot_tuple rfl) pa_nil)))
      (pe_and (pe_cmpR op_eq (pe_callB call_len_seq (by rfl) T.tLen PySem.boot_len (pa_cons (pv 0) pa_nil)) pe_int (nomark _))
      (pe_and (pe_call T.okN hr rfl T.isName.g T.isName.F.kp T.isName.b .nil pass0 (pa_cons (pe_ix ix_tup (pv 0) pe_int (fun _ _ => rfl)) pa_nil))
        (pe_one (pe_call T.okN hr rfl T.isName.g T.isName.F.kp T.isName.b .nil pass0 (pa_cons (pe_ix ix_tup (pv 0) pe_int (fun _ _ => rfl)) pa_nil))))))), ?_⟩
    refine ⟨_, rfl, _, _, _, _, _, rfl, .ty "tuple", ty_data hd, kit_tup (no_dict hd), _, rfl, ?_⟩
    cases d with
    | tuple ds =>
      cases hd with
      | @tup p xs _ hs ha =>
        have el := dpAll_len ha
        refine iteT ⟨_, rfl, p, xs, rfl, .inr hs, rfl, _, rfl, ?_⟩
        rw [dec_int]
        by_cases e : xs.length = 2
        · match xs, ds, ha, e, el with
          | [x, y], [dx, dy], .cons hx (.cons hy .nil), _, _ =>
            obtain ⟨_, hf⟩ := fine_tup hz
            refine iteT ⟨_, rfl, p, [x, y], 0, x, rfl, rfl, hs, at0, x, dx, rfl, hx, fineAll_mem hf (by simp), fun H1 s1 => ⟨_, rfl, ?_⟩⟩
            cases e1 : nameD dx with
            | false =>
              refine iteF ?_
              have z := fin H1 s1
              rwa [show wayOk (.tuple [dx, dy]) = false from by rw [wayOk, e1, Bool.false_and]] at z
            | true =>
              refine iteT ⟨_, rfl, p, [x, y], 1, y, rfl, rfl, same_tup s1 hs, at1, y, dy, rfl, dp_same s1 _ _ hy, fineAll_mem hf (by simp), fun H2 s2 => ?_⟩
              have z := fin H2 (s1.trans s2)
              rwa [show wayOk (.tuple [dx, dy]) = nameD dy from by rw [wayOk, e1, Bool.true_and]] at z
        · rw [show ((xs.length : Int) == 2) = false from by simpa using (by omega : (xs.length : Int) ≠ 2)]
          refine iteF ?_
          have z := fin H (Same.refl H)
          rwa [show wayOk (.tuple ds) = false from by
            match ds, el with
            | [], _ => rfl
            | [_], _ => rfl
            | [_, _], el => exact absurd el e
            | _ :: _ :: _ :: _, _ => rfl] at z
    | _ => exact iteF (fin H (Same.refl H))
theorem scX : FnScope ["pairs", "word", "value"] ["pairs"] (defScope sExpect) := ⟨rfl, rfl, rfl, by decide +kernel, rfl, by decide +kernel, by decide +kernel⟩
theorem Txt.okX (T : Txt K mg a) : FnOk P w K mg base (L2.CX P w) 3 a.fX a.dX ["pairs"] (spExpect K a.cIr) := by
  refine T.expect.F.okX scX (fun vs H Q E h => ?_) (fun cdv A outer s H vs Q E hr h => ?_)
  · obtain ⟨v, d, rfl, _⟩ := h
    rfl
  · obtain ⟨l, its, rfl, hl, hi, kN, kE⟩ := h
    have hr1 : Room 1 _ := hr.mono (by decide)
    refine ⟨_, pss_one (ps_for (passes_of rfl) rfl (pi_list (pv 0)) (pg_tup rfl (pgs_cons (pg_name (i := 1) scX.nd rfl (.inl rfl)) (pgs_cons (pg_name (i := 2) scX.nd rfl (.inl rfl)) pgs_nil)))
      (pss_one (ps_if (pt_not (pt_val (pe_call T.okN hr1 rfl T.isName.g T.isName.F.kp T.isName.b .nil pass0 (pa_cons (pv 2) pa_nil))))
        (pss_one (ps_raise rfl (takes_of rfl rfl rfl rfl) (pmk_oex T.ir T.irI T.irT T.okIr hr T.irB .nil pass0 rfl T.gIr (pa_cons (pv 1) pa_nil)))) pss_nil))), ?_⟩
    refine ⟨_, rfl, l, rfl, ⟨_, hl⟩, for_list (K := K) (a := l) (xs := its.map fun i => V.ref i.t) (fun i σ H' => ∃ x y, σ = [some (.ref l), x, y] ∧ Same H H' ∧ firstBad (its.take i) = none) ⟨_, _, rfl, Same.refl H, rfl⟩ (fun i σ H' _ ⟨_, _, _, s1, _⟩ => s1.seq hl) ?_ ?_⟩
    · rintro j x σ H1 hx ⟨_, _, rfl, s1, fb⟩
      rw [List.getElem?_map] at hx
      obtain ⟨i, ei, rfl⟩ := Option.map_eq_some_iff.mp hx
      obtain ⟨ht, hd, hf⟩ := hi i (List.mem_of_getElem? ei)
      refine ⟨_, _, rfl, same_tup s1 ht, rfl, ?_⟩
      refine ⟨_, _, rfl, _, _, rfl, rfl, ?_⟩
      refine ⟨_, rfl, _, i.d, rfl, dp_same s1 _ _ hd, hf, fun H2 s2 => ⟨_, rfl, ?_⟩⟩
      have s12 := s1.trans s2
      have step : firstBad (its.take (j + 1)) = if nameD i.d = true then none else some i.w := by
        unfold firstBad at fb ⊢
        have fb' := Option.map_eq_none_iff.mp fb
        rw [List.take_add_one, ei, List.find?_append, fb', Option.none_or]
        show Option.map _ (List.find? _ [i]) = _
        rw [List.find?_cons]
        cases nameD i.d <;> rfl
      cases e1 : nameD i.d with
      | true =>
        rw [e1, if_pos rfl] at step
        exact iteF ⟨_, _, rfl, s12, step⟩
      | false =>
        rw [e1, if_neg (by decide)] at step
        refine iteT ?_
        have full : firstBad its = some i.w := by
          unfold firstBad at step ⊢
          rw [← List.take_append_drop (j + 1) its, List.find?_append]
          obtain ⟨y, ey, ew⟩ := Option.map_eq_some_iff.mp step
          rw [ey, Option.some_or, Option.map_some, ew]
        refine ⟨_, rfl, (by show 1 ≤ 1000; decide), fun x hx => ⟨x, _, rfl, upd_same, fun d h1 h2 => ⟨rfl, d, _, upd_same, by rw [upd_ne h2]; exact upd_same, ?_, ?_⟩⟩⟩
        · rwa [upd_ne h2] at h1
        · rw [err_heap hx h1 h2]
          have hd' : H2 d = none := by rwa [upd_ne h2] at h1
          exact kE _ full _ d (s12.trans (same_new hd')) (s12.free hd') upd_same
    · rintro σ H1 ⟨_, _, rfl, s1, fb⟩
      rw [List.length_map, List.take_length] at fb
      exact kN fb H1 s1
end
end K3

set_option Elab.async false
set_option linter.all false
set_option maxRecDepth 100000
set_option maxHeartbeats 4000000
namespace K3
open PySem L2 Lw
/-! ### ways -/
def headOf : PyData → Str
  | .tuple (.str z :: _) => z
  | _ => Str.empty
def waysD (ds : List PyData) : Bool := !ds.isEmpty && ds.all wayOk && decide ((ds.map headOf).Nodup)
def waysOk : PyData → Bool
  | .list ds => waysD ds
  | .tuple ds => waysD ds
  | _ => false
theorem wayOk_is {d : PyData} (h : wayOk d = true) : ∃ y z, d = .tuple [.str y, .str z] ∧ nameOk y = true ∧ nameOk z = true := by
  match d, h with
  | .tuple [a, b], h =>
    have h' : (nameD a && nameD b) = true := h
    obtain ⟨h1, h2⟩ := Bool.and_eq_true_iff.mp h'
    match a, b, h1, h2 with
    | .str y, .str z, h1, h2 => exact ⟨y, z, rfl, h1, h2⟩
def spWays (K : PySem.W.Frag) : Sp := fun vs H Q _ => ∃ (v : V) (d : PyData), vs = [v] ∧ Dp K H v d ∧ fine d = true ∧ ∀ H', Same H H' → Q (.bl (waysOk d)) H'
theorem nodup_keys : ∀ {l : List Str}, (l.map (Sum.inr : Str → Key)).Nodup ↔ l.Nodup
  | [] => by simp
  | x :: r => by
    have ih := nodup_keys (l := r)
    rw [List.map_cons, List.nodup_cons, List.nodup_cons, ih]
    refine and_congr (not_congr ?_) Iff.rfl
    rw [List.mem_map]
    constructor
    · rintro ⟨y, hy, e⟩
      cases e
      exact hy
    · exact fun h => ⟨x, h, rfl⟩
/-- a comprehension that asks each thing of a list of data -/
theorem turns_data {K : PySem.W.Frag} {H1 : Hp} {i : Nat} {σ : L2.St} {te : TE} (f : PyData → V) : ∀ {xs : List V} {ds : List PyData}, DpAll K H1 xs ds → xs.length ≤ 1000 →
    (∀ x d H (Q : VK), x ∈ xs → d ∈ ds → Dp K H x d → Same H1 H → (∀ H', Same H H' → Q (f d) H') → te (σ.set i (some x)) H Q) → Turns H1 i σ xs (ds.map fun d => some (f d)) tYes te := fun {xs ds} ha few el => by
  refine ⟨by rw [List.length_map, dpAll_len ha], Nat.le_trans few (by decide), fun j x y H Q hx hy s1 q => ?_, fun j x H hx hy _ => ?_⟩
  · obtain ⟨d, ed, hd⟩ := dpAll_at ha hx
    rw [List.getElem?_map, ed] at hy
    obtain rfl : f d = y := by simpa using hy
    exact ⟨rfl, Same.refl H, el x d H Q (List.mem_of_getElem? hx) (List.mem_of_getElem? ed) (dp_same s1 _ _ hd) s1 q⟩
  · rw [List.getElem?_map] at hy
    cases e : ds[j]? with
    | none => rw [e] at hy; cases hy
    | some d => rw [e] at hy; cases hy
theorem outOf_data (f : PyData → V) (ds : List PyData) : outOf (ds.map fun d => some (f d)) = ds.map f := by
  unfold outOf
  induction ds with
  | nil => rfl
  | cons d r ih =>
    rw [List.map_cons, List.map_cons, List.filterMap_cons]
    exact congrArg _ ih
theorem seq_or {K : PySem.W.Frag} {H : Hp} {v : V} {d : PyData} (hd : Dp K H v d) (hz : fine d = true) :
    (∃ (p : Addr) (xs : List V) (ds : List PyData), v = .ref p ∧ SqA K H p xs ∧ DpAll K H xs ds ∧ ds.length ≤ 1000 ∧ fineAll ds = true ∧ isSeq d = true ∧ (d = .list ds ∨ d = .tuple ds)) ∨ isSeq d = false := by
  cases d with
  | list ds =>
    cases hd with
    | lst hs ha => exact .inl ⟨_, _, ds, rfl, .inl hs, ha, (fine_list hz).1, (fine_list hz).2, rfl, .inl rfl⟩
  | tuple ds =>
    cases hd with
    | tup hs ha => exact .inl ⟨_, _, ds, rfl, .inr hs, ha, (fine_tup hz).1, (fine_tup hz).2, rfl, .inr rfl⟩
  | _ => exact .inr rfl
section
variable {P : Program} {w : World} {K : PySem.W.Frag} {mg : Str → Option Value} {base : Heap} {a : Ad}
theorem scWays : FnScope ["value", "way"] ["value"] (defScope sWays) := ⟨rfl, rfl, rfl, by decide +kernel, rfl, by decide +kernel, by decide +kernel⟩
theorem Txt.okWays (T : Txt K mg a) : FnOk P w K mg base CX0 3 a.fWs a.dWs ["value"] (spWays K) := by
  refine T.areWays.F.ok scWays (fun vs H Q E h => ?_) (fun cdv A outer s H vs Q E hr h => ?_)
  · obtain ⟨v, d, rfl, _⟩ := h
    rfl
  · obtain ⟨v, d, rfl, hd, hz, fin⟩ := h
    refine ⟨_, pss_cons (ps_if (PW.pt (pw_or (pt_not (pt_val (pe_callB call_isiT (by rfl) T.tIs PyProof.Rows.boot_isinstance (pa_cons (pv 0) (pa_cons (pe_tup (pa_cons (pe_bltn (v := .ty "list") (by rfl) T.tList PyProof.Rows.boot_list rfl) (pa_cons (pe_bltn (v := .ty "tuple") (by rfl) T.tTuple PyProof.Rows.boot_tuple rfl) pa_nil))) pa_nil)))))
        (pw_or1 (pt_cmpR op_eq (pe_callB call_len_seq (by rfl) T.tLen PySem.boot_len (pa_cons (pv 0) pa_nil)) pe_int (nomark _))))) (pss_one (ps_ret pe_bl)) pss_nil)
      (pss_cons (ps_if (pt_not (pt_val (pe_callB (cr_all rfl) (by rfl) T.tAll PyProof.Rows.boot_all (pa_cons (pe_lc (own := [("way", 1)]) (g := gName 1) (tt := tYes) (by rfl) scWays.nd (pi_seq (pv 0))
          (blkOk_by (own := [("way", 1)]) (N := ["value", "way"]) (sc := defScope sWays) (by decide +kernel)) (fun _ _ _ _ _ => pg_name (i := 1) scWays.nd rfl (Or.inl rfl)) (fun _ _ _ _ _ => pts_nil)
          (fun _ _ _ _ _ => pe_call T.okW hr rfl T.isWay.g T.isWay.F.kp T.isWay.b .nil pass0 (pa_cons (pv 1) pa_nil))) pa_nil)))) (pss_one (ps_ret pe_bl)) pss_nil)
      (pss_one (ps_ret (pe_cmpR op_eq (pe_callB Sx.cr_lenK (by rfl) T.tLen PySem.boot_len (pa_cons (Sx.pe_sck (own := [("way", 1)]) (g := gName 1) (tt := tYes) (te := tOp (rIxT K) (tVar 1) (tC (.int 0))) (by rfl) scWays.nd (pi_seq (pv 0))
          (blkOk_by (own := [("way", 1)]) (N := ["value", "way"]) (sc := defScope sWays) (by decide +kernel)) (fun _ _ _ _ _ => pg_name (i := 1) scWays.nd rfl (Or.inl rfl)) (fun _ _ _ _ _ => pts_nil)
          (fun _ _ _ _ _ => pe_ix ix_tup (pv 1) pe_int (fun _ _ => rfl))) pa_nil)) (pe_callB call_len_seq (by rfl) T.tLen PySem.boot_len (pa_cons (pv 0) pa_nil)) (nomark _))))), ?_⟩
    refine ⟨_, rfl, (by show 2 ≤ sizeLine; decide), fun tp hp => ?_⟩
    have s0 : Same H (upd H tp (.tup [.ty "list", .ty "tuple"])) := same_new hp
    have hd0 := dp_same s0 _ _ hd
    refine ⟨v, tp, _, _, _, _, rfl, upd_same, .cons (.ty "list") (.cons (.ty "tuple") .nil), ty_data hd0, kit_seq (no_dict hd), _, rfl, ?_⟩
    -- a list or a tuple
    rcases seq_or hd hz with ⟨p, xs, ds, rfl, hs, ha, few, hf, es, ed⟩ | es
    · rw [es]
      have el := dpAll_len ha
      have hs0 := hs.same s0
      have ha0 := dpAll_same s0 _ _ ha
      have ew : waysOk d = waysD ds := by rcases ed with rfl | rfl <;> rfl
      rw [ew] at fin
      refine iteF ⟨_, rfl, p, xs, rfl, hs0, rfl, _, rfl, ?_⟩
      rw [dec_int]
      by_cases e : xs.length = 0
      · have ed : ds = [] := List.length_eq_zero_iff.mp (el ▸ e)
        subst ed
        rw [show ((xs.length : Int) == 0) = true from by simpa using e]
        exact iteT (fin _ s0)
      · rw [show ((xs.length : Int) == 0) = false from by simpa using (by omega : (xs.length : Int) ≠ 0)]
        refine iteF ?_
        have few' : xs.length ≤ 1000 := el ▸ few
        refine seq_run rfl hs0 fun J hJ D un => lc_of_J (ds.map fun d => some (.bl (wayOk d))) hJ un (turns_data (fun d => .bl (wayOk d)) ha0 few' fun x d H2 Q2 _ hm hx _ q => ?_) mono_yes fun H1 s1 h1 => ?_
        · exact ⟨_, rfl, x, d, rfl, hx, fineAll_mem hf hm, q⟩
        · rw [outOf_data] at h1
          have e1 : ds.map (fun d => V.bl (wayOk d)) = (ds.map wayOk).map V.bl := by rw [List.map_map]; rfl
          rw [e1] at h1
          refine ⟨D, _, rfl, SqL.of h1, _, rfl, ?_⟩
          have e2 : (ds.map wayOk).all id = ds.all wayOk := by rw [List.all_map]; rfl
          rw [e2]
          have s01 := s0.trans s1
          have ne : ds.isEmpty = false := by
            cases ds with
            | nil => exact absurd el e
            | cons _ _ => rfl
          cases ea : ds.all wayOk with
          | false =>
            refine iteT ?_
            have z := fin _ s01
            rwa [show waysD ds = false from by rw [waysD, ea, Bool.and_false, Bool.false_and]] at z
          | true =>
            refine iteF ?_
            have all : ∀ d ∈ ds, wayOk d = true := List.all_eq_true.mp ea
            have ha1 := dpAll_same s1 _ _ ha0
            refine seq_run rfl (hs0.same s1) fun J hJ D2 un2 => sck_of_J (ks := ds.map fun d => Sum.inr (headOf d)) hJ un2 ⟨by rw [List.length_map, el], few', fun j x k H2 Q2 hx hk s2 q => ?_⟩ fun H2 s2 h2 => ?_
            · obtain ⟨d, ed, hd⟩ := dpAll_at ha1 hx
              rw [List.getElem?_map, ed] at hk
              obtain rfl : Sum.inr (headOf d) = k := by simpa using hk
              obtain ⟨y, z, rfl, _, _⟩ := wayOk_is (all d (List.mem_of_getElem? ed))
              cases hd with
              | @tup p2 zs _ hs2 ha2 =>
                cases ha2 with
                | cons hy hr =>
                  cases hy
                  exact ⟨_, rfl, p2, _, 0, _, rfl, rfl, same_tup s2 hs2, atI_nat (j := 0) rfl, q H2 (Same.refl H2)⟩
            · refine ⟨D2, _, _, rfl, h2, _, rfl, p, xs, rfl, (hs0.same s1).same s2, rfl, ?_⟩
              rw [dec_int]
              have z := fin H2 (s01.trans s2)
              have e3 : waysD ds = (((Sx.nub (ds.map fun d => (Sum.inr (headOf d) : Key))).length : Int) == (xs.length : Int)) := by
                have e4 : (ds.map fun d => (Sum.inr (headOf d) : Key)) = (ds.map headOf).map Sum.inr := by rw [List.map_map]; rfl
                rw [waysD, ne, ea, e4, Bool.eq_iff_iff]
                have e5 := Sx.nub_nodup_iff (l := (ds.map headOf).map (Sum.inr : Str → Key))
                rw [nodup_keys, List.length_map, List.length_map] at e5
                rw [show (!false && true && decide ((ds.map headOf).Nodup)) = decide ((ds.map headOf).Nodup) from rfl, decide_eq_true_iff, ← e5, beq_iff_eq, el]
                omega
              rwa [e3] at z
    · rw [es]
      have ew : waysOk d = false := by
        cases d with
        | list _ => cases es
        | tuple _ => cases es
        | _ => rfl
      have z := fin _ s0
      rw [ew] at z
      exact iteT (iteT z)
end
end K3

set_option Elab.async false
set_option linter.all false
set_option maxRecDepth 100000
set_option maxHeartbeats 4000000
namespace K3
open PySem L2 Lw
/-! ### rows that are made -/
def spRow (K : PySem.W.Frag) : Sp := fun vs H Q _ => ∃ (p l C dx : Addr) (fs : List (Str × V)) (ys : List Str), vs = [.ref p, .ref l] ∧ H p = some (.ins C dx fs) ∧ Cls K C ∧ NoAttr K C "_text" ∧ fs.length < 900 ∧ SqL K H l (ys.map V.str) ∧
  ys.length ≤ 10000 ∧ (∀ y ∈ ys, y.length ≤ 4) ∧ ∀ z : Str, Q .non (upd H p (.ins C dx (putF "_text" (.str z) fs)))
/-- the first of these that is no name -/
def firstD : List (Str × PyData) → Str
  | [] => Str.empty
  | (w, d) :: r => if nameD d = true then firstD r else w
/-- C(..)'s __init__: due tells the word of the first wrong argument, or nothing; the i-th argument is read again as f -/
def spMk (K : PySem.W.Frag) (C Cir : Addr) (due : List PyData → Str) (n i : Nat) (f : Str) : Sp := fun vs H Q E => ∃ (p dx : Addr) (xs : List V) (ds : List PyData), vs = .ref p :: xs ∧ xs.length = n ∧ DpAll K H xs ds ∧ fineAll ds = true ∧ H p = some (.ins C dx []) ∧
  (due ds = Str.empty → ∀ (H' : Hp) (fs : List (Str × V)), (∀ b o, H b = some o → b ≠ p → H' b = some o) → H' p = some (.ins C dx fs) → fs.lookup f = xs[i]? → Q .non H') ∧
  (due ds ≠ Str.empty → ∀ (H' : Hp) (d : Addr), Same H H' → H d = none → H' d = some (.xd [("word", .str (due ds))]) → E (.ref Cir) (some d) H')
theorem sum4 : ∀ {ys : List Str}, (∀ y ∈ ys, y.length ≤ 4) → (ys.map (·.length)).sum ≤ 4 * ys.length
  | [], _ => by simp
  | y :: r, h => by
    have ih := sum4 (ys := r) fun z hz => h z (List.mem_cons_of_mem _ hz)
    have h1 := h y List.mem_cons_self
    rw [List.map_cons, List.sum_cons, List.length_cons]
    omega
theorem nameD_is {d : PyData} (h : nameD d = true) : ∃ z, d = .str z ∧ z.length ≤ 4 := by
  cases d with
  | str z =>
    refine ⟨z, rfl, ?_⟩
    have h' : (decide (1 ≤ (z.length : Int)) && decide ((z.length : Int) ≤ 4) && z.cps.toList.all isAbc) = true := h
    obtain ⟨h1, _⟩ := Bool.and_eq_true_iff.mp h'
    obtain ⟨_, h2⟩ := Bool.and_eq_true_iff.mp h1
    have := of_decide_eq_true h2
    omega
  | _ => cases h
section
variable {P : Program} {w : World} {K : PySem.W.Frag} {mg : Str → Option Value} {base : Heap} {a : Ad}
theorem scRow : FnScope ["self", "words"] ["self", "words"] (defScope sRow) := ⟨rfl, rfl, rfl, by decide +kernel, rfl, by decide +kernel, by decide +kernel⟩
theorem Txt.okRow (T : Txt K mg a) : FnOk P w K mg base CX0 1 a.fRow a.dRow ["self", "words"] (spRow K) := by
  refine T.row.F.ok scRow (fun vs H Q E h => ?_) (fun cdv A outer s H vs Q E hr h => ?_)
  · obtain ⟨_, _, _, _, _, _, rfl, _⟩ := h
    rfl
  · obtain ⟨p, l, C, dx, fs, ys, rfl, hp, cl, na, few, hl, hn, hy, fin⟩ := h
    refine ⟨_, pss_one (ps_fld (pv 0) (pe_join pe_str (pv 1)) rfl), ?_⟩
    refine ⟨⟨_, rfl⟩, _, rfl, _, l, ys, rfl, rfl, .inl hl, ?_, _, rfl, p, C, dx, fs, rfl, hp, cl, na, by omega, fin _⟩
    have := sum4 hy
    show _ + ys.length * 1 ≤ _
    omega
/-- what the display leaves is what _expect_names asks -/
theorem firstBad_none {its : List It} (h : firstBad its = none) : ∀ i ∈ its, nameD i.d = true := by
  unfold firstBad at h
  have := List.find?_eq_none.mp (Option.map_eq_none_iff.mp h)
  exact fun i hi => by simpa using this i hi
theorem firstBad_is : ∀ its : List It, firstBad its = none ∧ firstD (its.map fun i => (i.w, i.d)) = Str.empty ∨ ∃ w, firstBad its = some w ∧ firstD (its.map fun i => (i.w, i.d)) = w ∧ w ∈ its.map (·.w)
  | [] => .inl ⟨rfl, rfl⟩
  | i :: r => by
    cases e : nameD i.d with
    | false => exact .inr ⟨i.w, by simp [firstBad, List.find?_cons, e], by simp [firstD, e], by simp⟩
    | true =>
      have e1 : firstBad (i :: r) = firstBad r := by simp [firstBad, List.find?_cons, e]
      have e2 : firstD ((i :: r).map fun i => (i.w, i.d)) = firstD (r.map fun i => (i.w, i.d)) := by simp [firstD, e]
      rw [e1, e2]
      rcases firstBad_is r with h | ⟨w, h1, h2, h3⟩
      · exact .inl h
      · exact .inr ⟨w, h1, h2, List.mem_cons_of_mem _ h3⟩
/-- names are short texts -/
theorem name_at {H : Hp} {v : V} {d : PyData} (h : Dp K H v d) (n : nameD d = true) : ∃ z, v = .str z ∧ z.length ≤ 4 := by
  obtain ⟨z, rfl, hz⟩ := nameD_is n
  cases h
  exact ⟨z, rfl, hz⟩
theorem keep_row {H H5 : Hp} {p l2 : Addr} {o1 o2 : HO} {u : HO} (s : Same H H5) (u5 : (upd H5 p o1) l2 = none) : ∀ b o, H b = some o → b ≠ p → upd (upd (upd H5 p o1) l2 u) p o2 b = some o := fun b o e ne => by
  have h5 := s _ _ e
  have n2 : b ≠ l2 := fun z => by
    rw [← z, upd_ne ne, h5] at u5
    cases u5
  rw [upd_ne ne, upd_ne n2, upd_ne ne]
  exact h5
/-- note -/
def dueNote : List PyData → Str
  | [d1, d2, d3] => firstD [("place", d1), ("word", d2), ("then", d3)]
  | _ => Str.empty
theorem scNote : FnScope ["self", "place", "word", "then"] ["self", "place", "word", "then"] (defScope sNote) := ⟨rfl, rfl, rfl, by decide +kernel, rfl, by decide +kernel, by decide +kernel⟩
theorem Txt.okNote (T : Txt K mg a) : FnOk P w K mg base (L2.CX P w) 4 a.fNote a.dNote ["self", "place", "word", "then"] (spMk K a.cNote a.cIr dueNote 3 1 "word") := by
  refine T.note.F.okX scNote (fun vs H Q E h => ?_) (fun cdv A outer s H vs Q E hr h => ?_)
  · obtain ⟨p, _, xs, _, rfl, e, _⟩ := h
    rw [List.length_cons, e]
    rfl
  · obtain ⟨p, dx, xs, ds, rfl, len, ha, hf, hp, kN, kE⟩ := h
    match xs, ds, ha, len with
    | [x1, x2, x3], [d1, d2, d3], .cons h1 (.cons h2 (.cons h3 .nil)), _ =>
    have hr1 : Room 1 _ := hr.mono (by decide)
    refine ⟨_, pss_cons (ps_expr (pe_call T.okX hr rfl T.expect.g T.expect.F.kp T.expect.b .nil (passes_call (takes_of rfl rfl rfl rfl) fun _ _ _ _ z => z) (pa_cons (pe_lst (pa_cons (pe_tup (pa_cons pe_str (pa_cons (pv 1) pa_nil))) (pa_cons (pe_tup (pa_cons pe_str (pa_cons (pv 2) pa_nil))) (pa_cons (pe_tup (pa_cons pe_str (pa_cons (pv 3) pa_nil))) pa_nil)))) pa_nil)))
      (pss_cons (ps_fld (pv 0) (pv 1) rfl) (pss_cons (ps_fld (pv 0) (pv 2) rfl) (pss_cons (ps_fld (pv 0) (pv 3) rfl) (pss_one (ps_expr (pe_cfun (pe_glob (v := .ref a.cRow) (by rfl) T.row.g rfl) T.rowR T.rowI T.okRow hr1 T.row.F.kp T.row.b pass0 (pa_cons (pv 0) (pa_cons (pe_lst (pa_cons (pv 1) (pa_cons pe_str (pa_cons (pv 2) (pa_cons (pv 3) pa_nil))))) pa_nil)))))))), ?_⟩
    refine ⟨_, rfl, (by show 2 ≤ sizeLine; decide), fun t1 u1 => ⟨_, rfl, (by show 2 ≤ sizeLine; decide), fun t2 u2 => ⟨_, rfl, (by show 2 ≤ sizeLine; decide), fun t3 u3 => ⟨(by show 3 ≤ sizeLine; decide), fun l ul => ?_⟩⟩⟩⟩
    generalize e1 : upd H t1 (.tup [.str "place", x1]) = G1 at *
    have s1 : Same H G1 := e1 ▸ same_new u1
    have q1 : SqT K G1 t1 [.str "place", x1] := e1 ▸ SqT.of upd_same
    generalize e2 : upd G1 t2 (.tup [.str "word", x2]) = G2 at *
    have s2 : Same G1 G2 := e2 ▸ same_new u2
    have q2 : SqT K G2 t2 [.str "word", x2] := e2 ▸ SqT.of upd_same
    generalize e3 : upd G2 t3 (.tup [.str "then", x3]) = G3 at *
    have s3 : Same G2 G3 := e3 ▸ same_new u3
    have q3 : SqT K G3 t3 [.str "then", x3] := e3 ▸ SqT.of upd_same
    have sl : Same G3 (upd G3 l (.lst [.ref t1, .ref t2, .ref t3])) := same_new ul
    have S : Same H _ := (s1.trans (s2.trans (s3.trans sl)))
    have f1 : fine d1 = true := fineAll_mem hf (by simp)
    have f2 : fine d2 = true := fineAll_mem hf (by simp)
    have f3 : fine d3 = true := fineAll_mem hf (by simp)
    have FB := firstBad_is [⟨t1, "place", x1, d1⟩, ⟨t2, "word", x2, d2⟩, ⟨t3, "then", x3, d3⟩]
    refine ⟨l, [⟨t1, "place", x1, d1⟩, ⟨t2, "word", x2, d2⟩, ⟨t3, "then", x3, d3⟩], rfl, SqL.of upd_same, fun i hi => ?_, fun fb H5 s5 => ?_, fun w fb H5 d s5 nd hd => ?_⟩
    · simp only [List.mem_cons, List.not_mem_nil, or_false] at hi
      rcases hi with rfl | rfl | rfl
      · exact ⟨same_tup (s2.trans (s3.trans sl)) q1, dp_same S _ _ h1, f1⟩
      · exact ⟨same_tup (s3.trans sl) q2, dp_same S _ _ h2, f2⟩
      · exact ⟨same_tup sl q3, dp_same S _ _ h3, f3⟩
    · have all := firstBad_none fb
      obtain ⟨z1, rfl, c1⟩ := name_at h1 (all ⟨t1, "place", x1, d1⟩ (by simp))
      obtain ⟨z2, rfl, c2⟩ := name_at h2 (all ⟨t2, "word", x2, d2⟩ (by simp))
      obtain ⟨z3, rfl, c3⟩ := name_at h3 (all ⟨t3, "then", x3, d3⟩ (by simp))
      have S5 := S.trans s5
      refine ⟨_, rfl, _, rfl, p, a.cNote, dx, _, rfl, (S5 _ _ hp), T.note.cl, T.no _ (by simp) _ (by simp), (by show 0 < 1000; decide), _, rfl, _, rfl, p, a.cNote, dx, _, rfl, upd_same, T.note.cl, T.no _ (by simp) _ (by simp), (by show 1 < 1000; decide), _, rfl, _, rfl, p, a.cNote, dx, _, rfl, upd_same, T.note.cl, T.no _ (by simp) _ (by simp), (by show 2 < 1000; decide), ?_⟩
      refine ⟨rfl, _, rfl, _, rfl, _, rfl, _, rfl, (by show 4 ≤ sizeLine; decide), fun l2 ul2 => ?_⟩
      rw [upd_upd, upd_upd] at ul2 ⊢
      have np : p ≠ l2 := fun z => by rw [← z, upd_same] at ul2; cases ul2
      refine ⟨p, l2, a.cNote, dx, _, [z1, "note", z2, z3], rfl, (by rw [upd_ne np]; exact upd_same), T.note.cl, T.no _ (by simp) _ (by simp), (by show 3 < 900; decide), SqL.of upd_same, (by show 4 ≤ 10000; decide), (by simp [*]; try decide), fun z => ?_⟩
      refine kN ?_ _ _ (keep_row S5 ul2) upd_same ?_
      · show firstD [("place", d1), ("word", d2), ("then", d3)] = _
        rcases FB with ⟨_, h⟩ | ⟨w, h, _⟩
        · exact h
        · rw [fb] at h; cases h
      · rw [lookup_putF, if_neg (by decide), lookup_putF, if_neg (by decide), lookup_putF, if_pos rfl]
        rfl
    · have e : firstD [("place", d1), ("word", d2), ("then", d3)] = w ∧ w ≠ Str.empty := by
        rcases FB with ⟨h, _⟩ | ⟨w2, h, h2, h3⟩
        · rw [fb] at h; cases h
        · rw [fb] at h
          cases h
          refine ⟨h2, fun z => ?_⟩
          rw [z] at h3
          exact absurd (show Str.empty ∈ (["place", "word", "then"] : List Str) from h3) (by decide)
      refine kE (by show firstD _ ≠ _; rw [e.1]; exact e.2) H5 d (S.trans s5) (S.free nd) ?_
      show _ = some (HO.xd [("word", .str (firstD _))])
      rw [e.1]
      exact hd
/-- mark -/
def dueGate : List PyData → Str
  | [d1, d2, d3, d4] => firstD [("place", d1), ("mark", d2), ("newer", d3), ("elder", d4)]
  | _ => Str.empty
theorem scGate : FnScope ["self", "place", "mark", "newer", "elder"] ["self", "place", "mark", "newer", "elder"] (defScope sGate) := ⟨rfl, rfl, rfl, by decide +kernel, rfl, by decide +kernel, by decide +kernel⟩
theorem Txt.okGate (T : Txt K mg a) : FnOk P w K mg base (L2.CX P w) 4 a.fGate a.dGate ["self", "place", "mark", "newer", "elder"] (spMk K a.cGate a.cIr dueGate 4 3 "elder") := by
  refine T.gate.F.okX scGate (fun vs H Q E h => ?_) (fun cdv A outer s H vs Q E hr h => ?_)
  · obtain ⟨p, _, xs, _, rfl, e, _⟩ := h
    rw [List.length_cons, e]
    rfl
  · obtain ⟨p, dx, xs, ds, rfl, len, ha, hf, hp, kN, kE⟩ := h
    match xs, ds, ha, len with
    | [x1, x2, x3, x4], [d1, d2, d3, d4], .cons h1 (.cons h2 (.cons h3 (.cons h4 .nil))), _ =>
    have hr1 : Room 1 _ := hr.mono (by decide)
    refine ⟨_, pss_cons (ps_expr (pe_call T.okX hr rfl T.expect.g T.expect.F.kp T.expect.b .nil (passes_call (takes_of rfl rfl rfl rfl) fun _ _ _ _ z => z) (pa_cons (pe_lst (pa_cons (pe_tup (pa_cons pe_str (pa_cons (pv 1) pa_nil))) (pa_cons (pe_tup (pa_cons pe_str (pa_cons (pv 2) pa_nil))) (pa_cons (pe_tup (pa_cons pe_str (pa_cons (pv 3) pa_nil))) (pa_cons (pe_tup (pa_cons pe_str (pa_cons (pv 4) pa_nil))) pa_nil))))) pa_nil)))
      (pss_cons (ps_fld (pv 0) (pv 1) rfl) (pss_cons (ps_fld (pv 0) (pv 2) rfl) (pss_cons (ps_fld (pv 0) (pv 3) rfl) (pss_cons (ps_fld (pv 0) (pv 4) rfl) (pss_one (ps_expr (pe_cfun (pe_glob (v := .ref a.cRow) (by rfl) T.row.g rfl) T.rowR T.rowI T.okRow hr1 T.row.F.kp T.row.b pass0 (pa_cons (pv 0) (pa_cons (pe_lst (pa_cons (pv 1) (pa_cons pe_str (pa_cons (pv 2) (pa_cons (pv 3) (pa_cons (pv 4) pa_nil)))))) pa_nil))))))))), ?_⟩
    refine ⟨_, rfl, (by show 2 ≤ sizeLine; decide), fun t1 u1 => ⟨_, rfl, (by show 2 ≤ sizeLine; decide), fun t2 u2 => ⟨_, rfl, (by show 2 ≤ sizeLine; decide), fun t3 u3 => ⟨_, rfl, (by show 2 ≤ sizeLine; decide), fun t4 u4 => ⟨(by show 4 ≤ sizeLine; decide), fun l ul => ?_⟩⟩⟩⟩⟩
    generalize e1 : upd H t1 (.tup [.str "place", x1]) = G1 at *
    have s1 : Same H G1 := e1 ▸ same_new u1
    have q1 : SqT K G1 t1 [.str "place", x1] := e1 ▸ SqT.of upd_same
    generalize e2 : upd G1 t2 (.tup [.str "mark", x2]) = G2 at *
    have s2 : Same G1 G2 := e2 ▸ same_new u2
    have q2 : SqT K G2 t2 [.str "mark", x2] := e2 ▸ SqT.of upd_same
    generalize e3 : upd G2 t3 (.tup [.str "newer", x3]) = G3 at *
    have s3 : Same G2 G3 := e3 ▸ same_new u3
    have q3 : SqT K G3 t3 [.str "newer", x3] := e3 ▸ SqT.of upd_same
    generalize e4 : upd G3 t4 (.tup [.str "elder", x4]) = G4 at *
    have s4 : Same G3 G4 := e4 ▸ same_new u4
    have q4 : SqT K G4 t4 [.str "elder", x4] := e4 ▸ SqT.of upd_same
    have sl : Same G4 (upd G4 l (.lst [.ref t1, .ref t2, .ref t3, .ref t4])) := same_new ul
    have S : Same H _ := (s1.trans (s2.trans (s3.trans (s4.trans sl))))
    have f1 : fine d1 = true := fineAll_mem hf (by simp)
    have f2 : fine d2 = true := fineAll_mem hf (by simp)
    have f3 : fine d3 = true := fineAll_mem hf (by simp)
    have f4 : fine d4 = true := fineAll_mem hf (by simp)
    have FB := firstBad_is [⟨t1, "place", x1, d1⟩, ⟨t2, "mark", x2, d2⟩, ⟨t3, "newer", x3, d3⟩, ⟨t4, "elder", x4, d4⟩]
    refine ⟨l, [⟨t1, "place", x1, d1⟩, ⟨t2, "mark", x2, d2⟩, ⟨t3, "newer", x3, d3⟩, ⟨t4, "elder", x4, d4⟩], rfl, SqL.of upd_same, fun i hi => ?_, fun fb H5 s5 => ?_, fun w fb H5 d s5 nd hd => ?_⟩
    · simp only [List.mem_cons, List.not_mem_nil, or_false] at hi
      rcases hi with rfl | rfl | rfl | rfl
      · exact ⟨same_tup (s2.trans (s3.trans (s4.trans sl))) q1, dp_same S _ _ h1, f1⟩
      · exact ⟨same_tup (s3.trans (s4.trans sl)) q2, dp_same S _ _ h2, f2⟩
      · exact ⟨same_tup (s4.trans sl) q3, dp_same S _ _ h3, f3⟩
      · exact ⟨same_tup sl q4, dp_same S _ _ h4, f4⟩
    · have all := firstBad_none fb
      obtain ⟨z1, rfl, c1⟩ := name_at h1 (all ⟨t1, "place", x1, d1⟩ (by simp))
      obtain ⟨z2, rfl, c2⟩ := name_at h2 (all ⟨t2, "mark", x2, d2⟩ (by simp))
      obtain ⟨z3, rfl, c3⟩ := name_at h3 (all ⟨t3, "newer", x3, d3⟩ (by simp))
      obtain ⟨z4, rfl, c4⟩ := name_at h4 (all ⟨t4, "elder", x4, d4⟩ (by simp))
      have S5 := S.trans s5
      refine ⟨_, rfl, _, rfl, p, a.cGate, dx, _, rfl, (S5 _ _ hp), T.gate.cl, T.no _ (by simp) _ (by simp), (by show 0 < 1000; decide), _, rfl, _, rfl, p, a.cGate, dx, _, rfl, upd_same, T.gate.cl, T.no _ (by simp) _ (by simp), (by show 1 < 1000; decide), _, rfl, _, rfl, p, a.cGate, dx, _, rfl, upd_same, T.gate.cl, T.no _ (by simp) _ (by simp), (by show 2 < 1000; decide), _, rfl, _, rfl, p, a.cGate, dx, _, rfl, upd_same, T.gate.cl, T.no _ (by simp) _ (by simp), (by show 3 < 1000; decide), ?_⟩
      refine ⟨rfl, _, rfl, _, rfl, _, rfl, _, rfl, _, rfl, (by show 5 ≤ sizeLine; decide), fun l2 ul2 => ?_⟩
      rw [upd_upd, upd_upd, upd_upd] at ul2 ⊢
      have np : p ≠ l2 := fun z => by rw [← z, upd_same] at ul2; cases ul2
      refine ⟨p, l2, a.cGate, dx, _, [z1, "mark", z2, z3, z4], rfl, (by rw [upd_ne np]; exact upd_same), T.gate.cl, T.no _ (by simp) _ (by simp), (by show 4 < 900; decide), SqL.of upd_same, (by show 5 ≤ 10000; decide), (by simp [*]; try decide), fun z => ?_⟩
      refine kN ?_ _ _ (keep_row S5 ul2) upd_same ?_
      · show firstD [("place", d1), ("mark", d2), ("newer", d3), ("elder", d4)] = _
        rcases FB with ⟨_, h⟩ | ⟨w, h, _⟩
        · exact h
        · rw [fb] at h; cases h
      · rw [lookup_putF, if_neg (by decide), lookup_putF, if_pos rfl]
        rfl
    · have e : firstD [("place", d1), ("mark", d2), ("newer", d3), ("elder", d4)] = w ∧ w ≠ Str.empty := by
        rcases FB with ⟨h, _⟩ | ⟨w2, h, h2, h3⟩
        · rw [fb] at h; cases h
        · rw [fb] at h
          cases h
          refine ⟨h2, fun z => ?_⟩
          rw [z] at h3
          exact absurd (show Str.empty ∈ (["place", "mark", "newer", "elder"] : List Str) from h3) (by decide)
      refine kE (by show firstD _ ≠ _; rw [e.1]; exact e.2) H5 d (S.trans s5) (S.free nd) ?_
      show _ = some (HO.xd [("word", .str (firstD _))])
      rw [e.1]
      exact hd
/-- end -/
def dueEnd : List PyData → Str
  | [d1] => firstD [("place", d1)]
  | _ => Str.empty
theorem scEnd : FnScope ["self", "place"] ["self", "place"] (defScope sEnd) := ⟨rfl, rfl, rfl, by decide +kernel, rfl, by decide +kernel, by decide +kernel⟩
theorem Txt.okEnd (T : Txt K mg a) : FnOk P w K mg base (L2.CX P w) 4 a.fEnd a.dEnd ["self", "place"] (spMk K a.cEnd a.cIr dueEnd 1 0 "place") := by
  refine T.end_.F.okX scEnd (fun vs H Q E h => ?_) (fun cdv A outer s H vs Q E hr h => ?_)
  · obtain ⟨p, _, xs, _, rfl, e, _⟩ := h
    rw [List.length_cons, e]
    rfl
  · obtain ⟨p, dx, xs, ds, rfl, len, ha, hf, hp, kN, kE⟩ := h
    match xs, ds, ha, len with
    | [x1], [d1], .cons h1 .nil, _ =>
    have hr1 : Room 1 _ := hr.mono (by decide)
    refine ⟨_, pss_cons (ps_expr (pe_call T.okX hr rfl T.expect.g T.expect.F.kp T.expect.b .nil (passes_call (takes_of rfl rfl rfl rfl) fun _ _ _ _ z => z) (pa_cons (pe_lst (pa_cons (pe_tup (pa_cons pe_str (pa_cons (pv 1) pa_nil))) pa_nil)) pa_nil)))
      (pss_cons (ps_fld (pv 0) (pv 1) rfl) (pss_one (ps_expr (pe_cfun (pe_glob (v := .ref a.cRow) (by rfl) T.row.g rfl) T.rowR T.rowI T.okRow hr1 T.row.F.kp T.row.b pass0 (pa_cons (pv 0) (pa_cons (pe_lst (pa_cons (pv 1) (pa_cons pe_str pa_nil))) pa_nil)))))), ?_⟩
    refine ⟨_, rfl, (by show 2 ≤ sizeLine; decide), fun t1 u1 => ⟨(by show 1 ≤ sizeLine; decide), fun l ul => ?_⟩⟩
    generalize e1 : upd H t1 (.tup [.str "place", x1]) = G1 at *
    have s1 : Same H G1 := e1 ▸ same_new u1
    have q1 : SqT K G1 t1 [.str "place", x1] := e1 ▸ SqT.of upd_same
    have sl : Same G1 (upd G1 l (.lst [.ref t1])) := same_new ul
    have S : Same H _ := (s1.trans sl)
    have f1 : fine d1 = true := fineAll_mem hf (by simp)
    have FB := firstBad_is [⟨t1, "place", x1, d1⟩]
    refine ⟨l, [⟨t1, "place", x1, d1⟩], rfl, SqL.of upd_same, fun i hi => ?_, fun fb H5 s5 => ?_, fun w fb H5 d s5 nd hd => ?_⟩
    · simp only [List.mem_cons, List.not_mem_nil, or_false] at hi
      obtain rfl := hi
      exact ⟨same_tup sl q1, dp_same S _ _ h1, f1⟩
    · have all := firstBad_none fb
      obtain ⟨z1, rfl, c1⟩ := name_at h1 (all ⟨t1, "place", x1, d1⟩ (by simp))
      have S5 := S.trans s5
      refine ⟨_, rfl, _, rfl, p, a.cEnd, dx, _, rfl, (S5 _ _ hp), T.end_.cl, T.no _ (by simp) _ (by simp), (by show 0 < 1000; decide), ?_⟩
      refine ⟨rfl, _, rfl, _, rfl, (by show 2 ≤ sizeLine; decide), fun l2 ul2 => ?_⟩
      skip
      have np : p ≠ l2 := fun z => by rw [← z, upd_same] at ul2; cases ul2
      refine ⟨p, l2, a.cEnd, dx, _, [z1, "end"], rfl, (by rw [upd_ne np]; exact upd_same), T.end_.cl, T.no _ (by simp) _ (by simp), (by show 1 < 900; decide), SqL.of upd_same, (by show 2 ≤ 10000; decide), (by simp [*]; try decide), fun z => ?_⟩
      refine kN ?_ _ _ (keep_row S5 ul2) upd_same ?_
      · show firstD [("place", d1)] = _
        rcases FB with ⟨_, h⟩ | ⟨w, h, _⟩
        · exact h
        · rw [fb] at h; cases h
      · rw [lookup_putF, if_neg (by decide), lookup_putF, if_pos rfl]
        rfl
    · have e : firstD [("place", d1)] = w ∧ w ≠ Str.empty := by
        rcases FB with ⟨h, _⟩ | ⟨w2, h, h2, h3⟩
        · rw [fb] at h; cases h
        · rw [fb] at h
          cases h
          refine ⟨h2, fun z => ?_⟩
          rw [z] at h3
          exact absurd (show Str.empty ∈ (["place"] : List Str) from h3) (by decide)
      refine kE (by show firstD _ ≠ _; rw [e.1]; exact e.2) H5 d (S.trans s5) (S.free nd) ?_
      show _ = some (HO.xd [("word", .str (firstD _))])
      rw [e.1]
      exact hd
end
end K3

set_option Elab.async false
set_option linter.all false
set_option maxRecDepth 100000
set_option maxHeartbeats 4000000
namespace K3
open PySem L2 Lw
def dueAsk : List PyData → Str
  | [d1, d2, d3] => if firstD [("place", d1), ("name", d2)] = Str.empty then (if waysOk d3 = true then Str.empty else "ways") else firstD [("place", d1), ("name", d2)]
  | _ => Str.empty
def wordsOf : PyData → List Str
  | .tuple [.str y, .str z] => [y, z]
  | _ => []
theorem words_flat : ∀ ds : List PyData, (ds.map fun d => (wordsOf d).map V.str).flatten = (ds.map wordsOf).flatten.map V.str
  | [] => rfl
  | d :: r => by rw [List.map_cons, List.map_cons, List.flatten_cons, List.flatten_cons, words_flat r, List.map_append]
theorem words_len : ∀ ds : List PyData, (ds.map wordsOf).flatten.length ≤ 2 * ds.length
  | [] => by simp
  | d :: r => by
    have ih := words_len r
    have h : (wordsOf d).length ≤ 2 := by unfold wordsOf; split <;> simp
    rw [List.map_cons, List.flatten_cons, List.length_append, List.length_cons]
    omega
theorem words_short {ds : List PyData} (h : ∀ d ∈ ds, wayOk d = true) : ∀ y ∈ (ds.map wordsOf).flatten, y.length ≤ 4 := by
  intro y hy
  obtain ⟨l, hl, hy⟩ := List.mem_flatten.mp hy
  obtain ⟨d, hd, rfl⟩ := List.mem_map.mp hl
  obtain ⟨u, v, rfl, h1, h2⟩ := wayOk_is (h d hd)
  have hu : nameD (.str u) = true := h1
  have hv : nameD (.str v) = true := h2
  obtain ⟨_, e1, l1⟩ := nameD_is hu
  obtain ⟨_, e2, l2⟩ := nameD_is hv
  cases e1
  cases e2
  have hy' : y ∈ [u, v] := hy
  simp at hy'
  rcases hy' with rfl | rfl
  · exact l1
  · exact l2
theorem waysD_all {ds : List PyData} (h : waysD ds = true) : ∀ d ∈ ds, wayOk d = true := by
  rw [waysD] at h
  obtain ⟨h1, _⟩ := Bool.and_eq_true_iff.mp h
  obtain ⟨_, h2⟩ := Bool.and_eq_true_iff.mp h1
  exact List.all_eq_true.mp h2
section
variable {P : Program} {w : World} {K : PySem.W.Frag} {mg : Str → Option Value} {base : Heap} {a : Ad}
theorem scAsk : FnScope ["self", "place", "name", "ways", "way", "word"] ["self", "place", "name", "ways"] (defScope sAsk) := ⟨rfl, rfl, rfl, by decide +kernel, rfl, by decide +kernel, by decide +kernel⟩
theorem Txt.okAsk (T : Txt K mg a) : FnOk P w K mg base (L2.CX P w) 4 a.fAsk a.dAsk ["self", "place", "name", "ways"] (spMk K a.cAsk a.cIr dueAsk 3 1 "name") := by
  refine T.ask.F.okX scAsk (fun vs H Q E h => ?_) (fun cdv A outer s H vs Q E hr h => ?_)
  · obtain ⟨p, _, xs, _, rfl, e, _⟩ := h
    rw [List.length_cons, e]
    rfl
  · obtain ⟨p, dx, xs, ds, rfl, len, ha, hf, hp, kN, kE⟩ := h
    match xs, ds, ha, len with
    | [x1, x2, x3], [d1, d2, d3], .cons h1 (.cons h2 (.cons h3 .nil)), _ =>
    have hr1 : Room 1 _ := hr.mono (by decide)
    have hr2 : Room 2 _ := hr.mono (by decide)
    refine ⟨_, pss_cons (ps_expr (pe_call T.okX hr rfl T.expect.g T.expect.F.kp T.expect.b .nil (passes_call (takes_of rfl rfl rfl rfl) fun _ _ _ _ z => z) (pa_cons (pe_lst (pa_cons (pe_tup (pa_cons pe_str (pa_cons (pv 1) pa_nil))) (pa_cons (pe_tup (pa_cons pe_str (pa_cons (pv 2) pa_nil))) pa_nil))) pa_nil)))
      (pss_cons (ps_if (pt_not (pt_val (pe_call T.okWays hr rfl T.areWays.g T.areWays.F.kp T.areWays.b .nil pass0 (pa_cons (pv 3) pa_nil))))
        (pss_one (ps_raise rfl (takes_of rfl rfl rfl rfl) (pmk_oex T.ir T.irI T.irT T.okIr hr2 T.irB .nil pass0 rfl T.gIr (pa_cons pe_str pa_nil)))) pss_nil)
      (pss_cons (ps_fld (pv 0) (pv 1) rfl) (pss_cons (ps_fld (pv 0) (pv 2) rfl) (pss_cons (ps_fld (pv 0) (pe_callTy call_tuple_of (by rfl) T.tTuple PyProof.Rows.boot_tuple (pa_cons (pv 3) pa_nil)) rfl)
      (pss_one (ps_expr (pe_cfun (pe_glob (v := .ref a.cRow) (by rfl) T.row.g rfl) T.rowR T.rowI T.okRow hr1 T.row.F.kp T.row.b pass0 (pa_cons (pv 0) (pa_cons (pe_lst (pa_cons (pv 1) (pa_cons pe_str (pa_cons (pv 2)
        (StX.pa_star (pe_lc2 (own := [("way", 4), ("word", 5)]) (vs1 := [5]) (g := gName 4) (tt := tYes) (g1 := gName 5) (tt1 := tYes) (wi1 := iTup K (tVar 4)) (te := tVar 5) (by rfl) scAsk.nd (pi_seq (pv 3)) (blkOk_by (own := [("way", 4), ("word", 5)]) (N := ["self", "place", "name", "ways", "way", "word"]) (sc := defScope sAsk) (by decide +kernel)) (by decide)
          (fun _ _ _ _ _ => pg_name (i := 4) scAsk.nd rfl (Or.inl rfl)) (fun _ _ _ _ _ => pts_nil) (fun _ _ _ _ _ => pi_tup (pv 4)) (fun _ _ _ _ _ => pg_name (i := 5) scAsk.nd rfl (Or.inl rfl)) (fun _ _ _ _ _ => pts_nil) (fun _ _ _ _ _ => pv 5)) pa_nil))))) pa_nil))))))))), ?_⟩
    refine ⟨_, rfl, (by show 2 ≤ sizeLine; decide), fun t1 u1 => ⟨_, rfl, (by show 2 ≤ sizeLine; decide), fun t2 u2 => ⟨(by show 2 ≤ sizeLine; decide), fun l ul => ?_⟩⟩⟩
    generalize e1 : upd H t1 (.tup [.str "place", x1]) = G1 at *
    have s1 : Same H G1 := e1 ▸ same_new u1
    have q1 : SqT K G1 t1 [.str "place", x1] := e1 ▸ SqT.of upd_same
    generalize e2 : upd G1 t2 (.tup [.str "name", x2]) = G2 at *
    have s2 : Same G1 G2 := e2 ▸ same_new u2
    have q2 : SqT K G2 t2 [.str "name", x2] := e2 ▸ SqT.of upd_same
    have sl : Same G2 (upd G2 l (.lst [.ref t1, .ref t2])) := same_new ul
    have S : Same H _ := (s1.trans (s2.trans sl))
    have f1 : fine d1 = true := fineAll_mem hf (by simp)
    have f2 : fine d2 = true := fineAll_mem hf (by simp)
    have f3 : fine d3 = true := fineAll_mem hf (by simp)
    have FB := firstBad_is [⟨t1, "place", x1, d1⟩, ⟨t2, "name", x2, d2⟩]
    refine ⟨l, [⟨t1, "place", x1, d1⟩, ⟨t2, "name", x2, d2⟩], rfl, SqL.of upd_same, fun i hi => ?_, fun fb H5 s5 => ?_, fun w fb H5 d s5 nd hd => ?_⟩
    · simp only [List.mem_cons, List.not_mem_nil, or_false] at hi
      rcases hi with rfl | rfl
      · exact ⟨same_tup (s2.trans sl) q1, dp_same S _ _ h1, f1⟩
      · exact ⟨same_tup sl q2, dp_same S _ _ h2, f2⟩
    · have all := firstBad_none fb
      have S5 := S.trans s5
      have fd : firstD [("place", d1), ("name", d2)] = Str.empty := by
        rcases FB with ⟨_, h⟩ | ⟨w, h, _⟩
        · exact h
        · rw [fb] at h; cases h
      have due : dueAsk [d1, d2, d3] = if waysOk d3 = true then Str.empty else "ways" := if_pos fd
      rw [due] at kN kE
      refine ⟨_, rfl, x3, d3, rfl, dp_same S5 _ _ h3, f3, fun H6 s6 => ⟨_, rfl, ?_⟩⟩
      have S6 := S5.trans s6
      cases wo : waysOk d3 with
      | false =>
        rw [wo, if_neg (by decide)] at kE
        refine iteT ⟨(by show 1 ≤ 1000; decide), fun x hx => ⟨x, _, rfl, upd_same, fun d n1 n2 => ⟨rfl, d, _, upd_same, by rw [upd_ne n2]; exact upd_same, ?_, ?_⟩⟩⟩
        · rwa [upd_ne n2] at n1
        · rw [err_heap hx n1 n2]
          have hd' : H6 d = none := by rwa [upd_ne n2] at n1
          exact kE (by decide) _ d (S6.trans (same_new hd')) (S6.free hd') upd_same
      | true =>
        rw [wo, if_pos rfl] at kN
        refine iteF ?_
        obtain ⟨z1, rfl, c1⟩ := name_at h1 (all ⟨t1, "place", x1, d1⟩ (by simp))
        obtain ⟨z2, rfl, c2⟩ := name_at h2 (all ⟨t2, "name", x2, d2⟩ (by simp))
        rcases seq_or h3 f3 with ⟨p3, ws, dw, rfl, hs3, ha3, few3, hf3, es3, ed3⟩ | es3
        · have ew : waysD dw = true := by rcases ed3 with rfl | rfl <;> exact wo
          have el := dpAll_len ha3
          have ok := waysD_all ew
          have hs6 := hs3.same S6
          have ha6 := dpAll_same S6 _ _ ha3
          refine ⟨_, rfl, _, rfl, p, a.cAsk, dx, _, rfl, (S6 _ _ hp), T.ask.cl, T.no _ (by simp) _ (by simp), (by show 0 < 1000; decide), ?_⟩
          refine ⟨_, rfl, _, rfl, p, a.cAsk, dx, _, rfl, upd_same, T.ask.cl, T.no _ (by simp) _ (by simp), (by show 1 < 1000; decide), ?_⟩
          rw [upd_upd]
          dsimp only
          refine seq_cut (fun σ1 H1 => ∃ (H7 : Hp) (v : V), σ1 = [some (.ref p), some (.str z1), some (.str z2), some (.ref p3), none, none] ∧ H1 = upd H7 p (.ins a.cAsk dx (putF "ways" v (putF "name" (.str z2) (putF "place" (.str z1) [])))) ∧ (∀ b o, H6 b = some o → b ≠ p → H7 b = some o)) ?after fun after => ?go
          case go =>
            refine ⟨_, rfl, p3, ws, rfl, ?_⟩
            have hp6 := S6 _ _ hp
            have np : ∀ {H' : Hp} {o : HO}, But p H6 (upd H6 p o) := fun {H' o} b u e ne => by rw [upd_ne ne]; exact e
            rcases hs6 with hs6 | hs6
            · refine .inl ⟨(np (H' := H6)).seq hp6 hs6, fun l7 u7 => ?_⟩
              have n7 : p ≠ l7 := fun z => by rw [← z, upd_same] at u7; cases u7
              refine ⟨_, rfl, p, a.cAsk, dx, putF "name" (.str z2) (putF "place" (.str z1) []), rfl, by rw [upd_ne n7]; exact upd_same, T.ask.cl, T.no _ (by simp) _ (by simp), (by show 2 < 1000; decide), ?_⟩
              refine after _ _ ⟨_, .ref l7, rfl, rfl, fun b o e ne => ?_⟩
              have nb : b ≠ l7 := fun z => by rw [← z, upd_ne ne, e] at u7; cases u7
              rw [upd_ne nb, upd_ne ne]
              exact e
            · refine .inr ⟨(np (H' := H6)).tup hp6 hs6, ?_⟩
              refine ⟨_, rfl, p, a.cAsk, dx, putF "name" (.str z2) (putF "place" (.str z1) []), rfl, upd_same, T.ask.cl, T.no _ (by simp) _ (by simp), (by show 2 < 1000; decide), ?_⟩
              exact after _ _ ⟨_, .ref p3, rfl, rfl, fun b o e ne => by rw [upd_ne ne]; exact e⟩
          case after =>
            rintro _ _ ⟨H7, v, rfl, rfl, k7⟩
            have hp6 := S6 _ _ hp
            have k8 : But p H6 (upd H7 p (.ins a.cAsk dx (putF "ways" v (putF "name" (.str z2) (putF "place" (.str z1) []))))) := fun b o e ne => by rw [upd_ne ne]; exact k7 b o e ne
            refine ⟨rfl, _, rfl, _, rfl, _, rfl, ?_⟩
            refine seq_run rfl (k8.sqA hp6 hs6) fun J hJ D un => lc2_flat hJ un (dw.map fun d => (wordsOf d).map V.str) (by rw [List.length_map, el]) (fun j x hx => ?_) ?_ fun H9 s9 h9 => ?_
            · obtain ⟨d, ed, hd⟩ := dpAll_at ha6 hx
              obtain ⟨y, z, rfl, _, _⟩ := wayOk_is (ok d (List.mem_of_getElem? ed))
              cases hd with
              | @tup p2 zs _ hs2 ha2 =>
                cases ha2 with
                | cons hy hr =>
                  cases hy
                  cases hr with
                  | cons hz hn =>
                    cases hz
                    cases hn
                    exact ⟨p2, _, rfl, by rw [List.getElem?_map, ed]; rfl, k8.tup hp6 hs2⟩
            · rw [words_flat, List.length_map]
              have := words_len dw
              omega
            · rw [words_flat] at h9
              have lw := words_len dw
              refine ⟨D, _, rfl, .inr (SqL.of h9), ?_⟩
              refine ⟨?_, fun l2 ul2 => ?_⟩
              · rw [List.append_nil]
                show (List.map V.str _).length + 1 + 1 + 1 ≤ _
                rw [List.length_map]
                exact Nat.le_trans (show _ ≤ 10000 by omega) (by decide)
              · rw [List.append_nil] at *
                have P9 := s9 p _ upd_same
                have np : p ≠ l2 := fun z => by rw [← z, P9] at ul2; cases ul2
                refine ⟨p, l2, a.cAsk, dx, _, z1 :: "ask" :: z2 :: (dw.map wordsOf).flatten, rfl, (by rw [upd_ne np]; exact P9), T.ask.cl, T.no _ (by simp) _ (by simp), (by show 3 < 900; decide), SqL.of upd_same, ?_, ?_, fun z => ?_⟩
                · rw [List.length_cons, List.length_cons, List.length_cons]
                  omega
                · intro y hy
                  rcases List.mem_cons.mp hy with rfl | hy
                  · exact c1
                  rcases List.mem_cons.mp hy with rfl | hy
                  · decide
                  rcases List.mem_cons.mp hy with rfl | hy
                  · exact c2
                  exact words_short ok y hy
                · refine kN rfl _ _ (fun b o e ne => ?_) upd_same ?_
                  · have k9 := s9 _ _ (k8 b o (S6 _ _ e) ne)
                    have nb : b ≠ l2 := fun z => by rw [← z, k9] at ul2; cases ul2
                    rw [upd_ne ne, upd_ne nb]
                    exact k9
                  · rw [lookup_putF, if_neg (by decide), lookup_putF, if_neg (by decide), lookup_putF, if_pos rfl]
                    rfl
        · exfalso
          cases d3 with
          | list _ => cases es3
          | tuple _ => cases es3
          | _ => cases wo
    · have e : firstD [("place", d1), ("name", d2)] = w ∧ w ≠ Str.empty := by
        rcases FB with ⟨h, _⟩ | ⟨w2, h, h2, h3⟩
        · rw [fb] at h; cases h
        · rw [fb] at h
          cases h
          refine ⟨h2, fun z => ?_⟩
          rw [z] at h3
          exact absurd (show Str.empty ∈ (["place", "name"] : List Str) from h3) (by decide)
      have due : dueAsk [d1, d2, d3] = w := by
        show (if firstD [("place", d1), ("name", d2)] = Str.empty then _ else firstD [("place", d1), ("name", d2)]) = w
        rw [e.1, if_neg e.2]
      rw [due] at kE
      exact kE e.2 H5 d (S.trans s5) (S.free nd) hd
end
end K3

set_option Elab.async false
set_option linter.all false
set_option maxRecDepth 100000
set_option maxHeartbeats 4000000
namespace Lw
open PySem PySem.Spec PyProof.Rows L2
theorem turns_keep {H1 : Hp} {i : Nat} {σ : L2.St} {xs : List V} {tt : TT} (c : V → Bool) (hi : i < σ.length) (few : xs.length ≤ 100000) (el : ∀ x H (Q : Bool → Hp → Prop), x ∈ xs → Same H1 H → Q (c x) H → tt (σ.set i (some x)) H Q) :
    Turns H1 i σ xs (xs.map fun x => if c x = true then some x else none) tt (tVar i) where
  len := by simp
  few := few
  keep := fun j x y H Q hx hy s1 q => by
    rw [List.getElem?_map, hx] at hy
    have hy' : (if c x = true then some x else none) = some y := by simpa using hy
    cases e : c x with
    | false => rw [e] at hy'; cases hy'
    | true =>
      rw [e] at hy'
      obtain rfl : x = y := by simpa using hy'
      exact el x H _ (List.mem_of_getElem? hx) s1 ⟨e, Same.refl H, x, by simp [hi], q H (Same.refl H)⟩
  drop := fun j x H hx hy s1 => by
    rw [List.getElem?_map, hx] at hy
    have hy' : (if c x = true then some x else none) = none := by simpa using hy
    cases e : c x with
    | true => rw [e] at hy'; cases hy'
    | false => exact el x H _ (List.mem_of_getElem? hx) s1 ⟨e, Same.refl H⟩
theorem out_keep (c : V → Bool) : ∀ xs : List V, outOf (xs.map fun x => if c x = true then some x else none) = xs.filter c
  | [] => rfl
  | x :: r => by
    have ih := out_keep c r
    unfold outOf at ih ⊢
    rw [List.map_cons, List.filterMap_cons, List.filter_cons]
    cases c x with
    | true => exact congrArg _ ih
    | false => exact ih
/-- the signs that are no letters -/
def notAbc : V → Bool
  | .str y => !K3.isAbc (y.cps.getD 0 0)
  | _ => true
theorem no_others (z : Str) : ∃ zs : List Str, (signsOf z).filter notAbc = zs.map V.str ∧ (∀ y ∈ zs, ∃ c ∈ z.cps.toList, y = ⟨#[c]⟩) ∧ zs.isEmpty = z.cps.toList.all K3.isAbc := by
  unfold signsOf
  induction z.cps.toList with
  | nil => exact ⟨[], rfl, by simp, rfl⟩
  | cons c r ih =>
    obtain ⟨zs, h1, h2, h3⟩ := ih
    have e : notAbc (V.str ⟨#[c]⟩) = !K3.isAbc c := rfl
    rw [List.map_cons, List.filter_cons, e]
    cases hc : K3.isAbc c with
    | true =>
      refine ⟨zs, by simpa using h1, fun y hy => ?_, by simpa [hc] using h3⟩
      obtain ⟨d, hd, ey⟩ := h2 y hy
      exact ⟨d, List.mem_cons_of_mem _ hd, ey⟩
    | false =>
      refine ⟨⟨#[c]⟩ :: zs, by simpa using h1, fun y hy => ?_, by simp [hc]⟩
      rcases List.mem_cons.mp hy with rfl | hy
      · exact ⟨c, by simp, rfl⟩
      · obtain ⟨d, hd, ey⟩ := h2 y hy
        exact ⟨d, List.mem_cons_of_mem _ hd, ey⟩
theorem sign_ok {z : Str} (h : PyData.strOk z = true) {c : Nat} (hc : c ∈ z.cps.toList) : PyData.strOk ⟨#[c]⟩ = true := by
  unfold PyData.strOk at h ⊢
  rw [Array.all_eq_true'] at h
  simpa using h c (by simpa using hc)
end Lw
namespace K3
open PySem L2 Lw
section
variable {P : Program} {w : World} {K : PySem.W.Frag} {mg : Str → Option Value} {base : Heap} {a : Ad}
theorem scTitle : FnScope ["_law_thing_here", "_law_sign"] ["_law_thing_here"] (defScope sTitle) := ⟨rfl, rfl, rfl, by decide +kernel, rfl, by decide +kernel, by decide +kernel⟩
theorem Txt.okTitle (T : Txt K mg a) : FnOk P w K mg base CX0 1 a.fTitle a.dTitle ["_law_thing_here"] (spIsName K) := by
  refine T.title.F.ok scTitle (fun vs H Q E h => ?_) (fun cdv A outer s H vs Q E hr h => ?_)
  · obtain ⟨v, d, rfl, _⟩ := h
    rfl
  · obtain ⟨v, d, rfl, hd, hz, fin⟩ := h
    have hu : _ := hr.units
    refine ⟨_, pss_cons (ps_if (PW.pt (pw_or (pt_not (pt_val (pe_callB call_isi (by rfl) T.tIs PyProof.Rows.boot_isinstance (pa_cons (pv 0) (pa_cons (pe_bltn (v := .ty "str") (by rfl) T.tStr PyProof.Rows.boot_str rfl) pa_nil)))))
        (pw_or1 (pt_not (pt_chain op_lt op_lt pe_int (pe_callB call_len (by rfl) T.tLen PySem.boot_len (pa_cons (pv 0) pa_nil)) pe_int))))) (pss_one (ps_ret pe_bl)) pss_nil)
      (pss_one (ps_ret (pe_cmpR (op_eqD hu) (pe_lc (own := [("_law_sign", 1)]) (g := gName 1) (tt := _) (by rfl) scTitle.nd (pi_str (pv 0))
          (blkOk_by (own := [("_law_sign", 1)]) (N := ["_law_thing_here", "_law_sign"]) (sc := defScope sTitle) (by decide +kernel)) (fun _ _ _ _ _ => pg_name (i := 1) scTitle.nd rfl (Or.inl rfl))
          (fun _ _ _ _ _ => pts_one (pt_cmpR op_notIn_sign (pv 1) pe_str rfl)) (fun _ _ _ _ _ => pv 1)) (pe_lst pa_nil) (nomark _)))), ?_⟩
    refine ⟨_, rfl, _, _, _, _, _, rfl, .ty "str", ty_data hd, kit_str (no_dict hd), _, rfl, ?_⟩
    cases d with
    | str z =>
      cases hd
      obtain ⟨len, sok⟩ := fine_str hz
      have small : z.length ≤ sizeLine := Nat.le_of_lt (small1000 len)
      refine iteF ⟨_, rfl, _, _, rfl, ⟨small, rfl⟩, _, _, rfl, rfl, _, rfl, ?_⟩
      have key : nameD (.str z) = (decide ((0 : Int) < (z.length : Int)) && decide ((z.length : Int) < 5) && z.cps.toList.all isAbc) := by
        show (decide (1 ≤ (z.length : Int)) && decide ((z.length : Int) ≤ 4) && _) = _
        have a1 : decide ((1 : Int) ≤ (z.length : Int)) = decide ((0 : Int) < (z.length : Int)) := decide_eq_decide.mpr (by omega)
        have a2 : decide ((z.length : Int) ≤ 4) = decide ((z.length : Int) < 5) := decide_eq_decide.mpr (by omega)
        rw [a1, a2]
      rw [key] at fin
      cases h1 : decide ((0 : Int) < (z.length : Int)) with
      | false =>
        rw [h1] at fin
        exact iteF ⟨false, rfl, iteT (fin H (Same.refl H))⟩
      | true =>
        refine iteT ⟨_, _, rfl, rfl, _, rfl, ?_⟩
        cases h2 : decide ((z.length : Int) < 5) with
        | false =>
          rw [h2, Bool.and_false, Bool.false_and] at fin
          exact iteT (fin H (Same.refl H))
        | true =>
          rw [h1, h2] at fin
          refine iteF ⟨_, rfl, z, rfl, fun D un => ?_⟩
          refine lc_of_str ((signsOf z).map fun x => if notAbc x = true then some x else none) un (turns_keep notAbc (by show 1 < 2; decide) (by rw [List.length_map, Array.length_toList]; exact Nat.le_trans len (by decide)) fun x H2 Q2 hx _ q => ?_) (mono_test (mono_op (fun _ _ _ _ _ f ⟨c, z, e1, e2, q⟩ => ⟨c, z, e1, e2, f _ _ q⟩) mono_var mono_c)) fun H2 s2 h2 => ?_
          · obtain ⟨c, _, rfl⟩ := List.mem_map.mp hx
            exact ⟨_, rfl, c, _, rfl, rfl, _, rfl, q⟩
          · rw [out_keep] at h2
            obtain ⟨zs, e1, e2, e3⟩ := no_others z
            rw [e1] at h2
            refine ⟨(by show 0 ≤ sizeLine; decide), fun l ul => ?_⟩
            have s3 : Same H2 (upd H2 l (.lst [])) := same_new ul
            refine ⟨.list (zs.map PyData.str), .list [], .lst (SqL.of (s3 _ _ h2)) (strs_data zs), .lst (SqL.of upd_same) .nil, strs_shaped fun y hy => ?_, nil_shaped, ?_⟩
            · obtain ⟨c, hc, rfl⟩ := e2 y hy
              exact sign_ok sok hc
            · rw [eqv_nil]
              have e4 : (zs.map PyData.str).isEmpty = z.cps.toList.all isAbc := by rw [← e3]; cases zs <;> rfl
              rw [e4]
              exact fin _ (s2.trans s3)
    | _ => exact iteT (iteT (fin H (Same.refl H)))
end
end K3

set_option Elab.async false
set_option linter.all false
set_option maxRecDepth 100000
set_option maxHeartbeats 4000000
namespace K3
open PySem L2 Lw
section
variable {P : Program} {w : World} {K : PySem.W.Frag} {mg : Str → Option Value} {base : Heap} {a : Ad}
theorem scPairs : FnScope ["_law_thing_here", "_law_pair"] ["_law_thing_here"] (defScope sPairs) := ⟨rfl, rfl, rfl, by decide +kernel, rfl, by decide +kernel, by decide +kernel⟩
theorem waysD_no {ds : List PyData} {d : PyData} (m : d ∈ ds) (h : wayOk d = false) : waysD ds = false := by
  cases e : waysD ds with
  | false => rfl
  | true => rw [waysD_all e d m] at h; cases h
theorem Txt.okPairs (T : Txt K mg a) : FnOk P w K mg base CX0 2 a.fPairs a.dPairs ["_law_thing_here"] (spWays K) := by
  refine T.pairs.F.ok scPairs (fun vs H Q E h => ?_) (fun cdv A outer s H vs Q E hr h => ?_)
  · obtain ⟨v, d, rfl, _⟩ := h
    rfl
  · obtain ⟨v, d, rfl, hd, hz, fin⟩ := h
    refine ⟨_, pss_cons (ps_if (PW.pt (pw_or (pt_not (pt_val (pe_callB call_isiT (by rfl) T.tIs PyProof.Rows.boot_isinstance (pa_cons (pv 0) (pa_cons (pe_tup (pa_cons (pe_bltn (v := .ty "list") (by rfl) T.tList PyProof.Rows.boot_list rfl) (pa_cons (pe_bltn (v := .ty "tuple") (by rfl) T.tTuple PyProof.Rows.boot_tuple rfl) pa_nil))) pa_nil)))))
        (pw_or1 (pt_cmpR op_eq (pe_callB call_len_seq (by rfl) T.tLen PySem.boot_len (pa_cons (pv 0) pa_nil)) pe_int (nomark _))))) (pss_one (ps_ret pe_bl)) pss_nil)
      (pss_cons (ps_for PassesOwn.never rfl (pi_seq (pv 0)) (pg_name (i := 1) scPairs.nd rfl (Or.inl rfl))
        (pss_cons (ps_if (PW.pt (pw_or (pt_not (pt_val (pe_callB call_isi (by rfl) T.tIs PyProof.Rows.boot_isinstance (pa_cons (pv 1) (pa_cons (pe_bltn (v := .ty "tuple") (by rfl) T.tTuple PyProof.Rows.boot_tuple rfl) pa_nil)))))
            (pw_or1 (pt_cmpR op_ne (pe_callB call_len_seq (by rfl) T.tLen PySem.boot_len (pa_cons (pv 1) pa_nil)) pe_int (nomark _))))) (pss_one (ps_ret pe_bl)) pss_nil)
        (pss_one (ps_if (PW.pt (pw_or (pt_not (pt_val (pe_call T.okTitle hr rfl T.title.g T.title.F.kp T.title.b .nil pass0 (pa_cons (pe_ix ix_tup (pv 1) pe_int (fun _ _ => rfl)) pa_nil))))
            (pw_or1 (pt_not (pt_val (pe_call T.okTitle hr rfl T.title.g T.title.F.kp T.title.b .nil pass0 (pa_cons (pe_ix ix_tup (pv 1) pe_int (fun _ _ => rfl)) pa_nil))))))) (pss_one (ps_ret pe_bl)) pss_nil))))
      (pss_one (ps_ret (pe_cmpR op_eq (pe_callB Sx.cr_lenK (by rfl) T.tLen PySem.boot_len (pa_cons (pe_callTy (Sx.cr_setOf rfl) (by rfl) T.tSet PyProof.Rows.boot_set (pa_cons
          (pe_lc (own := [("_law_pair", 1)]) (g := gName 1) (tt := tYes) (te := tCB _ (tCons (tOp (rIxT K) (tVar 1) (tC (.int 0))) tNil)) (by rfl) scPairs.nd (pi_seq (pv 0))
            (blkOk_by (own := [("_law_pair", 1)]) (N := ["_law_thing_here", "_law_pair"]) (sc := defScope sPairs) (by decide +kernel)) (fun _ _ _ _ _ => pg_name (i := 1) scPairs.nd rfl (Or.inl rfl)) (fun _ _ _ _ _ => pts_nil)
            (fun _ _ _ _ _ => pe_callTy SkE.call_str_str (by rfl) T.tStr PyProof.Rows.boot_str (pa_cons (pe_ix ix_tup (pv 1) pe_int (fun _ _ => rfl)) pa_nil))) pa_nil)) pa_nil)) (pe_callB call_len_seq (by rfl) T.tLen PySem.boot_len (pa_cons (pv 0) pa_nil)) (nomark _))))), ?_⟩
    refine ⟨_, rfl, (by show 2 ≤ sizeLine; decide), fun tp hp => ?_⟩
    have s0 : Same H (upd H tp (.tup [.ty "list", .ty "tuple"])) := same_new hp
    have hd0 := dp_same s0 _ _ hd
    refine ⟨v, tp, _, _, _, _, rfl, upd_same, .cons (.ty "list") (.cons (.ty "tuple") .nil), ty_data hd0, kit_seq (no_dict hd), _, rfl, ?_⟩
    generalize upd H tp (.tup [.ty "list", .ty "tuple"]) = H0 at *
    rcases seq_or hd hz with ⟨p, xs, ds, rfl, hs, ha, few, hf, es, ed⟩ | es
    · rw [es]
      have el := dpAll_len ha
      have hs0 := hs.same s0
      have ha0 := dpAll_same s0 _ _ ha
      have ew : waysOk d = waysD ds := by rcases ed with rfl | rfl <;> rfl
      rw [ew] at fin
      refine iteF ⟨_, rfl, p, xs, rfl, hs0, rfl, _, rfl, ?_⟩
      rw [dec_int]
      by_cases e : xs.length = 0
      · have ed : ds = [] := List.length_eq_zero_iff.mp (el ▸ e)
        subst ed
        rw [show ((xs.length : Int) == 0) = true from by simpa using e]
        exact iteT (fin _ s0)
      · rw [show ((xs.length : Int) == 0) = false from by simpa using (by omega : (xs.length : Int) ≠ 0)]
        have few' : xs.length ≤ 1000 := el ▸ few
        have ne : ds.isEmpty = false := by
          cases ds with
          | nil => exact absurd el e
          | cons _ _ => rfl
        refine iteF ?_
        refine seq_run rfl hs0 fun J hJ => for_J hJ (fun i σ1 H1 => ∃ v, σ1 = [some (.ref p), v] ∧ Same H0 H1 ∧ ∀ d ∈ ds.take i, wayOk d = true) ⟨_, rfl, Same.refl _, by simp⟩ (fun _ _ _ ⟨_, _, q, _⟩ => q) ?_ ?_
        · rintro i x σ1 H1 hx ⟨_, rfl, s1, ok⟩
          obtain ⟨d1, ed1, hd1⟩ := dpAll_at ha0 hx
          have m1 := List.mem_of_getElem? ed1
          have hd1' := dp_same s1 _ _ hd1
          have no : wayOk d1 = false → ∀ H2, Same H1 H2 → Q (.bl false) H2 := fun h H2 s2 => by
            have z := fin H2 (s0.trans (s1.trans s2))
            rwa [waysD_no m1 h] at z
          refine ⟨_, rfl, _, _, _, _, _, rfl, .ty "tuple", ty_data hd1', kit_tup (no_dict hd1'), _, rfl, ?_⟩
          cases d1 with
          | tuple es1 =>
            cases hd1' with
            | @tup p1 ys _ hs1 ha1 =>
              have el1 := dpAll_len ha1
              have hz1 : fine (.tuple es1) = true := fineAll_mem hf m1
              refine iteF ⟨_, rfl, p1, ys, rfl, .inr hs1, rfl, _, rfl, ?_⟩
              rw [dec_int]
              by_cases e2 : ys.length = 2
              · rw [show (!((ys.length : Int) == 2)) = false from by simpa using (by omega : (ys.length : Int) = 2)]
                refine iteF ?_
                match ys, es1, ha1, e2, el1 with
                | [x1, x2], [dx, dy], .cons h1 (.cons h2 .nil), _, _ =>
                obtain ⟨_, hf1⟩ := fine_tup hz1
                refine ⟨_, rfl, p1, [x1, x2], 0, x1, rfl, rfl, hs1, at0, x1, dx, rfl, h1, fineAll_mem hf1 (by simp), fun H2 s2 => ⟨_, rfl, ?_⟩⟩
                cases n1 : nameD dx with
                | false => exact iteT (iteT (no (by rw [wayOk, n1, Bool.false_and]) H2 s2))
                | true =>
                  refine iteF ⟨_, rfl, p1, [x1, x2], 1, x2, rfl, rfl, same_tup s2 hs1, at1, x2, dy, rfl, dp_same s2 _ _ h2, fineAll_mem hf1 (by simp), fun H3 s3 => ⟨_, rfl, ?_⟩⟩
                  cases n2 : nameD dy with
                  | false => exact iteT (no (by rw [wayOk, n1, n2, Bool.true_and]) H3 (s2.trans s3))
                  | true =>
                    refine iteF ⟨_, rfl, s1.trans (s2.trans s3), fun d' hd' => ?_⟩
                    rw [List.take_add_one, ed1] at hd'
                    rcases List.mem_append.mp hd' with h | h
                    · exact ok d' h
                    · have : d' = .tuple [dx, dy] := by simpa using h
                      rw [this, wayOk, n1, n2]
                      rfl
              · rw [show (!((ys.length : Int) == 2)) = true from by simpa using (by omega : (ys.length : Int) ≠ 2)]
                refine iteT (no ?_ H1 (Same.refl H1))
                match es1, el1 with
                | [], _ => rfl
                | [_], _ => rfl
                | [_, _], el1 => exact absurd el1 e2
                | _ :: _ :: _ :: _, _ => rfl
          | _ => exact iteT (iteT (no rfl H1 (Same.refl H1)))
        · rintro σ1 H1 ⟨v1, rfl, s1, ok⟩
          rw [el, List.take_length] at ok
          have s01 := s0.trans s1
          have ha1 := dpAll_same s1 _ _ ha0
          have ea : ds.all wayOk = true := List.all_eq_true.mpr ok
          refine seq_run rfl (hs0.same s1) fun J hJ D un => lc_of_J (ds.map fun d => some (.str (headOf d))) hJ un (turns_data (fun d => .str (headOf d)) ha1 few' fun x d2 H2 Q2 _ hm hx _ q => ?_) mono_yes fun H2 s2 h2 => ?_
          · obtain ⟨y, z, rfl, _, _⟩ := wayOk_is (ok d2 hm)
            cases hx with
            | @tup p2 zs _ hs2 ha2 =>
              cases ha2 with
              | cons hy hr =>
                cases hy
                exact ⟨_, rfl, p2, _, 0, _, rfl, rfl, hs2, atI_nat (j := 0) rfl, _, rfl, q H2 (Same.refl H2)⟩
          · rw [outOf_data] at h2
            have e4 : ds.map (fun d => V.str (headOf d)) = ((ds.map headOf).map (Sum.inr : Str → Key)).map kV := by rw [List.map_map, List.map_map]; rfl
            rw [e4] at h2
            refine ⟨D, _, rfl, .inl (SqL.of h2), by rw [List.length_map, List.length_map]; omega, fun S uS => ⟨S, _, _, rfl, upd_same, _, rfl, p, xs, rfl, ((hs0.same s1).same s2).same (same_new uS), rfl, ?_⟩⟩
            rw [dec_int]
            have e3 : waysD ds = (((Sx.nub ((ds.map headOf).map (Sum.inr : Str → Key))).length : Int) == (xs.length : Int)) := by
              rw [waysD, ne, ea, Bool.eq_iff_iff]
              have e5 := Sx.nub_nodup_iff (l := (ds.map headOf).map (Sum.inr : Str → Key))
              rw [nodup_keys, List.length_map, List.length_map] at e5
              rw [show (!false && true && decide ((ds.map headOf).Nodup)) = decide ((ds.map headOf).Nodup) from rfl, decide_eq_true_iff, ← e5, beq_iff_eq, el]
              omega
            rw [e3] at fin
            exact fin _ (s01.trans (s2.trans (same_new uS)))
    · rw [es]
      have ew : waysOk d = false := by
        cases d with
        | list _ => cases es
        | tuple _ => cases es
        | _ => rfl
      have z := fin _ s0
      rw [ew] at z
      exact iteT (iteT z)
end
end K3

set_option Elab.async false
set_option linter.all false
set_option maxRecDepth 100000
set_option maxHeartbeats 4000000
namespace Lw
open PySem PySem.Spec PyProof.Rows L2
/-- zip of a list and one that is at least as long -/
theorem for_zipLe {K : PySem.W.Frag} {a b : Addr} {xs ys : List V} {g : TG} {tb : TS} {D : Ends} {σ : L2.St} {H : Hp} (hl : xs.length ≤ ys.length) (Pv : Nat → L2.St → Hp → Prop) (h0 : Pv 0 σ H) (hq : ∀ i σ H, Pv i σ H → SqL K H a xs ∧ SqL K H b ys)
    (hs : ∀ (i : Nat) (x y : V) (T : Addr) (σ : L2.St) (H : Hp), xs[i]? = some x → ys[i]? = some y → Pv i σ H → H T = none → g (.ref T) σ (upd H T (.tup [x, y])) fun σ2 H2 => tb { D with nx := Pv (i + 1), ct := Pv (i + 1), bk := D.nx } σ2 H2) (hd : ∀ σ H, Pv xs.length σ H → D.nx σ H) :
    ∃ W : Nat → Nat → L2.St → Hp → Prop, (∃ m, W 0 m σ H) ∧ ∀ i m σ H, W i m σ H →
      ((Itz K a b).stop i H ∧ D.nx σ H) ∨ ((Itz K a b).go i H ∧ ∃ N : L2.St → Hp → Prop, (∀ σ' H', N σ' H' → ∃ m', m' < m ∧ W (i + 1) m' σ' H') ∧ ∀ v H', (Itz K a b).yld i H v H' → g v σ H' fun σ2 H2 => tb { D with nx := N, ct := N, bk := D.nx } σ2 H2) := by
  refine ⟨fun i m σ H => m = xs.length - i ∧ i ≤ xs.length ∧ Pv i σ H, ⟨xs.length, rfl, Nat.zero_le _, h0⟩, ?_⟩
  rintro i m σ H ⟨rfl, hi, p⟩
  obtain ⟨qx, qy⟩ := hq i σ H p
  by_cases hlt : i < xs.length
  · have hx : xs[i]? = some xs[i] := List.getElem?_eq_getElem hlt
    have hlt2 : i < ys.length := by omega
    have hy : ys[i]? = some ys[i] := List.getElem?_eq_getElem hlt2
    refine .inr ⟨⟨xs, ys, _, _, qx, qy, hx, hy⟩, Pv (i + 1), fun σ' H' p' => ⟨xs.length - (i + 1), by omega, rfl, hlt, p'⟩, fun v H' y => ?_⟩
    obtain ⟨T, x', y', rfl, hT, rfl, f1, f2⟩ := y
    exact hs i x' y' T σ H (f1 xs qx) (f2 ys qy) p hT
  · have e : i = xs.length := by omega
    subst e
    exact .inl ⟨⟨xs, ys, qx, qy, Or.inl (Nat.le_refl _)⟩, hd σ H p⟩
end Lw
namespace K3
open PySem L2 Lw
def Kind (k : Str) (n : Nat) : Prop := (k = "ask" ∧ n = 3) ∨ (k = "note" ∧ n = 3) ∨ (k = "mark" ∧ n = 4) ∨ (k = "end" ∧ n = 1)
def dueOf (k : Str) (ds : List PyData) : Str := if k = "ask" then dueAsk ds else if k = "note" then dueNote ds else if k = "mark" then dueGate ds else dueEnd ds
def titles (k : Str) : List Str := if k = "ask" then ["place", "name"] else if k = "note" then ["place", "word", "then"] else if k = "mark" then ["place", "mark", "newer", "elder"] else ["place"]
theorem firstD_none : ∀ {l : List (Str × PyData)}, (∀ p ∈ l, nameD p.2 = true) → firstD l = Str.empty
  | [], _ => rfl
  | (w, d) :: r, h => by
    have h1 : nameD d = true := h (w, d) (by simp)
    rw [firstD, if_pos h1]
    exact firstD_none fun p hp => h p (List.mem_cons_of_mem _ hp)
theorem firstD_at : ∀ {l : List (Str × PyData)} {i : Nat} {w : Str} {d : PyData}, (∀ p ∈ l.take i, nameD p.2 = true) → l[i]? = some (w, d) → nameD d = false → firstD l = w
  | [], i, w, d, _, h, _ => by simp at h
  | (w', d') :: r, 0, w, d, _, h, n => by
    have e : (w', d') = (w, d) := by simpa using h
    cases e
    rw [firstD, if_neg (by rw [n]; decide)]
  | (w', d') :: r, i + 1, w, d, ok, h, n => by
    have h1 : nameD d' = true := ok (w', d') (by simp)
    rw [firstD, if_pos h1]
    exact firstD_at (i := i) (fun p hp => ok p (by rw [List.take_succ_cons]; exact List.mem_cons_of_mem _ hp)) (by simpa using h) n
theorem dueOf_is {k : Str} {ds : List PyData} (h : Kind k ds.length) : dueOf k ds = (if firstD ((titles k).zip ds) = Str.empty then (if k = "ask" then (if (ds[2]?.map waysOk) = some true then Str.empty else "ways") else Str.empty) else firstD ((titles k).zip ds)) := by
  rcases h with ⟨rfl, h⟩ | ⟨rfl, h⟩ | ⟨rfl, h⟩ | ⟨rfl, h⟩
  · match ds, h with
    | [x, y, z], _ =>
      show dueAsk [x, y, z] = if firstD [("place", x), ("name", y)] = Str.empty then (if some (waysOk z) = some true then Str.empty else "ways") else firstD [("place", x), ("name", y)]
      rw [dueAsk]
      cases waysOk z <;> rfl
  · match ds, h with
    | [x, y, z], _ =>
      show firstD [("place", x), ("word", y), ("then", z)] = if firstD [("place", x), ("word", y), ("then", z)] = Str.empty then Str.empty else firstD [("place", x), ("word", y), ("then", z)]
      split
      · assumption
      · rfl
  · match ds, h with
    | [x, y, z, u], _ =>
      show firstD [("place", x), ("mark", y), ("newer", z), ("elder", u)] = if firstD [("place", x), ("mark", y), ("newer", z), ("elder", u)] = Str.empty then Str.empty else firstD [("place", x), ("mark", y), ("newer", z), ("elder", u)]
      split
      · assumption
      · rfl
  · match ds, h with
    | [x], _ =>
      show firstD [("place", x)] = if firstD [("place", x)] = Str.empty then Str.empty else firstD [("place", x)]
      split
      · assumption
      · rfl
def spDue (K : PySem.W.Frag) : Sp := fun vs H Q _ => ∃ (k : Str) (l : Addr) (xs : List V) (ds : List PyData), vs = [.str k, .ref l] ∧ SqL K H l xs ∧ DpAll K H xs ds ∧ fineAll ds = true ∧ Kind k ds.length ∧ ∀ H', Same H H' → Q (.str (dueOf k ds)) H'
section
variable {P : Program} {w : World} {K : PySem.W.Frag} {mg : Str → Option Value} {base : Heap} {a : Ad}
abbrev nDue : List Str := ["_law_kind", "_law_parts", "_law_titles", "_law_title", "_law_part"]
theorem scDue : FnScope nDue ["_law_kind", "_law_parts"] (defScope sDue) := ⟨rfl, rfl, rfl, by decide +kernel, rfl, by decide +kernel, by decide +kernel⟩
theorem Txt.okDue (T : Txt K mg a) : FnOk P w K mg base CX0 3 a.fDue a.dDue ["_law_kind", "_law_parts"] (spDue K) := by
  refine T.due.F.ok scDue (fun vs H Q E h => ?_) (fun cdv A outer s H vs Q E hr h => ?_)
  · obtain ⟨k, l, _, _, rfl, _⟩ := h
    rfl
  · obtain ⟨k, l, xs, ds, rfl, hl, ha, hf, hk, fin⟩ := h
    have hr1 : Room 1 _ := hr.mono (by decide)
    have hu := hu_of hr
    refine ⟨_, pss_cons (ps_set (i := 2) scDue.nd rfl (Or.inl rfl) (pe_disp (pps_cons pe_str (pe_lst (pa_cons pe_str (pa_cons pe_str pa_nil))) (pps_cons pe_str (pe_lst (pa_cons pe_str (pa_cons pe_str (pa_cons pe_str pa_nil)))) (pps_cons pe_str (pe_lst (pa_cons pe_str pa_nil)) pps_nil))) (by rfl) (by rfl) (fun z => by cases z) (by decide)))
      (pss_cons (ps_dput hu (pv 2) pe_str (pe_lst (pa_cons pe_str (pa_cons pe_str (pa_cons pe_str (pa_cons pe_str pa_nil))))) rfl)
      (pss_cons (ps_for PassesOwn.never rfl (pi_zip (by rfl) T.tZip (pa_cons (pe_dget hu (pv 2) (pv 0) (fun _ _ => rfl)) (pa_cons (pv 1) pa_nil))) (pg_tup rfl (pgs_cons (pg_name (i := 3) scDue.nd rfl (.inl rfl)) (pgs_cons (pg_name (i := 4) scDue.nd rfl (.inl rfl)) pgs_nil)))
        (pss_one (ps_if (pt_not (pt_val (pe_call T.okTitle hr1 rfl T.title.g T.title.F.kp T.title.b .nil pass0 (pa_cons (pv 4) pa_nil)))) (pss_one (ps_ret (pv 3))) pss_nil)))
      (pss_one (ps_ret (pe_ifExp (PW.pt (pw_or (pt_cmpR op_ne (pv 0) pe_str (nomark _)) (pw_or1 (pt_val (pe_call T.okPairs hr rfl T.pairs.g T.pairs.F.kp T.pairs.b .nil pass0 (pa_cons (pe_ix ix_list (pv 1) pe_int (fun _ _ => rfl)) pa_nil)))))) pe_str pe_str))))), ?_⟩
    refine fun d ud => ?_
    refine ⟨(by show 2 ≤ sizeLine; decide), fun l1 u1 => ⟨(by show 3 ≤ sizeLine; decide), fun l2 u2 => ⟨(by show 1 ≤ sizeLine; decide), fun l3 u3 => ?_⟩⟩⟩
    have D0 : (upd H d (.dK [])) d = some (.dK []) := upd_same
    have s0 : Same H (upd H d (.dK [])) := same_new ud
    generalize upd H d (.dK []) = G0 at *
    have s1 := same_new (o := .lst [.str "place", .str "name"]) u1
    have L1 : (upd G0 l1 (.lst [.str "place", .str "name"])) l1 = some (.lst [.str "place", .str "name"]) := upd_same
    generalize upd G0 l1 (.lst [.str "place", .str "name"]) = G1 at *
    have s2 := same_new (o := .lst [.str "place", .str "word", .str "then"]) u2
    have L2 : (upd G1 l2 (.lst [.str "place", .str "word", .str "then"])) l2 = some (.lst [.str "place", .str "word", .str "then"]) := upd_same
    generalize upd G1 l2 (.lst [.str "place", .str "word", .str "then"]) = G2 at *
    have s3 := same_new (o := .lst [.str "place"]) u3
    have L3 : (upd G2 l3 (.lst [.str "place"])) l3 = some (.lst [.str "place"]) := upd_same
    generalize upd G2 l3 (.lst [.str "place"]) = G3 at *
    have D3 : G3 d = some (.dK []) := s3 _ _ (s2 _ _ (s1 _ _ D0))
    have L13 : G3 l1 = _ := s3 _ _ (s2 _ _ L1)
    have L23 : G3 l2 = _ := s3 _ _ L2
    have n1 : l1 ≠ d := fun z => by rw [z, D3] at L13; cases L13
    have n2 : l2 ≠ d := fun z => by rw [z, D3] at L23; cases L23
    have n3 : l3 ≠ d := fun z => by rw [z, D3] at L3; cases L3
    refine ⟨D3, [(Sum.inr "ask", .ref l1), (Sum.inr "note", .ref l2), (Sum.inr "end", .ref l3)], rfl, (by show 3 ≤ 15; decide), ?_⟩
    refine ⟨(by show 4 ≤ sizeLine; decide), fun l4 u4 => ?_⟩
    have n4 : l4 ≠ d := fun z => by rw [z, upd_same] at u4; cases u4
    have u4' : G3 l4 = none := by rwa [upd_ne n4] at u4
    refine ⟨_, rfl, d, _, rfl, DPut.k (k := Sum.inr "mark") (by rw [upd_ne n4.symm]; exact upd_same) (by show 3 < sizeLine; decide), ?_⟩
    generalize eF : upd (upd (upd G3 d (.dK (mergeK [] [(Sum.inr "ask", .ref l1), (Sum.inr "note", .ref l2), (Sum.inr "end", .ref l3)]))) l4 (.lst [.str "place", .str "mark", .str "newer", .str "elder"])) d
      (.dK (putK (mergeK [] [(Sum.inr "ask", .ref l1), (Sum.inr "note", .ref l2), (Sum.inr "end", .ref l3)]) (Sum.inr "mark") (.ref l4))) = F at *
    have away : ∀ {b : Addr} {o : HO}, G3 b = some o → b ≠ d → F b = some o := fun {b o} e ne => by
      have : b ≠ l4 := ne_of_none e u4'
      rw [← eF, upd_ne ne, upd_ne this, upd_ne ne]
      exact e
    have S : Same H F := fun b o e => away (s3 _ _ (s2 _ _ (s1 _ _ (s0 _ _ e)))) (ne_of_none e ud)
    have DF : F d = some (.dK [(Sum.inr "ask", .ref l1), (Sum.inr "note", .ref l2), (Sum.inr "end", .ref l3), (Sum.inr "mark", .ref l4)]) := by rw [← eF, upd_same]; rfl
    have LF : ∃ lt, valV [((Sum.inr "ask" : Key), V.ref l1), (Sum.inr "note", .ref l2), (Sum.inr "end", .ref l3), (Sum.inr "mark", .ref l4)] (Sum.inr k) = some (.ref lt) ∧ SqL K F lt ((titles k).map V.str) := by
      rcases hk with ⟨rfl, _⟩ | ⟨rfl, _⟩ | ⟨rfl, _⟩ | ⟨rfl, _⟩
      · exact ⟨l1, rfl, SqL.of (away L13 n1)⟩
      · exact ⟨l2, rfl, SqL.of (away L23 n2)⟩
      · refine ⟨l4, rfl, SqL.of ?_⟩
        rw [← eF, upd_ne n4, upd_same]
        rfl
      · exact ⟨l3, rfl, SqL.of (away L3 n3)⟩
    clear eF away
    obtain ⟨lt, ev, ht⟩ := LF
    have hlF := S.seq hl
    have haF := dpAll_same S _ _ ha
    have el := dpAll_len ha
    have few : (titles k).length ≤ ds.length := by
      rcases hk with ⟨rfl, h⟩ | ⟨rfl, h⟩ | ⟨rfl, h⟩ | ⟨rfl, h⟩ <;> rw [h] <;> decide
    rw [dueOf_is hk] at fin
    refine ⟨_, rfl, _, rfl, d, _, rfl, by have z := DGet.k (k := Sum.inr k) DF; rw [ev] at z; exact z, ?_⟩
    refine ⟨_, rfl, lt, l, _, xs, rfl, ht, hlF, ?_⟩
    refine for_zipLe (xs := (titles k).map V.str) (ys := xs) (by rw [List.length_map, el]; exact few) (fun i σ1 H1 => ∃ v3 v4, σ1 = [some (.str k), some (.ref l), some (.ref d), v3, v4] ∧ Same F H1 ∧ ∀ p ∈ ((titles k).zip ds).take i, nameD p.2 = true) ⟨_, _, rfl, Same.refl F, by simp⟩ (fun i σ1 H1 ⟨_, _, _, q, _⟩ => ⟨q.seq ht, q.seq hlF⟩) ?_ ?_
    · rintro i x y t σ1 H1 hx hy ⟨_, _, rfl, s4, ok⟩ nt
      have s5 : Same H1 (upd H1 t (.tup [x, y])) := same_new nt
      obtain ⟨dy, edy, hdy⟩ := dpAll_at haF hy
      rw [List.getElem?_map] at hx
      obtain ⟨tx, etx, rfl⟩ := Option.map_eq_some_iff.mp hx
      have ez : ((titles k).zip ds)[i]? = some (tx, dy) := by rw [List.getElem?_zip_eq_some]; exact ⟨etx, edy⟩
      refine ⟨t, _, rfl, SqT.of upd_same, rfl, _, _, rfl, _, _, rfl, rfl, ?_⟩
      refine ⟨_, rfl, y, dy, rfl, dp_same (s4.trans s5) _ _ hdy, fineAll_mem hf (List.mem_of_getElem? edy), fun H2 s6 => ⟨_, rfl, ?_⟩⟩
      cases e1 : nameD dy with
      | true =>
        refine iteF ⟨_, _, rfl, s4.trans (s5.trans s6), fun p hp => ?_⟩
        rw [List.take_add_one, ez] at hp
        rcases List.mem_append.mp hp with h | h
        · exact ok p h
        · have : p = (tx, dy) := by simpa using h
          rw [this]
          exact e1
      | false =>
        refine iteT ⟨_, rfl, ?_⟩
        have fd := firstD_at ok ez e1
        rw [fd, if_neg ?_] at fin
        · exact fin _ (S.trans (s4.trans (s5.trans s6)))
        · have m := List.mem_of_getElem? etx
          rintro rfl
          revert m
          rcases hk with ⟨rfl, _⟩ | ⟨rfl, _⟩ | ⟨rfl, _⟩ | ⟨rfl, _⟩ <;> decide
    · rintro σ1 H1 ⟨_, _, rfl, s4, ok⟩
      have ok' : ∀ p ∈ (titles k).zip ds, nameD p.2 = true := by
        rw [List.length_map, List.take_of_length_le (by rw [List.length_zip]; omega)] at ok
        exact ok
      rw [firstD_none ok', if_pos rfl] at fin
      have S4 := S.trans s4
      refine ⟨_, rfl, rfl, _, rfl, ?_⟩
      by_cases ek : k = "ask"
      · subst ek
        rw [if_pos rfl] at fin
        have h3 : ds.length = 3 := by
          rcases hk with ⟨_, h⟩ | ⟨h, _⟩ | ⟨h, _⟩ | ⟨h, _⟩
          · exact h
          · exact absurd h (by decide)
          · exact absurd h (by decide)
          · exact absurd h (by decide)
        obtain ⟨d1, d2, d3, rfl⟩ : ∃ d1 d2 d3, ds = [d1, d2, d3] := by
          match ds, h3 with
          | [d1, d2, d3], _ => exact ⟨d1, d2, d3, rfl⟩
        cases haF with
        | @cons x1 _ _ _ a1 b1 =>
        cases b1 with
        | @cons x2 _ _ _ a2 b2 =>
        cases b2 with
        | @cons x3 _ _ _ a3 b3 =>
        cases b3
        rw [show (!decide (V.str "ask" = V.str "ask")) = false from rfl]
        refine iteF ⟨_, rfl, l, _, 2, _, rfl, rfl, s4.seq hlF, atI_nat (j := 2) rfl, x3, d3, rfl, dp_same s4 _ _ a3, fineAll_mem hf (by simp), fun H2 s5 => ⟨_, rfl, ?_⟩⟩
        have z := fin _ (S4.trans s5)
        cases e3 : waysOk d3 with
        | true =>
          rw [show ([d1, d2, d3][2]?.map waysOk) = some true from congrArg some e3, if_pos rfl] at z
          exact iteT z
        | false =>
          rw [show ([d1, d2, d3][2]?.map waysOk) = some false from congrArg some e3, if_neg (by decide)] at z
          exact iteF z
      · rw [if_neg ek] at fin
        rw [show (!decide (V.str k = V.str "ask")) = true from by simpa using ek]
        exact iteT (iteT (fin _ S4))
end
end K3

set_option Elab.async false
set_option linter.all false
set_option maxRecDepth 100000
set_option maxHeartbeats 4000000
namespace K3
open PySem L2 Lw
abbrev ixP (K : PySem.W.Frag) (i : Int) : TE := tOp (rIxL K) (tVar 1) (tC (.int i))
def tMkd (K : PySem.W.Frag) (W : WX) (C Cir : Addr) (due : List PyData → Str) (n i : Nat) (f : Str) (ta : TA) : TE := tFld K (tMakeS C (spMk K C Cir due n i f) [] (WE W) ta) f
def tPut (t u : TE) : TS := tAsg (tIf (tTest (tOp rEq t u)) (tC (.str "")) (tC (.str "odd"))) (gName 2)
def tTry (K : PySem.W.Frag) (a : Ad) (W : WX) : TS :=
  tIfS (tTest (tOp rEq (tVar 0) (tC (.str "ask")))) (tPut (tMkd K W a.cAsk a.cIr dueAsk 3 1 "name" (tCons (ixP K 0) (tCons (ixP K 1) (tCons (ixP K 2) tNil)))) (ixP K 1))
  (tIfS (tTest (tOp rEq (tVar 0) (tC (.str "note")))) (tPut (tMkd K W a.cNote a.cIr dueNote 3 1 "word" (tCons (ixP K 0) (tCons (ixP K 1) (tCons (ixP K 2) tNil)))) (ixP K 1))
  (tIfS (tTest (tOp rEq (tVar 0) (tC (.str "mark")))) (tSeq (tAsg (tMakeS a.cGate (spMk K a.cGate a.cIr dueGate 4 3 "elder") [] (WE W) (tCons (ixP K 0) (tCons (ixP K 1) (tCons (ixP K 2) (tCons (ixP K 3) tNil))))) (gName 3)) (tPut (tFld K (tVar 3) "elder") (ixP K 3)))
  (tPut (tMkd K W a.cEnd a.cIr dueEnd 1 0 "place" (tCons (ixP K 0) tNil)) (ixP K 0))))
def tSuite (K : PySem.W.Frag) (a : Ad) : Addr → Value → Option Addr → TS := fun x cls d =>
  tAsg (tIf (tAnd (tB (tCB (rIsV K x cls d) (tCons (tVar 4) (tCons (tC (.ref a.cIr)) tNil)))) (tNot (tB (tCB (rIsV K x cls d) (tCons (tVar 4) (tCons (tC (.ref a.cIe)) tNil)))))) (tXf x cls d a.cIr "word" (tVar 4)) (tC (.str "other"))) (gName 2)
theorem firstD_all : ∀ {l : List (Str × PyData)}, firstD l = Str.empty → (∀ p ∈ l, p.1 ≠ Str.empty) → ∀ p ∈ l, nameD p.2 = true
  | [], _, _ => by simp
  | (w, d) :: r, h, ne => by
    cases e : nameD d with
    | true =>
      rw [firstD, if_pos e] at h
      have ih := firstD_all h fun p hp => ne p (List.mem_cons_of_mem _ hp)
      intro p hp
      rcases List.mem_cons.mp hp with rfl | hp
      · exact e
      · exact ih p hp
    | false =>
      rw [firstD, if_neg (by rw [e]; decide)] at h
      exact absurd h (ne (w, d) (by simp))
theorem scal_name {K : PySem.W.Frag} {H : Hp} {v : V} {d : PyData} (h : Dp K H v d) (n : nameD d = true) : scal v v = true := by
  obtain ⟨z, rfl, _⟩ := name_at h n
  rfl
theorem put_case {K : PySem.W.Frag} {D : Ends} {H : Hp} {l C Cir : Addr} {k f : Str} {v2 v3 v4 : Option V} {xs : List V} {ds : List PyData} {due : List PyData → Str} {n i : Nat} {ta : TA} {W : WX} {x0 : V} (cl : Cls K C) (no : NoAttr K C f) (hl : SqL K H l xs) (ha : DpAll K H xs ds)
    (hf : fineAll ds = true) (len : xs.length = n) (hta : ∀ Q, Q xs H → ta [some (.str k), some (.ref l), v2, v3, v4] H Q) (hx : xs[i]? = some x0) (str : due ds = Str.empty → scal x0 x0 = true)
    (bad : due ds ≠ Str.empty → ∀ (H' : Hp) (d : Addr), Same H H' → H' d = some (.xd [("word", .str (due ds))]) → W (.ref Cir) (some d) [some (.str k), some (.ref l), v2, v3, v4] H')
    (good : due ds = Str.empty → ∀ H', Same H H' → D.nx [some (.str k), some (.ref l), some (.str ""), v3, v4] H') : tPut (tMkd K W C Cir due n i f ta) (ixP K i) D [some (.str k), some (.ref l), v2, v3, v4] H := by
  refine hta _ fun x dx nx nd ne => ?_
  have s1 : Same H (upd H dx (.own x)) := same_new nd
  have nx' : (upd H dx (.own x)) x = none := by rw [upd_ne ne.symm]; exact nx
  have s2 : Same (upd H dx (.own x)) (upd (upd H dx (.own x)) x (.ins C dx [])) := same_new nx'
  have s12 := s1.trans s2
  refine ⟨x, dx, xs, ds, by rw [List.append_nil], len, dpAll_same s12 _ _ ha, hf, upd_same, fun e H' fs kp hi lk => ⟨rfl, ?_⟩, fun e H' d s3 nd3 hd => bad e H' d (s12.trans s3) hd⟩
  have S : Same H H' := Same.made nx nd kp
  refine ⟨x, C, dx, fs, x0, rfl, hi, cl, no, by rw [lk, hx], ?_⟩
  refine ⟨_, rfl, l, xs, _, x0, rfl, rfl, S.seq hl, atI_nat hx, str e, _, rfl, ?_⟩
  rw [decide_eq_true rfl]
  exact iteT (good e H' S)
section
variable {P : Program} {w : World} {K : PySem.W.Frag} {mg : Str → Option Value} {base : Heap} {a : Ad}
abbrev nHeard : List Str := ["_law_kind", "_law_parts", "_law_found", "_law_made", "e"]
theorem scHeard : FnScope nHeard ["_law_kind", "_law_parts"] (defScope sHeard) := ⟨rfl, rfl, rfl, by decide +kernel, rfl, by decide +kernel, by decide +kernel⟩
theorem Txt.okHeard (T : Txt K mg a) : FnOk P w K mg base CX0 6 a.fHeard a.dHeard ["_law_kind", "_law_parts"] (spDue K) := by
  refine T.heard.F.ok scHeard (fun vs H Q E h => ?_) (fun cdv A outer s H vs Q E hr h => ?_)
  · obtain ⟨k, l, _, _, rfl, _⟩ := h
    rfl
  · obtain ⟨k, l, xs, ds, rfl, hl, ha, hf, hk, fin⟩ := h
    refine ⟨_, pss_cons (ps_set (i := 2) scHeard.nd rfl (Or.inl rfl) pe_str)
      (pss_cons (ps_try_as (i := 4) (tb := tTry K a) (ts := tSuite K a) (Wout := fun _ _ _ _ => False) rfl rfl scHeard.nd rfl rfl ⟨rfl, by decide, Or.inl T.gLog⟩ takes0
        (fun W pn xe tk _ => pss_one (ps_if (pt_cmpR op_eq (pv 0) pe_str (nomark _)) (pss_one (ps_set (i := 2) scHeard.nd rfl (Or.inl rfl) (pe_ifExp (pt_cmpR op_eq (pe_fld (pe_makeS T.ask.mkd T.okAsk hr rfl T.ask.g T.ask.b .nil (fun σ => passAt tk σ) (pa_cons (pe_ix ix_list (pv 1) pe_int (fun _ _ => rfl)) (pa_cons (pe_ix ix_list (pv 1) pe_int (fun _ _ => rfl)) (pa_cons (pe_ix ix_list (pv 1) pe_int (fun _ _ => rfl)) pa_nil)))) rfl) (pe_ix ix_list (pv 1) pe_int (fun _ _ => rfl)) (nomark _)) pe_str pe_str)))
          (pss_one (ps_if (pt_cmpR op_eq (pv 0) pe_str (nomark _)) (pss_one (ps_set (i := 2) scHeard.nd rfl (Or.inl rfl) (pe_ifExp (pt_cmpR op_eq (pe_fld (pe_makeS T.note.mkd T.okNote hr rfl T.note.g T.note.b .nil (fun σ => passAt tk σ) (pa_cons (pe_ix ix_list (pv 1) pe_int (fun _ _ => rfl)) (pa_cons (pe_ix ix_list (pv 1) pe_int (fun _ _ => rfl)) (pa_cons (pe_ix ix_list (pv 1) pe_int (fun _ _ => rfl)) pa_nil)))) rfl) (pe_ix ix_list (pv 1) pe_int (fun _ _ => rfl)) (nomark _)) pe_str pe_str)))
          (pss_one (ps_if (pt_cmpR op_eq (pv 0) pe_str (nomark _)) (pss_cons (ps_set (i := 3) scHeard.nd rfl (Or.inl rfl) (pe_makeS T.gate.mkd T.okGate hr rfl T.gate.g T.gate.b .nil (fun σ => passAt tk σ) (pa_cons (pe_ix ix_list (pv 1) pe_int (fun _ _ => rfl)) (pa_cons (pe_ix ix_list (pv 1) pe_int (fun _ _ => rfl)) (pa_cons (pe_ix ix_list (pv 1) pe_int (fun _ _ => rfl)) (pa_cons (pe_ix ix_list (pv 1) pe_int (fun _ _ => rfl)) pa_nil))))))
              (pss_one (ps_set (i := 2) scHeard.nd rfl (Or.inl rfl) (pe_ifExp (pt_cmpR op_eq (pe_fld (pv 3) rfl) (pe_ix ix_list (pv 1) pe_int (fun _ _ => rfl)) (nomark _)) pe_str pe_str))))
            (pss_one (ps_set (i := 2) scHeard.nd rfl (Or.inl rfl) (pe_ifExp (pt_cmpR op_eq (pe_fld (pe_makeS T.end_.mkd T.okEnd hr rfl T.end_.g T.end_.b .nil (fun σ => passAt tk σ) (pa_cons (pe_ix ix_list (pv 1) pe_int (fun _ _ => rfl)) pa_nil)) rfl) (pe_ix ix_list (pv 1) pe_int (fun _ _ => rfl)) (nomark _)) pe_str pe_str)))))))))
        (fun x oe cls d pn hz hf => pss_one (ps_set (i := 2) scHeard.nd rfl (Or.inl rfl) (pe_ifExp (PW.pt (pw_and (pt_val (pe_callB (call_isV hz hf) (by rfl) T.tIs PyProof.Rows.boot_isinstance (pa_cons (pv 4) (pa_cons (pe_glob (v := .ref a.cIr) (by rfl) T.gIr rfl) pa_nil))))
          (pw_and1 (pt_not (pt_val (pe_callB (call_isV hz hf) (by rfl) T.tIs PyProof.Rows.boot_isinstance (pa_cons (pv 4) (pa_cons (pe_glob (v := .ref a.cIe) (by rfl) T.gIe rfl) pa_nil)))))))) (pe_xf T.irX T.irW hz hf (pv 4)) pe_str))))
      (pss_one (ps_ret (pv 2)))), ?_⟩
    refine seq_cut (fun σ1 H1 => σ1 = [some (.str k), some (.ref l), some (.str "odd"), none, none] ∧ H1 = H) ?_ fun after0 => after0 _ _ ⟨rfl, rfl⟩
    rintro _ H0 ⟨rfl, e0⟩
    rw [e0]
    clear e0 H0
    refine seq_cut (fun σ1 H1 => ∃ v3 v4, σ1 = [some (.str k), some (.ref l), some (.str (dueOf k ds)), v3, v4] ∧ Same H H1) ?after fun after => ?go
    case after =>
      rintro _ H1 ⟨v3, v4, rfl, s1⟩
      exact ⟨_, rfl, fin _ s1⟩
    case go =>
      have caught : ∀ (v2 v3 v4 : Option V) (H' : Hp) (d : Addr), Same H H' → H' d = some (.xd [("word", .str (dueOf k ds))]) →
          wAs K (.ref a.cLog) 4 (tSuite K a) (fun _ _ _ _ => False) { nx := tRet (tVar 2) { nx := fun _ H' => Q .non H', rt := Q }, rt := Q } (.ref a.cIr) (some d) [some (.str k), some (.ref l), v2, v3, v4] H' := fun v2 v3 v4 H' d s1 hd => by
        refine ⟨true, T.irE, fun _ x hx => ?_, fun q => nomatch q⟩
        refine ⟨_, rfl, a.cIr, d, _, .ref a.cIr, .ref a.cIr, true, rfl, rfl, hd, T.irC, rfl, fun u r => r, if_pos (beq_self_eq_true _), _, rfl, ?_⟩
        refine iteT ⟨_, rfl, a.cIr, d, _, .ref a.cIe, .ref a.cIe, false, rfl, rfl, hd, T.irC, rfl, fun u r => r, T.ieK, _, rfl, ?_⟩
        refine iteT ⟨_, rfl, rfl, rfl, d, _, .str (dueOf k ds), rfl, hd, rfl, ?_⟩
        exact after _ _ ⟨v3, none, rfl, s1⟩
      rcases hk with ⟨rfl, h3⟩ | ⟨rfl, h3⟩ | ⟨rfl, h3⟩ | ⟨rfl, h3⟩
      · obtain ⟨d1, d2, d3, rfl⟩ : ∃ d1 d2 d3, ds = [d1, d2, d3] := by
          match ds, h3 with
          | [d1, d2, d3], _ => exact ⟨d1, d2, d3, rfl⟩
        cases ha with
        | @cons x1 _ _ _ a1 b1 =>
        cases b1 with
        | @cons x2 _ _ _ a2 b2 =>
        cases b2 with
        | @cons x3 _ _ _ a3 b3 =>
        cases b3
        have ed : dueOf "ask" [d1, d2, d3] = dueAsk [d1, d2, d3] := rfl
        have nm : dueAsk [d1, d2, d3] = Str.empty → nameD d2 = true := fun e => by
          by_cases e2 : firstD [("place", d1), ("name", d2)] = Str.empty
          · exact firstD_all e2 (fun p hp => by simp only [List.mem_cons, List.not_mem_nil, or_false] at hp; rcases hp with rfl | rfl | rfl | rfl <;> (dsimp only; decide)) ("name", d2) (by simp)
          · rw [dueAsk, if_neg e2] at e; exact absurd e e2
        refine ⟨_, rfl, rfl, _, rfl, ?_⟩
        rw [show decide (V.str "ask" = V.str "ask") = true from rfl]
        refine iteT ?_
        exact put_case (x0 := x2) T.ask.cl (T.no _ (by simp) _ (by simp)) hl (.cons a1 (.cons a2 (.cons a3 .nil))) hf rfl (fun Q q => ⟨_, rfl, l, _, 0, x1, rfl, rfl, hl, atI_nat (j := 0) rfl, _, rfl, l, _, 1, x2, rfl, rfl, hl, atI_nat (j := 1) rfl, _, rfl, l, _, 2, x3, rfl, rfl, hl, atI_nat (j := 2) rfl, q⟩) rfl (fun e => scal_name a2 (nm e)) (fun _ H' d s1 hd => caught _ _ _ H' d s1 (by rw [ed]; exact hd)) (fun e H' s1 => after _ _ ⟨_, _, by rw [ed, e]; rfl, s1⟩)
      · obtain ⟨d1, d2, d3, rfl⟩ : ∃ d1 d2 d3, ds = [d1, d2, d3] := by
          match ds, h3 with
          | [d1, d2, d3], _ => exact ⟨d1, d2, d3, rfl⟩
        cases ha with
        | @cons x1 _ _ _ a1 b1 =>
        cases b1 with
        | @cons x2 _ _ _ a2 b2 =>
        cases b2 with
        | @cons x3 _ _ _ a3 b3 =>
        cases b3
        have ed : dueOf "note" [d1, d2, d3] = dueNote [d1, d2, d3] := rfl
        have nm : dueNote [d1, d2, d3] = Str.empty → nameD d2 = true := fun e => by
          exact firstD_all (l := [("place", d1), ("word", d2), ("then", d3)]) e (fun p hp => by simp only [List.mem_cons, List.not_mem_nil, or_false] at hp; rcases hp with rfl | rfl | rfl | rfl <;> (dsimp only; decide)) ("word", d2) (by simp)
        refine ⟨_, rfl, rfl, _, rfl, ?_⟩
        rw [show decide (V.str "note" = V.str "ask") = false from rfl]
        refine iteF ?_
        refine ⟨_, rfl, rfl, _, rfl, ?_⟩
        rw [show decide (V.str "note" = V.str "note") = true from rfl]
        refine iteT ?_
        exact put_case (x0 := x2) T.note.cl (T.no _ (by simp) _ (by simp)) hl (.cons a1 (.cons a2 (.cons a3 .nil))) hf rfl (fun Q q => ⟨_, rfl, l, _, 0, x1, rfl, rfl, hl, atI_nat (j := 0) rfl, _, rfl, l, _, 1, x2, rfl, rfl, hl, atI_nat (j := 1) rfl, _, rfl, l, _, 2, x3, rfl, rfl, hl, atI_nat (j := 2) rfl, q⟩) rfl (fun e => scal_name a2 (nm e)) (fun _ H' d s1 hd => caught _ _ _ H' d s1 (by rw [ed]; exact hd)) (fun e H' s1 => after _ _ ⟨_, _, by rw [ed, e]; rfl, s1⟩)
      · obtain ⟨d1, d2, d3, d4, rfl⟩ : ∃ d1 d2 d3 d4, ds = [d1, d2, d3, d4] := by
          match ds, h3 with
          | [d1, d2, d3, d4], _ => exact ⟨d1, d2, d3, d4, rfl⟩
        cases ha with
        | @cons x1 _ _ _ a1 b1 =>
        cases b1 with
        | @cons x2 _ _ _ a2 b2 =>
        cases b2 with
        | @cons x3 _ _ _ a3 b3 =>
        cases b3 with
        | @cons x4 _ _ _ a4 b4 =>
        cases b4
        have ed : dueOf "mark" [d1, d2, d3, d4] = dueGate [d1, d2, d3, d4] := rfl
        have nm : dueGate [d1, d2, d3, d4] = Str.empty → nameD d4 = true := fun e => by
          exact firstD_all (l := [("place", d1), ("mark", d2), ("newer", d3), ("elder", d4)]) e (fun p hp => by simp only [List.mem_cons, List.not_mem_nil, or_false] at hp; rcases hp with rfl | rfl | rfl | rfl <;> (dsimp only; decide)) ("elder", d4) (by simp)
        refine ⟨_, rfl, rfl, _, rfl, ?_⟩
        rw [show decide (V.str "mark" = V.str "ask") = false from rfl]
        refine iteF ?_
        refine ⟨_, rfl, rfl, _, rfl, ?_⟩
        rw [show decide (V.str "mark" = V.str "note") = false from rfl]
        refine iteF ?_
        refine ⟨_, rfl, rfl, _, rfl, ?_⟩
        rw [show decide (V.str "mark" = V.str "mark") = true from rfl]
        refine iteT ?_
        refine ⟨_, rfl, l, _, 0, x1, rfl, rfl, hl, atI_nat (j := 0) rfl, _, rfl, l, _, 1, x2, rfl, rfl, hl, atI_nat (j := 1) rfl, _, rfl, l, _, 2, x3, rfl, rfl, hl, atI_nat (j := 2) rfl, _, rfl, l, _, 3, x4, rfl, rfl, hl, atI_nat (j := 3) rfl, fun x dx nx nd ne => ?_⟩
        have s1 : Same H (upd H dx (.own x)) := same_new nd
        have nx' : (upd H dx (.own x)) x = none := by rw [upd_ne ne.symm]; exact nx
        have s2 : Same (upd H dx (.own x)) (upd (upd H dx (.own x)) x (.ins a.cGate dx [])) := same_new nx'
        have s12 := s1.trans s2
        refine ⟨x, dx, [x1, x2, x3, x4], [d1, d2, d3, d4], rfl, rfl, dpAll_same s12 _ _ (.cons a1 (.cons a2 (.cons a3 (.cons a4 .nil)))), hf, upd_same, fun e H' fs kp hi lk => ⟨rfl, ?_⟩, fun e H' d s3 nd3 hd => caught _ _ _ H' d (s12.trans s3) (by rw [ed]; exact hd)⟩
        have S : Same H H' := Same.made nx nd kp
        refine ⟨_, rfl, x, a.cGate, dx, fs, x4, rfl, hi, T.gate.cl, T.no _ (by simp) _ (by simp), by rw [lk]; rfl, ?_⟩
        refine ⟨_, rfl, l, _, 3, x4, rfl, rfl, S.seq hl, atI_nat (j := 3) rfl, scal_name a4 (nm e), _, rfl, ?_⟩
        rw [decide_eq_true rfl]
        exact iteT (after _ _ ⟨_, _, by rw [ed, e]; rfl, S⟩)
      · obtain ⟨d1, rfl⟩ : ∃ d1, ds = [d1] := by
          match ds, h3 with
          | [d1], _ => exact ⟨d1, rfl⟩
        cases ha with
        | @cons x1 _ _ _ a1 b1 =>
        cases b1
        have ed : dueOf "end" [d1] = dueEnd [d1] := rfl
        have nm : dueEnd [d1] = Str.empty → nameD d1 = true := fun e => by
          exact firstD_all (l := [("place", d1)]) e (fun p hp => by simp only [List.mem_cons, List.not_mem_nil, or_false] at hp; rcases hp with rfl | rfl | rfl | rfl <;> (dsimp only; decide)) ("place", d1) (by simp)
        refine ⟨_, rfl, rfl, _, rfl, ?_⟩
        rw [show decide (V.str "end" = V.str "ask") = false from rfl]
        refine iteF ?_
        refine ⟨_, rfl, rfl, _, rfl, ?_⟩
        rw [show decide (V.str "end" = V.str "note") = false from rfl]
        refine iteF ?_
        refine ⟨_, rfl, rfl, _, rfl, ?_⟩
        rw [show decide (V.str "end" = V.str "mark") = false from rfl]
        refine iteF ?_
        exact put_case (x0 := x1) T.end_.cl (T.no _ (by simp) _ (by simp)) hl (.cons a1 .nil) hf rfl (fun Q q => ⟨_, rfl, l, _, 0, x1, rfl, rfl, hl, atI_nat (j := 0) rfl, q⟩) rfl (fun e => scal_name a1 (nm e)) (fun _ H' d s1 hd => caught _ _ _ H' d s1 (by rw [ed]; exact hd)) (fun e H' s1 => after _ _ ⟨_, _, by rw [ed, e]; rfl, s1⟩)
end
end K3

set_option Elab.async false
set_option linter.all false
set_option maxRecDepth 100000
set_option maxHeartbeats 4000000
namespace Lw
open PySem L2
theorem if_cut {c : TT} {t u : TS} {D : Ends} {σ : St} {H : Hp} (Post : Bool → Hp → Prop) (yes : ∀ H1, Post true H1 → t D σ H1) (no : ∀ H1, Post false H1 → u D σ H1) (go : (∀ b H1, Post b H1 → if b = true then t D σ H1 else u D σ H1) → tIfS c t u D σ H) : tIfS c t u D σ H :=
  go fun b H1 p => by
    cases b with
    | true => exact iteT (yes H1 p)
    | false => exact iteF (no H1 p)
end Lw
namespace Lw
open PySem L2
theorem dpAll_append {K : PySem.W.Frag} {H : Hp} : ∀ {xs ys : List V} {ds es : List PyData}, DpAll K H xs ds → DpAll K H ys es → DpAll K H (xs ++ ys) (ds ++ es)
  | _, _, _, _, .nil, h => h
  | _, _, _, _, .cons a r, h => .cons a (dpAll_append r h)
theorem fineAll_append : ∀ ds es : List PyData, fineAll (ds ++ es) = (fineAll ds && fineAll es)
  | [], es => by rw [fineAll, Bool.true_and, List.nil_append]
  | d :: ds, es => by rw [List.cons_append, fineAll, fineAll, fineAll_append ds es, Bool.and_assoc]
end Lw
namespace K3
open PySem L2 Lw
/-! ### a thing -/
def spThing (K : PySem.W.Frag) (n : Nat) : Sp := fun vs H Q _ => ∃ (G : Hp) (d l : Addr) (m : Int), vs = [.ref d, .int m] ∧ 0 ≤ m ∧ m < n ∧ Deal G H d l ∧ Hands K G d l Q
def someD : List PyData := [.none, .bool true, .bool false, .int 0, .int 1, .int (0 - 1), .int (10 ^ 20), .str "", .str "a", .str "ask", .str "abcde", .str "A", .str "a b", .str "a1", .tuple [], .list [], .tuple [.str "a", .str "b"]]
theorem some_fine : fineAll someD = true := by decide +kernel
section
variable {P : Program} {w : World} {K : PySem.W.Frag} {mg : Str → Option Value} {base : Heap} {a : Ad}
abbrev nThing : List Str := ["_law_deal_here", "_law_deep", "_law_some", "_law_inner", "_law_turn"]
theorem scThing : FnScope nThing ["_law_deal_here", "_law_deep"] (defScope sThing) := ⟨rfl, rfl, rfl, by decide +kernel, rfl, by decide +kernel, by decide +kernel⟩
theorem Txt.okDraw (T : Txt K mg a) : FnOk P w K mg base CX0 1 a.fDraw a.dDraw ["_law_deal_here", "_law_many"] spDraw := ok_draw T.draw.F T.tInt
theorem Txt.okPick (T : Txt K mg a) : FnOk P w K mg base CX0 2 a.fPick a.dPick ["_law_deal_here", "_law_some"] (spPick K) := ok_pick T.pick.F T.draw.F T.draw.g T.draw.b T.tInt T.tLen
theorem step_thing (T : Txt K mg a) (n : Nat) (IH : FnOk P w K mg base CX0 (2 + n) a.fThing a.dThing ["_law_deal_here", "_law_deep"] (spThing K n)) :
    FnOk P w K mg base CX0 (2 + n + 1) a.fThing a.dThing ["_law_deal_here", "_law_deep"] (spThing K (n + 1)) := by
  refine T.thing.F.ok scThing (fun vs H Q E h => ?_) (fun cdv A outer s H vs Q E hr h => ?_)
  · obtain ⟨G, d, l, m, rfl, _⟩ := h
    rfl
  · obtain ⟨G, d, l, m, rfl, m0, m1, D, fin⟩ := h
    have hr1 : Room 1 _ := hr.mono (by omega)
    have hr2 : Room 2 _ := hr.mono (by omega)
    refine ⟨_, pss_cons (ps_set (i := 2) scThing.nd rfl (Or.inl rfl) (pe_lst (pa_cons pe_non (pa_cons pe_bl (pa_cons pe_bl (pa_cons pe_int (pa_cons pe_int (pa_cons (pe_op op_sub pe_int pe_int) (pa_cons (pe_op op_pow pe_int pe_int)
        (pa_cons pe_str (pa_cons pe_str (pa_cons pe_str (pa_cons pe_str (pa_cons pe_str (pa_cons pe_str (pa_cons pe_str (pa_cons (pe_tup pa_nil) (pa_cons (pe_lst pa_nil) (pa_cons (pe_tup (pa_cons pe_str (pa_cons pe_str pa_nil))) pa_nil)))))))))))))))))))
      (pss_cons (ps_if (PW.pt (pw_or (pt_cmpR op_eq (pv 1) pe_int (nomark _)) (pw_or1 (pt_cmpR op_eq (pe_call T.okDraw hr1 rfl T.draw.g T.draw.F.kp T.draw.b .nil pass0 (pa_cons (pv 0) (pa_cons pe_int pa_nil))) pe_int (nomark _)))))
        (pss_one (ps_ret (pe_call T.okPick hr2 rfl T.pick.g T.pick.F.kp T.pick.b .nil pass0 (pa_cons (pv 0) (pa_cons (pv 2) pa_nil))))) pss_nil)
      (pss_cons (ps_setLc (i := 3) (own := [("_law_turn", 4)]) (g := gName 4) (tt := tYes) (te := tCall (spThing K n) [] E0 (tCons (tVar 0) (tCons (tOp (rI0 fun i j => .int (i - j)) (tVar 1) (tC (.int 1))) tNil))) (by rfl) scThing.nd rfl rfl (sw_true rfl rfl rfl (by decide +kernel)) (pi_range1 rfl T.tRange (pa_cons (pe_call T.okDraw hr1 rfl T.draw.g T.draw.F.kp T.draw.b .nil pass0 (pa_cons (pv 0) (pa_cons pe_int pa_nil))) pa_nil))
          (blkOk_by (own := [("_law_turn", 4)]) (N := nThing) (sc := defScope sThing) (by decide +kernel)) (fun _ _ _ _ _ => pg_name (i := 4) scThing.nd rfl (Or.inl rfl)) (fun _ _ _ _ _ => pts_nil)
          (fun _ _ _ _ _ => pe_call IH hr rfl T.thing.g T.thing.F.kp T.thing.b .nil pass0 (pa_cons (pv 0) (pa_cons (pe_op op_sub (pv 1) pe_int) pa_nil))))
      (pss_one (ps_ret (pe_ifExp (pt_cmpR op_eq (pe_call T.okDraw hr1 rfl T.draw.g T.draw.F.kp T.draw.b .nil pass0 (pa_cons (pv 0) (pa_cons pe_int pa_nil))) pe_int (nomark _)) (pv 3) (pe_callTy call_tuple_of (by rfl) T.tTuple PyProof.Rows.boot_tuple (pa_cons (pv 3) pa_nil))))))), ?_⟩
    refine ⟨_, _, rfl, rfl, _, _, rfl, rfl, ⟨by decide, by decide, by decide⟩, (by show 0 ≤ sizeLine; decide), fun t1 u1 => ⟨(by show 0 ≤ sizeLine; decide), fun t2 u2 => ⟨(by show 2 ≤ sizeLine; decide), fun t3 u3 => ⟨(by show 17 ≤ sizeLine; decide), fun ls us => ?_⟩⟩⟩⟩
    have n0 := News.zero D
    have n1 := n0.put (o := .tup []) u1
    have n2 := n1.put (o := .lst []) u2
    have n3 := n2.put (o := .tup [.str "a", .str "b"]) u3
    obtain ⟨items, ei⟩ : ∃ items : List V, items = [V.non, .bl true, .bl false, .int 0, .int 1, .int (0 - 1), .int (10 ^ (20 : Int).toNat), .str "", .str "a", .str "ask", .str "abcde", .str "A", .str "a b", .str "a1", .ref t1, .ref t2, .ref t3] := ⟨_, rfl⟩
    have n4 := n3.put (o := .lst items) us
    have q1 : SqT K _ t1 [] := SqT.of (n0.here u1)
    have q2 : SqL K _ t2 [] := SqL.of (n1.here u2)
    have q3 : SqT K _ t3 [.str "a", .str "b"] := SqT.of (n2.here u3)
    have qs : SqL K (upd (upd (upd (upd G t1 (.tup [])) t2 (.lst [])) t3 (.tup [.str "a", .str "b"])) ls (.lst items)) ls items := SqL.of upd_same
    have k2 := n1.stay (o := .lst []) u2
    have k3 := n2.stay (o := .tup [.str "a", .str "b"]) u3
    have k4 := n3.stay (o := .lst items) us
    have gen : ∀ F : Hp, SqT K F t1 [] → SqL K F t2 [] → SqT K F t3 [.str "a", .str "b"] → DpAll K F [V.non, .bl true, .bl false, .int 0, .int 1, .int (0 - 1), .int (10 ^ (20 : Int).toNat), .str "", .str "a", .str "ask", .str "abcde", .str "A", .str "a b", .str "a1", .ref t1, .ref t2, .ref t3] someD := fun F a1 a2 a3 =>
      .cons .non (.cons (.bl _) (.cons (.bl _) (.cons (.int _) (.cons (.int _) (.cons (.int _) (.cons (.int _) (.cons (.str _) (.cons (.str _) (.cons (.str _) (.cons (.str _) (.cons (.str _) (.cons (.str _) (.cons (.str _)
        (.cons (.tup a1 .nil) (.cons (.lst a2 .nil) (.cons (.tup a3 (.cons (.str _) (.cons (.str _) .nil))) .nil))))))))))))))))
    have all := gen _ (same_tup (k2.trans (k3.trans k4)) q1) ((k3.trans k4).seq q2) (same_tup k4 q3)
    rw [← ei] at all
    clear gen
    have len : items.length = 17 := by rw [ei]; rfl
    rw [← ei]
    clear ei q1 q2 q3 k2 k3 k4 n1 n2 n3
    generalize upd (upd (upd (upd G t1 (.tup [])) t2 (.lst [])) t3 (.tup [.str "a", .str "b"])) ls (.lst items) = G4 at *
    generalize upd (upd (upd (upd (fun _ => none) t1 (.tup [])) t2 (.lst [])) t3 (.tup [.str "a", .str "b"])) ls (.lst items) = N4 at *
    generalize upd (upd (upd (upd H t1 (.tup [])) t2 (.lst [])) t3 (.tup [.str "a", .str "b"])) ls (.lst items) = H4 at *
    dsimp only [gName]
    refine seq_cut (fun σ1 H1 => σ1 = [some (.ref d), some (.int m), some (.ref ls), none, none] ∧ Deal G4 H1 d l ∧ m ≠ 0) ?after fun after => ?go
    case go =>
      refine if_cut (fun b H1 => Deal G4 H1 d l ∧ (b = false → m ≠ 0)) (fun H5 ⟨D5, _⟩ => ?_) (fun H5 ⟨D5, h⟩ => after _ _ ⟨rfl, D5, h rfl⟩) fun both => ?_
      · -- one of these
        refine ⟨_, rfl, _, rfl, G4, d, l, ls, items, rfl, D5, qs, by rw [← List.length_pos_iff]; omega, by omega, fun H6 x D6 hx => ?_⟩
        obtain ⟨pd, hm, hd⟩ := dpAll_mem all hx
        exact fin G4 H6 N4 x pd (n4.redeal D6) hd (fineAll_mem some_fine hm)
      · refine ⟨_, rfl, rfl, _, rfl, ?_⟩
        rw [dec_int]
        by_cases e : m = 0
        · rw [show (m == 0) = true from by simpa using e]
          exact iteT (both _ _ ⟨n4.dl, fun z => nomatch z⟩)
        · rw [show (m == 0) = false from by simpa using e]
          refine iteF ⟨_, rfl, G4, d, l, 3, rfl, n4.dl, by decide, by decide, fun H5 r D5 _ _ => ⟨rfl, _, rfl, ?_⟩⟩
          exact both _ _ ⟨D5, fun _ => e⟩
    case after =>
      rintro _ H5 ⟨rfl, D5, m0'⟩
      have n5 := n4.redeal D5
      refine ⟨_, rfl, G4, d, l, 4, rfl, D5, by decide, by decide, fun H6 r D6 r0 r1 => ⟨r, rfl, by omega, by omega, ?_⟩⟩
      have d6 := hr.dp
      refine fun L uL => lc_range (lo := 0) (n := r.toNat) (fun i H' => ∃ (B N : Hp) (xs : List V) (pds : List PyData), Same G4 B ∧ B L = none ∧ Deal (upd B L (.lst xs)) H' d l ∧ Same N B ∧ (∀ b o, N b = some o → G b = none) ∧ DpAll K N xs pds ∧ fineAll pds = true ∧ xs.length = i)
        ⟨G4, fun _ => none, [], [], Same.refl _, D6.same.free uL, D6.put uL, fun b o e => (by cases e), fun b o e => (by cases e), .nil, by rw [fineAll], rfl⟩ ?_ ?_
      · rintro i H1 hi ⟨B, N, xs, pds, sB, nB, DB, sN, dN, hx, hf, len⟩
        refine ⟨rfl, ?_⟩
        dsimp only [tYes]
        refine iteT ⟨_, rfl, _, rfl, _, _, rfl, rfl, upd B L (.lst xs), d, l, m - 1, rfl, by omega, by omega, DB, fun G' H2 N1 x pd nw hd hfx => ?_⟩
        have gL : G' L = some (.lst xs) := nw.kp _ _ upd_same
        have gU : upd G' L (.lst xs) = G' := by
          funext b
          by_cases q : b = L
          · rw [q, upd_same, gL]
          · rw [upd_ne q]
        have bB : ∀ b o, B b = some o → b ≠ L := fun b o e z => by rw [z, nB] at e; cases e
        have toB : Same B (hide L G') := fun b o e => by
          have ne := bB b o e
          rw [hide_ne ne]
          exact nw.kp _ _ (by rw [upd_ne ne]; exact e)
        have n1 : ∀ b o, N1 b = some o → b ≠ L ∧ B b = none := fun b o e => by
          have z := nw.dis b o e
          have ne : b ≠ L := fun q => by rw [q, upd_same] at z; cases z
          rw [upd_ne ne] at z
          exact ⟨ne, z⟩
        have nn : ∀ b o, N1 b = some o → N b = none := fun b o e => sN.free (n1 b o e).2
        refine ⟨xs, nw.dl.same _ _ gL, Nat.lt_of_le_of_lt (show xs.length ≤ 3 by omega) (by decide), hide L G', fun b => match N b with | some o => some o | none => N1 b, xs ++ [x], pds ++ [pd], sB.trans toB, hide_same, ?_, fun b o e => ?_, fun b o e => ?_, ?_, ?_, by rw [List.length_append, len]; rfl⟩
        · rw [hide_upd]
          exact Deal.over (G := G') (u := .lst xs) (by rw [gU]; exact nw.dl)
        · cases q : N b with
          | some u =>
            have e' : some u = some o := by simpa [q] using e
            cases e'
            exact toB _ _ (sN _ _ q)
          | none =>
            have e' : N1 b = some o := by simpa [q] using e
            rw [hide_ne (n1 b o e').1]
            exact nw.sub _ _ e'
        · cases q : N b with
          | some u => exact dN _ _ q
          | none =>
            have e' : N1 b = some o := by simpa [q] using e
            exact n4.kp.free (sB.free (n1 b o e').2)
        · refine dpAll_append (dpAll_same (fun b o e => by simp [e]) _ _ hx) (.cons (dp_same (fun b o e => by simp [nn b o e, e]) _ _ hd) .nil)
        · rw [fineAll_append, hf, Bool.true_and, fineAll, hfx, fineAll]
          rfl
      · rintro H1 ⟨B, N, xs, pds, sB, nB, DB, sN, dN, hx, hf, len⟩
        have gB : Same G B := n4.kp.trans sB
        have nL : N L = none := sN.free nB
        have few : pds.length ≤ 1000 := by rw [← dpAll_len hx]; omega
        refine ⟨_, rfl, upd B L (.lst xs), d, l, 3, rfl, DB, by decide, by decide, fun H7 r2 D7 _ _ => ⟨rfl, _, rfl, ?_⟩⟩
        have nw : News G H7 (upd B L (.lst xs)) (upd N L (.lst xs)) d l := ⟨D7, fun b o e => by rw [upd_ne (ne_of_none (gB _ _ e) nB)]; exact gB _ _ e, fun b o e => by
          by_cases q : b = L
          · subst q
            rw [upd_same] at e ⊢
            exact e
          · rw [upd_ne q] at e ⊢
            exact sN _ _ e, fun b o e => by
          by_cases q : b = L
          · subst q
            exact gB.free nB
          · rw [upd_ne q] at e
            exact dN _ _ e⟩
        have hx' : DpAll K (upd N L (.lst xs)) xs pds := dpAll_same (same_new nL) _ _ hx
        rw [dec_int]
        cases e : (r2 == 0) with
        | true =>
          exact iteT ⟨_, rfl, fin _ H7 _ (.ref L) (.list pds) nw (.lst (SqL.of upd_same) hx') (by rw [fine, hf, Bool.and_true]; exact decide_eq_true few)⟩
        | false =>
          refine iteF ⟨_, rfl, L, xs, rfl, .inl ⟨SqL.of (D7.same _ _ upd_same), fun p up => ?_⟩⟩
          exact fin _ _ _ (.ref p) (.tuple pds) (nw.put up) (.tup (SqT.of upd_same) (dpAll_same (nw.stay up) _ _ hx')) (by rw [fine, hf, Bool.and_true]; exact decide_eq_true few)
theorem Txt.okThing (T : Txt K mg a) : ∀ n : Nat, FnOk P w K mg base CX0 (2 + n) a.fThing a.dThing ["_law_deal_here", "_law_deep"] (spThing K n)
  | 0 => ⟨fun vs H Q E h => by obtain ⟨_, _, _, m, _, m0, m1, _⟩ := h; omega, fun A outer s H args us vs Q E hr e b v h => by obtain ⟨_, _, _, m, _, m0, m1, _⟩ := h; omega⟩
  | n + 1 => step_thing T n (Txt.okThing T n)
end
end K3

set_option Elab.async false
set_option linter.all false
set_option maxRecDepth 100000
set_option maxHeartbeats 4000000
namespace K3
open PySem L2 Lw
theorem fine_one {d : PyData} (h : fine d = true) : fine (.list [d]) = true := by rw [fine, fineAll, h, fineAll]; rfl
theorem fine_three {x y z : PyData} (h1 : fine x = true) (h2 : fine y = true) (h3 : fine z = true) : fineAll [x, y, z] = true := by rw [fineAll, fineAll, fineAll, fineAll, h1, h2, h3]; rfl
def spOdd (K : PySem.W.Frag) : Sp := fun vs H Q _ => ∃ (G : Hp) (d l : Addr), vs = [.ref d] ∧ Deal G H d l ∧ Hands K G d l Q
section
variable {P : Program} {w : World} {K : PySem.W.Frag} {mg : Str → Option Value} {base : Heap} {a : Ad}
theorem scOdd : FnScope ["_law_deal_here", "_law_some"] ["_law_deal_here"] (defScope sOdd) := ⟨rfl, rfl, rfl, by decide +kernel, rfl, by decide +kernel, by decide +kernel⟩
theorem Txt.okOdd (T : Txt K mg a) : FnOk P w K mg base CX0 11 a.fOdd a.dOdd ["_law_deal_here"] (spOdd K) := by
  refine T.odd.F.ok scOdd (fun vs H Q E h => ?_) (fun cdv A outer s H vs Q E hr h => ?_)
  · obtain ⟨G, d, l, rfl, _⟩ := h
    rfl
  · obtain ⟨G, d, l, rfl, D, fin⟩ := h
    have hr2 : Room 2 _ := hr.mono (by decide)
    have n0 := News.zero D
    refine ⟨_, pss_cons (ps_set (i := 1) scOdd.nd rfl (Or.inl rfl) (pe_lst (pa_cons (pe_lst pa_nil) (pa_cons (pe_tup pa_nil) (pa_cons (pe_lst (pa_cons (pe_tup (pa_cons pe_str (pa_cons pe_str pa_nil))) (pa_cons (pe_tup (pa_cons pe_str (pa_cons pe_str pa_nil))) pa_nil))) (pa_cons (pe_lst (pa_cons (pe_lst (pa_cons pe_str (pa_cons pe_str pa_nil))) pa_nil)) (pa_cons (pe_tup (pa_cons (pe_tup (pa_cons pe_str (pa_cons pe_str (pa_cons pe_str pa_nil)))) pa_nil)) (pa_cons (pe_lst (pa_cons (pe_tup (pa_cons pe_str pa_nil)) pa_nil)) (pa_cons (pe_tup (pa_cons pe_str (pa_cons pe_str pa_nil))) (pa_cons pe_str pa_nil))))))))))
      (pss_cons (ps_set (i := 1) scOdd.nd rfl (Or.inl rfl) (pe_op op_cat (pv 1) (pe_lst (pa_cons (pe_lst (pa_cons (pe_tup (pa_cons pe_str (pa_cons pe_str pa_nil))) (pa_cons (pe_tup (pa_cons pe_str (pa_cons pe_str pa_nil))) pa_nil))) (pa_cons (pe_lst (pa_cons (pe_tup (pa_cons pe_str (pa_cons pe_str pa_nil))) pa_nil)) (pa_cons (pe_lst (pa_cons (pe_tup (pa_cons pe_str (pa_cons pe_non pa_nil))) pa_nil)) (pa_cons (pe_lst (pa_cons (pe_tup (pa_cons pe_str (pa_cons pe_str pa_nil))) (pa_cons pe_int pa_nil))) (pa_cons pe_str pa_nil))))))))
      (pss_one (ps_ret (pe_call T.okPick hr2 rfl T.pick.g T.pick.F.kp T.pick.b .nil pass0 (pa_cons (pv 0) (pa_cons (pe_op op_cat (pv 1) (pe_lst (pa_cons (pe_lst (pa_cons (pe_tup (pa_cons pe_str (pa_cons pe_str pa_nil))) pa_nil)) (pa_cons (pe_call (T.okThing 8) hr rfl T.thing.g T.thing.F.kp T.thing.b .nil pass0 (pa_cons (pv 0) (pa_cons pe_int pa_nil))) (pa_cons (pe_lst (pa_cons (pe_call (T.okThing 8) hr rfl T.thing.g T.thing.F.kp T.thing.b .nil pass0 (pa_cons (pv 0) (pa_cons pe_int pa_nil))) pa_nil)) pa_nil))))) pa_nil)))))), ?_⟩
    clear hr hr2
    refine ⟨(by show 0 ≤ sizeLine; decide), fun t1 ut1 => ?_⟩
    obtain ⟨H1, G1, N1, eH, n1, qt1, st⟩ := News.lst n0 ut1 []
    rw [← eH]
    clear eH
    have pt1 : Dp K N1 (.ref t1) (.list []) := .lst (SqL.of qt1) .nil
    clear qt1  st
    refine ⟨(by show 0 ≤ sizeLine; decide), fun t2 ut2 => ?_⟩
    obtain ⟨H2, G2, N2, eH, n2, qt2, st⟩ := News.tup n1 ut2 []
    rw [← eH]
    clear eH
    replace pt1 := dp_same st _ _ pt1
    have pt2 : Dp K N2 (.ref t2) (.tuple []) := .tup (SqT.of qt2) .nil
    clear qt2  st
    refine ⟨(by show 2 ≤ sizeLine; decide), fun t3 ut3 => ?_⟩
    obtain ⟨H3, G3, N3, eH, n3, qt3, st⟩ := News.tup n2 ut3 [V.str "ok", .str "a"]
    rw [← eH]
    clear eH
    replace pt1 := dp_same st _ _ pt1
    replace pt2 := dp_same st _ _ pt2
    have pt3 : Dp K N3 (.ref t3) (.tuple [.str "ok", .str "a"]) := .tup (SqT.of qt3) (.cons (.str _) (.cons (.str _) .nil))
    clear qt3  st
    refine ⟨(by show 2 ≤ sizeLine; decide), fun t4 ut4 => ?_⟩
    obtain ⟨H4, G4, N4, eH, n4, qt4, st⟩ := News.tup n3 ut4 [V.str "ok", .str "b"]
    rw [← eH]
    clear eH
    replace pt1 := dp_same st _ _ pt1
    replace pt2 := dp_same st _ _ pt2
    replace pt3 := dp_same st _ _ pt3
    have pt4 : Dp K N4 (.ref t4) (.tuple [.str "ok", .str "b"]) := .tup (SqT.of qt4) (.cons (.str _) (.cons (.str _) .nil))
    clear qt4  st
    refine ⟨(by show 2 ≤ sizeLine; decide), fun t5 ut5 => ?_⟩
    obtain ⟨H5, G5, N5, eH, n5, qt5, st⟩ := News.lst n4 ut5 [V.ref t3, .ref t4]
    rw [← eH]
    clear eH
    replace pt1 := dp_same st _ _ pt1
    replace pt2 := dp_same st _ _ pt2
    replace pt3 := dp_same st _ _ pt3
    replace pt4 := dp_same st _ _ pt4
    have pt5 : Dp K N5 (.ref t5) (.list [.tuple [.str "ok", .str "a"], .tuple [.str "ok", .str "b"]]) := .lst (SqL.of qt5) (.cons (pt3) (.cons (pt4) .nil))
    clear qt5 pt3 pt4 st
    refine ⟨(by show 2 ≤ sizeLine; decide), fun t6 ut6 => ?_⟩
    obtain ⟨H6, G6, N6, eH, n6, qt6, st⟩ := News.lst n5 ut6 [V.str "ok", .str "a"]
    rw [← eH]
    clear eH
    replace pt1 := dp_same st _ _ pt1
    replace pt2 := dp_same st _ _ pt2
    replace pt5 := dp_same st _ _ pt5
    have pt6 : Dp K N6 (.ref t6) (.list [.str "ok", .str "a"]) := .lst (SqL.of qt6) (.cons (.str _) (.cons (.str _) .nil))
    clear qt6  st
    refine ⟨(by show 1 ≤ sizeLine; decide), fun t7 ut7 => ?_⟩
    obtain ⟨H7, G7, N7, eH, n7, qt7, st⟩ := News.lst n6 ut7 [V.ref t6]
    rw [← eH]
    clear eH
    replace pt1 := dp_same st _ _ pt1
    replace pt2 := dp_same st _ _ pt2
    replace pt5 := dp_same st _ _ pt5
    replace pt6 := dp_same st _ _ pt6
    have pt7 : Dp K N7 (.ref t7) (.list [.list [.str "ok", .str "a"]]) := .lst (SqL.of qt7) (.cons (pt6) .nil)
    clear qt7 pt6 st
    refine ⟨(by show 3 ≤ sizeLine; decide), fun t8 ut8 => ?_⟩
    obtain ⟨H8, G8, N8, eH, n8, qt8, st⟩ := News.tup n7 ut8 [V.str "ok", .str "a", .str "b"]
    rw [← eH]
    clear eH
    replace pt1 := dp_same st _ _ pt1
    replace pt2 := dp_same st _ _ pt2
    replace pt5 := dp_same st _ _ pt5
    replace pt7 := dp_same st _ _ pt7
    have pt8 : Dp K N8 (.ref t8) (.tuple [.str "ok", .str "a", .str "b"]) := .tup (SqT.of qt8) (.cons (.str _) (.cons (.str _) (.cons (.str _) .nil)))
    clear qt8  st
    refine ⟨(by show 1 ≤ sizeLine; decide), fun t9 ut9 => ?_⟩
    obtain ⟨H9, G9, N9, eH, n9, qt9, st⟩ := News.tup n8 ut9 [V.ref t8]
    rw [← eH]
    clear eH
    replace pt1 := dp_same st _ _ pt1
    replace pt2 := dp_same st _ _ pt2
    replace pt5 := dp_same st _ _ pt5
    replace pt7 := dp_same st _ _ pt7
    replace pt8 := dp_same st _ _ pt8
    have pt9 : Dp K N9 (.ref t9) (.tuple [.tuple [.str "ok", .str "a", .str "b"]]) := .tup (SqT.of qt9) (.cons (pt8) .nil)
    clear qt9 pt8 st
    refine ⟨(by show 1 ≤ sizeLine; decide), fun t10 ut10 => ?_⟩
    obtain ⟨H10, G10, N10, eH, n10, qt10, st⟩ := News.tup n9 ut10 [V.str "ok"]
    rw [← eH]
    clear eH
    replace pt1 := dp_same st _ _ pt1
    replace pt2 := dp_same st _ _ pt2
    replace pt5 := dp_same st _ _ pt5
    replace pt7 := dp_same st _ _ pt7
    replace pt9 := dp_same st _ _ pt9
    have pt10 : Dp K N10 (.ref t10) (.tuple [.str "ok"]) := .tup (SqT.of qt10) (.cons (.str _) .nil)
    clear qt10  st
    refine ⟨(by show 1 ≤ sizeLine; decide), fun t11 ut11 => ?_⟩
    obtain ⟨H11, G11, N11, eH, n11, qt11, st⟩ := News.lst n10 ut11 [V.ref t10]
    rw [← eH]
    clear eH
    replace pt1 := dp_same st _ _ pt1
    replace pt2 := dp_same st _ _ pt2
    replace pt5 := dp_same st _ _ pt5
    replace pt7 := dp_same st _ _ pt7
    replace pt9 := dp_same st _ _ pt9
    replace pt10 := dp_same st _ _ pt10
    have pt11 : Dp K N11 (.ref t11) (.list [.tuple [.str "ok"]]) := .lst (SqL.of qt11) (.cons (pt10) .nil)
    clear qt11 pt10 st
    refine ⟨(by show 2 ≤ sizeLine; decide), fun t12 ut12 => ?_⟩
    obtain ⟨H12, G12, N12, eH, n12, qt12, st⟩ := News.tup n11 ut12 [V.str "ok", .str "a"]
    rw [← eH]
    clear eH
    replace pt1 := dp_same st _ _ pt1
    replace pt2 := dp_same st _ _ pt2
    replace pt5 := dp_same st _ _ pt5
    replace pt7 := dp_same st _ _ pt7
    replace pt9 := dp_same st _ _ pt9
    replace pt11 := dp_same st _ _ pt11
    have pt12 : Dp K N12 (.ref t12) (.tuple [.str "ok", .str "a"]) := .tup (SqT.of qt12) (.cons (.str _) (.cons (.str _) .nil))
    clear qt12  st
    refine ⟨(by show 8 ≤ sizeLine; decide), fun t13 ut13 => ?_⟩
    obtain ⟨H13, G13, N13, eH, n13, qt13, st⟩ := News.lst n12 ut13 [V.ref t1, .ref t2, .ref t5, .ref t7, .ref t9, .ref t11, .ref t12, .str "ok a"]
    rw [← eH]
    clear eH
    replace pt1 := dp_same st _ _ pt1
    replace pt2 := dp_same st _ _ pt2
    replace pt5 := dp_same st _ _ pt5
    replace pt7 := dp_same st _ _ pt7
    replace pt9 := dp_same st _ _ pt9
    replace pt11 := dp_same st _ _ pt11
    replace pt12 := dp_same st _ _ pt12
    have at13 : DpAll K N13 [V.ref t1, .ref t2, .ref t5, .ref t7, .ref t9, .ref t11, .ref t12, .str "ok a"] [.list [], .tuple [], .list [.tuple [.str "ok", .str "a"], .tuple [.str "ok", .str "b"]], .list [.list [.str "ok", .str "a"]], .tuple [.tuple [.str "ok", .str "a", .str "b"]], .list [.tuple [.str "ok"]], .tuple [.str "ok", .str "a"], .str "ok a"] := (.cons (pt1) (.cons (pt2) (.cons (pt5) (.cons (pt7) (.cons (pt9) (.cons (pt11) (.cons (pt12) (.cons (.str _) .nil))))))))
    clear pt1 pt2 pt5 pt7 pt9 pt11 pt12 st
    refine ⟨_, rfl, ?_⟩
    refine ⟨(by show 2 ≤ sizeLine; decide), fun t14 ut14 => ?_⟩
    obtain ⟨H14, G14, N14, eH, n14, qt14, st⟩ := News.tup n13 ut14 [V.str "ok", .str "a"]
    rw [← eH]
    clear eH
    replace qt13 := st _ _ qt13
    replace at13 := dpAll_same st _ _ at13
    have pt14 : Dp K N14 (.ref t14) (.tuple [.str "ok", .str "a"]) := .tup (SqT.of qt14) (.cons (.str _) (.cons (.str _) .nil))
    clear qt14  st
    refine ⟨(by show 2 ≤ sizeLine; decide), fun t15 ut15 => ?_⟩
    obtain ⟨H15, G15, N15, eH, n15, qt15, st⟩ := News.tup n14 ut15 [V.str "no", .str "a"]
    rw [← eH]
    clear eH
    replace pt14 := dp_same st _ _ pt14
    replace qt13 := st _ _ qt13
    replace at13 := dpAll_same st _ _ at13
    have pt15 : Dp K N15 (.ref t15) (.tuple [.str "no", .str "a"]) := .tup (SqT.of qt15) (.cons (.str _) (.cons (.str _) .nil))
    clear qt15  st
    refine ⟨(by show 2 ≤ sizeLine; decide), fun t16 ut16 => ?_⟩
    obtain ⟨H16, G16, N16, eH, n16, qt16, st⟩ := News.lst n15 ut16 [V.ref t14, .ref t15]
    rw [← eH]
    clear eH
    replace pt14 := dp_same st _ _ pt14
    replace pt15 := dp_same st _ _ pt15
    replace qt13 := st _ _ qt13
    replace at13 := dpAll_same st _ _ at13
    have pt16 : Dp K N16 (.ref t16) (.list [.tuple [.str "ok", .str "a"], .tuple [.str "no", .str "a"]]) := .lst (SqL.of qt16) (.cons (pt14) (.cons (pt15) .nil))
    clear qt16 pt14 pt15 st
    refine ⟨(by show 2 ≤ sizeLine; decide), fun t17 ut17 => ?_⟩
    obtain ⟨H17, G17, N17, eH, n17, qt17, st⟩ := News.tup n16 ut17 [V.str "", .str "a"]
    rw [← eH]
    clear eH
    replace pt16 := dp_same st _ _ pt16
    replace qt13 := st _ _ qt13
    replace at13 := dpAll_same st _ _ at13
    have pt17 : Dp K N17 (.ref t17) (.tuple [.str "", .str "a"]) := .tup (SqT.of qt17) (.cons (.str _) (.cons (.str _) .nil))
    clear qt17  st
    refine ⟨(by show 1 ≤ sizeLine; decide), fun t18 ut18 => ?_⟩
    obtain ⟨H18, G18, N18, eH, n18, qt18, st⟩ := News.lst n17 ut18 [V.ref t17]
    rw [← eH]
    clear eH
    replace pt16 := dp_same st _ _ pt16
    replace pt17 := dp_same st _ _ pt17
    replace qt13 := st _ _ qt13
    replace at13 := dpAll_same st _ _ at13
    have pt18 : Dp K N18 (.ref t18) (.list [.tuple [.str "", .str "a"]]) := .lst (SqL.of qt18) (.cons (pt17) .nil)
    clear qt18 pt17 st
    refine ⟨(by show 2 ≤ sizeLine; decide), fun t19 ut19 => ?_⟩
    obtain ⟨H19, G19, N19, eH, n19, qt19, st⟩ := News.tup n18 ut19 [V.str "ok", .non]
    rw [← eH]
    clear eH
    replace pt16 := dp_same st _ _ pt16
    replace pt18 := dp_same st _ _ pt18
    replace qt13 := st _ _ qt13
    replace at13 := dpAll_same st _ _ at13
    have pt19 : Dp K N19 (.ref t19) (.tuple [.str "ok", .none]) := .tup (SqT.of qt19) (.cons (.str _) (.cons (.non) .nil))
    clear qt19  st
    refine ⟨(by show 1 ≤ sizeLine; decide), fun t20 ut20 => ?_⟩
    obtain ⟨H20, G20, N20, eH, n20, qt20, st⟩ := News.lst n19 ut20 [V.ref t19]
    rw [← eH]
    clear eH
    replace pt16 := dp_same st _ _ pt16
    replace pt18 := dp_same st _ _ pt18
    replace pt19 := dp_same st _ _ pt19
    replace qt13 := st _ _ qt13
    replace at13 := dpAll_same st _ _ at13
    have pt20 : Dp K N20 (.ref t20) (.list [.tuple [.str "ok", .none]]) := .lst (SqL.of qt20) (.cons (pt19) .nil)
    clear qt20 pt19 st
    refine ⟨(by show 2 ≤ sizeLine; decide), fun t21 ut21 => ?_⟩
    obtain ⟨H21, G21, N21, eH, n21, qt21, st⟩ := News.tup n20 ut21 [V.str "ok", .str "a"]
    rw [← eH]
    clear eH
    replace pt16 := dp_same st _ _ pt16
    replace pt18 := dp_same st _ _ pt18
    replace pt20 := dp_same st _ _ pt20
    replace qt13 := st _ _ qt13
    replace at13 := dpAll_same st _ _ at13
    have pt21 : Dp K N21 (.ref t21) (.tuple [.str "ok", .str "a"]) := .tup (SqT.of qt21) (.cons (.str _) (.cons (.str _) .nil))
    clear qt21  st
    refine ⟨(by show 2 ≤ sizeLine; decide), fun t22 ut22 => ?_⟩
    obtain ⟨H22, G22, N22, eH, n22, qt22, st⟩ := News.lst n21 ut22 [V.ref t21, .int 3]
    rw [← eH]
    clear eH
    replace pt16 := dp_same st _ _ pt16
    replace pt18 := dp_same st _ _ pt18
    replace pt20 := dp_same st _ _ pt20
    replace pt21 := dp_same st _ _ pt21
    replace qt13 := st _ _ qt13
    replace at13 := dpAll_same st _ _ at13
    have pt22 : Dp K N22 (.ref t22) (.list [.tuple [.str "ok", .str "a"], .int 3]) := .lst (SqL.of qt22) (.cons (pt21) (.cons (.int _) .nil))
    clear qt22 pt21 st
    refine ⟨(by show 5 ≤ sizeLine; decide), fun t23 ut23 => ?_⟩
    obtain ⟨H23, G23, N23, eH, n23, qt23, st⟩ := News.lst n22 ut23 [V.ref t16, .ref t18, .ref t20, .ref t22, .str "a"]
    rw [← eH]
    clear eH
    replace pt16 := dp_same st _ _ pt16
    replace pt18 := dp_same st _ _ pt18
    replace pt20 := dp_same st _ _ pt20
    replace pt22 := dp_same st _ _ pt22
    replace qt13 := st _ _ qt13
    replace at13 := dpAll_same st _ _ at13
    have at23 : DpAll K N23 [V.ref t16, .ref t18, .ref t20, .ref t22, .str "a"] [.list [.tuple [.str "ok", .str "a"], .tuple [.str "no", .str "a"]], .list [.tuple [.str "", .str "a"]], .list [.tuple [.str "ok", .none]], .list [.tuple [.str "ok", .str "a"], .int 3], .str "a"] := (.cons (pt16) (.cons (pt18) (.cons (pt20) (.cons (pt22) (.cons (.str _) .nil)))))
    clear pt16 pt18 pt20 pt22 st
    refine ⟨t13, t23, _, _, rfl, rfl, n23.inH _ _ qt13, n23.inH _ _ qt23, (by show 13 ≤ sizeLine; decide), fun t24 ut24 => ?_⟩
    obtain ⟨H24, G24, N24, eH, n24, qt24, st⟩ := News.lst n23 ut24 (([V.ref t1, .ref t2, .ref t5, .ref t7, .ref t9, .ref t11, .ref t12, .str "ok a"] : List V) ++ ([V.ref t16, .ref t18, .ref t20, .ref t22, .str "a"] : List V))
    rw [← eH]
    clear eH
    replace qt13 := st _ _ qt13
    replace at13 := dpAll_same st _ _ at13
    replace qt23 := st _ _ qt23
    replace at23 := dpAll_same st _ _ at23
    have at24 := dpAll_append at13 at23
    clear st qt13 qt23 at13 at23
    refine ⟨_, rfl, _, rfl, ?_⟩
    refine ⟨(by show 2 ≤ sizeLine; decide), fun t25 ut25 => ?_⟩
    obtain ⟨H25, G25, N25, eH, n25, qt25, st⟩ := News.tup n24 ut25 [V.str "OK", .str "a"]
    rw [← eH]
    clear eH
    replace qt24 := st _ _ qt24
    replace at24 := dpAll_same st _ _ at24
    have pt25 : Dp K N25 (.ref t25) (.tuple [.str "OK", .str "a"]) := .tup (SqT.of qt25) (.cons (.str _) (.cons (.str _) .nil))
    clear qt25  st
    refine ⟨(by show 1 ≤ sizeLine; decide), fun t26 ut26 => ?_⟩
    obtain ⟨H26, G26, N26, eH, n26, qt26, st⟩ := News.lst n25 ut26 [V.ref t25]
    rw [← eH]
    clear eH
    replace pt25 := dp_same st _ _ pt25
    replace qt24 := st _ _ qt24
    replace at24 := dpAll_same st _ _ at24
    have pt26 : Dp K N26 (.ref t26) (.list [.tuple [.str "OK", .str "a"]]) := .lst (SqL.of qt26) (.cons (pt25) .nil)
    clear qt26 pt25 st
    refine ⟨_, rfl, G26, d, l, 7, rfl, by decide, by decide, n26.dl, fun G27 H27 M x27 pd27 m hd hf27 => ?_⟩
    obtain ⟨N27, n27, st, st2⟩ : ∃ X, News G H27 G27 X d l ∧ Same N26 X ∧ Same M X := ⟨_, n26.more m, n26.left m, n26.right m⟩
    replace pt26 := dp_same st _ _ pt26
    replace qt24 := st _ _ qt24
    replace at24 := dpAll_same st _ _ at24
    have px27 := dp_same st2 _ _ hd
    clear st st2 hd m
    refine ⟨_, rfl, G27, d, l, 2, rfl, by decide, by decide, n27.dl, fun G28 H28 M x28 pd28 m hd hf28 => ?_⟩
    obtain ⟨N28, n28, st, st2⟩ : ∃ X, News G H28 G28 X d l ∧ Same N27 X ∧ Same M X := ⟨_, n27.more m, n27.left m, n27.right m⟩
    replace pt26 := dp_same st _ _ pt26
    replace px27 := dp_same st _ _ px27
    replace qt24 := st _ _ qt24
    replace at24 := dpAll_same st _ _ at24
    have px28 := dp_same st2 _ _ hd
    clear st st2 hd m
    refine ⟨(by show 1 ≤ sizeLine; decide), fun t29 ut29 => ?_⟩
    obtain ⟨H29, G29, N29, eH, n29, qt29, st⟩ := News.lst n28 ut29 [x28]
    rw [← eH]
    clear eH
    replace pt26 := dp_same st _ _ pt26
    replace px27 := dp_same st _ _ px27
    replace px28 := dp_same st _ _ px28
    replace qt24 := st _ _ qt24
    replace at24 := dpAll_same st _ _ at24
    have pt29 : Dp K N29 (.ref t29) (.list [pd28]) := .lst (SqL.of qt29) (.cons (px28) .nil)
    clear qt29 px28 st
    refine ⟨(by show 3 ≤ sizeLine; decide), fun t30 ut30 => ?_⟩
    obtain ⟨H30, G30, N30, eH, n30, qt30, st⟩ := News.lst n29 ut30 [V.ref t26, x27, .ref t29]
    rw [← eH]
    clear eH
    replace pt26 := dp_same st _ _ pt26
    replace px27 := dp_same st _ _ px27
    replace pt29 := dp_same st _ _ pt29
    replace qt24 := st _ _ qt24
    replace at24 := dpAll_same st _ _ at24
    have at30 : DpAll K N30 [V.ref t26, x27, .ref t29] [.list [.tuple [.str "OK", .str "a"]], pd27, .list [pd28]] := (.cons (pt26) (.cons (px27) (.cons (pt29) .nil)))
    clear pt26 px27 pt29 st
    refine ⟨t24, t30, _, _, rfl, rfl, n30.inH _ _ qt24, n30.inH _ _ qt30, (by show 16 ≤ sizeLine; decide), fun t31 ut31 => ?_⟩
    obtain ⟨H31, G31, N31, eH, n31, qt31, st⟩ := News.lst n30 ut31 (((([V.ref t1, .ref t2, .ref t5, .ref t7, .ref t9, .ref t11, .ref t12, .str "ok a"] : List V) ++ ([V.ref t16, .ref t18, .ref t20, .ref t22, .str "a"] : List V)) : List V) ++ ([V.ref t26, x27, .ref t29] : List V))
    rw [← eH]
    clear eH
    replace qt24 := st _ _ qt24
    replace at24 := dpAll_same st _ _ at24
    replace qt30 := st _ _ qt30
    replace at30 := dpAll_same st _ _ at30
    have at31 := dpAll_append at24 at30
    clear st qt24 qt30 at24 at30
    refine ⟨G31, d, l, t31, _, rfl, n31.dl, SqL.of (n31.sub _ _ qt31), (by simp), (by show 16 < 1000; decide), fun H' x D' hx => ?_⟩
    obtain ⟨pd, hm, hd⟩ := dpAll_mem at31 hx
    refine fin _ _ _ x pd (n31.redeal D') hd (fineAll_mem ?_ hm)
    rw [fineAll_append, Bool.and_eq_true]
    exact ⟨by decide +kernel, fine_three (by decide +kernel) hf27 (fine_one hf28)⟩
end
end K3

set_option Elab.async false
set_option linter.all false
set_option maxRecDepth 100000
set_option maxHeartbeats 4000000
namespace Lw
open PySem PySem.Spec PyProof.Rows L2
theorem new_at {H : Hp} {p : Addr} (u : H p = none) (o : HO) : ∃ G : Hp, G = upd H p o ∧ Same H G ∧ G p = some o := ⟨_, rfl, same_new u, upd_same⟩
theorem News.past {B H' G' N : Hp} {d l pl : Addr} {u : HO} (nB : B pl = none) (m : News (upd B pl u) H' G' N d l) : Same B (hide pl G') ∧ (hide pl G') pl = none ∧ Deal (upd (hide pl G') pl u) H' d l ∧ Same N (hide pl G') := by
  have gL : G' pl = some u := m.kp _ _ upd_same
  have gU : upd G' pl u = G' := by
    funext b
    by_cases q : b = pl
    · rw [q, upd_same, gL]
    · rw [upd_ne q]
  refine ⟨fun b o e => ?_, hide_same, by rw [hide_upd, gU]; exact m.dl, fun b o e => ?_⟩
  · have ne : b ≠ pl := fun z => by rw [z, nB] at e; cases e
    rw [hide_ne ne]
    exact m.kp _ _ (by rw [upd_ne ne]; exact e)
  · have z := m.dis b o e
    have ne : b ≠ pl := fun q => by rw [q, upd_same] at z; cases z
    rw [hide_ne ne]
    exact m.sub _ _ e
theorem Deal.on {G H H' : Hp} {d l : Addr} (D : Deal G H d l) (s : Same H H') : Deal G H' d l :=
  ⟨D.same.trans s, D.gd, D.gl, D.ne, let ⟨ns, m, a⟩ := D.it; ⟨ns, m, s _ _ a.hd, s _ _ a.hl, a.len, a.nn, a.m0, a.m1⟩⟩
theorem dpAll_set {K : PySem.W.Frag} {H : Hp} {x : V} {pd : PyData} (h : Dp K H x pd) : ∀ {xs : List V} {ds : List PyData} (k : Nat), DpAll K H xs ds → DpAll K H (xs.set k x) (ds.set k pd)
  | _, _, _, .nil => .nil
  | _, _, 0, .cons _ r => .cons h r
  | _, _, k + 1, .cons a r => .cons a (dpAll_set h k r)
theorem fineAll_set {pd : PyData} (h : fine pd = true) : ∀ (ds : List PyData) (k : Nat), fineAll ds = true → fineAll (ds.set k pd) = true
  | [], _, e => e
  | d :: ds, 0, e => by
    rw [fineAll] at e
    rw [List.set_cons_zero, fineAll, h, (Bool.and_eq_true_iff.mp e).2]
    rfl
  | d :: ds, k + 1, e => by
    rw [fineAll] at e
    obtain ⟨e1, e2⟩ := Bool.and_eq_true_iff.mp e
    rw [List.set_cons_succ, fineAll, e1, fineAll_set h ds k e2]
    rfl
theorem ixN_in {n : Nat} {r : Int} (h0 : 0 ≤ r) (h1 : r < n) : ixN n r = some r.toNat := by
  unfold ixN
  rw [if_pos h0, if_pos h1]
end Lw
namespace K3
open PySem L2 Lw
def goodD (k : Str) : List PyData := if k = "ask" then [.str "a", .str "pay", .list [.tuple [.str "ok", .str "b"], .tuple [.str "no", .str "a"]]] else if k = "note" then [.str "a", .str "x", .str "b"] else if k = "mark" then [.str "mark", .str "m", .str "b", .str "b"] else [.str "zzzz"]
theorem good_due {k : Str} {n : Nat} (h : Kind k n) : (goodD k).length = n ∧ fineAll (goodD k) = true ∧ dueOf k (goodD k) = Str.empty := by
  rcases h with ⟨rfl, rfl⟩ | ⟨rfl, rfl⟩ | ⟨rfl, rfl⟩ | ⟨rfl, rfl⟩ <;> exact ⟨by decide +kernel, by decide +kernel, by decide +kernel⟩
def spLaw (K : PySem.W.Frag) : Sp := fun vs H Q _ => ∃ (sa : Addr) (ns : List Int), vs = [.ref sa] ∧ SqL K H sa (ns.map V.int) ∧ ns.length ≤ 63 ∧ ∀ H', Q (.bl true) H'
section
variable {P : Program} {w : World} {K : PySem.W.Frag} {mg : Str → Option Value} {base : Heap} {a : Ad}
theorem Txt.okDeal (T : Txt K mg a) : FnOk P w K mg base CX0 1 a.fDeal a.dDeal ["_law_script", "_law_base"] (spDeal K) := ok_deal T.deal.F T.tInt T.tAbs
abbrev nLaw : List Str := ["_law_script", "_law_good", "_law_spot", "_law_deal_here", "_law_turn", "_law_kind", "_law_parts", "_law_more", "_law_step"]
theorem scLaw : FnScope nLaw ["_law_script"] (defScope sLaw) := ⟨rfl, rfl, rfl, by decide +kernel, rfl, by decide +kernel, by decide +kernel⟩
theorem Txt.okLaw (T : Txt K mg a) : FnOk P w K mg base CX0 12 a.fLaw a.dLaw ["_law_script"] (spLaw K) := by
  refine T.law.F.ok scLaw (fun vs H Q E h => ?_) (fun cdv A outer s H vs Q E hr h => ?_)
  · obtain ⟨sa, ns, rfl, _⟩ := h
    rfl
  · obtain ⟨sa, ns, rfl, hS, hlen, fin⟩ := h
    have hr1 : Room 1 _ := hr.mono (by decide)
    have hr2 : Room 2 _ := hr.mono (by decide)
    have hr3 : Room 3 _ := hr.mono (by decide)
    have hr6 : Room 6 _ := hr.mono (by decide)
    have hr10 : Room 10 _ := hr.mono (by decide)
    have hu := hu_of hr
    refine ⟨_, pss_cons (ps_set (i := 1) scLaw.nd rfl (Or.inl rfl) (pe_disp (pps_cons pe_str (pe_lst (pa_cons pe_str (pa_cons pe_str (pa_cons (pe_lst (pa_cons (pe_tup (pa_cons pe_str (pa_cons pe_str pa_nil))) (pa_cons (pe_tup (pa_cons pe_str (pa_cons pe_str pa_nil))) pa_nil))) pa_nil)))) (pps_cons pe_str (pe_lst (pa_cons pe_str (pa_cons pe_str (pa_cons pe_str pa_nil)))) (pps_cons pe_str (pe_lst (pa_cons pe_str pa_nil)) pps_nil))) (by rfl) (by rfl) (fun z => by cases z) (by decide)))
      (pss_cons (ps_dput hu (pv 1) pe_str (pe_lst (pa_cons pe_str (pa_cons pe_str (pa_cons pe_str (pa_cons pe_str pa_nil))))) rfl)
      (pss_cons (ps_for PassesOwn.never rfl (pi_range1 rfl T.tRange (pa_cons (pe_callB (call_max2 rfl) (by rfl) T.tMax (by decide +kernel) (pa_cons pe_int (pa_cons (pe_callB (call_min2 rfl) (by rfl) T.tMin (by decide +kernel) (pa_cons pe_int (pa_cons (pe_callB call_len_seq (by rfl) T.tLen PySem.boot_len (pa_cons (pv 0) pa_nil)) pa_nil))) pa_nil))) pa_nil)) (pg_name (i := 2) scLaw.nd rfl (Or.inl rfl))
        (pss_cons (ps_set (i := 3) scLaw.nd rfl (Or.inl rfl) (pe_call T.okDeal hr1 rfl T.deal.g T.deal.F.kp T.deal.b .nil pass0 (pa_cons (pv 0) (pa_cons (pv 2) pa_nil))))
        (pss_one (ps_for PassesOwn.never rfl (pi_range1 rfl T.tRange (pa_cons pe_int pa_nil)) (pg_name (i := 4) scLaw.nd rfl (Or.inl rfl))
          (pss_cons (ps_set (i := 5) scLaw.nd rfl (Or.inl rfl) (pe_call T.okPick hr2 rfl T.pick.g T.pick.F.kp T.pick.b .nil pass0 (pa_cons (pv 3) (pa_cons (pe_lst (pa_cons pe_str (pa_cons pe_str (pa_cons pe_str (pa_cons pe_str pa_nil))))) pa_nil))))
          (pss_cons (ps_set (i := 6) scLaw.nd rfl (Or.inl rfl) (pe_callTy call_list_of (by rfl) T.tList PyProof.Rows.boot_list (pa_cons (pe_dget hu (pv 1) (pv 5) (fun _ _ => rfl)) pa_nil)))
          (pss_cons (ps_if (pt_cmpR op_ne (pe_call T.okHeard hr6 rfl T.heard.g T.heard.F.kp T.heard.b .nil pass0 (pa_cons (pv 5) (pa_cons (pv 6) pa_nil))) pe_str (nomark _)) (pss_one (ps_ret pe_bl)) pss_nil)
          (pss_cons (ps_for PassesOwn.never rfl (pi_range1 rfl T.tRange (pa_cons (pe_op op_add pe_int (pe_call T.okDraw hr1 rfl T.draw.g T.draw.F.kp T.draw.b .nil pass0 (pa_cons (pv 3) (pa_cons pe_int pa_nil)))) pa_nil)) (pg_name (i := 7) scLaw.nd rfl (Or.inl rfl))
            (pss_cons (ps_set (i := 8) scLaw.nd rfl (Or.inl rfl) (pe_call T.okDraw hr1 rfl T.draw.g T.draw.F.kp T.draw.b .nil pass0 (pa_cons (pv 3) (pa_cons (pe_callB call_len_seq (by rfl) T.tLen PySem.boot_len (pa_cons (pv 6) pa_nil)) pa_nil))))
            (pss_one (ps_asg (pe_call T.okPick hr2 rfl T.pick.g T.pick.F.kp T.pick.b .nil pass0 (pa_cons (pv 3) (pa_cons (pe_lst (pa_cons pe_str (pa_cons pe_str (pa_cons pe_str (pa_cons pe_str (pa_cons pe_str (pa_cons pe_non (pa_cons pe_str (pa_cons (pe_call (T.okThing 8) hr10 rfl T.thing.g T.thing.F.kp T.thing.b .nil pass0 (pa_cons (pv 3) (pa_cons pe_int pa_nil))) pa_nil))))))))) pa_nil))) (pg_sub (pv 6) (pv 8) set_list)))))
          (pss_cons (ps_if (PW.pt (pw_and (pt_cmpR op_eq (pv 5) pe_str (nomark _)) (pw_and1 (pt_cmpR op_eq (pe_call T.okDraw hr1 rfl T.draw.g T.draw.F.kp T.draw.b .nil pass0 (pa_cons (pv 3) (pa_cons pe_int pa_nil))) pe_int (nomark _)))))
            (pss_one (ps_asg (pe_call T.okOdd hr rfl T.odd.g T.odd.F.kp T.odd.b .nil pass0 (pa_cons (pv 3) pa_nil)) (pg_sub (pv 6) pe_int set_list))) pss_nil)
          (pss_one (ps_if (pt_cmpR op_ne (pe_call T.okHeard hr6 rfl T.heard.g T.heard.F.kp T.heard.b .nil pass0 (pa_cons (pv 5) (pa_cons (pv 6) pa_nil))) (pe_call T.okDue hr3 rfl T.due.g T.due.F.kp T.due.b .nil pass0 (pa_cons (pv 5) (pa_cons (pv 6) pa_nil))) (nomark _)) (pss_one (ps_ret pe_bl)) pss_nil)))))))))))
      (pss_one (ps_ret pe_bl)))), ?_⟩
    refine fun gd ud => ?_
    have D0 : (upd H gd (.dK [])) gd = some (.dK []) := upd_same
    have s0 : Same H (upd H gd (.dK [])) := same_new ud
    generalize upd H gd (.dK []) = G0 at *
    refine ⟨(by show 2 ≤ sizeLine; decide), fun w1 u1 => ?_⟩
    obtain ⟨G1, e1, s1, L1⟩ := new_at u1 (.tup [.str "ok", .str "b"])
    rw [← e1]
    clear e1
    refine ⟨(by show 2 ≤ sizeLine; decide), fun w2 u2 => ?_⟩
    obtain ⟨G2, e2, s2, L2⟩ := new_at u2 (.tup [.str "no", .str "a"])
    rw [← e2]
    clear e2
    refine ⟨(by show 2 ≤ sizeLine; decide), fun wl u3 => ?_⟩
    obtain ⟨G3, e3, s3, L3⟩ := new_at u3 (.lst [.ref w1, .ref w2])
    rw [← e3]
    clear e3
    refine ⟨(by show 3 ≤ sizeLine; decide), fun l1 u4 => ?_⟩
    obtain ⟨G4, e4, s4, L4⟩ := new_at u4 (.lst [.str "a", .str "pay", .ref wl])
    rw [← e4]
    clear e4
    refine ⟨(by show 3 ≤ sizeLine; decide), fun l2 u5 => ?_⟩
    obtain ⟨G5, e5, s5, L5⟩ := new_at u5 (.lst [.str "a", .str "x", .str "b"])
    rw [← e5]
    clear e5
    refine ⟨(by show 1 ≤ sizeLine; decide), fun l3 u6 => ?_⟩
    obtain ⟨G6, e6, s6, L6⟩ := new_at u6 (.lst [.str "zzzz"])
    rw [← e6]
    clear e6
    have D6 : G6 gd = some (.dK []) := s6 _ _ (s5 _ _ (s4 _ _ (s3 _ _ (s2 _ _ (s1 _ _ D0)))))
    have K1 : G6 w1 = _ := s6 _ _ (s5 _ _ (s4 _ _ (s3 _ _ (s2 _ _ L1))))
    have K2 : G6 w2 = _ := s6 _ _ (s5 _ _ (s4 _ _ (s3 _ _ L2)))
    have K3 : G6 wl = _ := s6 _ _ (s5 _ _ (s4 _ _ L3))
    have K4 : G6 l1 = _ := s6 _ _ (s5 _ _ L4)
    have K5 : G6 l2 = _ := s6 _ _ L5
    have n1 : w1 ≠ gd := fun z => by rw [z, D6] at K1; cases K1
    have n2 : w2 ≠ gd := fun z => by rw [z, D6] at K2; cases K2
    have n3 : wl ≠ gd := fun z => by rw [z, D6] at K3; cases K3
    have n4 : l1 ≠ gd := fun z => by rw [z, D6] at K4; cases K4
    have n5 : l2 ≠ gd := fun z => by rw [z, D6] at K5; cases K5
    have n6 : l3 ≠ gd := fun z => by rw [z, D6] at L6; cases L6
    refine ⟨D6, [(Sum.inr "ask", .ref l1), (Sum.inr "note", .ref l2), (Sum.inr "end", .ref l3)], rfl, (by show 3 ≤ 15; decide), ?_⟩
    refine ⟨(by show 4 ≤ sizeLine; decide), fun l4 u7 => ?_⟩
    have n7 : l4 ≠ gd := fun z => by rw [z, upd_same] at u7; cases u7
    have u7' : G6 l4 = none := by rwa [upd_ne n7] at u7
    refine ⟨_, rfl, gd, _, rfl, DPut.k (k := Sum.inr "mark") (by rw [upd_ne n7.symm]; exact upd_same) (by show 3 < sizeLine; decide), ?_⟩
    generalize eF : upd (upd (upd G6 gd (.dK (mergeK [] [(Sum.inr "ask", .ref l1), (Sum.inr "note", .ref l2), (Sum.inr "end", .ref l3)]))) l4 (.lst [.str "mark", .str "m", .str "b", .str "b"])) gd
      (.dK (putK (mergeK [] [(Sum.inr "ask", .ref l1), (Sum.inr "note", .ref l2), (Sum.inr "end", .ref l3)]) (Sum.inr "mark") (.ref l4))) = F at *
    have away : ∀ {b : Addr} {o : HO}, G6 b = some o → b ≠ gd → F b = some o := fun {b o} e ne => by
      have : b ≠ l4 := ne_of_none e u7'
      rw [← eF, upd_ne ne, upd_ne this, upd_ne ne]
      exact e
    have SF : Same H F := fun b o e => away (s6 _ _ (s5 _ _ (s4 _ _ (s3 _ _ (s2 _ _ (s1 _ _ (s0 _ _ e))))))) (ne_of_none e ud)
    have DF : F gd = some (.dK [(Sum.inr "ask", .ref l1), (Sum.inr "note", .ref l2), (Sum.inr "end", .ref l3), (Sum.inr "mark", .ref l4)]) := by rw [← eF, upd_same]; rfl
    have good : ∀ {k : Str} {n : Nat}, Kind k n → ∃ lk xs, valV [((Sum.inr "ask" : Key), V.ref l1), (Sum.inr "note", .ref l2), (Sum.inr "end", .ref l3), (Sum.inr "mark", .ref l4)] (Sum.inr k) = some (.ref lk) ∧ SqL K F lk xs ∧ DpAll K F xs (goodD k) := fun {k n} hk => by
      rcases hk with ⟨rfl, _⟩ | ⟨rfl, _⟩ | ⟨rfl, _⟩ | ⟨rfl, _⟩
      · exact ⟨l1, _, rfl, SqL.of (away K4 n4), .cons (.str _) (.cons (.str _) (.cons (.lst (SqL.of (away K3 n3)) (.cons (.tup (SqT.of (away K1 n1)) (.cons (.str _) (.cons (.str _) .nil))) (.cons (.tup (SqT.of (away K2 n2)) (.cons (.str _) (.cons (.str _) .nil))) .nil))) .nil))⟩
      · exact ⟨l2, _, rfl, SqL.of (away K5 n5), .cons (.str _) (.cons (.str _) (.cons (.str _) .nil))⟩
      · refine ⟨l4, [.str "mark", .str "m", .str "b", .str "b"], rfl, SqL.of ?_, .cons (.str _) (.cons (.str _) (.cons (.str _) (.cons (.str _) .nil)))⟩
        rw [← eF, upd_ne n7, upd_same]
      · exact ⟨l3, _, rfl, SqL.of (away L6 n6), .cons (.str _) .nil⟩
    have hSF : SqL K F sa (ns.map V.int) := SF.seq hS
    clear eF away D0 s0 s1 s2 s3 s4 s5 s6 L1 L2 L3 L4 L5 L6 K1 K2 K3 K4 K5 D6 n1 n2 n3 n4 n5 n6 n7 u1 u2 u3 u4 u5 u6 u7 u7'
    have jb : ∀ m : Int, 0 ≤ m → 2 ≤ (if (if m < 5 then m else 5) > (2 : Int) then (if m < 5 then m else 5) else 2) ∧ (if (if m < 5 then m else 5) > (2 : Int) then (if m < 5 then m else 5) else 2) ≤ 5 := fun m hm => by split <;> split <;> omega
    refine ⟨_, rfl, sa, _, rfl, .inl hSF, _, _, rfl, _, _, rfl, _, rfl, ?_⟩
    obtain ⟨j2, j5⟩ := jb ((ns.map V.int).length : Int) (by omega)
    refine ⟨by omega, by omega, for_range (lo := 0) (fun i σ1 H1 => ∃ v2 v3 v4 v5 v6 v7 v8, σ1 = [some (.ref sa), some (.ref gd), v2, v3, v4, v5, v6, v7, v8] ∧ Same F H1) ⟨_, _, _, _, _, _, _, rfl, Same.refl F⟩ ?_ ?_⟩
    · rintro i _ H1 hi ⟨v2, v3, v4, v5, v6, v7, v8, rfl, sF1⟩
      refine ⟨_, rfl, _, rfl, sa, ns, _, rfl, sF1.seq hSF, hlen, by omega, by omega, fun H2 d l D2 => ?_⟩
      refine ⟨10, rfl, by decide, by decide, for_range (lo := 0) (fun j σ2 H' => ∃ G v2 v4 v5 v6 v7 v8, σ2 = [some (.ref sa), some (.ref gd), v2, some (.ref d), v4, v5, v6, v7, v8] ∧ Same F G ∧ Deal G H' d l) ⟨H1, _, _, _, _, _, _, rfl, sF1, D2⟩ ?_ ?_⟩
      · rintro j _ H3 hj ⟨G, v2, v4, v5, v6, v7, v8, rfl, sG, DG⟩
        -- kind
        refine ⟨_, rfl, (by show 4 ≤ sizeLine; decide), fun q uq => ?_⟩
        have DG1 := DG.put (o := .lst [.str "ask", .str "note", .str "mark", .str "end"]) uq
        have sG1 : Same F (upd G q (.lst [.str "ask", .str "note", .str "mark", .str "end"])) := sG.trans (same_new (DG.same.free uq))
        have qG : SqL K (upd G q (.lst [.str "ask", .str "note", .str "mark", .str "end"])) q [.str "ask", .str "note", .str "mark", .str "end"] := SqL.of upd_same
        generalize upd G q (.lst [.str "ask", .str "note", .str "mark", .str "end"]) = G1 at *
        refine ⟨G1, d, l, q, _, rfl, DG1, qG, by simp, (by show 4 < 1000; decide), fun H4 x D4 hx => ?_⟩
        obtain ⟨k, n, rfl, hk⟩ : ∃ k n, x = .str k ∧ Kind k n := by
          simp only [List.mem_cons, List.not_mem_nil, or_false] at hx
          rcases hx with rfl | rfl | rfl | rfl
          · exact ⟨"ask", 3, rfl, .inl ⟨rfl, rfl⟩⟩
          · exact ⟨"note", 3, rfl, .inr (.inl ⟨rfl, rfl⟩)⟩
          · exact ⟨"mark", 4, rfl, .inr (.inr (.inl ⟨rfl, rfl⟩))⟩
          · exact ⟨"end", 1, rfl, .inr (.inr (.inr ⟨rfl, rfl⟩))⟩
        obtain ⟨lk, gx, ev, hlk, hgx⟩ := good hk
        obtain ⟨glen, gfin, gdue⟩ := good_due hk
        have S4 : Same F H4 := sG1.trans D4.same
        -- its parts
        refine ⟨_, rfl, _, rfl, gd, _, rfl, by have z := DGet.k (k := Sum.inr k) (S4 _ _ DF); rw [ev] at z; exact z, lk, gx, rfl, .inl (S4.seq hlk), fun pl up => ?_⟩
        have pG : G1 pl = none := D4.same.free up
        have D5 := D4.put (o := .lst gx) up
        have kind : Kind k (goodD k).length := by rw [glen]; exact hk
        refine ⟨_, rfl, _, rfl, k, pl, gx, goodD k, rfl, SqL.of upd_same, dpAll_same (S4.trans (same_new up)) _ _ hgx, gfin, kind, fun H5 s5 => ⟨rfl, _, rfl, ?_⟩⟩
        rw [gdue, show (!decide (V.str Str.empty = V.str "")) = false from rfl]
        refine iteF ?_
        have D6 := D5.on s5
        dsimp only [tNext, gName]
        refine seq_cut (fun σ1 H1 => ∃ (B : Hp) (xs : List V) (ds : List PyData) (v7 v8 : Option V), σ1 = [some (.ref sa), some (.ref gd), v2, some (.ref d), some (.int (0 + j)), some (.str k), some (.ref pl), v7, v8] ∧ Same F B ∧ B pl = none ∧ Deal (upd B pl (.lst xs)) H1 d l ∧ DpAll K B xs ds ∧ fineAll ds = true ∧ Kind k ds.length) ?after1 fun after1 => ?go1
        case go1 =>
          refine ⟨_, rfl, _, d, l, 2, rfl, D6, by decide, by decide, fun H6 r D7 r0 r1 => ⟨_, _, rfl, rfl, _, rfl, by omega, by omega, for_range (lo := 0) (fun _ σ1 H1 => ∃ (B : Hp) (xs : List V) (ds : List PyData) (v7 v8 : Option V), σ1 = [some (.ref sa), some (.ref gd), v2, some (.ref d), some (.int (0 + j)), some (.str k), some (.ref pl), v7, v8] ∧ Same F B ∧ B pl = none ∧ Deal (upd B pl (.lst xs)) H1 d l ∧ DpAll K B xs ds ∧ fineAll ds = true ∧ Kind k ds.length)
            ⟨G1, gx, goodD k, _, _, rfl, sG1, pG, D7, dpAll_same sG1 _ _ hgx, gfin, kind⟩ ?_ fun σ1 H1 h => after1 σ1 H1 h⟩⟩
          rintro e _ H1 he ⟨B, xs, ds, v7', v8', rfl, sB, nB, DB, hx, hf, hkd⟩
          have el := dpAll_len hx
          have few : 0 < xs.length ∧ xs.length ≤ 4 := by
            rcases hkd with ⟨_, h⟩ | ⟨_, h⟩ | ⟨_, h⟩ | ⟨_, h⟩ <;> omega
          have hpl : ∀ {X : Hp}, Deal (upd B pl (.lst xs)) X d l → X pl = some (.lst xs) := fun D => D.same _ _ upd_same
          refine ⟨_, rfl, _, rfl, pl, xs, rfl, .inl (SqL.of (hpl DB)), _, d, l, _, rfl, DB, by omega, by omega, fun H2' r' D8 r0' r1' => ?_⟩
          refine ⟨_, rfl, _, rfl, _, d, l, 7, rfl, by decide, by decide, D8, fun G' H3' N x pd m hd hfx => ⟨(by show 8 ≤ sizeLine; decide), fun q2 uq2 => ?_⟩⟩
          have m2 := m.put (o := .lst [.str "abcde", .str "A", .str "", .str "a ", .str "a\n", .non, .str "ab", x]) uq2
          have q2G : SqL K (upd G' q2 (.lst [.str "abcde", .str "A", .str "", .str "a ", .str "a\n", .non, .str "ab", x])) q2 [.str "abcde", .str "A", .str "", .str "a ", .str "a\n", .non, .str "ab", x] := SqL.of upd_same
          have all : DpAll K (upd N q2 (.lst [.str "abcde", .str "A", .str "", .str "a ", .str "a\n", .non, .str "ab", x])) [.str "abcde", .str "A", .str "", .str "a ", .str "a\n", .non, .str "ab", x] [.str "abcde", .str "A", .str "", .str "a ", .str "a\n", .none, .str "ab", pd] :=
            .cons (.str _) (.cons (.str _) (.cons (.str _) (.cons (.str _) (.cons (.str _) (.cons .non (.cons (.str _) (.cons (dp_same (m.stay uq2) _ _ hd) .nil)))))))
          have allf : fineAll [.str "abcde", .str "A", .str "", .str "a ", .str "a\n", .none, .str "ab", pd] = true := by
            have z : fineAll ([.str "abcde", .str "A", .str "", .str "a ", .str "a\n", .none, .str "ab"] ++ [pd]) = true := by
              rw [fineAll_append, Bool.and_eq_true]
              refine ⟨by decide +kernel, ?_⟩
              rw [fineAll, hfx, fineAll]
              rfl
            exact z
          refine ⟨_, d, l, q2, _, rfl, m2.dl, q2G, by simp, (by show 8 < 1000; decide), fun H4' y D9 hy => ?_⟩
          obtain ⟨pdy, hmy, hdy⟩ := dpAll_mem all hy
          obtain ⟨b1, b2, b3, b4⟩ := News.past nB (m2.redeal D9)
          refine ⟨_, rfl, _, rfl, pl, xs, r', _, rfl, rfl, b3.same _ _ upd_same, ixN_in r0' r1', ?_⟩
          exact ⟨_, _, ds.set r'.toNat pdy, _, _, rfl, sB.trans b1, b2, Deal.over b3, dpAll_set (dp_same b4 _ _ hdy) _ (dpAll_same b1 _ _ hx), fineAll_set (fineAll_mem allf hmy) _ _ hf, by rw [List.length_set]; exact hkd⟩
        case after1 =>
          rintro _ H6 ⟨B, xs, ds, v7', v8', rfl, sB, nB, DB, hx, hf, hkd⟩
          refine seq_cut (fun σ1 H1 => ∃ (B : Hp) (xs : List V) (ds : List PyData) (v7 v8 : Option V), σ1 = [some (.ref sa), some (.ref gd), v2, some (.ref d), some (.int (0 + j)), some (.str k), some (.ref pl), v7, v8] ∧ Same F B ∧ B pl = none ∧ Deal (upd B pl (.lst xs)) H1 d l ∧ DpAll K B xs ds ∧ fineAll ds = true ∧ Kind k ds.length) ?after2 fun after2 => ?go2
          case go2 =>
            refine ⟨_, rfl, rfl, _, rfl, ?_⟩
            by_cases ek : k = "ask"
            · have e1 : decide (V.str k = V.str "ask") = true := by rw [ek]; rfl
              rw [e1]
              refine iteT ⟨_, rfl, _, d, l, 2, rfl, DB, by decide, by decide, fun H7 r D7 _ _ => ⟨rfl, _, rfl, ?_⟩⟩
              rw [dec_int]
              cases er : (r == 0) with
              | true =>
                refine iteT ⟨_, rfl, _, d, l, rfl, D7, fun G' H8 N x pd m hd hfx => ?_⟩
                obtain ⟨b1, b2, b3, b4⟩ := News.past nB m
                have l3 : xs.length = 3 := by
                  rw [dpAll_len hx]
                  rcases hkd with ⟨_, h⟩ | ⟨h, _⟩ | ⟨h, _⟩ | ⟨h, _⟩
                  · exact h
                  · exact absurd (ek.symm.trans h) (by decide)
                  · exact absurd (ek.symm.trans h) (by decide)
                  · exact absurd (ek.symm.trans h) (by decide)
                refine ⟨_, rfl, pl, xs, 2, _, rfl, rfl, b3.same _ _ upd_same, ixN_in (by decide) (by omega), ?_⟩
                exact after2 _ _ ⟨_, _, ds.set (2 : Int).toNat pd, _, _, rfl, sB.trans b1, b2, Deal.over b3, dpAll_set (dp_same b4 _ _ hd) _ (dpAll_same b1 _ _ hx), fineAll_set hfx _ _ hf, by rw [List.length_set]; exact hkd⟩
              | false => exact iteF (after2 _ _ ⟨B, xs, ds, _, _, rfl, sB, nB, D7, hx, hf, hkd⟩)
            · have e1 : decide (V.str k = V.str "ask") = false := by simpa using ek
              rw [e1]
              exact iteF (iteF (after2 _ _ ⟨B, xs, ds, _, _, rfl, sB, nB, DB, hx, hf, hkd⟩))
          case after2 =>
            rintro _ H7 ⟨B, xs, ds, v7', v8', rfl, sB, nB, DB, hx, hf, hkd⟩
            have SB : Same B H7 := (same_new nB).trans DB.same
            have hq : SqL K H7 pl xs := SqL.of (DB.same _ _ upd_same)
            refine ⟨_, rfl, _, rfl, k, pl, xs, ds, rfl, hq, dpAll_same SB _ _ hx, hf, hkd, fun H8 s8 => ?_⟩
            refine ⟨_, rfl, _, rfl, k, pl, xs, ds, rfl, s8.seq hq, dpAll_same (SB.trans s8) _ _ hx, hf, hkd, fun H9 s9 => ⟨rfl, _, rfl, ?_⟩⟩
            rw [show (!decide (V.str (dueOf k ds) = V.str (dueOf k ds))) = false from by simp]
            exact iteF ⟨upd B pl (.lst xs), _, _, _, _, _, _, rfl, sB.trans (same_new nB), DB.on (s8.trans s9)⟩
      · rintro _ H' ⟨G, v2, v4, v5, v6, v7, v8, rfl, sG, DG⟩
        exact ⟨_, _, _, _, _, _, _, rfl, sG.trans DG.same⟩
    · rintro _ H1 ⟨v2, v3, v4, v5, v6, v7, v8, rfl, _⟩
      exact fin H1
end
end K3

set_option Elab.async false
set_option linter.all false
set_option maxRecDepth 100000
set_option maxHeartbeats 0
/-! The head of k03: what the top leaves, told by names. -/
namespace K3
open PySem PySem.Spec PyProof.Rows L2 Lw
/-! ### a def without defaults -/
theorem fun_of {K : PySem.W.Frag} {x qual : PySem.Str} {st : Stmt} {f : Addr} {fd : FuncData} (F : FunD K x qual (defArgs st) (defBody st) (defScope st) [] [] f fd) : Fun K x qual st f fd := by
  obtain ⟨oc, od, dV, kV, doc, pm, an, cdv, ct, osl, h1, h2, h3, h4, _⟩ := F.ex
  have e : dV = .none := by
    rcases h4 with ⟨_, h⟩ | ⟨h, _⟩
    · exact h
    · exact absurd rfl h
  subst e
  exact ⟨⟨oc, od, kV, doc, pm, an, cdv, ct, osl, h1, h2, h3⟩, F.kp⟩
def fnTop (x : PySem.Str) (st : Stmt) : He.DefD := ⟨(x, none), x, x, defArgs st, defBody st, defScope st, [], []⟩
def fnIn (C qual : PySem.Str) (st : Stmt) : He.DefD := ⟨(C, some "__init__"), "__init__", qual, defArgs st, defBody st, defScope st, [], []⟩
def fns : List He.DefD := [fnTop "is_name" sIsName, fnTop "_expect_names" sExpect, fnTop "_are_ways" sWays, fnTop "_is_way" sWay, fnTop "_law_deal" sDeal, fnTop "_law_draw" sDraw, fnTop "_law_pick" sPick, fnTop "_law_thing" sThing, fnTop "_law_is_title" sTitle, fnTop "_law_heard" sHeard,
  fnTop "_law_are_pairs" sPairs, fnTop "_law_due" sDue, fnTop "_law_odd_pairs" sOdd, fnTop "law" sLaw, fnIn "InvalidRow" "InvalidRow.__init__" sIr, fnIn "Row" "Row.__init__" sRow, fnIn "Ask" "Ask.__init__" sAsk, fnIn "Note" "Note.__init__" sNote, fnIn "Gate" "Gate.__init__" sGate, fnIn "End" "End.__init__" sEnd]
def rowsN : List PySem.Str := ["Ask", "Note", "Gate", "End"]
def rowsR : List PySem.Str := ["Row", "Ask", "Note", "Gate", "End"]
def attrsN : List PySem.Str := ["place", "name", "ways", "word", "then", "mark", "newer", "elder", "_text"]
def glos : List PySem.Str := ["is_name", "_expect_names", "_are_ways", "_is_way", "_law_deal", "_law_draw", "_law_pick", "_law_thing", "_law_is_title", "_law_heard", "_law_are_pairs", "_law_due", "_law_odd_pairs", "law", "LogError", "InvalidRow", "InvalidEdition", "Row", "Ask", "Note", "Gate", "End"]
def frees_ : List PySem.Str := ["str", "int", "abs", "len", "all", "isinstance", "tuple", "list", "set", "range", "zip", "max", "min"]
def fas : List He.Fa := [.str "_LETTERS" abc, .exm "InvalidRow" "LogError" true] ++ (glos.map He.Fa.glo ++ (frees_.map He.Fa.free ++ (rowsR.map He.Fa.cls ++ (rowsR.map He.Fa.mkr ++ rowsN.flatMap fun C => attrsN.map fun n => He.Fa.noat C n))))
/-! ### what of InvalidRow, of Row's own __init__ -/
def oexB (K : PySem.W.Frag) (C : Addr) : Bool := match K.lookup C with
  | some ⟨.type "type", _, .cls cd, sl⟩ => (match cd.mro, sl.toList with
    | .ref D :: bm, [_, _, _, _, some (.builtin n), _] => (D == C && n == "ValueError.__new__") && (!cd.hasDel && (cd.hasDict && PySem.HandSPX.refsVE bm))
    | _, _ => false)
  | _ => false
theorem oexB_ok {K : PySem.W.Frag} {C : Addr} (q : oexB K C = true) : ∃ nm qn N bs bm sn sub ab col dd k0 k1 k2 k3 k5, K.lookup C = some (excClassObj nm qn C N bs bm true sn sub ab col dd k0 k1 k2 k3 k5 "ValueError.__new__") ∧ PySem.HandSPX.refsVE bm = true := by
  unfold oexB at q
  split at q
  · rename_i dd cd sl ho
    split at q
    · rename_i D bm k0 k1 k2 k3 n k5 hm hs
      simp only [Bool.and_eq_true, beq_iff_eq, Bool.not_eq_true'] at q
      obtain ⟨⟨rfl, rfl⟩, hdel, hdict, ht⟩ := q
      obtain ⟨nm, bs, mro, ns, qn, hd, sn, sub, ab, col, del⟩ := cd
      dsimp only at hm hdel hdict
      subst hm hdel hdict
      obtain ⟨lst⟩ := sl
      dsimp only at hs
      subst hs
      exact ⟨nm, qn, ns, bs, bm, sn, sub, ab, col, dd, k0, k1, k2, k3, k5, ho, ht⟩
    · cases q
  · cases q
def extra (K : PySem.W.Frag) : Bool :=
  oexB K (He.ga K "InvalidRow") &&
  decide (PySem.W.findIn K (.ref (He.ga K "InvalidRow")) "__setattr__" = some (some (.builtin "object.__setattr__"))) &&
  decide (PySem.W.subIn K (.ref (He.ga K "InvalidRow")) (.type "BaseException") = some true) &&
  decide (PySem.W.typeIn K (.ref (He.ga K "InvalidRow")) = some (.type "type")) &&
  PySem.W.keepIn K (.ref (He.ga K "InvalidRow")) &&
  decide (PySem.W.findIn K (.ref (He.ga K "InvalidRow")) "__init__" = some (some (.ref (He.ma K (He.ga K "InvalidRow") "__init__")))) &&
  decide (PySem.W.typeIn K (.ref (He.ma K (He.ga K "InvalidRow") "__init__")) = some (.type "function")) &&
  decide (PySem.W.findIn K (.ref (He.ga K "InvalidRow")) "word" = some none) &&
  xfB K (He.ga K "InvalidRow") &&
  decide (PySem.W.findIn K (.ref (He.ga K "InvalidRow")) "__class__" = some (some (.builtin "object.__class__"))) &&
  decide (PySem.W.specialIn K (.builtin "object.__class__") "__get__" = some (some (.builtin "getset_descriptor.__get__"))) &&
  decide (PySem.W.takesIn K (.builtin "object.__class__") = some true) &&
  decide (PySem.W.mroIn K (He.ga K "InvalidRow") (.type "object") = some true) &&
  decide (PySem.W.kitOne K (.ref (He.ga K "InvalidRow")) (.ref (He.ga K "InvalidEdition")) = some false) &&
  PySem.W.readsIn K (He.ga K "Row") (.type "type") &&
  decide (PySem.W.specialIn K (.ref (He.ga K "Row")) "__getattribute__" = some (some (.builtin "type.__getattribute__"))) &&
  (match PySem.W.findCls K (.ref (He.ga K "Row")) (.type "type") "__init__" with
    | some (.val v) => decide (v = .ref (He.ma K (He.ga K "Row") "__init__"))
    | _ => false)
/-! ### the Hook: the names' objects, the module of all statics beside -/
def reach (g : Addr → Option Obj) : List Addr := PySem.cStatics :: He.asD g 5
def obM (g : Addr → Option Obj) : He.AlD × Bool := (He.obsD fas fns (He.frG g (reach g)), extra (He.frG g (reach g)))
def hk : PySem.W.Hook where
  α := He.AlD × Bool
  obs := fun s => obM s.heap.get?
  val := fun _ => (He.valD fns, true)
  says := fun _ h => ∃ K : PySem.W.Frag, K.In h ∧ He.SaysD fas fns K ∧ extra K = true
  of := fun _ _ e => ⟨_, He.frG_in, congrArg Prod.fst e, congrArg Prod.snd e⟩
  keeps := fun _ _ _ ⟨K, hK, c⟩ k => ⟨K, PySem.W.Frag.In.keeps hK k, c⟩
def ob (s : PySem.W.SharedT) : He.AlD × Bool := obM (HandSHeadRun.getT s)
theorem ob_eq (s : PySem.W.SharedT) : ob s = hk.obs s.abs := by
  have e : HandSHeadRun.getT s = s.abs.heap.get? := funext (HandSHeadRun.getT_eq s)
  show obM _ = obM _
  rw [e]
abbrev R : PySem.W.OpenRow := PySem.W.OpenLaw.row PySem.Challenge.rw_elderlogs_k03_rows_refused
def others : List PySem.Str := ["_wall", "LogError", "InvalidRow", "InvalidEdition", "InvalidText", "_LETTERS", "is_name", "Row", "Ask", "Note", "Gate", "End", "_expect_names", "_are_ways", "_is_way", "_row_of", "_law_deal", "_law_draw", "_law_pick", "_law_mixed", "_law_thing", "_law_is_title", "_law_heard", "_law_are_pairs", "_law_due", "_law_odd_pairs"]
theorem run (w : World) : HandSHeadRun.RunEq R (PySem.W.view R.prog [30]) hk ob 8000 others w := by
  intro os
  kernel_rfl
end K3

set_option Elab.async false
set_option linter.all false
set_option maxRecDepth 100000
set_option maxHeartbeats 0
namespace K3
open PySem PySem.Spec PyProof.Rows L2 Lw
section
variable {K : PySem.W.Frag} {h : Heap} {mg : PySem.Str → Option Value}
theorem top_of (X : K.In h) (G : h.Ns mainGlobals mg) (c : He.SaysD fas fns K) {x : PySem.Str} {st : Stmt} {ps : List PySem.Str} (i j : Nat) (hd : fns[i]? = some (fnTop x st)) (hg : fas[j]? = some (.glo x)) (hb : ∀ fd, Fun K x x st (He.ga K x) fd → Binds K fd ps []) :
    ∃ fd, Top K mg x st (He.ga K x) fd ps := by
  obtain ⟨fd, F⟩ := c.def_ i hd
  have F' : Fun K x x st (He.ga K x) fd := fun_of (st := st) F
  exact ⟨fd, F', He.glo_ok X G (c.fact j hg), hb fd F'⟩
theorem row_of (X : K.In h) (G : h.Ns mainGlobals mg) (c : He.SaysD fas fns K) {x qual : PySem.Str} {st : Stmt} {ps : List PySem.Str} (i j k m : Nat) (hd : fns[i]? = some (fnIn x qual st)) (hg : fas[j]? = some (.glo x)) (hc : fas[k]? = some (.cls x)) (hm : fas[m]? = some (.mkr x))
    (hb : ∀ fd, Fun K "__init__" qual st (He.ma K (He.ga K x) "__init__") fd → Binds K fd ps []) : ∃ fd, RowC K mg x qual st (He.ga K x) (He.ma K (He.ga K x) "__init__") fd ps := by
  obtain ⟨fd, F⟩ := c.def_ i hd
  have F' : Fun K "__init__" qual st (He.ma K (He.ga K x) "__init__") fd := fun_of (st := st) F
  exact ⟨fd, F', hb fd F', He.glo_ok X G (c.fact j hg), He.cls_ok (c.fact k hc), He.mkr_ok (c.fact m hm)⟩
theorem no_of (c : He.SaysD fas fns K) : ∀ C ∈ [He.ga K "Ask", He.ga K "Note", He.ga K "Gate", He.ga K "End"], ∀ n ∈ (["place", "name", "ways", "word", "then", "mark", "newer", "elder", "_text"] : List PySem.Str), NoAttr K C n := by
  have key : ∀ x ∈ rowsN, ∀ n ∈ attrsN, NoAttr K (He.ga K x) n := fun x hx n hn => by
    have m : He.Fa.noat x n ∈ fas := by
      unfold fas
      refine List.mem_append_right _ (List.mem_append_right _ (List.mem_append_right _ (List.mem_append_right _ (List.mem_append_right _ ?_))))
      exact List.mem_flatMap.mpr ⟨x, hx, List.mem_map.mpr ⟨n, hn, rfl⟩⟩
    obtain ⟨i, hi, e⟩ := List.mem_iff_getElem.mp m
    exact He.noat_ok (c.fact i (by rw [List.getElem?_eq_getElem hi, e]))
  intro C hC n hn
  simp only [List.mem_cons, List.not_mem_nil, or_false] at hC
  rcases hC with rfl | rfl | rfl | rfl
  · exact key "Ask" (by simp [rowsN]) n hn
  · exact key "Note" (by simp [rowsN]) n hn
  · exact key "Gate" (by simp [rowsN]) n hn
  · exact key "End" (by simp [rowsN]) n hn
theorem facts {P : Program} {w : World} {f : Addr} (X : K.In h) (G : h.Ns mainGlobals mg) (hfa : mg ("law" : PySem.Str) = some (.ref f)) (c : He.SaysD fas fns K) (ex : extra K = true) :
    ∃ fd : FuncData, (∀ (s : Shared) (v : Value), BindsTo s fd ⟨[v], []⟩ [("_law_script", v)]) ∧ ∀ base : Heap, K.In base → base.Ns mainGlobals mg → FnOk P w K mg base CX0 12 f fd ["_law_script"] (spLaw K) := by
  obtain ⟨d0, T0⟩ := top_of X G c (ps := ["value"]) 0 2 rfl rfl fun fd F => F.binds fun _ _ _ _ _ _ us hl => match us, hl with | [_], _ => rfl
  obtain ⟨d1, T1⟩ := top_of X G c (ps := ["pairs"]) 1 3 rfl rfl fun fd F => F.binds fun _ _ _ _ _ _ us hl => match us, hl with | [_], _ => rfl
  obtain ⟨d2, T2⟩ := top_of X G c (ps := ["value"]) 2 4 rfl rfl fun fd F => F.binds fun _ _ _ _ _ _ us hl => match us, hl with | [_], _ => rfl
  obtain ⟨d3, T3⟩ := top_of X G c (ps := ["value"]) 3 5 rfl rfl fun fd F => F.binds fun _ _ _ _ _ _ us hl => match us, hl with | [_], _ => rfl
  obtain ⟨d4, T4⟩ := top_of X G c (ps := ["_law_script", "_law_base"]) 4 6 rfl rfl fun fd F => F.binds fun _ _ _ _ _ _ us hl => match us, hl with | [_, _], _ => rfl
  obtain ⟨d5, T5⟩ := top_of X G c (ps := ["_law_deal_here", "_law_many"]) 5 7 rfl rfl fun fd F => F.binds fun _ _ _ _ _ _ us hl => match us, hl with | [_, _], _ => rfl
  obtain ⟨d6, T6⟩ := top_of X G c (ps := ["_law_deal_here", "_law_some"]) 6 8 rfl rfl fun fd F => F.binds fun _ _ _ _ _ _ us hl => match us, hl with | [_, _], _ => rfl
  obtain ⟨d7, T7⟩ := top_of X G c (ps := ["_law_deal_here", "_law_deep"]) 7 9 rfl rfl fun fd F => F.binds fun _ _ _ _ _ _ us hl => match us, hl with | [_, _], _ => rfl
  obtain ⟨d8, T8⟩ := top_of X G c (ps := ["_law_thing_here"]) 8 10 rfl rfl fun fd F => F.binds fun _ _ _ _ _ _ us hl => match us, hl with | [_], _ => rfl
  obtain ⟨d9, T9⟩ := top_of X G c (ps := ["_law_kind", "_law_parts"]) 9 11 rfl rfl fun fd F => F.binds fun _ _ _ _ _ _ us hl => match us, hl with | [_, _], _ => rfl
  obtain ⟨d10, T10⟩ := top_of X G c (ps := ["_law_thing_here"]) 10 12 rfl rfl fun fd F => F.binds fun _ _ _ _ _ _ us hl => match us, hl with | [_], _ => rfl
  obtain ⟨d11, T11⟩ := top_of X G c (ps := ["_law_kind", "_law_parts"]) 11 13 rfl rfl fun fd F => F.binds fun _ _ _ _ _ _ us hl => match us, hl with | [_, _], _ => rfl
  obtain ⟨d12, T12⟩ := top_of X G c (ps := ["_law_deal_here"]) 12 14 rfl rfl fun fd F => F.binds fun _ _ _ _ _ _ us hl => match us, hl with | [_], _ => rfl
  obtain ⟨d13, T13⟩ := top_of X G c (ps := ["_law_script"]) 13 15 rfl rfl fun fd F => F.binds fun _ _ _ _ _ _ us hl => match us, hl with | [_], _ => rfl
  obtain ⟨d14, F14⟩ := c.def_ 14 (d := fnIn "InvalidRow" "InvalidRow.__init__" sIr) rfl
  have F14' : Fun K "__init__" "InvalidRow.__init__" sIr (He.ma K (He.ga K "InvalidRow") "__init__") d14 := fun_of (st := sIr) F14
  obtain ⟨d15, R15⟩ := row_of X G c (ps := ["self", "words"]) 15 19 37 42 rfl rfl rfl rfl fun fd F => F.binds fun _ _ _ _ _ _ us hl => match us, hl with | [_, _], _ => rfl
  obtain ⟨d16, R16⟩ := row_of X G c (ps := ["self", "place", "name", "ways"]) 16 20 38 43 rfl rfl rfl rfl fun fd F => F.binds fun _ _ _ _ _ _ us hl => match us, hl with | [_, _, _, _], _ => rfl
  obtain ⟨d17, R17⟩ := row_of X G c (ps := ["self", "place", "word", "then"]) 17 21 39 44 rfl rfl rfl rfl fun fd F => F.binds fun _ _ _ _ _ _ us hl => match us, hl with | [_, _, _, _], _ => rfl
  obtain ⟨d18, R18⟩ := row_of X G c (ps := ["self", "place", "mark", "newer", "elder"]) 18 22 40 45 rfl rfl rfl rfl fun fd F => F.binds fun _ _ _ _ _ _ us hl => match us, hl with | [_, _, _, _, _], _ => rfl
  obtain ⟨d19, R19⟩ := row_of X G c (ps := ["self", "place"]) 19 23 41 46 rfl rfl rfl rfl fun fd F => F.binds fun _ _ _ _ _ _ us hl => match us, hl with | [_, _], _ => rfl
  unfold extra at ex
  simp only [Bool.and_eq_true] at ex
  obtain ⟨⟨⟨⟨⟨⟨⟨⟨⟨⟨⟨⟨⟨⟨⟨⟨x1, x2⟩, x3⟩, x4⟩, x5⟩, x6⟩, x7⟩, x8⟩, x9⟩, x10⟩, x11⟩, x12⟩, x13⟩, x14⟩, x15⟩, x16⟩, x17⟩ := ex
  have xf := xfB_ok x9
  have rI : ClX.CVal K (He.ga K "Row") (.type "type") "__init__" (.ref (He.ma K (He.ga K "Row") "__init__")) (.ref (He.ma K (He.ga K "Row") "__init__")) := by
    refine ⟨?_, rfl⟩
    cases e : PySem.W.findCls K (.ref (He.ga K "Row")) (.type "type") "__init__" with
    | none => rw [e] at x17; cases x17
    | some z =>
      rw [e] at x17
      cases z with
      | val v => rw [of_decide_eq_true x17]
      | get a b c d => cases x17
  have e := hfa.symm.trans T13.g
  cases e
  let ad : Ad := { cLog := He.ga K "LogError", cIr := He.ga K "InvalidRow", cIe := He.ga K "InvalidEdition", cRow := He.ga K "Row", cAsk := He.ga K "Ask", cNote := He.ga K "Note", cGate := He.ga K "Gate", cEnd := He.ga K "End", fIr := He.ma K (He.ga K "InvalidRow") "__init__", fRow := He.ma K (He.ga K "Row") "__init__", fAsk := He.ma K (He.ga K "Ask") "__init__", fNote := He.ma K (He.ga K "Note") "__init__", fGate := He.ma K (He.ga K "Gate") "__init__", fEnd := He.ma K (He.ga K "End") "__init__", fN := He.ga K "is_name", fX := He.ga K "_expect_names", fWs := He.ga K "_are_ways", fW := He.ga K "_is_way", fDeal := He.ga K "_law_deal", fDraw := He.ga K "_law_draw", fPick := He.ga K "_law_pick", fThing := He.ga K "_law_thing", fTitle := He.ga K "_law_is_title", fHeard := He.ga K "_law_heard", fPairs := He.ga K "_law_are_pairs", fDue := He.ga K "_law_due", fOdd := He.ga K "_law_odd_pairs", fLaw := He.ga K "law", dN := d0, dX := d1, dWs := d2, dW := d3, dDeal := d4, dDraw := d5, dPick := d6, dThing := d7, dTitle := d8, dHeard := d9, dPairs := d10, dDue := d11, dOdd := d12, dLaw := d13, dIr := d14, dRow := d15, dAsk := d16, dNote := d17, dGate := d18, dEnd := d19 }
  have T : Txt K mg ad := {
    tStr := He.free_ok X G (c.fact 24 (f := .free "str") rfl),
    tInt := He.free_ok X G (c.fact 25 (f := .free "int") rfl),
    tAbs := He.free_ok X G (c.fact 26 (f := .free "abs") rfl),
    tLen := He.free_ok X G (c.fact 27 (f := .free "len") rfl),
    tAll := He.free_ok X G (c.fact 28 (f := .free "all") rfl),
    tIs := He.free_ok X G (c.fact 29 (f := .free "isinstance") rfl),
    tTuple := He.free_ok X G (c.fact 30 (f := .free "tuple") rfl),
    tList := He.free_ok X G (c.fact 31 (f := .free "list") rfl),
    tSet := He.free_ok X G (c.fact 32 (f := .free "set") rfl),
    tRange := He.free_ok X G (c.fact 33 (f := .free "range") rfl),
    tZip := He.free_ok X G (c.fact 34 (f := .free "zip") rfl),
    tMax := He.free_ok X G (c.fact 35 (f := .free "max") rfl),
    tMin := He.free_ok X G (c.fact 36 (f := .free "min") rfl),
    abc := He.str_ok X G (c.fact 0 (f := .str "_LETTERS" abc) rfl),
    isName := T0,
    expect := T1,
    areWays := T2,
    isWay := T3,
    deal := T4,
    draw := T5,
    pick := T6,
    thing := T7,
    title := T8,
    heard := T9,
    pairs := T10,
    due := T11,
    odd := T12,
    law := T13,
    gLog := He.glo_ok X G (c.fact 16 (f := .glo "LogError") rfl),
    gIr := He.glo_ok X G (c.fact 17 (f := .glo "InvalidRow") rfl),
    gIe := He.glo_ok X G (c.fact 18 (f := .glo "InvalidEdition") rfl),
    ir := ⟨oexB_ok x1, of_decide_eq_true x2, of_decide_eq_true x3, of_decide_eq_true x4, x5⟩,
    irF := F14',
    irB := F14'.binds fun _ _ _ _ _ _ us hl => match us, hl with | [_, _], _ => rfl,
    irI := of_decide_eq_true x6,
    irT := of_decide_eq_true x7,
    irW := of_decide_eq_true x8,
    irX := xf,
    irC := ⟨xf.ga, xf.gg, xf.exC, xf.hdC, of_decide_eq_true x10, of_decide_eq_true x11, of_decide_eq_true x12, of_decide_eq_true x13⟩,
    ieK := of_decide_eq_true x14,
    irE := He.exm_ok (c.fact 1 (f := .exm "InvalidRow" "LogError" true) rfl),
    row := R15,
    ask := R16,
    note := R17,
    gate := R18,
    end_ := R19,
    rowR := ⟨x15, of_decide_eq_true x16⟩,
    rowI := rI,
    no := no_of c }
  have hb : ∀ (s : Shared) (v : Value), BindsTo s d13 ⟨[v], []⟩ [("_law_script", v)] := by
    obtain ⟨oc, od, kV, doc, pm, an, cdv, ct, osl, e, _, _⟩ := T13.F.ex
    intro s v
    rw [e]
    exact .of_eq rfl
  exact ⟨d13, hb, fun base _ _ => T.okLaw⟩
end
end K3
open PySem PySem.W PySem.Calls PyProof.Rows
theorem PySem.Challenge.cw_elderlogs_k03_rows_refused_holds : PySem.Challenge.rw_elderlogs_k03_rows_refused.Holds := by
  w_on; o_law
  refine HandSHeadRun.head_any (r := OpenLaw.row PySem.Challenge.rw_elderlogs_k03_rows_refused) (q := view (OpenLaw.row PySem.Challenge.rw_elderlogs_k03_rows_refused).prog [30]) (H := K3.hk) (ob := K3.ob) (M := 8000) (loose := K3.others) (d := HandSHeadRun.topDef (OpenLaw.row PySem.Challenge.rw_elderlogs_k03_rows_refused).prog 30) (kwd := []) K3.ob_eq
    (by kernel_rfl) (fun s => by kernel_rfl) K3.run (by kernel_rfl) (by kernel_rfl) (by kernel_rfl) (by rfl) (by first | assumption | decide +kernel) (by decide +kernel) ⟨rfl, rfl, rfl, rfl, rfl, by decide +kernel⟩ ?hw ?hc
  case hw => w_witness2
  case hc =>
    refine L2.walk_ofE (l := PySem.Challenge.rw_elderlogs_k03_rows_refused) (n := 63) (k := 12) (x := "_law_script") (CX := L2.CX0) rfl (by decide) (by kernel_rfl) ⟨rfl, by decide, by decide⟩ ?F (fun _ _ _ _ z => z)
    intro w mg fa h Y G hmg0
    obtain ⟨K, KX, c, ex⟩ := Y
    have hmg : mg ("law" : PySem.Str) = some (.ref fa) := by
      have e : (HandSHeadRun.topDef (OpenLaw.row PySem.Challenge.rw_elderlogs_k03_rows_refused).prog 30).name = ("law" : PySem.Str) := by kernel_rfl
      rw [← e]
      exact hmg0
    obtain ⟨fd, hb, hF⟩ := K3.facts (P := (PySem.Challenge.rw_elderlogs_k03_rows_refused).prog) (w := w) KX G hmg c ex
    exact ⟨K, fd, K3.spLaw K, KX, hb, fun H a ns hl _ hS => ⟨a, ns, rfl, hS, hl, fun _ => rfl⟩, hF⟩


/-
  Package lexical: durations read of their texts (body, signed, ReadDays, ReadMonths), each as a contract of its call.
-/
import Derived.Test.YthgondbiddncpaaDoorYf
import Derived.Test.YthgondbiddncpaaDoorYe
namespace Go.Proofs.YthgondbiddncpaaDoor
open Go.RowKit

theorem inv_run {most : Nat} : ∀ {l : List UInt8} {s t : SumT}, InvU most s → runU most l s = some t → InvU most t := by
  intro l
  induction l with
  | nil => intro s t h k; cases k; exact h
  | cons b r ih =>
    intro s t h k
    rw [run_cons] at k
    cases e : stepU most b.toNat s with
    | none => rw [e] at k; cases k
    | some u => rw [e] at k; exact ih (inv_step h e) k
theorem sum_le {most : Nat} {l : List UInt8} {us : List (Nat × Nat)} {a : Nat} (hl : lowU us) (hb : bud most us ≤ 10 ^ 18) (h : sumU most l us 0 = some a) : a ≤ 1000000000000000000 := by
  unfold sumU at h
  cases e : runU most l (0, 0, 0, us) with
  | none => rw [e] at h; cases h
  | some t =>
    rw [e] at h
    have i := inv_run (show InvU most (0, 0, 0, us) from ⟨Nat.zero_le _, by show 0 < 10 ^ 0; decide, by show 0 + bud most us ≤ 10 ^ 18; omega, hl⟩) e
    have h' : (if t.2.2.1 = 0 then some t.1 else none) = some a := h
    by_cases q : t.2.2.1 = 0
    · rw [if_pos q] at h'
      cases h'
      exact Nat.le_trans (Nat.le_add_right _ _) (Nat.le_trans i.2.2.1 (by decide))
    · rw [if_neg q] at h'; cases h'
theorem low_D : lowU [uD] := by intro u h; rcases List.mem_cons.1 h with rfl | h; · decide
                                exact absurd h (by simp)
theorem low_of {us : List (Nat × Nat)} (h : us.all (fun u => decide (u.1 < 128)) = true) : lowU us := by
  intro u hu
  exact of_decide_eq_true (List.all_eq_true.1 h u hu)
theorem HoldsU.new1 {W : World} {g t : Nat} (hg : g = W.heap.size) : HoldsU (W.alloc (.cells #[.int .i32 68, .int .i64 86400] t)) g 0 [uD] := by
  subst hg
  refine ⟨fun j hj => ?_, by simp⟩
  have : j = 0 := by simp at hj; omega
  subst this
  simp [uD, go_sem]
theorem HoldsU.new3 {W : World} {g t : Nat} (hg : g = W.heap.size) : HoldsU (W.alloc (.cells #[.int .i32 72, .int .i64 3600, .int .i32 77, .int .i64 60, .int .i32 83, .int .i64 1] t)) g 0 [uH, uM, uS] := by
  subst hg
  refine ⟨fun j hj => ?_, by simp⟩
  have : j = 0 ∨ j = 1 ∨ j = 2 := by simp at hj; omega
  rcases this with rfl | rfl | rfl <;> simp [uH, uM, uS, go_sem]
theorem HoldsU.new2 {W : World} {g t : Nat} (hg : g = W.heap.size) : HoldsU (W.alloc (.cells #[.int .i32 89, .int .i64 12, .int .i32 77, .int .i64 1] t)) g 0 [uY, uO] := by
  subst hg
  refine ⟨fun j hj => ?_, by simp⟩
  have : j = 0 ∨ j = 1 := by simp at hj; omega
  rcases this with rfl | rfl <;> simp [uY, uO, go_sem]
set_option linter.unusedSimpArgs false in
set_option linter.unusedVariables false in
set_option maxRecDepth 100000 in
set_option maxHeartbeats 4000000 in
theorem body_any (s : ByteArray) (w : World) : Calls Tryd.prog 50 #[.string s] w (Ret (.tuple #[.string ⟨(bodyL s.data.toList).1.toArray⟩, .bool (bodyL s.data.toList).2.1, .bool (bodyL s.data.toList).2.2]) w) := by
  obtain ⟨A, hA⟩ : ∃ A : ByteArray, A = ⟨(strip 45 s.data.toList).1.toArray⟩ := ⟨_, rfl⟩
  obtain ⟨a, ha⟩ : ∃ a : Bool, a = (strip 45 s.data.toList).2 := ⟨_, rfl⟩
  have lA : A.data.toList = (strip 45 s.data.toList).1 := by rw [hA]
  obtain ⟨C, hC⟩ : ∃ C : ByteArray, C = ⟨(strip 80 A.data.toList).1.toArray⟩ := ⟨_, rfl⟩
  obtain ⟨c, hc⟩ : ∃ c : Bool, c = (strip 80 A.data.toList).2 := ⟨_, rfl⟩
  have C1 := Lib.hid (show ∀ w, Calls Tryd.prog 68 #[.string s, .string ⟨#[45]⟩] w (Ret (.tuple #[.string A, .bool a]) w) from fun w => (Tryd.strings_CutPrefix s ⟨#[45]⟩ w).mono fun e w' H => ⟨by rw [H.1, hA, ha, ← (strip_trim 45 s.data.toList).1, ← (strip_trim 45 s.data.toList).2], by rw [H.2]; exact Below.refl _ _⟩)
  have C2 := Lib.hid (show ∀ w, Calls Tryd.prog 68 #[.string A, .string ⟨#[80]⟩] w (Ret (.tuple #[.string C, .bool c]) w) from fun w => (Tryd.strings_CutPrefix A ⟨#[80]⟩ w).mono fun e w' H => ⟨by rw [H.1, hC, hc, ← (strip_trim 80 A.data.toList).1, ← (strip_trim 80 A.data.toList).2], by rw [H.2]; exact Below.refl _ _⟩)
  have RES : (Value.tuple #[.string ⟨(bodyL s.data.toList).1.toArray⟩, .bool (bodyL s.data.toList).2.1, .bool (bodyL s.data.toList).2.2]) = .tuple #[.string C, .bool a, .bool c] := by
    rw [hC, ha, hc, lA]
    rfl
  rw [RES]
  clear RES hA ha lA hC hc
  go_enter Tryd.func50, Tryd.ntmps50
  go_wp2_with fail
  refine (C1.out _).mono ?_
  rintro e w1 ⟨rfl, hb⟩
  have B : Below w.heap.size w w1 := bstep (by go_grown) hb
  clear hb C1
  go_wp2_with fail
  refine (C2.out _).mono ?_
  rintro e w2 ⟨rfl, hb⟩
  replace B := bstep B hb
  clear hb C2
  go_wp2
  refine ret_via (v := .tuple #[.string C, .bool a, .bool c]) (fun _ => True) (fun VF _ => ?_) trivial rfl ⟨rfl, B⟩
  simp [results, Tryd.results50, go_sem, *]
/-- What a duration's reading answers. -/
def SgV : Option Int → Value
  | none => .tuple #[.int .i64 0, .bool false]
  | some a => .tuple #[.int .i64 a, .bool true]
set_option linter.unusedSimpArgs false in
set_option linter.unusedVariables false in
set_option maxRecDepth 100000 in
set_option maxHeartbeats 4000000 in
theorem signed_any (n : Nat) (hn : n ≤ 2000000000000000000) (b : Bool) (w : World) : Calls Tryd.prog 52 #[.int .i64 (n : Int), .bool b] w (Ret (SgV (signU (some n) b)) w) := by
  obtain ⟨i, hi⟩ : ∃ i : Int, i = (n : Int) := ⟨_, rfl⟩
  have RES : SgV (signU (some n) b) = if 9007199254740992 < i then .tuple #[.int .i64 0, .bool false] else if b then .tuple #[.int .i64 (-i), .bool true] else .tuple #[.int .i64 i, .bool true] := by
    unfold signU
    show SgV (if 9007199254740992 < n then none else some (if b = true then -(n : Int) else (n : Int))) = _
    by_cases k : 9007199254740992 < n
    · rw [if_pos k, if_pos (show 9007199254740992 < i by omega)]; rfl
    · rw [if_neg k, if_neg (show ¬ 9007199254740992 < i by omega), hi]
      cases b <;> rfl
  rw [RES, ← hi]
  have e1 : wrap64 (-i) = -i := by unfold wrap64; omega
  have e2 : IntKind.i64.wrap (-i) = -i := by rw [IntKind.wrap_i64]; omega
  clear RES
  by_cases k : 9007199254740992 < i
  · rw [if_pos k]
    have t1 : decide (9007199254740992 < i) = true := decide_eq_true k
    clear k hi hn
    go_enter Tryd.func52, Tryd.ntmps52
    go_wp2
    refine ret_via (v := .tuple #[.int .i64 0, .bool false]) (fun _ => True) (fun VF _ => ?_) trivial rfl ⟨rfl, by go_grown⟩
    simp [results, Tryd.results52, go_sem, *]
  · rw [if_neg k]
    have t1 : decide (9007199254740992 < i) = false := decide_eq_false k
    clear k hi hn
    cases b
    · rw [if_neg (by decide)]
      go_enter Tryd.func52, Tryd.ntmps52
      go_wp2
      refine ret_via (v := .tuple #[.int .i64 i, .bool true]) (fun _ => True) (fun VF _ => ?_) trivial rfl ⟨rfl, by go_grown⟩
      simp [results, Tryd.results52, go_sem, *]
    · rw [if_pos rfl]
      go_enter Tryd.func52, Tryd.ntmps52
      go_wp2
      refine ret_via (v := .tuple #[.int .i64 (-i), .bool true]) (fun _ => True) (fun VF _ => ?_) trivial rfl ⟨rfl, by go_grown⟩
      simp [results, Tryd.results52, go_sem, *]
/-- What durations' texts are read as. -/
def readDL (l : List UInt8) : Option Int := if (bodyL l).2.2 = true then signU (progD (bodyL l).1) (bodyL l).2.1 else none
def readML (l : List UInt8) : Option Int := if (bodyL l).2.2 = true then signU (progM (bodyL l).1) (bodyL l).2.1 else none
theorem sig_none (b : Bool) : signU none b = none := rfl
set_option linter.unusedSimpArgs false in
set_option linter.unusedVariables false in
set_option maxRecDepth 100000 in
set_option maxHeartbeats 4000000 in
theorem readMonths_any (s : ByteArray) (hs : s.size ≤ 200000000000000) (w : World) : Calls Tryd.prog 25 #[.string s] w (Ret (SgV (readML s.data.toList)) w) := by
  have BO0 := body_any s
  unfold readML
  obtain ⟨A, hA⟩ : ∃ A : ByteArray, A = ⟨(bodyL s.data.toList).1.toArray⟩ := ⟨_, rfl⟩
  have lA : A.data.toList = (bodyL s.data.toList).1 := by rw [hA]
  have sA : A.size ≤ 200000000000000 := by rw [hA, size_list]; exact Nat.le_trans (body_len _) hs
  rw [← hA] at BO0
  rw [← lA]
  generalize (bodyL s.data.toList).2.1 = bl at *
  generalize (bodyL s.data.toList).2.2 = ok at *
  have BO := Lib.hid BO0
  have sA' := Lib.hid sA
  clear BO0 hA lA sA hs
  cases ok
  · rw [if_neg (by decide)]
    go_enter Tryd.func25, Tryd.ntmps25
    go_wp2_with fail
    refine (BO.out _).mono ?_
    rintro e w1 ⟨rfl, hb⟩
    have B : Below w.heap.size w w1 := bstep (by go_grown) hb
    clear hb BO
    go_wp2
    refine ret_via (v := (.tuple #[.int .i64 0, .bool false])) (fun _ => True) (fun VF _ => ?_) trivial rfl ⟨rfl, B⟩
    simp [results, Tryd.results25, go_sem, *]
  · rw [if_pos rfl]
    by_cases q : A.data.toList = []
    · rw [show progM A.data.toList = none by unfold progM; rw [if_pos q]]
      have q1 : A.toList.isEmpty = true := by rw [ByteArray.toList_eq, q]; rfl
      clear q
      go_enter Tryd.func25, Tryd.ntmps25
      go_wp2_with fail
      refine (BO.out _).mono ?_
      rintro e w1 ⟨rfl, hb⟩
      have B : Below w.heap.size w w1 := bstep (by go_grown) hb
      clear hb BO
      go_wp2
      refine ret_via (v := (.tuple #[.int .i64 0, .bool false])) (fun _ => True) (fun VF _ => ?_) trivial rfl ⟨rfl, B⟩
      simp [results, Tryd.results25, go_sem, *]
    · rw [show progM A.data.toList = sumU 15 A.data.toList [uY, uO] 0 by unfold progM; rw [if_neg q]]
      have q1 : A.toList.isEmpty = false := str_some (fun e => q (by rw [e]))
      clear q
      have SU := Lib.hid (show ∀ g w, HoldsU w g 0 [uY, uO] → Calls Tryd.prog 51 #[.string A, .int .i64 15, .slice (some ⟨g, 0, none⟩) 2 2] w (Ret (SmV (sumU 15 A.data.toList [uY, uO] 0)) w) from fun g w H => sum_any A sA'.out 15 15 rfl (by decide) [uY, uO] (by decide) (low_of rfl) (by decide) g w H)
      have LESU := Lib.hid (fun a (h : sumU 15 A.data.toList [uY, uO] 0 = some a) => sum_le (low_of rfl) (by decide) h)
      generalize sumU 15 A.data.toList [uY, uO] 0 = o at *
      cases o with
      | none =>
        replace SU := Lib.hid (show ∀ g w, HoldsU w g 0 [uY, uO] → Calls Tryd.prog 51 #[.string A, .int .i64 15, .slice (some ⟨g, 0, none⟩) 2 2] w (Ret ((.tuple #[.int .i64 0, .bool false])) w) from SU.out)
        clear LESU
        go_enter Tryd.func25, Tryd.ntmps25
        go_wp2_with fail
        refine (BO.out _).mono ?_
        rintro e w1 ⟨rfl, hb⟩
        have B : Below w.heap.size w w1 := bstep (by go_grown) hb
        clear hb BO
        go_wp2_with fail
        refine (SU.out _ _ (HoldsU.new2 rfl)).mono ?_
        rintro e w2 ⟨rfl, hb⟩
        replace B := bstep (ballD1 B _) hb
        clear hb SU
        go_wp2
        refine ret_via (v := (.tuple #[.int .i64 0, .bool false])) (fun _ => True) (fun VF _ => ?_) trivial rfl ⟨rfl, B⟩
        simp [results, Tryd.results25, go_sem, *]
      | some a =>
        replace SU := Lib.hid (show ∀ g w, HoldsU w g 0 [uY, uO] → Calls Tryd.prog 51 #[.string A, .int .i64 15, .slice (some ⟨g, 0, none⟩) 2 2] w (Ret (.tuple #[.int .i64 (a : Int), .bool true]) w) from SU.out)
        have SG := Lib.hid (signed_any a (Nat.le_trans (LESU.out a rfl) (by decide)) bl)
        clear LESU
        obtain ⟨ai, hai⟩ : ∃ i : Int, i = (a : Int) := ⟨_, rfl⟩
        rw [← hai] at SU SG
        clear hai
        generalize signU (some a) bl = r at *
        cases r with
        | none =>
          replace SG := Lib.hid (show ∀ w, Calls Tryd.prog 52 #[.int .i64 ai, .bool bl] w (Ret ((.tuple #[.int .i64 0, .bool false])) w) from SG.out)
          go_enter Tryd.func25, Tryd.ntmps25
          go_wp2_with fail
          refine (BO.out _).mono ?_
          rintro e w1 ⟨rfl, hb⟩
          have B : Below w.heap.size w w1 := bstep (by go_grown) hb
          clear hb BO
          go_wp2_with fail
          refine (SU.out _ _ (HoldsU.new2 rfl)).mono ?_
          rintro e w2 ⟨rfl, hb⟩
          replace B := bstep (ballD1 B _) hb
          clear hb SU
          go_wp2_with fail
          refine (SG.out _).mono ?_
          rintro e w3 ⟨rfl, hb⟩
          replace B := bstep B hb
          clear hb SG
          go_wp2
          refine ret_via (v := (.tuple #[.int .i64 0, .bool false])) (fun _ => True) (fun VF _ => ?_) trivial rfl ⟨rfl, B⟩
          simp [results, Tryd.results25, go_sem, *]
        | some i =>
          replace SG := Lib.hid (show ∀ w, Calls Tryd.prog 52 #[.int .i64 ai, .bool bl] w (Ret (.tuple #[.int .i64 (i : Int), .bool true]) w) from SG.out)
          go_enter Tryd.func25, Tryd.ntmps25
          go_wp2_with fail
          refine (BO.out _).mono ?_
          rintro e w1 ⟨rfl, hb⟩
          have B : Below w.heap.size w w1 := bstep (by go_grown) hb
          clear hb BO
          go_wp2_with fail
          refine (SU.out _ _ (HoldsU.new2 rfl)).mono ?_
          rintro e w2 ⟨rfl, hb⟩
          replace B := bstep (ballD1 B _) hb
          clear hb SU
          go_wp2_with fail
          refine (SG.out _).mono ?_
          rintro e w3 ⟨rfl, hb⟩
          replace B := bstep B hb
          clear hb SG
          go_wp2
          refine ret_via (v := .tuple #[.int .i64 (i : Int), .bool true]) (fun _ => True) (fun VF _ => ?_) trivial rfl ⟨rfl, B⟩
          simp [results, Tryd.results25, go_sem, *]
set_option linter.unusedSimpArgs false in
set_option linter.unusedVariables false in
set_option maxRecDepth 100000 in
set_option maxHeartbeats 4000000 in
theorem readDays_any (s : ByteArray) (hs : s.size ≤ 200000000000000) (w : World) : Calls Tryd.prog 24 #[.string s] w (Ret (SgV (readDL s.data.toList)) w) := by
  have BO0 := body_any s
  unfold readDL progD
  obtain ⟨E, hE⟩ : ∃ E : ByteArray, E = ⟨(bodyL s.data.toList).1.toArray⟩ := ⟨_, rfl⟩
  have lE : E.data.toList = (bodyL s.data.toList).1 := by rw [hE]
  have sE : E.size ≤ 200000000000000 := by rw [hE, size_list]; exact Nat.le_trans (body_len _) hs
  rw [← hE] at BO0
  rw [← lE]
  generalize (bodyL s.data.toList).2.1 = bl at *
  generalize (bodyL s.data.toList).2.2 = ok at *
  have CU0 := cutOne_any 84 E sE
  have HZ := cut_sizes (c := 84) (s := E)
  obtain ⟨A, hA⟩ : ∃ A : ByteArray, A = ⟨(cut1 84 E.data.toList).1.toArray⟩ := ⟨_, rfl⟩
  obtain ⟨C, hC⟩ : ∃ C : ByteArray, C = ⟨(cut1 84 E.data.toList).2.1.toArray⟩ := ⟨_, rfl⟩
  have lA : A.data.toList = (cut1 84 E.data.toList).1 := by rw [hA]
  have lC : C.data.toList = (cut1 84 E.data.toList).2.1 := by rw [hC]
  unfold Cv at CU0
  rw [← hA, ← hC] at CU0
  rw [← hA, ← hC] at HZ
  rw [← lA, ← lC]
  generalize (cut1 84 E.data.toList).2.2 = f at *
  have BO := Lib.hid BO0
  have CU := Lib.hid CU0
  have sA' := Lib.hid (Nat.le_trans HZ.1 sE)
  have sC' := Lib.hid (Nat.le_trans HZ.2 sE)
  clear BO0 CU0 hE lE sE hs HZ hA hC lA lC
  cases ok
  · rw [if_neg (by decide)]
    go_enter Tryd.func24, Tryd.ntmps24
    go_wp2_with fail
    refine (BO.out _).mono ?_
    rintro e w1 ⟨rfl, hb⟩
    have B : Below w.heap.size w w1 := bstep (by go_grown) hb
    clear hb BO
    go_wp2_with fail
    refine (CU.out _).mono ?_
    rintro e w2 ⟨rfl, hb⟩
    replace B := bstep B hb
    clear hb CU
    go_wp2
    refine ret_via (v := (.tuple #[.int .i64 0, .bool false])) (fun _ => True) (fun VF _ => ?_) trivial rfl ⟨rfl, B⟩
    simp [results, Tryd.results24, go_sem, *]
  · rw [if_pos rfl]
    have qq : (C.data.toList = [] ∧ f = true) ∨ (C.data.toList = [] ∧ f = false ∧ A.data.toList = []) ∨ (C.data.toList = [] ∧ f = false ∧ ¬ A.data.toList = []) ∨ ¬ C.data.toList = [] := by
      by_cases h1 : C.data.toList = [] <;> by_cases h2 : A.data.toList = [] <;> cases f <;> simp [h1, h2]
    have em : ∀ Z : ByteArray, Z.data.toList = [] → Z.toList.isEmpty = true := fun Z h => by rw [ByteArray.toList_eq, h]; rfl
    have en : ∀ Z : ByteArray, ¬ Z.data.toList = [] → Z.toList.isEmpty = false := fun Z h => str_some (fun e => h (by rw [e]))
    have EM := Lib.hid em
    have EN := Lib.hid en
    clear em en
    rcases qq with ⟨q, rfl⟩ | ⟨q, rfl, q2⟩ | ⟨q, rfl, q2⟩ | q
    · rw [show progT A.data.toList C.data.toList true = none by unfold progT; rw [if_pos ⟨q, .inl rfl⟩]]
      have q1 := EM.out C q
      clear q
      go_enter Tryd.func24, Tryd.ntmps24
      go_wp2_with fail
      refine (BO.out _).mono ?_
      rintro e w1 ⟨rfl, hb⟩
      have B : Below w.heap.size w w1 := bstep (by go_grown) hb
      clear hb BO
      go_wp2_with fail
      refine (CU.out _).mono ?_
      rintro e w2 ⟨rfl, hb⟩
      replace B := bstep B hb
      clear hb CU
      go_wp2
      refine ret_via (v := (.tuple #[.int .i64 0, .bool false])) (fun _ => True) (fun VF _ => ?_) trivial rfl ⟨rfl, B⟩
      simp [results, Tryd.results24, go_sem, *]
    · rw [show progT A.data.toList C.data.toList false = none by unfold progT; rw [if_pos ⟨q, .inr q2⟩]]
      have q1 := EM.out C q
      have q3 := EM.out A q2
      clear q q2
      go_enter Tryd.func24, Tryd.ntmps24
      go_wp2_with fail
      refine (BO.out _).mono ?_
      rintro e w1 ⟨rfl, hb⟩
      have B : Below w.heap.size w w1 := bstep (by go_grown) hb
      clear hb BO
      go_wp2_with fail
      refine (CU.out _).mono ?_
      rintro e w2 ⟨rfl, hb⟩
      replace B := bstep B hb
      clear hb CU
      go_wp2
      refine ret_via (v := (.tuple #[.int .i64 0, .bool false])) (fun _ => True) (fun VF _ => ?_) trivial rfl ⟨rfl, B⟩
      simp [results, Tryd.results24, go_sem, *]
    · rw [show progT A.data.toList C.data.toList false = comb (sumU 12 A.data.toList [uD] 0) (sumU 12 C.data.toList [uH, uM, uS] 0) by unfold progT; rw [if_neg (fun e => e.2.elim (fun h => by cases h) q2)]]
      have q1 := EM.out C q
      have q3 := EN.out A q2
      clear q q2
      have S1 := Lib.hid (show ∀ g w, HoldsU w g 0 [uD] → Calls Tryd.prog 51 #[.string A, .int .i64 12, .slice (some ⟨g, 0, none⟩) 1 1] w (Ret (SmV (sumU 12 A.data.toList [uD] 0)) w) from fun g w H => sum_any A sA'.out 12 12 rfl (by decide) [uD] (by decide) (low_of rfl) (by decide) g w H)
      have LES1 := Lib.hid (fun a (h : sumU 12 A.data.toList [uD] 0 = some a) => sum_le (low_of rfl) (by decide) h)
      have S2 := Lib.hid (show ∀ g w, HoldsU w g 0 [uH, uM, uS] → Calls Tryd.prog 51 #[.string C, .int .i64 12, .slice (some ⟨g, 0, none⟩) 3 3] w (Ret (SmV (sumU 12 C.data.toList [uH, uM, uS] 0)) w) from fun g w H => sum_any C sC'.out 12 12 rfl (by decide) [uH, uM, uS] (by decide) (low_of rfl) (by decide) g w H)
      have LES2 := Lib.hid (fun a (h : sumU 12 C.data.toList [uH, uM, uS] 0 = some a) => sum_le (low_of rfl) (by decide) h)
      generalize sumU 12 A.data.toList [uD] 0 = o1 at *
      generalize sumU 12 C.data.toList [uH, uM, uS] 0 = o2 at *
      cases o1 with
      | none =>
        cases o2 with
        | none =>
          show Calls _ _ _ w (Ret (SgV none) w)
          replace S1 := Lib.hid (show ∀ g w, HoldsU w g 0 [uD] → Calls Tryd.prog 51 #[.string A, .int .i64 12, .slice (some ⟨g, 0, none⟩) 1 1] w (Ret ((.tuple #[.int .i64 0, .bool false])) w) from S1.out)
          replace S2 := Lib.hid (show ∀ g w, HoldsU w g 0 [uH, uM, uS] → Calls Tryd.prog 51 #[.string C, .int .i64 12, .slice (some ⟨g, 0, none⟩) 3 3] w (Ret ((.tuple #[.int .i64 0, .bool false])) w) from S2.out)
          clear LES1 LES2
          go_enter Tryd.func24, Tryd.ntmps24
          go_wp2_with fail
          refine (BO.out _).mono ?_
          rintro e w1 ⟨rfl, hb⟩
          have B : Below w.heap.size w w1 := bstep (by go_grown) hb
          clear hb BO
          go_wp2_with fail
          refine (CU.out _).mono ?_
          rintro e w2 ⟨rfl, hb⟩
          replace B := bstep B hb
          clear hb CU
          go_wp2_with fail
          refine (S1.out _ _ (HoldsU.new1 rfl)).mono ?_
          rintro e w3 ⟨rfl, hb⟩
          replace B := bstep (ballD1 B _) hb
          clear hb S1
          go_wp2_with fail
          refine (S2.out _ _ (HoldsU.new3 rfl)).mono ?_
          rintro e w4 ⟨rfl, hb⟩
          replace B := bstep (ballD1 B _) hb
          clear hb S2
          go_wp2
          refine ret_via (v := (.tuple #[.int .i64 0, .bool false])) (fun _ => True) (fun VF _ => ?_) trivial rfl ⟨rfl, B⟩
          simp [results, Tryd.results24, go_sem, *]
        | some c =>
          show Calls _ _ _ w (Ret (SgV none) w)
          replace S1 := Lib.hid (show ∀ g w, HoldsU w g 0 [uD] → Calls Tryd.prog 51 #[.string A, .int .i64 12, .slice (some ⟨g, 0, none⟩) 1 1] w (Ret ((.tuple #[.int .i64 0, .bool false])) w) from S1.out)
          replace S2 := Lib.hid (show ∀ g w, HoldsU w g 0 [uH, uM, uS] → Calls Tryd.prog 51 #[.string C, .int .i64 12, .slice (some ⟨g, 0, none⟩) 3 3] w (Ret (.tuple #[.int .i64 (c : Int), .bool true]) w) from S2.out)
          clear LES1 LES2
          go_enter Tryd.func24, Tryd.ntmps24
          go_wp2_with fail
          refine (BO.out _).mono ?_
          rintro e w1 ⟨rfl, hb⟩
          have B : Below w.heap.size w w1 := bstep (by go_grown) hb
          clear hb BO
          go_wp2_with fail
          refine (CU.out _).mono ?_
          rintro e w2 ⟨rfl, hb⟩
          replace B := bstep B hb
          clear hb CU
          go_wp2_with fail
          refine (S1.out _ _ (HoldsU.new1 rfl)).mono ?_
          rintro e w3 ⟨rfl, hb⟩
          replace B := bstep (ballD1 B _) hb
          clear hb S1
          go_wp2_with fail
          refine (S2.out _ _ (HoldsU.new3 rfl)).mono ?_
          rintro e w4 ⟨rfl, hb⟩
          replace B := bstep (ballD1 B _) hb
          clear hb S2
          go_wp2
          refine ret_via (v := (.tuple #[.int .i64 0, .bool false])) (fun _ => True) (fun VF _ => ?_) trivial rfl ⟨rfl, B⟩
          simp [results, Tryd.results24, go_sem, *]
      | some a =>
        cases o2 with
        | none =>
          show Calls _ _ _ w (Ret (SgV none) w)
          replace S1 := Lib.hid (show ∀ g w, HoldsU w g 0 [uD] → Calls Tryd.prog 51 #[.string A, .int .i64 12, .slice (some ⟨g, 0, none⟩) 1 1] w (Ret (.tuple #[.int .i64 (a : Int), .bool true]) w) from S1.out)
          replace S2 := Lib.hid (show ∀ g w, HoldsU w g 0 [uH, uM, uS] → Calls Tryd.prog 51 #[.string C, .int .i64 12, .slice (some ⟨g, 0, none⟩) 3 3] w (Ret ((.tuple #[.int .i64 0, .bool false])) w) from S2.out)
          clear LES1 LES2
          go_enter Tryd.func24, Tryd.ntmps24
          go_wp2_with fail
          refine (BO.out _).mono ?_
          rintro e w1 ⟨rfl, hb⟩
          have B : Below w.heap.size w w1 := bstep (by go_grown) hb
          clear hb BO
          go_wp2_with fail
          refine (CU.out _).mono ?_
          rintro e w2 ⟨rfl, hb⟩
          replace B := bstep B hb
          clear hb CU
          go_wp2_with fail
          refine (S1.out _ _ (HoldsU.new1 rfl)).mono ?_
          rintro e w3 ⟨rfl, hb⟩
          replace B := bstep (ballD1 B _) hb
          clear hb S1
          go_wp2_with fail
          refine (S2.out _ _ (HoldsU.new3 rfl)).mono ?_
          rintro e w4 ⟨rfl, hb⟩
          replace B := bstep (ballD1 B _) hb
          clear hb S2
          go_wp2
          refine ret_via (v := (.tuple #[.int .i64 0, .bool false])) (fun _ => True) (fun VF _ => ?_) trivial rfl ⟨rfl, B⟩
          simp [results, Tryd.results24, go_sem, *]
        | some c =>
          show Calls _ _ _ w (Ret (SgV (signU (some (a + c)) bl)) w)
          replace S1 := Lib.hid (show ∀ g w, HoldsU w g 0 [uD] → Calls Tryd.prog 51 #[.string A, .int .i64 12, .slice (some ⟨g, 0, none⟩) 1 1] w (Ret (.tuple #[.int .i64 (a : Int), .bool true]) w) from S1.out)
          replace S2 := Lib.hid (show ∀ g w, HoldsU w g 0 [uH, uM, uS] → Calls Tryd.prog 51 #[.string C, .int .i64 12, .slice (some ⟨g, 0, none⟩) 3 3] w (Ret (.tuple #[.int .i64 (c : Int), .bool true]) w) from S2.out)
          have l1 := LES1.out a rfl
          have l2 := LES2.out c rfl
          have SG := Lib.hid (signed_any (a + c) (by omega) bl)
          obtain ⟨ai, hai⟩ : ∃ i : Int, i = (a : Int) := ⟨_, rfl⟩
          obtain ⟨ci, hci⟩ : ∃ i : Int, i = (c : Int) := ⟨_, rfl⟩
          obtain ⟨si, hsi⟩ : ∃ i : Int, i = ((a + c : Nat) : Int) := ⟨_, rfl⟩
          have f1 : wrap64 (ai + ci) = si := by unfold wrap64; omega
          have g1 : IntKind.i64.wrap (ai + ci) = si := by clear f1; rw [IntKind.wrap_i64]; omega
          rw [← hsi] at SG
          rw [← hai] at S1
          rw [← hci] at S2
          clear hai hci hsi l1 l2 LES1 LES2
          generalize signU (some (a + c)) bl = r at *
          cases r with
          | none =>
            replace SG := Lib.hid (show ∀ w, Calls Tryd.prog 52 #[.int .i64 si, .bool bl] w (Ret ((.tuple #[.int .i64 0, .bool false])) w) from SG.out)
            go_enter Tryd.func24, Tryd.ntmps24
            go_wp2_with fail
            refine (BO.out _).mono ?_
            rintro e w1 ⟨rfl, hb⟩
            have B : Below w.heap.size w w1 := bstep (by go_grown) hb
            clear hb BO
            go_wp2_with fail
            refine (CU.out _).mono ?_
            rintro e w2 ⟨rfl, hb⟩
            replace B := bstep B hb
            clear hb CU
            go_wp2_with fail
            refine (S1.out _ _ (HoldsU.new1 rfl)).mono ?_
            rintro e w3 ⟨rfl, hb⟩
            replace B := bstep (ballD1 B _) hb
            clear hb S1
            go_wp2_with fail
            refine (S2.out _ _ (HoldsU.new3 rfl)).mono ?_
            rintro e w4 ⟨rfl, hb⟩
            replace B := bstep (ballD1 B _) hb
            clear hb S2
            go_wp2_with fail
            refine (SG.out _).mono ?_
            rintro e w5 ⟨rfl, hb⟩
            replace B := bstep B hb
            clear hb SG
            go_wp2
            refine ret_via (v := (.tuple #[.int .i64 0, .bool false])) (fun _ => True) (fun VF _ => ?_) trivial rfl ⟨rfl, B⟩
            simp [results, Tryd.results24, go_sem, *]
          | some i =>
            replace SG := Lib.hid (show ∀ w, Calls Tryd.prog 52 #[.int .i64 si, .bool bl] w (Ret (.tuple #[.int .i64 (i : Int), .bool true]) w) from SG.out)
            go_enter Tryd.func24, Tryd.ntmps24
            go_wp2_with fail
            refine (BO.out _).mono ?_
            rintro e w1 ⟨rfl, hb⟩
            have B : Below w.heap.size w w1 := bstep (by go_grown) hb
            clear hb BO
            go_wp2_with fail
            refine (CU.out _).mono ?_
            rintro e w2 ⟨rfl, hb⟩
            replace B := bstep B hb
            clear hb CU
            go_wp2_with fail
            refine (S1.out _ _ (HoldsU.new1 rfl)).mono ?_
            rintro e w3 ⟨rfl, hb⟩
            replace B := bstep (ballD1 B _) hb
            clear hb S1
            go_wp2_with fail
            refine (S2.out _ _ (HoldsU.new3 rfl)).mono ?_
            rintro e w4 ⟨rfl, hb⟩
            replace B := bstep (ballD1 B _) hb
            clear hb S2
            go_wp2_with fail
            refine (SG.out _).mono ?_
            rintro e w5 ⟨rfl, hb⟩
            replace B := bstep B hb
            clear hb SG
            go_wp2
            refine ret_via (v := .tuple #[.int .i64 (i : Int), .bool true]) (fun _ => True) (fun VF _ => ?_) trivial rfl ⟨rfl, B⟩
            simp [results, Tryd.results24, go_sem, *]
    · rw [show progT A.data.toList C.data.toList f = comb (sumU 12 A.data.toList [uD] 0) (sumU 12 C.data.toList [uH, uM, uS] 0) by unfold progT; rw [if_neg (fun e => q e.1)]]
      have q1 := EN.out C q
      clear q
      have S1 := Lib.hid (show ∀ g w, HoldsU w g 0 [uD] → Calls Tryd.prog 51 #[.string A, .int .i64 12, .slice (some ⟨g, 0, none⟩) 1 1] w (Ret (SmV (sumU 12 A.data.toList [uD] 0)) w) from fun g w H => sum_any A sA'.out 12 12 rfl (by decide) [uD] (by decide) (low_of rfl) (by decide) g w H)
      have LES1 := Lib.hid (fun a (h : sumU 12 A.data.toList [uD] 0 = some a) => sum_le (low_of rfl) (by decide) h)
      have S2 := Lib.hid (show ∀ g w, HoldsU w g 0 [uH, uM, uS] → Calls Tryd.prog 51 #[.string C, .int .i64 12, .slice (some ⟨g, 0, none⟩) 3 3] w (Ret (SmV (sumU 12 C.data.toList [uH, uM, uS] 0)) w) from fun g w H => sum_any C sC'.out 12 12 rfl (by decide) [uH, uM, uS] (by decide) (low_of rfl) (by decide) g w H)
      have LES2 := Lib.hid (fun a (h : sumU 12 C.data.toList [uH, uM, uS] 0 = some a) => sum_le (low_of rfl) (by decide) h)
      generalize sumU 12 A.data.toList [uD] 0 = o1 at *
      generalize sumU 12 C.data.toList [uH, uM, uS] 0 = o2 at *
      cases o1 with
      | none =>
        cases o2 with
        | none =>
          show Calls _ _ _ w (Ret (SgV none) w)
          replace S1 := Lib.hid (show ∀ g w, HoldsU w g 0 [uD] → Calls Tryd.prog 51 #[.string A, .int .i64 12, .slice (some ⟨g, 0, none⟩) 1 1] w (Ret ((.tuple #[.int .i64 0, .bool false])) w) from S1.out)
          replace S2 := Lib.hid (show ∀ g w, HoldsU w g 0 [uH, uM, uS] → Calls Tryd.prog 51 #[.string C, .int .i64 12, .slice (some ⟨g, 0, none⟩) 3 3] w (Ret ((.tuple #[.int .i64 0, .bool false])) w) from S2.out)
          clear LES1 LES2
          go_enter Tryd.func24, Tryd.ntmps24
          go_wp2_with fail
          refine (BO.out _).mono ?_
          rintro e w1 ⟨rfl, hb⟩
          have B : Below w.heap.size w w1 := bstep (by go_grown) hb
          clear hb BO
          go_wp2_with fail
          refine (CU.out _).mono ?_
          rintro e w2 ⟨rfl, hb⟩
          replace B := bstep B hb
          clear hb CU
          go_wp2_with fail
          refine (S1.out _ _ (HoldsU.new1 rfl)).mono ?_
          rintro e w3 ⟨rfl, hb⟩
          replace B := bstep (ballD1 B _) hb
          clear hb S1
          go_wp2_with fail
          refine (S2.out _ _ (HoldsU.new3 rfl)).mono ?_
          rintro e w4 ⟨rfl, hb⟩
          replace B := bstep (ballD1 B _) hb
          clear hb S2
          go_wp2
          refine ret_via (v := (.tuple #[.int .i64 0, .bool false])) (fun _ => True) (fun VF _ => ?_) trivial rfl ⟨rfl, B⟩
          simp [results, Tryd.results24, go_sem, *]
        | some c =>
          show Calls _ _ _ w (Ret (SgV none) w)
          replace S1 := Lib.hid (show ∀ g w, HoldsU w g 0 [uD] → Calls Tryd.prog 51 #[.string A, .int .i64 12, .slice (some ⟨g, 0, none⟩) 1 1] w (Ret ((.tuple #[.int .i64 0, .bool false])) w) from S1.out)
          replace S2 := Lib.hid (show ∀ g w, HoldsU w g 0 [uH, uM, uS] → Calls Tryd.prog 51 #[.string C, .int .i64 12, .slice (some ⟨g, 0, none⟩) 3 3] w (Ret (.tuple #[.int .i64 (c : Int), .bool true]) w) from S2.out)
          clear LES1 LES2
          go_enter Tryd.func24, Tryd.ntmps24
          go_wp2_with fail
          refine (BO.out _).mono ?_
          rintro e w1 ⟨rfl, hb⟩
          have B : Below w.heap.size w w1 := bstep (by go_grown) hb
          clear hb BO
          go_wp2_with fail
          refine (CU.out _).mono ?_
          rintro e w2 ⟨rfl, hb⟩
          replace B := bstep B hb
          clear hb CU
          go_wp2_with fail
          refine (S1.out _ _ (HoldsU.new1 rfl)).mono ?_
          rintro e w3 ⟨rfl, hb⟩
          replace B := bstep (ballD1 B _) hb
          clear hb S1
          go_wp2_with fail
          refine (S2.out _ _ (HoldsU.new3 rfl)).mono ?_
          rintro e w4 ⟨rfl, hb⟩
          replace B := bstep (ballD1 B _) hb
          clear hb S2
          go_wp2
          refine ret_via (v := (.tuple #[.int .i64 0, .bool false])) (fun _ => True) (fun VF _ => ?_) trivial rfl ⟨rfl, B⟩
          simp [results, Tryd.results24, go_sem, *]
      | some a =>
        cases o2 with
        | none =>
          show Calls _ _ _ w (Ret (SgV none) w)
          replace S1 := Lib.hid (show ∀ g w, HoldsU w g 0 [uD] → Calls Tryd.prog 51 #[.string A, .int .i64 12, .slice (some ⟨g, 0, none⟩) 1 1] w (Ret (.tuple #[.int .i64 (a : Int), .bool true]) w) from S1.out)
          replace S2 := Lib.hid (show ∀ g w, HoldsU w g 0 [uH, uM, uS] → Calls Tryd.prog 51 #[.string C, .int .i64 12, .slice (some ⟨g, 0, none⟩) 3 3] w (Ret ((.tuple #[.int .i64 0, .bool false])) w) from S2.out)
          clear LES1 LES2
          go_enter Tryd.func24, Tryd.ntmps24
          go_wp2_with fail
          refine (BO.out _).mono ?_
          rintro e w1 ⟨rfl, hb⟩
          have B : Below w.heap.size w w1 := bstep (by go_grown) hb
          clear hb BO
          go_wp2_with fail
          refine (CU.out _).mono ?_
          rintro e w2 ⟨rfl, hb⟩
          replace B := bstep B hb
          clear hb CU
          go_wp2_with fail
          refine (S1.out _ _ (HoldsU.new1 rfl)).mono ?_
          rintro e w3 ⟨rfl, hb⟩
          replace B := bstep (ballD1 B _) hb
          clear hb S1
          go_wp2_with fail
          refine (S2.out _ _ (HoldsU.new3 rfl)).mono ?_
          rintro e w4 ⟨rfl, hb⟩
          replace B := bstep (ballD1 B _) hb
          clear hb S2
          go_wp2
          refine ret_via (v := (.tuple #[.int .i64 0, .bool false])) (fun _ => True) (fun VF _ => ?_) trivial rfl ⟨rfl, B⟩
          simp [results, Tryd.results24, go_sem, *]
        | some c =>
          show Calls _ _ _ w (Ret (SgV (signU (some (a + c)) bl)) w)
          replace S1 := Lib.hid (show ∀ g w, HoldsU w g 0 [uD] → Calls Tryd.prog 51 #[.string A, .int .i64 12, .slice (some ⟨g, 0, none⟩) 1 1] w (Ret (.tuple #[.int .i64 (a : Int), .bool true]) w) from S1.out)
          replace S2 := Lib.hid (show ∀ g w, HoldsU w g 0 [uH, uM, uS] → Calls Tryd.prog 51 #[.string C, .int .i64 12, .slice (some ⟨g, 0, none⟩) 3 3] w (Ret (.tuple #[.int .i64 (c : Int), .bool true]) w) from S2.out)
          have l1 := LES1.out a rfl
          have l2 := LES2.out c rfl
          have SG := Lib.hid (signed_any (a + c) (by omega) bl)
          obtain ⟨ai, hai⟩ : ∃ i : Int, i = (a : Int) := ⟨_, rfl⟩
          obtain ⟨ci, hci⟩ : ∃ i : Int, i = (c : Int) := ⟨_, rfl⟩
          obtain ⟨si, hsi⟩ : ∃ i : Int, i = ((a + c : Nat) : Int) := ⟨_, rfl⟩
          have f1 : wrap64 (ai + ci) = si := by unfold wrap64; omega
          have g1 : IntKind.i64.wrap (ai + ci) = si := by clear f1; rw [IntKind.wrap_i64]; omega
          rw [← hsi] at SG
          rw [← hai] at S1
          rw [← hci] at S2
          clear hai hci hsi l1 l2 LES1 LES2
          generalize signU (some (a + c)) bl = r at *
          cases r with
          | none =>
            replace SG := Lib.hid (show ∀ w, Calls Tryd.prog 52 #[.int .i64 si, .bool bl] w (Ret ((.tuple #[.int .i64 0, .bool false])) w) from SG.out)
            go_enter Tryd.func24, Tryd.ntmps24
            go_wp2_with fail
            refine (BO.out _).mono ?_
            rintro e w1 ⟨rfl, hb⟩
            have B : Below w.heap.size w w1 := bstep (by go_grown) hb
            clear hb BO
            go_wp2_with fail
            refine (CU.out _).mono ?_
            rintro e w2 ⟨rfl, hb⟩
            replace B := bstep B hb
            clear hb CU
            go_wp2_with fail
            refine (S1.out _ _ (HoldsU.new1 rfl)).mono ?_
            rintro e w3 ⟨rfl, hb⟩
            replace B := bstep (ballD1 B _) hb
            clear hb S1
            go_wp2_with fail
            refine (S2.out _ _ (HoldsU.new3 rfl)).mono ?_
            rintro e w4 ⟨rfl, hb⟩
            replace B := bstep (ballD1 B _) hb
            clear hb S2
            go_wp2_with fail
            refine (SG.out _).mono ?_
            rintro e w5 ⟨rfl, hb⟩
            replace B := bstep B hb
            clear hb SG
            go_wp2
            refine ret_via (v := (.tuple #[.int .i64 0, .bool false])) (fun _ => True) (fun VF _ => ?_) trivial rfl ⟨rfl, B⟩
            simp [results, Tryd.results24, go_sem, *]
          | some i =>
            replace SG := Lib.hid (show ∀ w, Calls Tryd.prog 52 #[.int .i64 si, .bool bl] w (Ret (.tuple #[.int .i64 (i : Int), .bool true]) w) from SG.out)
            go_enter Tryd.func24, Tryd.ntmps24
            go_wp2_with fail
            refine (BO.out _).mono ?_
            rintro e w1 ⟨rfl, hb⟩
            have B : Below w.heap.size w w1 := bstep (by go_grown) hb
            clear hb BO
            go_wp2_with fail
            refine (CU.out _).mono ?_
            rintro e w2 ⟨rfl, hb⟩
            replace B := bstep B hb
            clear hb CU
            go_wp2_with fail
            refine (S1.out _ _ (HoldsU.new1 rfl)).mono ?_
            rintro e w3 ⟨rfl, hb⟩
            replace B := bstep (ballD1 B _) hb
            clear hb S1
            go_wp2_with fail
            refine (S2.out _ _ (HoldsU.new3 rfl)).mono ?_
            rintro e w4 ⟨rfl, hb⟩
            replace B := bstep (ballD1 B _) hb
            clear hb S2
            go_wp2_with fail
            refine (SG.out _).mono ?_
            rintro e w5 ⟨rfl, hb⟩
            replace B := bstep B hb
            clear hb SG
            go_wp2
            refine ret_via (v := .tuple #[.int .i64 (i : Int), .bool true]) (fun _ => True) (fun VF _ => ?_) trivial rfl ⟨rfl, B⟩
            simp [results, Tryd.results24, go_sem, *]
end Go.Proofs.YthgondbiddncpaaDoor

/-
  The program's spaces, remarks and words (layer 16): inLine, itself, inWord, pastBlank, word, as contracts of their calls.
-/
import Derived.Test.YtfelcneedpndiaaDoorHc
import Derived.Test.YtfelcneedpndiaaDoorIw
import Derived.Test.YtfelcneedpndiaaDoorSh2
namespace Go.Proofs.YtfelcneedpndiaaDoor
open Go.RowKit Go.Lib

theorem letterQ_any (r : Nat) (h : r ≤ 1114111) (w : World) : Calls Tryd.prog 12 #[.int .i32 (r : Int)] w (Ret (.bool (letR r)) w) := by
  have e := letterP_any (r : Int) (by omega) w
  rw [show ((decide ((97 : Int) ≤ (r : Int)) && decide ((r : Int) ≤ 122)) || (decide ((65 : Int) ≤ (r : Int)) && decide ((r : Int) ≤ 90)) || (r : Int) == 95 || decide ((128 : Int) ≤ (r : Int))) = letR r from by rw [Bool.eq_iff_iff]; simp [letR]; omega] at e
  exact e
theorem digitQ_any (r : Nat) (h : r ≤ 1114111) (w : World) : Calls Tryd.prog 13 #[.int .i32 (r : Int)] w (Ret (.bool (digR r)) w) := by
  have e := digitP_any (r : Int) (by omega) w
  rw [show (decide ((48 : Int) ≤ (r : Int)) && decide ((r : Int) ≤ 57)) = digR r from by rw [Bool.eq_iff_iff]; simp [digR]; omega] at e
  exact e
theorem spaceQ_any (r : Nat) (h : r ≤ 1114111) (w : World) : Calls Tryd.prog 24 #[.int .i32 (r : Int)] w (Ret (.bool (spR r)) w) := by
  have e := spaceP_any (r : Int) (by omega) w
  rw [show ((r : Int) == 32 || (r : Int) == 9 || (r : Int) == 10 || (r : Int) == 13) = spR r from by rw [Bool.eq_iff_iff]; simp [spR]; omega] at e
  exact e
set_option linter.unusedVariables false in
set_option linter.unusedSimpArgs false in
set_option maxRecDepth 100000 in
set_option maxHeartbeats 2000000 in
theorem inLine_any (r : Nat) (h : r ≤ 1114111) (w : World) : Calls Tryd.prog 26 #[.int .i32 (r : Int)] w (Ret (.bool (r != 10)) w) := by
  go_enter Tryd.func26, Tryd.ntmps26
  go_wp2
  all_goals go_ret
  all_goals (refine ⟨congrArg Ending.returned (congrArg Value.bool ?_), Below.refl _ _⟩; rw [Bool.eq_iff_iff]; simp; omega)
/-- Whether a rune stands for itself in a string. -/
def itR (r : Nat) : Bool := r != 34 && r != 92 && r != 10 && r != 13
set_option linter.unusedVariables false in
set_option linter.unusedSimpArgs false in
set_option maxRecDepth 100000 in
set_option maxHeartbeats 2000000 in
theorem itself_any (r : Nat) (h : r ≤ 1114111) (w : World) : Calls Tryd.prog 44 #[.int .i32 (r : Int)] w (Ret (.bool (itR r)) w) := by
  go_enter Tryd.func44, Tryd.ntmps44
  go_wp2
  all_goals go_ret
  all_goals (refine ⟨congrArg Ending.returned (congrArg Value.bool ?_), Below.refl _ _⟩; rw [Bool.eq_iff_iff]; simp [itR]; omega)
set_option linter.unusedVariables false in
set_option linter.unusedSimpArgs false in
set_option maxRecDepth 100000 in
set_option maxHeartbeats 2000000 in
theorem inWord_any (r : Nat) (h : r ≤ 1114111) (w : World) : Calls Tryd.prog 40 #[.int .i32 (r : Int)] w (Ret (.bool (wordR r)) w) := by
  have CL := Lib.hid (fun W => letterQ_any r h W)
  have CD := Lib.hid (fun W => digitQ_any r h W)
  have E := Lib.hid (show wordR r = (letR r || digR r) from rfl)
  generalize wordR r = x at *
  generalize letR r = y at *
  generalize digR r = z at *
  cases y <;> cases z <;> (
    go_enter Tryd.func40, Tryd.ntmps40
    go_wp2_with (first
      | (go_at_call 12; (with_reducible refine (CL.out _).mono ?_); rintro e w1 ⟨rfl, b1⟩)
      | (go_at_call 13; (with_reducible refine (CD.out _).mono ?_); rintro e w2 ⟨rfl, b2⟩))
    all_goals go_ret
    all_goals (rw [E.out]; first | exact ⟨rfl, b1⟩ | exact ⟨rfl, bstep b1 b2⟩))
/-- lead at each of the functions that it is handed. -/
theorem lead_space (S : List Nat) (hV : Vrs S) (hz : bz S ≤ 17592186044416) (w : World) : Calls Tryd.prog 23 #[.string (tx S), .func (.func 24) #[] #[]] w (Ret (.int .i64 ((bz S - bz (S.dropWhile spR) : Nat) : Int)) w) :=
  lead_any S hV hz _ spR (enters_of Tryd.func24 (by kernel_rfl) rfl) spaceQ_any w
theorem lead_letter (S : List Nat) (hV : Vrs S) (hz : bz S ≤ 17592186044416) (w : World) : Calls Tryd.prog 23 #[.string (tx S), .func (.func 12) #[] #[]] w (Ret (.int .i64 ((bz S - bz (S.dropWhile letR) : Nat) : Int)) w) :=
  lead_any S hV hz _ letR (enters_of Tryd.func12 (by kernel_rfl) rfl) letterQ_any w
theorem lead_digit (S : List Nat) (hV : Vrs S) (hz : bz S ≤ 17592186044416) (w : World) : Calls Tryd.prog 23 #[.string (tx S), .func (.func 13) #[] #[]] w (Ret (.int .i64 ((bz S - bz (digS S) : Nat) : Int)) w) :=
  lead_any S hV hz _ digR (enters_of Tryd.func13 (by kernel_rfl) rfl) digitQ_any w
theorem lead_line (S : List Nat) (hV : Vrs S) (hz : bz S ≤ 17592186044416) (w : World) : Calls Tryd.prog 23 #[.string (tx S), .func (.func 26) #[] #[]] w (Ret (.int .i64 ((bz S - bz (S.dropWhile fun r => r != 10) : Nat) : Int)) w) :=
  lead_any S hV hz _ (fun r => r != 10) (enters_of Tryd.func26 (by kernel_rfl) rfl) inLine_any w
theorem lead_word (S : List Nat) (hV : Vrs S) (hz : bz S ≤ 17592186044416) (w : World) : Calls Tryd.prog 23 #[.string (tx S), .func (.func 40) #[] #[]] w (Ret (.int .i64 ((bz S - bz (S.dropWhile wordR) : Nat) : Int)) w) :=
  lead_any S hV hz _ wordR (enters_of Tryd.func40 (by kernel_rfl) rfl) inWord_any w
theorem lead_itself (S : List Nat) (hV : Vrs S) (hz : bz S ≤ 17592186044416) (w : World) : Calls Tryd.prog 23 #[.string (tx S), .func (.func 44) #[] #[]] w (Ret (.int .i64 ((bz S - bz (S.dropWhile itR) : Nat) : Int)) w) :=
  lead_any S hV hz _ itR (enters_of Tryd.func44 (by kernel_rfl) rfl) itself_any w
/-- What is left of a text from a place on. -/
theorem cut_behind {s : ByteArray} {R S : List Nat} (hs : s = tx S) (h : R <:+ S) : s.extract (bz S - bz R) (bz S) = tx R := by
  subst hs
  exact tx_behind h
theorem cut_ahead {s : ByteArray} {R S : List Nat} (hs : s = tx S) (h : R <:+ S) : s.extract 0 (bz S - bz R) = tx (S.take (S.length - R.length)) := by
  subst hs
  exact tx_ahead h
set_option linter.unusedVariables false in
set_option linter.unusedSimpArgs false in
set_option maxRecDepth 100000 in
set_option maxHeartbeats 4000000 in
theorem word_any (S : List Nat) (hV : Vrs S) (hz : bz S ≤ 17592186044416) (w : World) :
    Calls Tryd.prog 28 #[.string (tx S)] w (Ret (.int .i64 ((if letR (hd S) = true then bz S - bz (S.dropWhile wordR) else 0 : Nat) : Int)) w) := by
  have s1 := dw_suf letR S
  have CL := Lib.hid (fun W => lead_letter S hV hz W)
  have CW := Lib.hid (fun W => lead_word (S.dropWhile letR) (hV.suf s1) (Nat.le_trans (bz_le s1) hz) W)
  have ZS := tx_size S
  have l1 := bz_le s1
  have l2 := bz_le ((dw_suf wordR (S.dropWhile letR)))
  rw [dw_two] at CW l2
  by_cases h : letR (hd S) = true
  · rw [if_pos h]
    have ne : S ≠ [] := by
      rintro rfl
      exact absurd h (by decide)
    have lt := bz_lt s1 (dw_lt ne h)
    have CB := Lib.hid (cut_behind (s := tx S) rfl s1)
    have RS := Lib.hid (show bz S - bz (S.dropWhile wordR) = (bz S - bz (S.dropWhile letR)) + (bz (S.dropWhile letR) - bz (S.dropWhile wordR)) from by omega)
    obtain ⟨n, hn⟩ : ∃ n, n = bz S - bz (S.dropWhile letR) := ⟨_, rfl⟩
    obtain ⟨m, hm⟩ : ∃ m, m = bz (S.dropWhile letR) - bz (S.dropWhile wordR) := ⟨_, rfl⟩
    rw [← hn] at CL CB RS
    rw [← hm] at CW RS
    have nz : n ≠ 0 := by omega
    have n1 : n ≤ bz S := by omega
    have m1 : n + m ≤ 17592186044416 := by omega
    rw [RS.out]
    clear h ne lt l1 l2 s1 hn hm hV
    generalize tx (S.dropWhile letR) = s2 at *
    generalize tx S = s at *
    generalize bz S = z at *
    subst ZS
    go_enter Tryd.func28, Tryd.ntmps28
    go_wp2_with (first
      | (go_at_call 23; (with_reducible refine (CL.out _).mono ?_); rintro e w1 ⟨rfl, b1⟩)
      | (rw [CB.out]; go_at_call 23; (with_reducible refine (CW.out _).mono ?_); rintro e w2 ⟨rfl, b2⟩))
    go_ret
    exact ⟨rfl, bstep b1 b2⟩
  · rw [if_neg h]
    rw [Bool.not_eq_true] at h
    rw [dw_none h, Nat.sub_self] at CL
    clear CW s1 l1 l2
    generalize tx S = s at *
    go_enter Tryd.func28, Tryd.ntmps28
    go_wp2_with (go_at_call 23; (with_reducible refine (CL.out _).mono ?_); rintro e w1 ⟨rfl, b1⟩)
    go_ret
    exact ⟨rfl, b1⟩
end Go.Proofs.YtfelcneedpndiaaDoor

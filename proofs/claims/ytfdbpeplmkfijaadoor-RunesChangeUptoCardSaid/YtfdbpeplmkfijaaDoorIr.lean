/-
  The statements of layer 15, walked.
-/
import Derived.Test.YtfdbpeplmkfijaaDoorIq
import Derived.Test.YtfdbpeplmkfijaaDoorIvs
namespace Go.Proofs.YtfdbpeplmkfijaaDoor
open Go.RowKit Go.Lib

set_option linter.unusedVariables false in
set_option linter.unusedSimpArgs false in
set_option maxRecDepth 100000 in
set_option maxHeartbeats 8000000 in
theorem runes_parts (raw : ByteArray) (f n : Int) (hf : I64 f) (hn : I64 n) (w : World) (hs : raw.size ≤ 1099511627776) (hT : TabU w) :
    Calls Tryd.prog 3 #[.string raw, .int .i64 f, .int .i64 n] w (Ret (.bool true) w) := by
  have VS := valS_size raw
  have AW := Lib.hid (fun W => awake15 W)
  have LV := Lib.hid (fun W => lvalid2 raw W (by omega))
  have PS := Lib.hid (fun W => sub_any (valS raw) f n hf hn (by omega) W)
  have RS := Lib.hid (fun W => rsub_any (valS raw) f n hf hn W (by omega))
  have LE := Lib.hid (fun W => length_any raw (by omega) W)
  have RN := Lib.hid (fun W => runes_any raw W (by omega))
  have VA := Lib.hid (fun W (hW : Below w.heap.size w W) => valid_any raw (by omega) W (hT.below hW))
  have EQ := valS_eq raw
  have hL := rnS_le raw
  rw [rnS_valS] at PS RS
  generalize subL (rnS raw) f n = O at *
  generalize validD raw.data.toList = vb at *
  generalize valS raw = S at *
  generalize rnS raw = L at *
  rcases O with _ | M
  all_goals cases vb
  all_goals
    first
      | (have SE := strneI (a := raw) (b := S) (fun h => Bool.false_ne_true (EQ.2 h)))
      | (obtain rfl : raw = S := EQ.1 rfl)
    clear EQ
    go_enter Tryd.func3, Tryd.ntmps3
    go_wp2_with (first
      | (go_at_call 7; (with_reducible refine (AW.out _).mono ?_); rintro e w1 ⟨rfl, b1⟩)
      | (go_at_call 8; (with_reducible refine (LV.out _).mono ?_); rintro e w2 ⟨rfl, b2⟩)
      | (go_at_call 9; (with_reducible refine (PS.out _).mono ?_); rintro e w3 ⟨rfl, b3⟩)
      | (go_at_call 10; (with_reducible refine (RS.out _).mono ?_); rintro e w4 ⟨rfl, b4⟩)
      | (go_at_call 11; (with_reducible refine (LE.out _).mono ?_); rintro e w5 ⟨rfl, b5⟩)
      | (go_at_call 12; (with_reducible refine (RN.out _).mono ?_); rintro e w6 ⟨v6, rfl, R6, b6⟩; obtain ⟨A6, c6, rfl⟩ := R6.sl; clear R6)
      | (go_at_call 13; (with_reducible refine (VA.out _ (bstep (bstep (bstep (bstep (bstep b1 b2) b3) b4) b5) b6)).mono ?_); rintro e w7 ⟨rfl, b7⟩))
    go_ret
    exact ⟨rfl, bstep (bstep (bstep (bstep (bstep (bstep b1 b2) b3) b4) b5) b6) b7⟩
set_option linter.unusedVariables false in
set_option linter.unusedSimpArgs false in
set_option maxRecDepth 100000 in
set_option maxHeartbeats 8000000 in
theorem runes_change (raw : ByteArray) (w : World) (hs : raw.size ≤ 1099511627776) :
    Calls Tryd.prog 4 #[.string raw] w (Ret (.bool true) w) := by
  have VS := valS_size raw
  have AW := Lib.hid (fun W => awake15 W)
  have LV := Lib.hid (fun W => lvalid2 raw W (by omega))
  have UP := Lib.hid (fun W => upper_any (valS raw) (by omega) W)
  have LO := Lib.hid (fun W => lower_any (valS raw) (by omega) W)
  have M1 := Lib.hid (show ∀ W, Calls Tryd.prog 15 #[.string (valS raw), .int .i32 97, .int .i32 122, .int .i32 (-32)] W (RetTx (enc ((rnS (valS raw)).map (mvR 97 122 (-32)))) W) from fun W => moved_any (valS raw) 97 122 (-32) (by decide) (by decide) (by decide) W (by omega))
  have M2 := Lib.hid (show ∀ W, Calls Tryd.prog 15 #[.string (valS raw), .int .i32 65, .int .i32 90, .int .i32 32] W (RetTx (enc ((rnS (valS raw)).map (mvR 65 90 32))) W) from fun W => moved_any (valS raw) 65 90 32 (by decide) (by decide) (by decide) W (by omega))
  have R1 := Lib.hid (fun W => reverse_any raw (by omega) W)
  have R2 := Lib.hid (fun W => rreverse_any raw W (by omega))
  have R3 := Lib.hid (fun W => reverse_any (valS raw) (by omega) W)
  have hv : Vrs (rnS raw).reverse := fun r hr => rn_vr _ r (List.mem_reverse.1 hr)
  have hr : rnS ⟨(enc (rnS raw).reverse).toArray⟩ = (rnS raw).reverse := by rw [rn_ofList, rn_enc _ hv]
  have hz : (⟨(enc (rnS raw).reverse).toArray⟩ : ByteArray).size ≤ 17592186044416 := by
    rw [sizeI]
    have a := (enc_length_le (rnS raw).reverse).2
    rw [List.length_reverse] at a
    have b := rnS_le raw
    omega
  have R4 := Lib.hid (fun W => (reverse_any ⟨(enc (rnS raw).reverse).toArray⟩ hz W).mono fun e w' h => (show Ret (.string (valS raw)) W e w' from by
    rw [hr, List.reverse_reverse] at h
    exact h))
  rw [rnS_valS] at UP LO M1 M2 R3
  clear hr hv hz
  generalize enc ((rnS raw).map (mvR 97 122 (-32))) = X1 at *
  generalize enc ((rnS raw).map (mvR 65 90 32)) = X2 at *
  generalize enc (rnS raw).reverse = X3 at *
  generalize valS raw = S at *
  go_enter Tryd.func4, Tryd.ntmps4
  go_wp2_with (first
    | (go_at_call 7; (with_reducible refine (AW.out _).mono ?_); rintro e w1 ⟨rfl, b1⟩)
    | (go_at_call 8; (with_reducible refine (LV.out _).mono ?_); rintro e w2 ⟨rfl, b2⟩)
    | (go_at_call 14; (with_reducible refine (UP.out _).mono ?_); rintro e w3 ⟨rfl, b3⟩)
    | (go_at_call 15; (with_reducible refine (M1.out _).mono ?_); rintro e w4 ⟨rfl, b4⟩)
    | (go_at_call 16; (with_reducible refine (LO.out _).mono ?_); rintro e w5 ⟨rfl, b5⟩)
    | (go_at_call 15; (with_reducible refine (M2.out _).mono ?_); rintro e w6 ⟨rfl, b6⟩)
    | (go_at_call 17; (with_reducible refine (R1.out _).mono ?_); rintro e w7 ⟨rfl, b7⟩)
    | (go_at_call 18; (with_reducible refine (R2.out _).mono ?_); rintro e w8 ⟨rfl, b8⟩)
    | (go_at_call 17; (with_reducible refine (R3.out _).mono ?_); rintro e w9 ⟨rfl, b9⟩)
    | (go_at_call 17; (with_reducible refine (R4.out _).mono ?_); rintro e w10 ⟨rfl, b10⟩))
  go_ret
  exact ⟨rfl, bstep (bstep (bstep (bstep (bstep (bstep (bstep (bstep (bstep b1 b2) b3) b4) b5) b6) b7) b8) b9) b10⟩
set_option linter.unusedVariables false in
set_option linter.unusedSimpArgs false in
set_option maxRecDepth 100000 in
set_option maxHeartbeats 8000000 in
theorem runes_whole (raw : ByteArray) (kv : Nat) (hk : kv < 65536) (w : World) (hs : raw.size ≤ 1099511627776) :
    Calls Tryd.prog 5 #[.string raw, .int .u16 (kv : Int)] w (Ret (.bool true) w) := by
  have VS := valS_size raw
  have AW := Lib.hid (fun W => awake15 W)
  have LV := Lib.hid (fun W => lvalid2 raw W (by omega))
  have LE := (fun W => length_any (valS raw) (by omega) W)
  have SU := (fun f n hf hn W => sub_any (valS raw) f n hf hn (by omega) W)
  rw [rnS_valS] at LE SU
  have hL := rnS_le raw
  have hV : Vrs (rnS raw) := rn_vr _
  have SE : valS raw = ⟨(enc (rnS raw)).toArray⟩ := rfl
  generalize valS raw = S at *
  generalize rnS raw = L at *
  rcases Nat.eq_zero_or_pos L.length with z | z
  · obtain rfl : L = [] := List.eq_nil_of_length_eq_zero z
    have S0 := Lib.hid (fun W => (SU 1 0 ⟨by decide, by decide⟩ ⟨by decide, by decide⟩ W).mono fun e w' h => retsub_no (by decide) h)
    have SE2 : S = ⟨#[]⟩ := SE
    subst SE2
    have LE2 := Lib.hid (show ∀ W, Calls Tryd.prog 11 #[.string ⟨#[]⟩] W (Ret (.int .i64 0) W) from LE)
    clear SE SU LE z
    go_enter Tryd.func5, Tryd.ntmps5
    go_wp2_with (first
      | (go_at_call 7; (with_reducible refine (AW.out _).mono ?_); rintro e w1 ⟨rfl, b1⟩)
      | (go_at_call 8; (with_reducible refine (LV.out _).mono ?_); rintro e w2 ⟨rfl, b2⟩)
      | (go_at_call 11; (with_reducible refine (LE2.out _).mono ?_); rintro e w3 ⟨rfl, b3⟩)
      | (go_at_call 9; (with_reducible refine (S0.out _).mono ?_); rintro e w4 ⟨rfl, b4⟩))
    go_ret
    exact ⟨rfl, bstep (bstep (bstep b1 b2) b3) b4⟩
  · obtain ⟨n, hn⟩ : ∃ n, n = kv % L.length := ⟨_, rfl⟩
    have n1 : n < L.length := by rw [hn]; exact Nat.mod_lt _ z
    have rem : Int.tmod (kv : Int) (L.length : Int) = (n : Int) := by rw [hn]; rfl
    have A1 := Lib.hid (fun W => (SU 1 n ⟨by decide, by decide⟩ ⟨by omega, by omega⟩ W).mono fun e w' h => retsub_yes (M := L.take n) (by rw [sub_some (K := 0) z (.inr ⟨by decide, rfl⟩), if_neg (by omega)]; rfl) rfl h)
    have A2 := Lib.hid (fun W => (SU ((n : Int) + 1) (-1) ⟨by omega, by omega⟩ ⟨by decide, by decide⟩ W).mono fun e w' h => retsub_yes (M := L.drop n) (by rw [sub_some (K := n) n1 (.inr ⟨by omega, by omega⟩), if_pos (by decide)]) rfl h)
    have A3 := Lib.hid (fun W => (SU ((n : Int) - L.length) L.length ⟨by omega, by omega⟩ ⟨by omega, by omega⟩ W).mono fun e w' h => retsub_yes (M := L.drop n) (by rw [sub_some (K := n) n1 (.inl ⟨by omega, by omega⟩), if_neg (by omega), Int.toNat_natCast, List.take_of_length_le (by rw [List.length_drop]; omega)]) rfl h)
    have v1 : Vrs (L.take n) := fun r hr => hV r (List.mem_of_mem_take hr)
    have v2 : Vrs (L.drop n) := fun r hr => hV r (List.mem_of_mem_drop hr)
    have z1 := (enc_length_le (L.take n)).2
    have z2 := (enc_length_le (L.drop n)).2
    rw [List.length_take] at z1
    rw [List.length_drop] at z2
    have L1 := Lib.hid (fun W => (length_any ⟨(enc (L.take n)).toArray⟩ (by rw [sizeI]; omega) W).mono fun e w' h => (show Ret (.int .i64 (n : Int)) W e w' from by
      rw [rn_ofList, rn_enc _ v1, List.length_take, Nat.min_eq_left (Nat.le_of_lt n1)] at h
      exact h))
    have L2 := Lib.hid (fun W => (length_any ⟨(enc (L.drop n)).toArray⟩ (by rw [sizeI]; omega) W).mono fun e w' h => (show Ret (.int .i64 ((L.length - n : Nat) : Int)) W e w' from by
      rw [rn_ofList, rn_enc _ v2, List.length_drop] at h
      exact h))
    have CAT : (⟨(enc (L.take n)).toArray⟩ : ByteArray) ++ ⟨(enc (L.drop n)).toArray⟩ = S := by rw [appI, ← enc_append, List.take_append_drop, SE]
    have LE2 := Lib.hid LE
    have sub1 : ((L.length - n : Nat) : Int) = (L.length : Int) - (n : Int) := by omega
    rw [sub1] at L2
    have zn : (((L.length : Nat) : Int) == 0) = false := by rw [beq_eq_false_iff_ne]; omega
    have Z1 : (enc (L.take n)).length + (enc (L.drop n)).length ≤ 140737488355328 := by omega
    have RM := Lib.hid hn
    clear SU LE SE hV v1 v2 z1 z2 hn sub1
    generalize enc (L.take n) = X at *
    generalize enc (L.drop n) = Y at *
    generalize L.length = len at *
    go_enter Tryd.func5, Tryd.ntmps5
    go_wp2_with (first
      | (go_at_call 7; (with_reducible refine (AW.out _).mono ?_); rintro e w1 ⟨rfl, b1⟩)
      | (go_at_call 8; (with_reducible refine (LV.out _).mono ?_); rintro e w2 ⟨rfl, b2⟩)
      | (go_at_call 11; (with_reducible refine (LE2.out _).mono ?_); rintro e w3 ⟨rfl, b3⟩)
      | (go_at_call 9; (with_reducible refine (A1.out _).mono ?_); rintro e w4 ⟨rfl, b4⟩)
      | (go_at_call 9; (with_reducible refine (A2.out _).mono ?_); rintro e w5 ⟨rfl, b5⟩)
      | (go_at_call 9; (with_reducible refine (A3.out _).mono ?_); rintro e w6 ⟨rfl, b6⟩)
      | (go_at_call 11; (with_reducible refine (L1.out _).mono ?_); rintro e w7 ⟨rfl, b7⟩)
      | (go_at_call 11; (with_reducible refine (L2.out _).mono ?_); rintro e w8 ⟨rfl, b8⟩))
    go_ret
    exact ⟨rfl, bstep (bstep (bstep (bstep (bstep (bstep (bstep b1 b2) b3) b4) b5) b6) b7) b8⟩
set_option linter.unusedVariables false in
set_option linter.unusedSimpArgs false in
set_option maxRecDepth 100000 in
set_option maxHeartbeats 8000000 in
theorem runes_signs (r : Int) (h1 : -2147483648 ≤ r) (h2 : r ≤ 2147483647) (w : World) :
    Calls Tryd.prog 6 #[.int .i32 r] w (Ret (.bool true) w) := by
  have AW := Lib.hid (fun W => awake15 W)
  have LE := (fun W => letterP_any r ⟨h1, h2⟩ W)
  have DI := (fun W => digitP_any r ⟨h1, h2⟩ W)
  have SP := (fun W => spaceP_any r ⟨h1, h2⟩ W)
  rcases (show ((-2147483648) ≤ r ∧ r ≤ 8) ∨ (9 ≤ r ∧ r ≤ 9) ∨ (10 ≤ r ∧ r ≤ 10) ∨ (11 ≤ r ∧ r ≤ 12) ∨ (13 ≤ r ∧ r ≤ 13) ∨ (14 ≤ r ∧ r ≤ 31) ∨ (32 ≤ r ∧ r ≤ 32) ∨ (33 ≤ r ∧ r ≤ 47) ∨ (48 ≤ r ∧ r ≤ 57) ∨ (58 ≤ r ∧ r ≤ 64) ∨ (65 ≤ r ∧ r ≤ 90) ∨ (91 ≤ r ∧ r ≤ 94) ∨ (95 ≤ r ∧ r ≤ 95) ∨ (96 ≤ r ∧ r ≤ 96) ∨ (97 ≤ r ∧ r ≤ 122) ∨ (123 ≤ r ∧ r ≤ 127) ∨ (128 ≤ r ∧ r ≤ 2147483647) from by omega) with ⟨x, y⟩ | ⟨x, y⟩ | ⟨x, y⟩ | ⟨x, y⟩ | ⟨x, y⟩ | ⟨x, y⟩ | ⟨x, y⟩ | ⟨x, y⟩ | ⟨x, y⟩ | ⟨x, y⟩ | ⟨x, y⟩ | ⟨x, y⟩ | ⟨x, y⟩ | ⟨x, y⟩ | ⟨x, y⟩ | ⟨x, y⟩ | ⟨x, y⟩
  · have LE2 := Lib.hid (show ∀ W, Calls Tryd.prog 19 #[.int .i32 r] W (Ret (.bool false) W) from by rw [show ((decide (97 ≤ r) && decide (r ≤ 122)) || (decide (65 ≤ r) && decide (r ≤ 90)) || r == 95 || decide (128 ≤ r)) = false from by rw [Bool.eq_iff_iff]; simp; omega] at LE; exact LE)
    have DI2 := Lib.hid (show ∀ W, Calls Tryd.prog 20 #[.int .i32 r] W (Ret (.bool false) W) from by rw [show (decide (48 ≤ r) && decide (r ≤ 57)) = false from by rw [Bool.eq_iff_iff]; simp; omega] at DI; exact DI)
    have SP2 := Lib.hid (show ∀ W, Calls Tryd.prog 21 #[.int .i32 r] W (Ret (.bool false) W) from by rw [show (r == 32 || r == 9 || r == 10 || r == 13) = false from by rw [Bool.eq_iff_iff]; simp; omega] at SP; exact SP)
    clear LE DI SP
    have q95 : (r == 95) = false := by rw [beq_eq_false_iff_ne]; omega
    have q32 : (r == 32) = false := by rw [beq_eq_false_iff_ne]; omega
    have q9 : (r == 9) = false := by rw [beq_eq_false_iff_ne]; omega
    have q10 : (r == 10) = false := by rw [beq_eq_false_iff_ne]; omega
    have q13 : (r == 13) = false := by rw [beq_eq_false_iff_ne]; omega
    have d1 : decide (97 ≤ r) = false := by simp; omega
    have d2 : decide (r ≤ 122) = true := by simp; omega
    have d3 : decide (65 ≤ r) = false := by simp; omega
    have d4 : decide (r ≤ 90) = true := by simp; omega
    have d5 : decide (128 ≤ r) = false := by simp; omega
    have d6 : decide (48 ≤ r) = false := by simp; omega
    have d7 : decide (r ≤ 57) = true := by simp; omega
    have RX := Lib.hid (And.intro x y)
    clear x y h1 h2
    go_enter Tryd.func6, Tryd.ntmps6
    go_wp2_with (first
      | (go_at_call 7; (with_reducible refine (AW.out _).mono ?_); rintro e w1 ⟨rfl, b1⟩)
      | (go_at_call 19; (with_reducible refine (LE2.out _).mono ?_); rintro e w2 ⟨rfl, b2⟩)
      | (go_at_call 20; (with_reducible refine (DI2.out _).mono ?_); rintro e w3 ⟨rfl, b3⟩)
      | (go_at_call 21; (with_reducible refine (SP2.out _).mono ?_); rintro e w4 ⟨rfl, b4⟩))
    all_goals first
      | (go_ret; exact ⟨rfl, bstep (bstep (bstep b1 b2) b3) b4⟩)
      | omega
  · have LE2 := Lib.hid (show ∀ W, Calls Tryd.prog 19 #[.int .i32 r] W (Ret (.bool false) W) from by rw [show ((decide (97 ≤ r) && decide (r ≤ 122)) || (decide (65 ≤ r) && decide (r ≤ 90)) || r == 95 || decide (128 ≤ r)) = false from by rw [Bool.eq_iff_iff]; simp; omega] at LE; exact LE)
    have DI2 := Lib.hid (show ∀ W, Calls Tryd.prog 20 #[.int .i32 r] W (Ret (.bool false) W) from by rw [show (decide (48 ≤ r) && decide (r ≤ 57)) = false from by rw [Bool.eq_iff_iff]; simp; omega] at DI; exact DI)
    have SP2 := Lib.hid (show ∀ W, Calls Tryd.prog 21 #[.int .i32 r] W (Ret (.bool true) W) from by rw [show (r == 32 || r == 9 || r == 10 || r == 13) = true from by rw [Bool.eq_iff_iff]; simp; omega] at SP; exact SP)
    clear LE DI SP
    obtain rfl : r = 9 := by omega
    clear x y h1 h2
    go_enter Tryd.func6, Tryd.ntmps6
    go_wp2_with (first
      | (go_at_call 7; (with_reducible refine (AW.out _).mono ?_); rintro e w1 ⟨rfl, b1⟩)
      | (go_at_call 19; (with_reducible refine (LE2.out _).mono ?_); rintro e w2 ⟨rfl, b2⟩)
      | (go_at_call 20; (with_reducible refine (DI2.out _).mono ?_); rintro e w3 ⟨rfl, b3⟩)
      | (go_at_call 21; (with_reducible refine (SP2.out _).mono ?_); rintro e w4 ⟨rfl, b4⟩))
    all_goals first
      | (go_ret; exact ⟨rfl, bstep (bstep (bstep b1 b2) b3) b4⟩)
      | omega
  · have LE2 := Lib.hid (show ∀ W, Calls Tryd.prog 19 #[.int .i32 r] W (Ret (.bool false) W) from by rw [show ((decide (97 ≤ r) && decide (r ≤ 122)) || (decide (65 ≤ r) && decide (r ≤ 90)) || r == 95 || decide (128 ≤ r)) = false from by rw [Bool.eq_iff_iff]; simp; omega] at LE; exact LE)
    have DI2 := Lib.hid (show ∀ W, Calls Tryd.prog 20 #[.int .i32 r] W (Ret (.bool false) W) from by rw [show (decide (48 ≤ r) && decide (r ≤ 57)) = false from by rw [Bool.eq_iff_iff]; simp; omega] at DI; exact DI)
    have SP2 := Lib.hid (show ∀ W, Calls Tryd.prog 21 #[.int .i32 r] W (Ret (.bool true) W) from by rw [show (r == 32 || r == 9 || r == 10 || r == 13) = true from by rw [Bool.eq_iff_iff]; simp; omega] at SP; exact SP)
    clear LE DI SP
    obtain rfl : r = 10 := by omega
    clear x y h1 h2
    go_enter Tryd.func6, Tryd.ntmps6
    go_wp2_with (first
      | (go_at_call 7; (with_reducible refine (AW.out _).mono ?_); rintro e w1 ⟨rfl, b1⟩)
      | (go_at_call 19; (with_reducible refine (LE2.out _).mono ?_); rintro e w2 ⟨rfl, b2⟩)
      | (go_at_call 20; (with_reducible refine (DI2.out _).mono ?_); rintro e w3 ⟨rfl, b3⟩)
      | (go_at_call 21; (with_reducible refine (SP2.out _).mono ?_); rintro e w4 ⟨rfl, b4⟩))
    all_goals first
      | (go_ret; exact ⟨rfl, bstep (bstep (bstep b1 b2) b3) b4⟩)
      | omega
  · have LE2 := Lib.hid (show ∀ W, Calls Tryd.prog 19 #[.int .i32 r] W (Ret (.bool false) W) from by rw [show ((decide (97 ≤ r) && decide (r ≤ 122)) || (decide (65 ≤ r) && decide (r ≤ 90)) || r == 95 || decide (128 ≤ r)) = false from by rw [Bool.eq_iff_iff]; simp; omega] at LE; exact LE)
    have DI2 := Lib.hid (show ∀ W, Calls Tryd.prog 20 #[.int .i32 r] W (Ret (.bool false) W) from by rw [show (decide (48 ≤ r) && decide (r ≤ 57)) = false from by rw [Bool.eq_iff_iff]; simp; omega] at DI; exact DI)
    have SP2 := Lib.hid (show ∀ W, Calls Tryd.prog 21 #[.int .i32 r] W (Ret (.bool false) W) from by rw [show (r == 32 || r == 9 || r == 10 || r == 13) = false from by rw [Bool.eq_iff_iff]; simp; omega] at SP; exact SP)
    clear LE DI SP
    have q95 : (r == 95) = false := by rw [beq_eq_false_iff_ne]; omega
    have q32 : (r == 32) = false := by rw [beq_eq_false_iff_ne]; omega
    have q9 : (r == 9) = false := by rw [beq_eq_false_iff_ne]; omega
    have q10 : (r == 10) = false := by rw [beq_eq_false_iff_ne]; omega
    have q13 : (r == 13) = false := by rw [beq_eq_false_iff_ne]; omega
    have d1 : decide (97 ≤ r) = false := by simp; omega
    have d2 : decide (r ≤ 122) = true := by simp; omega
    have d3 : decide (65 ≤ r) = false := by simp; omega
    have d4 : decide (r ≤ 90) = true := by simp; omega
    have d5 : decide (128 ≤ r) = false := by simp; omega
    have d6 : decide (48 ≤ r) = false := by simp; omega
    have d7 : decide (r ≤ 57) = true := by simp; omega
    have RX := Lib.hid (And.intro x y)
    clear x y h1 h2
    go_enter Tryd.func6, Tryd.ntmps6
    go_wp2_with (first
      | (go_at_call 7; (with_reducible refine (AW.out _).mono ?_); rintro e w1 ⟨rfl, b1⟩)
      | (go_at_call 19; (with_reducible refine (LE2.out _).mono ?_); rintro e w2 ⟨rfl, b2⟩)
      | (go_at_call 20; (with_reducible refine (DI2.out _).mono ?_); rintro e w3 ⟨rfl, b3⟩)
      | (go_at_call 21; (with_reducible refine (SP2.out _).mono ?_); rintro e w4 ⟨rfl, b4⟩))
    all_goals first
      | (go_ret; exact ⟨rfl, bstep (bstep (bstep b1 b2) b3) b4⟩)
      | omega
  · have LE2 := Lib.hid (show ∀ W, Calls Tryd.prog 19 #[.int .i32 r] W (Ret (.bool false) W) from by rw [show ((decide (97 ≤ r) && decide (r ≤ 122)) || (decide (65 ≤ r) && decide (r ≤ 90)) || r == 95 || decide (128 ≤ r)) = false from by rw [Bool.eq_iff_iff]; simp; omega] at LE; exact LE)
    have DI2 := Lib.hid (show ∀ W, Calls Tryd.prog 20 #[.int .i32 r] W (Ret (.bool false) W) from by rw [show (decide (48 ≤ r) && decide (r ≤ 57)) = false from by rw [Bool.eq_iff_iff]; simp; omega] at DI; exact DI)
    have SP2 := Lib.hid (show ∀ W, Calls Tryd.prog 21 #[.int .i32 r] W (Ret (.bool true) W) from by rw [show (r == 32 || r == 9 || r == 10 || r == 13) = true from by rw [Bool.eq_iff_iff]; simp; omega] at SP; exact SP)
    clear LE DI SP
    obtain rfl : r = 13 := by omega
    clear x y h1 h2
    go_enter Tryd.func6, Tryd.ntmps6
    go_wp2_with (first
      | (go_at_call 7; (with_reducible refine (AW.out _).mono ?_); rintro e w1 ⟨rfl, b1⟩)
      | (go_at_call 19; (with_reducible refine (LE2.out _).mono ?_); rintro e w2 ⟨rfl, b2⟩)
      | (go_at_call 20; (with_reducible refine (DI2.out _).mono ?_); rintro e w3 ⟨rfl, b3⟩)
      | (go_at_call 21; (with_reducible refine (SP2.out _).mono ?_); rintro e w4 ⟨rfl, b4⟩))
    all_goals first
      | (go_ret; exact ⟨rfl, bstep (bstep (bstep b1 b2) b3) b4⟩)
      | omega
  · have LE2 := Lib.hid (show ∀ W, Calls Tryd.prog 19 #[.int .i32 r] W (Ret (.bool false) W) from by rw [show ((decide (97 ≤ r) && decide (r ≤ 122)) || (decide (65 ≤ r) && decide (r ≤ 90)) || r == 95 || decide (128 ≤ r)) = false from by rw [Bool.eq_iff_iff]; simp; omega] at LE; exact LE)
    have DI2 := Lib.hid (show ∀ W, Calls Tryd.prog 20 #[.int .i32 r] W (Ret (.bool false) W) from by rw [show (decide (48 ≤ r) && decide (r ≤ 57)) = false from by rw [Bool.eq_iff_iff]; simp; omega] at DI; exact DI)
    have SP2 := Lib.hid (show ∀ W, Calls Tryd.prog 21 #[.int .i32 r] W (Ret (.bool false) W) from by rw [show (r == 32 || r == 9 || r == 10 || r == 13) = false from by rw [Bool.eq_iff_iff]; simp; omega] at SP; exact SP)
    clear LE DI SP
    have q95 : (r == 95) = false := by rw [beq_eq_false_iff_ne]; omega
    have q32 : (r == 32) = false := by rw [beq_eq_false_iff_ne]; omega
    have q9 : (r == 9) = false := by rw [beq_eq_false_iff_ne]; omega
    have q10 : (r == 10) = false := by rw [beq_eq_false_iff_ne]; omega
    have q13 : (r == 13) = false := by rw [beq_eq_false_iff_ne]; omega
    have d1 : decide (97 ≤ r) = false := by simp; omega
    have d2 : decide (r ≤ 122) = true := by simp; omega
    have d3 : decide (65 ≤ r) = false := by simp; omega
    have d4 : decide (r ≤ 90) = true := by simp; omega
    have d5 : decide (128 ≤ r) = false := by simp; omega
    have d6 : decide (48 ≤ r) = false := by simp; omega
    have d7 : decide (r ≤ 57) = true := by simp; omega
    have RX := Lib.hid (And.intro x y)
    clear x y h1 h2
    go_enter Tryd.func6, Tryd.ntmps6
    go_wp2_with (first
      | (go_at_call 7; (with_reducible refine (AW.out _).mono ?_); rintro e w1 ⟨rfl, b1⟩)
      | (go_at_call 19; (with_reducible refine (LE2.out _).mono ?_); rintro e w2 ⟨rfl, b2⟩)
      | (go_at_call 20; (with_reducible refine (DI2.out _).mono ?_); rintro e w3 ⟨rfl, b3⟩)
      | (go_at_call 21; (with_reducible refine (SP2.out _).mono ?_); rintro e w4 ⟨rfl, b4⟩))
    all_goals first
      | (go_ret; exact ⟨rfl, bstep (bstep (bstep b1 b2) b3) b4⟩)
      | omega
  · have LE2 := Lib.hid (show ∀ W, Calls Tryd.prog 19 #[.int .i32 r] W (Ret (.bool false) W) from by rw [show ((decide (97 ≤ r) && decide (r ≤ 122)) || (decide (65 ≤ r) && decide (r ≤ 90)) || r == 95 || decide (128 ≤ r)) = false from by rw [Bool.eq_iff_iff]; simp; omega] at LE; exact LE)
    have DI2 := Lib.hid (show ∀ W, Calls Tryd.prog 20 #[.int .i32 r] W (Ret (.bool false) W) from by rw [show (decide (48 ≤ r) && decide (r ≤ 57)) = false from by rw [Bool.eq_iff_iff]; simp; omega] at DI; exact DI)
    have SP2 := Lib.hid (show ∀ W, Calls Tryd.prog 21 #[.int .i32 r] W (Ret (.bool true) W) from by rw [show (r == 32 || r == 9 || r == 10 || r == 13) = true from by rw [Bool.eq_iff_iff]; simp; omega] at SP; exact SP)
    clear LE DI SP
    obtain rfl : r = 32 := by omega
    clear x y h1 h2
    go_enter Tryd.func6, Tryd.ntmps6
    go_wp2_with (first
      | (go_at_call 7; (with_reducible refine (AW.out _).mono ?_); rintro e w1 ⟨rfl, b1⟩)
      | (go_at_call 19; (with_reducible refine (LE2.out _).mono ?_); rintro e w2 ⟨rfl, b2⟩)
      | (go_at_call 20; (with_reducible refine (DI2.out _).mono ?_); rintro e w3 ⟨rfl, b3⟩)
      | (go_at_call 21; (with_reducible refine (SP2.out _).mono ?_); rintro e w4 ⟨rfl, b4⟩))
    all_goals first
      | (go_ret; exact ⟨rfl, bstep (bstep (bstep b1 b2) b3) b4⟩)
      | omega
  · have LE2 := Lib.hid (show ∀ W, Calls Tryd.prog 19 #[.int .i32 r] W (Ret (.bool false) W) from by rw [show ((decide (97 ≤ r) && decide (r ≤ 122)) || (decide (65 ≤ r) && decide (r ≤ 90)) || r == 95 || decide (128 ≤ r)) = false from by rw [Bool.eq_iff_iff]; simp; omega] at LE; exact LE)
    have DI2 := Lib.hid (show ∀ W, Calls Tryd.prog 20 #[.int .i32 r] W (Ret (.bool false) W) from by rw [show (decide (48 ≤ r) && decide (r ≤ 57)) = false from by rw [Bool.eq_iff_iff]; simp; omega] at DI; exact DI)
    have SP2 := Lib.hid (show ∀ W, Calls Tryd.prog 21 #[.int .i32 r] W (Ret (.bool false) W) from by rw [show (r == 32 || r == 9 || r == 10 || r == 13) = false from by rw [Bool.eq_iff_iff]; simp; omega] at SP; exact SP)
    clear LE DI SP
    have q95 : (r == 95) = false := by rw [beq_eq_false_iff_ne]; omega
    have q32 : (r == 32) = false := by rw [beq_eq_false_iff_ne]; omega
    have q9 : (r == 9) = false := by rw [beq_eq_false_iff_ne]; omega
    have q10 : (r == 10) = false := by rw [beq_eq_false_iff_ne]; omega
    have q13 : (r == 13) = false := by rw [beq_eq_false_iff_ne]; omega
    have d1 : decide (97 ≤ r) = false := by simp; omega
    have d2 : decide (r ≤ 122) = true := by simp; omega
    have d3 : decide (65 ≤ r) = false := by simp; omega
    have d4 : decide (r ≤ 90) = true := by simp; omega
    have d5 : decide (128 ≤ r) = false := by simp; omega
    have d6 : decide (48 ≤ r) = false := by simp; omega
    have d7 : decide (r ≤ 57) = true := by simp; omega
    have RX := Lib.hid (And.intro x y)
    clear x y h1 h2
    go_enter Tryd.func6, Tryd.ntmps6
    go_wp2_with (first
      | (go_at_call 7; (with_reducible refine (AW.out _).mono ?_); rintro e w1 ⟨rfl, b1⟩)
      | (go_at_call 19; (with_reducible refine (LE2.out _).mono ?_); rintro e w2 ⟨rfl, b2⟩)
      | (go_at_call 20; (with_reducible refine (DI2.out _).mono ?_); rintro e w3 ⟨rfl, b3⟩)
      | (go_at_call 21; (with_reducible refine (SP2.out _).mono ?_); rintro e w4 ⟨rfl, b4⟩))
    all_goals first
      | (go_ret; exact ⟨rfl, bstep (bstep (bstep b1 b2) b3) b4⟩)
      | omega
  · have LE2 := Lib.hid (show ∀ W, Calls Tryd.prog 19 #[.int .i32 r] W (Ret (.bool false) W) from by rw [show ((decide (97 ≤ r) && decide (r ≤ 122)) || (decide (65 ≤ r) && decide (r ≤ 90)) || r == 95 || decide (128 ≤ r)) = false from by rw [Bool.eq_iff_iff]; simp; omega] at LE; exact LE)
    have DI2 := Lib.hid (show ∀ W, Calls Tryd.prog 20 #[.int .i32 r] W (Ret (.bool true) W) from by rw [show (decide (48 ≤ r) && decide (r ≤ 57)) = true from by rw [Bool.eq_iff_iff]; simp; omega] at DI; exact DI)
    have SP2 := Lib.hid (show ∀ W, Calls Tryd.prog 21 #[.int .i32 r] W (Ret (.bool false) W) from by rw [show (r == 32 || r == 9 || r == 10 || r == 13) = false from by rw [Bool.eq_iff_iff]; simp; omega] at SP; exact SP)
    clear LE DI SP
    have q95 : (r == 95) = false := by rw [beq_eq_false_iff_ne]; omega
    have q32 : (r == 32) = false := by rw [beq_eq_false_iff_ne]; omega
    have q9 : (r == 9) = false := by rw [beq_eq_false_iff_ne]; omega
    have q10 : (r == 10) = false := by rw [beq_eq_false_iff_ne]; omega
    have q13 : (r == 13) = false := by rw [beq_eq_false_iff_ne]; omega
    have d1 : decide (97 ≤ r) = false := by simp; omega
    have d2 : decide (r ≤ 122) = true := by simp; omega
    have d3 : decide (65 ≤ r) = false := by simp; omega
    have d4 : decide (r ≤ 90) = true := by simp; omega
    have d5 : decide (128 ≤ r) = false := by simp; omega
    have d6 : decide (48 ≤ r) = true := by simp; omega
    have d7 : decide (r ≤ 57) = true := by simp; omega
    have RX := Lib.hid (And.intro x y)
    clear x y h1 h2
    go_enter Tryd.func6, Tryd.ntmps6
    go_wp2_with (first
      | (go_at_call 7; (with_reducible refine (AW.out _).mono ?_); rintro e w1 ⟨rfl, b1⟩)
      | (go_at_call 19; (with_reducible refine (LE2.out _).mono ?_); rintro e w2 ⟨rfl, b2⟩)
      | (go_at_call 20; (with_reducible refine (DI2.out _).mono ?_); rintro e w3 ⟨rfl, b3⟩)
      | (go_at_call 21; (with_reducible refine (SP2.out _).mono ?_); rintro e w4 ⟨rfl, b4⟩))
    all_goals first
      | (go_ret; exact ⟨rfl, bstep (bstep (bstep b1 b2) b3) b4⟩)
      | omega
  · have LE2 := Lib.hid (show ∀ W, Calls Tryd.prog 19 #[.int .i32 r] W (Ret (.bool false) W) from by rw [show ((decide (97 ≤ r) && decide (r ≤ 122)) || (decide (65 ≤ r) && decide (r ≤ 90)) || r == 95 || decide (128 ≤ r)) = false from by rw [Bool.eq_iff_iff]; simp; omega] at LE; exact LE)
    have DI2 := Lib.hid (show ∀ W, Calls Tryd.prog 20 #[.int .i32 r] W (Ret (.bool false) W) from by rw [show (decide (48 ≤ r) && decide (r ≤ 57)) = false from by rw [Bool.eq_iff_iff]; simp; omega] at DI; exact DI)
    have SP2 := Lib.hid (show ∀ W, Calls Tryd.prog 21 #[.int .i32 r] W (Ret (.bool false) W) from by rw [show (r == 32 || r == 9 || r == 10 || r == 13) = false from by rw [Bool.eq_iff_iff]; simp; omega] at SP; exact SP)
    clear LE DI SP
    have q95 : (r == 95) = false := by rw [beq_eq_false_iff_ne]; omega
    have q32 : (r == 32) = false := by rw [beq_eq_false_iff_ne]; omega
    have q9 : (r == 9) = false := by rw [beq_eq_false_iff_ne]; omega
    have q10 : (r == 10) = false := by rw [beq_eq_false_iff_ne]; omega
    have q13 : (r == 13) = false := by rw [beq_eq_false_iff_ne]; omega
    have d1 : decide (97 ≤ r) = false := by simp; omega
    have d2 : decide (r ≤ 122) = true := by simp; omega
    have d3 : decide (65 ≤ r) = false := by simp; omega
    have d4 : decide (r ≤ 90) = true := by simp; omega
    have d5 : decide (128 ≤ r) = false := by simp; omega
    have d6 : decide (48 ≤ r) = true := by simp; omega
    have d7 : decide (r ≤ 57) = false := by simp; omega
    have RX := Lib.hid (And.intro x y)
    clear x y h1 h2
    go_enter Tryd.func6, Tryd.ntmps6
    go_wp2_with (first
      | (go_at_call 7; (with_reducible refine (AW.out _).mono ?_); rintro e w1 ⟨rfl, b1⟩)
      | (go_at_call 19; (with_reducible refine (LE2.out _).mono ?_); rintro e w2 ⟨rfl, b2⟩)
      | (go_at_call 20; (with_reducible refine (DI2.out _).mono ?_); rintro e w3 ⟨rfl, b3⟩)
      | (go_at_call 21; (with_reducible refine (SP2.out _).mono ?_); rintro e w4 ⟨rfl, b4⟩))
    all_goals first
      | (go_ret; exact ⟨rfl, bstep (bstep (bstep b1 b2) b3) b4⟩)
      | omega
  · have LE2 := Lib.hid (show ∀ W, Calls Tryd.prog 19 #[.int .i32 r] W (Ret (.bool true) W) from by rw [show ((decide (97 ≤ r) && decide (r ≤ 122)) || (decide (65 ≤ r) && decide (r ≤ 90)) || r == 95 || decide (128 ≤ r)) = true from by rw [Bool.eq_iff_iff]; simp; omega] at LE; exact LE)
    have DI2 := Lib.hid (show ∀ W, Calls Tryd.prog 20 #[.int .i32 r] W (Ret (.bool false) W) from by rw [show (decide (48 ≤ r) && decide (r ≤ 57)) = false from by rw [Bool.eq_iff_iff]; simp; omega] at DI; exact DI)
    have SP2 := Lib.hid (show ∀ W, Calls Tryd.prog 21 #[.int .i32 r] W (Ret (.bool false) W) from by rw [show (r == 32 || r == 9 || r == 10 || r == 13) = false from by rw [Bool.eq_iff_iff]; simp; omega] at SP; exact SP)
    clear LE DI SP
    have q95 : (r == 95) = false := by rw [beq_eq_false_iff_ne]; omega
    have q32 : (r == 32) = false := by rw [beq_eq_false_iff_ne]; omega
    have q9 : (r == 9) = false := by rw [beq_eq_false_iff_ne]; omega
    have q10 : (r == 10) = false := by rw [beq_eq_false_iff_ne]; omega
    have q13 : (r == 13) = false := by rw [beq_eq_false_iff_ne]; omega
    have d1 : decide (97 ≤ r) = false := by simp; omega
    have d2 : decide (r ≤ 122) = true := by simp; omega
    have d3 : decide (65 ≤ r) = true := by simp; omega
    have d4 : decide (r ≤ 90) = true := by simp; omega
    have d5 : decide (128 ≤ r) = false := by simp; omega
    have d6 : decide (48 ≤ r) = true := by simp; omega
    have d7 : decide (r ≤ 57) = false := by simp; omega
    have RX := Lib.hid (And.intro x y)
    clear x y h1 h2
    go_enter Tryd.func6, Tryd.ntmps6
    go_wp2_with (first
      | (go_at_call 7; (with_reducible refine (AW.out _).mono ?_); rintro e w1 ⟨rfl, b1⟩)
      | (go_at_call 19; (with_reducible refine (LE2.out _).mono ?_); rintro e w2 ⟨rfl, b2⟩)
      | (go_at_call 20; (with_reducible refine (DI2.out _).mono ?_); rintro e w3 ⟨rfl, b3⟩)
      | (go_at_call 21; (with_reducible refine (SP2.out _).mono ?_); rintro e w4 ⟨rfl, b4⟩))
    all_goals first
      | (go_ret; exact ⟨rfl, bstep (bstep (bstep b1 b2) b3) b4⟩)
      | omega
  · have LE2 := Lib.hid (show ∀ W, Calls Tryd.prog 19 #[.int .i32 r] W (Ret (.bool false) W) from by rw [show ((decide (97 ≤ r) && decide (r ≤ 122)) || (decide (65 ≤ r) && decide (r ≤ 90)) || r == 95 || decide (128 ≤ r)) = false from by rw [Bool.eq_iff_iff]; simp; omega] at LE; exact LE)
    have DI2 := Lib.hid (show ∀ W, Calls Tryd.prog 20 #[.int .i32 r] W (Ret (.bool false) W) from by rw [show (decide (48 ≤ r) && decide (r ≤ 57)) = false from by rw [Bool.eq_iff_iff]; simp; omega] at DI; exact DI)
    have SP2 := Lib.hid (show ∀ W, Calls Tryd.prog 21 #[.int .i32 r] W (Ret (.bool false) W) from by rw [show (r == 32 || r == 9 || r == 10 || r == 13) = false from by rw [Bool.eq_iff_iff]; simp; omega] at SP; exact SP)
    clear LE DI SP
    have q95 : (r == 95) = false := by rw [beq_eq_false_iff_ne]; omega
    have q32 : (r == 32) = false := by rw [beq_eq_false_iff_ne]; omega
    have q9 : (r == 9) = false := by rw [beq_eq_false_iff_ne]; omega
    have q10 : (r == 10) = false := by rw [beq_eq_false_iff_ne]; omega
    have q13 : (r == 13) = false := by rw [beq_eq_false_iff_ne]; omega
    have d1 : decide (97 ≤ r) = false := by simp; omega
    have d2 : decide (r ≤ 122) = true := by simp; omega
    have d3 : decide (65 ≤ r) = true := by simp; omega
    have d4 : decide (r ≤ 90) = false := by simp; omega
    have d5 : decide (128 ≤ r) = false := by simp; omega
    have d6 : decide (48 ≤ r) = true := by simp; omega
    have d7 : decide (r ≤ 57) = false := by simp; omega
    have RX := Lib.hid (And.intro x y)
    clear x y h1 h2
    go_enter Tryd.func6, Tryd.ntmps6
    go_wp2_with (first
      | (go_at_call 7; (with_reducible refine (AW.out _).mono ?_); rintro e w1 ⟨rfl, b1⟩)
      | (go_at_call 19; (with_reducible refine (LE2.out _).mono ?_); rintro e w2 ⟨rfl, b2⟩)
      | (go_at_call 20; (with_reducible refine (DI2.out _).mono ?_); rintro e w3 ⟨rfl, b3⟩)
      | (go_at_call 21; (with_reducible refine (SP2.out _).mono ?_); rintro e w4 ⟨rfl, b4⟩))
    all_goals first
      | (go_ret; exact ⟨rfl, bstep (bstep (bstep b1 b2) b3) b4⟩)
      | omega
  · have LE2 := Lib.hid (show ∀ W, Calls Tryd.prog 19 #[.int .i32 r] W (Ret (.bool true) W) from by rw [show ((decide (97 ≤ r) && decide (r ≤ 122)) || (decide (65 ≤ r) && decide (r ≤ 90)) || r == 95 || decide (128 ≤ r)) = true from by rw [Bool.eq_iff_iff]; simp; omega] at LE; exact LE)
    have DI2 := Lib.hid (show ∀ W, Calls Tryd.prog 20 #[.int .i32 r] W (Ret (.bool false) W) from by rw [show (decide (48 ≤ r) && decide (r ≤ 57)) = false from by rw [Bool.eq_iff_iff]; simp; omega] at DI; exact DI)
    have SP2 := Lib.hid (show ∀ W, Calls Tryd.prog 21 #[.int .i32 r] W (Ret (.bool false) W) from by rw [show (r == 32 || r == 9 || r == 10 || r == 13) = false from by rw [Bool.eq_iff_iff]; simp; omega] at SP; exact SP)
    clear LE DI SP
    obtain rfl : r = 95 := by omega
    clear x y h1 h2
    go_enter Tryd.func6, Tryd.ntmps6
    go_wp2_with (first
      | (go_at_call 7; (with_reducible refine (AW.out _).mono ?_); rintro e w1 ⟨rfl, b1⟩)
      | (go_at_call 19; (with_reducible refine (LE2.out _).mono ?_); rintro e w2 ⟨rfl, b2⟩)
      | (go_at_call 20; (with_reducible refine (DI2.out _).mono ?_); rintro e w3 ⟨rfl, b3⟩)
      | (go_at_call 21; (with_reducible refine (SP2.out _).mono ?_); rintro e w4 ⟨rfl, b4⟩))
    all_goals first
      | (go_ret; exact ⟨rfl, bstep (bstep (bstep b1 b2) b3) b4⟩)
      | omega
  · have LE2 := Lib.hid (show ∀ W, Calls Tryd.prog 19 #[.int .i32 r] W (Ret (.bool false) W) from by rw [show ((decide (97 ≤ r) && decide (r ≤ 122)) || (decide (65 ≤ r) && decide (r ≤ 90)) || r == 95 || decide (128 ≤ r)) = false from by rw [Bool.eq_iff_iff]; simp; omega] at LE; exact LE)
    have DI2 := Lib.hid (show ∀ W, Calls Tryd.prog 20 #[.int .i32 r] W (Ret (.bool false) W) from by rw [show (decide (48 ≤ r) && decide (r ≤ 57)) = false from by rw [Bool.eq_iff_iff]; simp; omega] at DI; exact DI)
    have SP2 := Lib.hid (show ∀ W, Calls Tryd.prog 21 #[.int .i32 r] W (Ret (.bool false) W) from by rw [show (r == 32 || r == 9 || r == 10 || r == 13) = false from by rw [Bool.eq_iff_iff]; simp; omega] at SP; exact SP)
    clear LE DI SP
    obtain rfl : r = 96 := by omega
    clear x y h1 h2
    go_enter Tryd.func6, Tryd.ntmps6
    go_wp2_with (first
      | (go_at_call 7; (with_reducible refine (AW.out _).mono ?_); rintro e w1 ⟨rfl, b1⟩)
      | (go_at_call 19; (with_reducible refine (LE2.out _).mono ?_); rintro e w2 ⟨rfl, b2⟩)
      | (go_at_call 20; (with_reducible refine (DI2.out _).mono ?_); rintro e w3 ⟨rfl, b3⟩)
      | (go_at_call 21; (with_reducible refine (SP2.out _).mono ?_); rintro e w4 ⟨rfl, b4⟩))
    all_goals first
      | (go_ret; exact ⟨rfl, bstep (bstep (bstep b1 b2) b3) b4⟩)
      | omega
  · have LE2 := Lib.hid (show ∀ W, Calls Tryd.prog 19 #[.int .i32 r] W (Ret (.bool true) W) from by rw [show ((decide (97 ≤ r) && decide (r ≤ 122)) || (decide (65 ≤ r) && decide (r ≤ 90)) || r == 95 || decide (128 ≤ r)) = true from by rw [Bool.eq_iff_iff]; simp; omega] at LE; exact LE)
    have DI2 := Lib.hid (show ∀ W, Calls Tryd.prog 20 #[.int .i32 r] W (Ret (.bool false) W) from by rw [show (decide (48 ≤ r) && decide (r ≤ 57)) = false from by rw [Bool.eq_iff_iff]; simp; omega] at DI; exact DI)
    have SP2 := Lib.hid (show ∀ W, Calls Tryd.prog 21 #[.int .i32 r] W (Ret (.bool false) W) from by rw [show (r == 32 || r == 9 || r == 10 || r == 13) = false from by rw [Bool.eq_iff_iff]; simp; omega] at SP; exact SP)
    clear LE DI SP
    have q95 : (r == 95) = false := by rw [beq_eq_false_iff_ne]; omega
    have q32 : (r == 32) = false := by rw [beq_eq_false_iff_ne]; omega
    have q9 : (r == 9) = false := by rw [beq_eq_false_iff_ne]; omega
    have q10 : (r == 10) = false := by rw [beq_eq_false_iff_ne]; omega
    have q13 : (r == 13) = false := by rw [beq_eq_false_iff_ne]; omega
    have d1 : decide (97 ≤ r) = true := by simp; omega
    have d2 : decide (r ≤ 122) = true := by simp; omega
    have d3 : decide (65 ≤ r) = true := by simp; omega
    have d4 : decide (r ≤ 90) = false := by simp; omega
    have d5 : decide (128 ≤ r) = false := by simp; omega
    have d6 : decide (48 ≤ r) = true := by simp; omega
    have d7 : decide (r ≤ 57) = false := by simp; omega
    have RX := Lib.hid (And.intro x y)
    clear x y h1 h2
    go_enter Tryd.func6, Tryd.ntmps6
    go_wp2_with (first
      | (go_at_call 7; (with_reducible refine (AW.out _).mono ?_); rintro e w1 ⟨rfl, b1⟩)
      | (go_at_call 19; (with_reducible refine (LE2.out _).mono ?_); rintro e w2 ⟨rfl, b2⟩)
      | (go_at_call 20; (with_reducible refine (DI2.out _).mono ?_); rintro e w3 ⟨rfl, b3⟩)
      | (go_at_call 21; (with_reducible refine (SP2.out _).mono ?_); rintro e w4 ⟨rfl, b4⟩))
    all_goals first
      | (go_ret; exact ⟨rfl, bstep (bstep (bstep b1 b2) b3) b4⟩)
      | omega
  · have LE2 := Lib.hid (show ∀ W, Calls Tryd.prog 19 #[.int .i32 r] W (Ret (.bool false) W) from by rw [show ((decide (97 ≤ r) && decide (r ≤ 122)) || (decide (65 ≤ r) && decide (r ≤ 90)) || r == 95 || decide (128 ≤ r)) = false from by rw [Bool.eq_iff_iff]; simp; omega] at LE; exact LE)
    have DI2 := Lib.hid (show ∀ W, Calls Tryd.prog 20 #[.int .i32 r] W (Ret (.bool false) W) from by rw [show (decide (48 ≤ r) && decide (r ≤ 57)) = false from by rw [Bool.eq_iff_iff]; simp; omega] at DI; exact DI)
    have SP2 := Lib.hid (show ∀ W, Calls Tryd.prog 21 #[.int .i32 r] W (Ret (.bool false) W) from by rw [show (r == 32 || r == 9 || r == 10 || r == 13) = false from by rw [Bool.eq_iff_iff]; simp; omega] at SP; exact SP)
    clear LE DI SP
    have q95 : (r == 95) = false := by rw [beq_eq_false_iff_ne]; omega
    have q32 : (r == 32) = false := by rw [beq_eq_false_iff_ne]; omega
    have q9 : (r == 9) = false := by rw [beq_eq_false_iff_ne]; omega
    have q10 : (r == 10) = false := by rw [beq_eq_false_iff_ne]; omega
    have q13 : (r == 13) = false := by rw [beq_eq_false_iff_ne]; omega
    have d1 : decide (97 ≤ r) = true := by simp; omega
    have d2 : decide (r ≤ 122) = false := by simp; omega
    have d3 : decide (65 ≤ r) = true := by simp; omega
    have d4 : decide (r ≤ 90) = false := by simp; omega
    have d5 : decide (128 ≤ r) = false := by simp; omega
    have d6 : decide (48 ≤ r) = true := by simp; omega
    have d7 : decide (r ≤ 57) = false := by simp; omega
    have RX := Lib.hid (And.intro x y)
    clear x y h1 h2
    go_enter Tryd.func6, Tryd.ntmps6
    go_wp2_with (first
      | (go_at_call 7; (with_reducible refine (AW.out _).mono ?_); rintro e w1 ⟨rfl, b1⟩)
      | (go_at_call 19; (with_reducible refine (LE2.out _).mono ?_); rintro e w2 ⟨rfl, b2⟩)
      | (go_at_call 20; (with_reducible refine (DI2.out _).mono ?_); rintro e w3 ⟨rfl, b3⟩)
      | (go_at_call 21; (with_reducible refine (SP2.out _).mono ?_); rintro e w4 ⟨rfl, b4⟩))
    all_goals first
      | (go_ret; exact ⟨rfl, bstep (bstep (bstep b1 b2) b3) b4⟩)
      | omega
  · have LE2 := Lib.hid (show ∀ W, Calls Tryd.prog 19 #[.int .i32 r] W (Ret (.bool true) W) from by rw [show ((decide (97 ≤ r) && decide (r ≤ 122)) || (decide (65 ≤ r) && decide (r ≤ 90)) || r == 95 || decide (128 ≤ r)) = true from by rw [Bool.eq_iff_iff]; simp; omega] at LE; exact LE)
    have DI2 := Lib.hid (show ∀ W, Calls Tryd.prog 20 #[.int .i32 r] W (Ret (.bool false) W) from by rw [show (decide (48 ≤ r) && decide (r ≤ 57)) = false from by rw [Bool.eq_iff_iff]; simp; omega] at DI; exact DI)
    have SP2 := Lib.hid (show ∀ W, Calls Tryd.prog 21 #[.int .i32 r] W (Ret (.bool false) W) from by rw [show (r == 32 || r == 9 || r == 10 || r == 13) = false from by rw [Bool.eq_iff_iff]; simp; omega] at SP; exact SP)
    clear LE DI SP
    have q95 : (r == 95) = false := by rw [beq_eq_false_iff_ne]; omega
    have q32 : (r == 32) = false := by rw [beq_eq_false_iff_ne]; omega
    have q9 : (r == 9) = false := by rw [beq_eq_false_iff_ne]; omega
    have q10 : (r == 10) = false := by rw [beq_eq_false_iff_ne]; omega
    have q13 : (r == 13) = false := by rw [beq_eq_false_iff_ne]; omega
    have d1 : decide (97 ≤ r) = true := by simp; omega
    have d2 : decide (r ≤ 122) = false := by simp; omega
    have d3 : decide (65 ≤ r) = true := by simp; omega
    have d4 : decide (r ≤ 90) = false := by simp; omega
    have d5 : decide (128 ≤ r) = true := by simp; omega
    have d6 : decide (48 ≤ r) = true := by simp; omega
    have d7 : decide (r ≤ 57) = false := by simp; omega
    have RX := Lib.hid (And.intro x y)
    clear x y h1 h2
    go_enter Tryd.func6, Tryd.ntmps6
    go_wp2_with (first
      | (go_at_call 7; (with_reducible refine (AW.out _).mono ?_); rintro e w1 ⟨rfl, b1⟩)
      | (go_at_call 19; (with_reducible refine (LE2.out _).mono ?_); rintro e w2 ⟨rfl, b2⟩)
      | (go_at_call 20; (with_reducible refine (DI2.out _).mono ?_); rintro e w3 ⟨rfl, b3⟩)
      | (go_at_call 21; (with_reducible refine (SP2.out _).mono ?_); rintro e w4 ⟨rfl, b4⟩))
    all_goals first
      | (go_ret; exact ⟨rfl, bstep (bstep (bstep b1 b2) b3) b4⟩)
      | omega
end Go.Proofs.YtfdbpeplmkfijaaDoor

/-
  The program's numbers (layer 16): digits, power, number, as contracts of their calls.
-/
import Derived.Test.YtfelcneedpndiaaDoorHe
import Derived.Test.YtfelcneedpndiaaDoorHb
namespace Go.Proofs.YtfelcneedpndiaaDoor
open Go.RowKit Go.Lib

theorem bz_take (S : List Nat) (k : Nat) : bz (S.take k) ≤ bz S := by
  have e := bz_append (S.take k) (S.drop k)
  rw [List.take_append_drop] at e
  omega
theorem shapeB_any (s : ByteArray) (hs : s.size ≤ 200000000000000) (w : World) : Calls Tryd.prog 9 #[.string s] w (Ret (.bool (shapeL s.data.toList)) w) := shape_any s hs w
set_option linter.unusedVariables false in
set_option linter.unusedSimpArgs false in
set_option maxRecDepth 100000 in
set_option maxHeartbeats 4000000 in
theorem digits_any16 (S : List Nat) (hV : Vrs S) (hz : bz S < 4294967281) (w : World) :
    Calls Tryd.prog 41 #[.string (tx S)] w (Ret (.int .i64 ((bz S - bz (dgS S) : Nat) : Int)) w) := by
  have s1 := digS_suf S
  have l1 := bz_le s1
  have CL := Lib.hid (fun W => lead_digit S hV (by omega) W)
  have CB := Lib.hid (cut_behind (s := tx S) rfl s1)
  have V1 := hV.suf s1
  have s2 : (if hd (digS S) = 46 then (digS S).drop 1 else digS S) <:+ digS S := by
    split
    · exact List.drop_suffix _ _
    · exact List.suffix_refl _
  have l2 := bz_le s2
  have s3 := digS_suf (if hd (digS S) = 46 then (digS S).drop 1 else digS S)
  have l3 := bz_le s3
  have CT := Lib.hid (fun W => trimP (digS S) 46 [46] rfl (by decide) (by decide) W)
  have CM := Lib.hid (fun W => lead_digit _ (V1.suf s2) (by omega) W)
  have ZS := tx_size S
  have DP := dg_places S
  obtain ⟨n, hn⟩ : ∃ n, n = bz S - bz (digS S) := ⟨_, rfl⟩
  rw [← hn] at CL CB
  have n1 : n ≤ bz S := by omega
  obtain ⟨m, hm⟩ : ∃ m, m = bz (if hd (digS S) = 46 then (digS S).drop 1 else digS S) - bz (digS (if hd (digS S) = 46 then (digS S).drop 1 else digS S)) := ⟨_, rfl⟩
  rw [← hm] at CM
  have m1 : m ≤ bz S := by omega
  have mz : bz S ≤ 4294967281 := by omega
  rcases DP with ⟨d1, d2, d3⟩ | ⟨d1, d2⟩
  · rw [if_pos d1] at hm CT CM d2 s3 l3
    have lt : bz (digS ((digS S).drop 1)) < bz ((digS S).drop 1) := by
      refine bz_lt s3 ?_
      rcases Nat.lt_or_ge (digS ((digS S).drop 1)).length ((digS S).drop 1).length with x | x
      · exact x
      · exact absurd (s3.eq_of_length_le x) d2
    have b1 := bz_hd d1 (by decide) (by decide)
    have RS := Lib.hid (show bz S - bz (dgS S) = n + 1 + m from by rw [d3]; omega)
    have m0 : m ≠ 0 := by omega
    rw [RS.out]
    clear s1 s2 s3 l1 l2 l3 d1 d2 d3 hn hm lt b1 V1 hV
    obtain ⟨t, ht⟩ : ∃ t, t = tx ((digS S).drop 1) := ⟨_, rfl⟩
    rw [← ht] at CT CM
    clear ht
    generalize tx (digS S) = s2 at *
    generalize tx S = s at *
    generalize bz S = z at *
    go_enter Tryd.func41, Tryd.ntmps41
    go_wp2_with (first
      | (go_at_call 23; first
        | ((with_reducible refine (CL.out _).mono ?_); rintro e w1 ⟨rfl, b1⟩)
        | ((with_reducible refine (CM.out _).mono ?_); rintro e w2 ⟨rfl, b2⟩))
      | ((try rw [CB.out]); go_at_call 51; (with_reducible refine (CT.out _).mono ?_); rintro e w3 ⟨rfl, rfl⟩))
    go_ret
    exact ⟨rfl, bstep b1 b2⟩
  · rw [d1, Nat.sub_self] at hm
    subst hm
    have RS := Lib.hid (show bz S - bz (dgS S) = n from by rw [d2]; omega)
    rw [RS.out]
    obtain ⟨t, ht⟩ : ∃ t, t = tx (if hd (digS S) = 46 then (digS S).drop 1 else digS S) := ⟨_, rfl⟩
    rw [← ht] at CT CM
    clear s1 s2 s3 l1 l2 l3 d1 d2 hn V1 hV ht
    generalize tx (digS S) = s2 at *
    generalize tx S = s at *
    generalize bz S = z at *
    go_enter Tryd.func41, Tryd.ntmps41
    go_wp2_with (first
      | (go_at_call 23; first
        | ((with_reducible refine (CL.out _).mono ?_); rintro e w1 ⟨rfl, b1⟩)
        | ((with_reducible refine (CM.out _).mono ?_); rintro e w2 ⟨rfl, b2⟩))
      | ((try rw [CB.out]); go_at_call 51; (with_reducible refine (CT.out _).mono ?_); rintro e w3 ⟨rfl, rfl⟩))
    go_ret
    exact ⟨rfl, bstep b1 b2⟩
set_option linter.unusedVariables false in
set_option linter.unusedSimpArgs false in
set_option maxRecDepth 100000 in
set_option maxHeartbeats 4000000 in
theorem power_any16 (b : List Nat) (hV : Vrs b) (hz : bz b < 4294967281) (w : World) :
    Calls Tryd.prog 42 #[.string (tx b)] w (Ret (.int .i64 ((bz b - bz (pwS b) : Nat) : Int)) w) := by
  have CC := Lib.hid (fun W => cutP b 69 [69] rfl (by decide) (by decide) W)
  have ZB := tx_size b
  by_cases c : hd b = 69
  · rw [if_pos c, decide_eq_true c] at CC
    have z1 := bz_hd c (by decide) (by decide)
    have V1 := hV.suf (List.drop_suffix 1 b)
    have HP := Lib.hid (fun W => hasP (b.drop 1) [43] _ (pre_one (b.drop 1) 43 (by decide) (by decide)) W)
    have HM := Lib.hid (fun W => hasP (b.drop 1) [45] _ (pre_one (b.drop 1) 45 (by decide) (by decide)) W)
    have Z1 := tx_size (b.drop 1)
    by_cases k : hd (b.drop 1) = 43 ∨ hd (b.drop 1) = 45
    · have e : epS b = b.drop 2 := by unfold epS; rw [if_pos k]
      have z2 : bz (b.drop 1) = bz (b.drop 2) + 1 := by
        rcases k with k | k <;> (rw [bz_hd k (by decide) (by decide), List.drop_drop])
      have s2 : b.drop 2 <:+ b.drop 1 := by rw [show b.drop 2 = (b.drop 1).drop 1 by rw [List.drop_drop]]; exact List.drop_suffix _ _
      have CL := Lib.hid (fun W => lead_digit (b.drop 2) (V1.suf s2) (by omega) W)
      have CB := Lib.hid (show (tx (b.drop 1)).extract 1 (bz (b.drop 1)) = tx (b.drop 2) from by
        have := cut_behind (s := tx (b.drop 1)) rfl s2
        rw [show bz (b.drop 1) - bz (b.drop 2) = 1 by omega] at this
        exact this)
      have l3 := bz_le (digS_suf (b.drop 2))
      have Z2 := tx_size (b.drop 2)
      obtain ⟨n, hn⟩ : ∃ n, n = bz (b.drop 2) - bz (digS (b.drop 2)) := ⟨_, rfl⟩
      rw [← hn] at CL
      have RS := Lib.hid (show bz b - bz (pwS b) = 2 + n from by unfold pwS; rw [if_pos c, e]; omega)
      rw [RS.out]
      have n1 : n ≤ bz (b.drop 2) := by omega
      have zz : bz b = bz (b.drop 2) + 2 := by omega
      rw [zz] at ZB hz
      rw [z2] at Z1 CB
      clear e s2 V1 hV z1 l3 hn zz z2
      generalize bz (b.drop 2) = z at *
      generalize tx (b.drop 2) = x2 at *
      generalize tx (b.drop 1) = x1 at *
      generalize tx b = x at *
      rcases k with k | k
      · rw [k] at HP HM
        go_enter Tryd.func42, Tryd.ntmps42
        go_wp2_with (first
          | (go_at_call 43; (with_reducible refine (CC.out _).mono ?_); rintro e w3 ⟨rfl, rfl⟩)
          | (go_at_call 25; (with_reducible refine (HP.out _).mono ?_); rintro e w3 ⟨rfl, rfl⟩)
          | ((try rw [CB.out]); go_at_call 23; (with_reducible refine (CL.out _).mono ?_); rintro e w1 ⟨rfl, b1⟩))
        go_ret
        exact ⟨by show Ending.returned (Value.int IntKind.i64 _) = Ending.returned (Value.int IntKind.i64 _); congr 2; omega, b1⟩
      · rw [k] at HP HM
        go_enter Tryd.func42, Tryd.ntmps42
        go_wp2_with (first
          | (go_at_call 43; (with_reducible refine (CC.out _).mono ?_); rintro e w3 ⟨rfl, rfl⟩)
          | (go_at_call 25; first
            | ((with_reducible refine (HP.out _).mono ?_); rintro e w3 ⟨rfl, rfl⟩)
            | ((with_reducible refine (HM.out _).mono ?_); rintro e w3 ⟨rfl, rfl⟩))
          | ((try rw [CB.out]); go_at_call 23; (with_reducible refine (CL.out _).mono ?_); rintro e w1 ⟨rfl, b1⟩))
        go_ret
        exact ⟨by show Ending.returned (Value.int IntKind.i64 _) = Ending.returned (Value.int IntKind.i64 _); congr 2; omega, b1⟩
    · have e : epS b = b.drop 1 := by unfold epS; rw [if_neg k]
      have CL := Lib.hid (fun W => lead_digit (b.drop 1) V1 (by omega) W)
      have l3 := bz_le (digS_suf (b.drop 1))
      obtain ⟨n, hn⟩ : ∃ n, n = bz (b.drop 1) - bz (digS (b.drop 1)) := ⟨_, rfl⟩
      rw [← hn] at CL
      have RS := Lib.hid (show bz b - bz (pwS b) = 1 + n from by unfold pwS; rw [if_pos c, e]; omega)
      rw [RS.out]
      have n1 : n ≤ bz (b.drop 1) := by omega
      have zz : bz b = bz (b.drop 1) + 1 := by omega
      rw [zz] at ZB hz
      rw [decide_eq_false (fun x => k (.inl x))] at HP
      rw [decide_eq_false (fun x => k (.inr x))] at HM
      clear e V1 hV z1 l3 hn zz k
      generalize bz (b.drop 1) = z at *
      generalize tx (b.drop 1) = x1 at *
      generalize tx b = x at *
      go_enter Tryd.func42, Tryd.ntmps42
      go_wp2_with (first
        | (go_at_call 43; (with_reducible refine (CC.out _).mono ?_); rintro e w3 ⟨rfl, rfl⟩)
        | (go_at_call 25; first
          | ((with_reducible refine (HP.out _).mono ?_); rintro e w3 ⟨rfl, rfl⟩)
          | ((with_reducible refine (HM.out _).mono ?_); rintro e w3 ⟨rfl, rfl⟩))
        | (go_at_call 23; (with_reducible refine (CL.out _).mono ?_); rintro e w1 ⟨rfl, b1⟩))
      go_ret
      exact ⟨by show Ending.returned (Value.int IntKind.i64 _) = Ending.returned (Value.int IntKind.i64 _); congr 2; omega, b1⟩
  · rw [if_neg c, decide_eq_false c] at CC
    have RS := Lib.hid (show bz b - bz (pwS b) = 0 from by unfold pwS; rw [if_neg c]; omega)
    rw [RS.out]
    generalize tx b = x at *
    go_enter Tryd.func42, Tryd.ntmps42
    go_wp2_with (go_at_call 43; (with_reducible refine (CC.out _).mono ?_); rintro e w3 ⟨rfl, rfl⟩)
    go_ret
    exact ⟨rfl, Below.refl _ _⟩
set_option linter.unusedVariables false in
set_option linter.unusedSimpArgs false in
set_option maxRecDepth 100000 in
set_option maxHeartbeats 4000000 in
theorem number_any16 (S : List Nat) (hV : Vrs S) (hz : bz S < 4294967281) (w : World) :
    Calls Tryd.prog 29 #[.string (tx S)] w (Ret (.int .i64 ((bz S - bz (nbS S) : Nat) : Int)) w) := by
  have s1 := dgS_suf S
  have s2 := pwS_suf (dgS S)
  have l1 := bz_le s1
  have l2 := bz_le s2
  have CD := Lib.hid (fun W => digits_any16 S hV hz W)
  have CP := Lib.hid (fun W => power_any16 (dgS S) (hV.suf s1) (by omega) W)
  have CB := Lib.hid (cut_behind (s := tx S) rfl s1)
  have CA := Lib.hid (cut_ahead (s := tx S) rfl (s2.trans s1))
  have ZS := tx_size S
  have SH := shape_pw S
  have CS := Lib.hid (fun W => shapeB_any (tx (S.take (S.length - (pwS (dgS S)).length))) (by
    rw [tx_size]
    have := bz_take S (S.length - (pwS (dgS S)).length)
    omega) W)
  rw [tx_list] at CS
  obtain ⟨n, hn⟩ : ∃ n, n = bz S - bz (dgS S) := ⟨_, rfl⟩
  obtain ⟨m, hm⟩ : ∃ m, m = bz (dgS S) - bz (pwS (dgS S)) := ⟨_, rfl⟩
  have hnm : bz S - bz (pwS (dgS S)) = n + m := by omega
  rw [← hn] at CD CB
  rw [← hm] at CP
  rw [hnm] at CA
  have n1 : n ≤ bz S := by omega
  have nm1 : n + m ≤ bz S := by omega
  cases hsh : shapeL (enc (S.take (S.length - (pwS (dgS S)).length))) with
  | true =>
    rw [hsh] at SH CS
    have RS := Lib.hid (show bz S - bz (nbS S) = n + m from by rw [SH, if_pos rfl]; exact hnm)
    rw [RS.out]
    clear hsh SH s1 s2 l1 l2 hn hm hnm hV
    generalize tx (S.take (S.length - (pwS (dgS S)).length)) = x3 at *
    generalize tx (dgS S) = x2 at *
    generalize tx S = x at *
    generalize bz S = z at *
    go_enter Tryd.func29, Tryd.ntmps29
    go_wp2_with (first
      | (go_at_call 41; (with_reducible refine (CD.out _).mono ?_); rintro e w1 ⟨rfl, b1⟩)
      | ((try rw [CB.out]); go_at_call 42; (with_reducible refine (CP.out _).mono ?_); rintro e w2 ⟨rfl, b2⟩)
      | ((try rw [CA.out]); go_at_call 9; (with_reducible refine (CS.out _).mono ?_); rintro e w3 ⟨rfl, b3⟩))
    go_ret
    exact ⟨rfl, bstep (bstep b1 b2) b3⟩
  | false =>
    rw [hsh] at SH CS
    have RS := Lib.hid (show bz S - bz (nbS S) = n from by rw [SH, if_neg Bool.false_ne_true]; exact hn.symm)
    rw [RS.out]
    clear hsh SH s1 s2 l1 l2 hn hm hnm hV
    generalize tx (S.take (S.length - (pwS (dgS S)).length)) = x3 at *
    generalize tx (dgS S) = x2 at *
    generalize tx S = x at *
    generalize bz S = z at *
    go_enter Tryd.func29, Tryd.ntmps29
    go_wp2_with (first
      | (go_at_call 41; (with_reducible refine (CD.out _).mono ?_); rintro e w1 ⟨rfl, b1⟩)
      | ((try rw [CB.out]); go_at_call 42; (with_reducible refine (CP.out _).mono ?_); rintro e w2 ⟨rfl, b2⟩)
      | ((try rw [CA.out]); go_at_call 9; (with_reducible refine (CS.out _).mono ?_); rintro e w3 ⟨rfl, b3⟩))
    go_ret
    exact ⟨rfl, bstep (bstep b1 b2) b3⟩
end Go.Proofs.YtfelcneedpndiaaDoor

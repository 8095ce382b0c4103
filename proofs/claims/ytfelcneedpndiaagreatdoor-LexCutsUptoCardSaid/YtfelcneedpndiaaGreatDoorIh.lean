/-
  The document's answer of layer 16: number, as a contract of its call.
-/
import Derived.Test.YtfelcneedpndiaaGreatDoorIg
namespace Go.Proofs.YtfelcneedpndiaaGreatDoor
open Go.RowKit Go.Lib

/-- What is left behind a number whose digits and point were passed. -/
def xpS (b : List Nat) : List Nat :=
  if hd b = 69 then
    let e := if hd (b.drop 1) = 43 ∨ hd (b.drop 1) = 45 then b.drop 2 else b.drop 1
    let r := digS e
    if r.length < e.length ∧ e.length ≤ r.length + 6 then r else b
  else b
theorem numS_xp (S : List Nat) : numS S = xpS (if hd (digS S) = 46 ∧ digR (hd ((digS S).drop 1)) then digS ((digS S).drop 1) else digS S) := rfl
theorem hd_lt {L : List Nat} {j c : Nat} (h : hd (L.drop j) = c) (hc : c ≠ 0) : j < L.length := by
  rcases Nat.lt_or_ge j L.length with x | x
  · exact x
  · rw [List.drop_eq_nil_of_le x] at h
    exact absurd h.symm hc
theorem drop_len {L : List Nat} {j : Nat} (h : j ≤ L.length) : (L.drop j).length = L.length - j := List.length_drop
theorem neI {r c : Nat} (h : r ≠ c) : (((r : Nat) : Int) == ((c : Nat) : Int)) = false := by
  rw [beq_eq_false_iff_ne]
  intro e
  exact h (by omega)
set_option linter.unusedVariables false in
set_option linter.unusedSimpArgs false in
set_option maxRecDepth 100000 in
set_option maxHeartbeats 8000000 in
theorem number_ref (b : Nat) (v : Value) (L : List Nat) (k : Nat) (hk : k ≤ L.length) (hV : Vrs L) (hL : L.length ≤ 17592186044416) (w : World) (h : RowN b w v L) :
    Calls Tryz.prog 29 #[v, .int .i64 (k : Int)] w (RetE L (numS (L.drop k)) k w) := by
  have H := Lib.hid h
  have HV := Lib.hid hV
  have NS := Lib.hid (numS_xp (L.drop k))
  have AT := Lib.hid (show ∀ (j : Nat) (ji : Int), ji = (j : Int) → j ≤ L.length + 2 → Calls Tryz.prog 26 #[v, .int .i64 ji] w (RetSm (.int .i32 ((hd (L.drop j) : Nat) : Int)) w) from fun j ji e hj => e ▸ at_ref b v L j (by omega) (by omega) w h)
  have DG := Lib.hid (show ∀ (j : Nat) (ji : Int), ji = (j : Int) → j ≤ L.length → Calls Tryz.prog 47 #[v, .int .i64 ji] w (RetE L (digS (L.drop j)) j w) from fun j ji e hj => e ▸ digits_ref b v L j hj hV hL w h)
  have DI := Lib.hid (fun j => digit_ref (hd (L.drop j)) (by rw [hd_drop]; exact getD_vr hV j) w)
  clear h hV
  obtain ⟨A, cap, rfl⟩ := H.out.sl2
  go_enter Tryz.func29, Tryz.ntmps29
  go_wp2_with fail
  refine (DG.out k _ rfl hk).mono ?_
  rintro e w0 ⟨k1, rfl, a1, a2, S1, rfl⟩
  have NS1 := Lib.hid (show numS (L.drop k) = xpS (if hd (L.drop k1) = 46 ∧ digR (hd (L.drop (k1 + 1))) then digS (L.drop (k1 + 1)) else L.drop k1) from by rw [NS.out, ← S1, List.drop_drop])
  clear NS S1
  have AT1 := Lib.hid (AT.out k1 _ rfl (by omega))
  have AT2 := Lib.hid (AT.out (k1 + 1) ((k1 : Int) + 1) (by omega) (by omega))
  have DI2 := Lib.hid (DI.out (k1 + 1))
  -- TREE
  by_cases p1 : hd (L.drop k1) = 46
  · rw [p1] at AT1
    by_cases p2 : digR (hd (L.drop (k1 + 1))) = true
    · rw [p2] at DI2
      have DG2 := Lib.hid (DG.out (k1 + 1) ((k1 : Int) + 1) (by omega) (by have := hd_lt p1 (by decide); omega))
      rw [if_pos ⟨p1, p2⟩] at NS1
      have HP := Lib.hid (And.intro p1 p2)
      clear p1 p2
      go_wp2_with (first
        | (go_at_call 26; (with_reducible refine (AT1.out).mono ?_); rintro e w1 ⟨rfl, rfl⟩)
        | (go_at_call 26; (with_reducible refine (AT2.out).mono ?_); rintro e w1 ⟨rfl, rfl⟩)
        | (go_at_call 28; (with_reducible refine (DI2.out).mono ?_); rintro e w1 ⟨rfl, rfl⟩)
        | (go_at_call 47; (with_reducible refine (DG2.out).mono ?_); rintro e w1 ⟨k2, rfl, b1, b2, S2, rfl⟩; have NS2 := NS1; rw [← S2] at NS2; clear S2 NS1 DG2))
      replace b1 : k ≤ k2 := by omega
      clear AT1 AT2 DI2 HP
      have AT3 := Lib.hid (AT.out k2 _ rfl (by omega))
      by_cases q1 : hd (L.drop k2) = 69
      · rw [q1] at AT3
        have l2 := hd_lt q1 (by decide)
        have AT4 := Lib.hid (AT.out (k2 + 1) ((k2 : Int) + 1) (by omega) (by omega))
        rcases (show hd (L.drop (k2 + 1)) = 43 ∨ hd (L.drop (k2 + 1)) = 45 ∨ (hd (L.drop (k2 + 1)) ≠ 43 ∧ hd (L.drop (k2 + 1)) ≠ 45) from by omega) with q2 | q2 | ⟨q2, q3⟩
        · skip
          rw [q2] at AT4
          have l3 := hd_lt q2 (by decide)
          have EX : xpS (L.drop k2) = (if (digS (L.drop (k2 + 1 + 1))).length < (L.drop (k2 + 1 + 1)).length ∧ (L.drop (k2 + 1 + 1)).length ≤ (digS (L.drop (k2 + 1 + 1))).length + 6 then digS (L.drop (k2 + 1 + 1)) else L.drop k2) := by
            unfold xpS
            simp only [List.drop_drop, q1, q2, if_true, if_false, true_or, or_true]
          have DG3 := Lib.hid (DG.out (k2 + 1 + 1) ((k2 : Int) + 1 + 1) (by omega) (by omega))
          rw [EX] at NS2
          clear EX
          have HQ := Lib.hid q2
          clear q2
          have HQ1 := Lib.hid q1
          clear q1
          go_wp2_with (first
            | (go_at_call 26; (with_reducible refine (AT3.out).mono ?_); rintro e w1 ⟨rfl, rfl⟩)
            | (go_at_call 26; (with_reducible refine (AT4.out).mono ?_); rintro e w1 ⟨rfl, rfl⟩)
            | (go_at_call 47; (with_reducible refine (DG3.out).mono ?_); rintro e w1 ⟨k3, rfl, c1, c2, S3, rfl⟩; have S3' := Lib.hid S3; clear S3; clear DG3))
          all_goals
            rw [← S3'.out, drop_len c2, drop_len (by omega)] at NS2
            first
              | (rw [if_pos (by omega)] at NS2; go_ret; exact ⟨k3, rfl, by omega, c2, NS2.out.symm, rfl⟩)
              | (rw [if_neg (by omega)] at NS2; go_ret; exact ⟨k2, rfl, b1, b2, NS2.out.symm, rfl⟩)
        · skip
          rw [q2] at AT4
          have l3 := hd_lt q2 (by decide)
          have EX : xpS (L.drop k2) = (if (digS (L.drop (k2 + 1 + 1))).length < (L.drop (k2 + 1 + 1)).length ∧ (L.drop (k2 + 1 + 1)).length ≤ (digS (L.drop (k2 + 1 + 1))).length + 6 then digS (L.drop (k2 + 1 + 1)) else L.drop k2) := by
            unfold xpS
            simp only [List.drop_drop, q1, q2, if_true, if_false, true_or, or_true]
          have DG3 := Lib.hid (DG.out (k2 + 1 + 1) ((k2 : Int) + 1 + 1) (by omega) (by omega))
          rw [EX] at NS2
          clear EX
          have HQ := Lib.hid q2
          clear q2
          have HQ1 := Lib.hid q1
          clear q1
          go_wp2_with (first
            | (go_at_call 26; (with_reducible refine (AT3.out).mono ?_); rintro e w1 ⟨rfl, rfl⟩)
            | (go_at_call 26; (with_reducible refine (AT4.out).mono ?_); rintro e w1 ⟨rfl, rfl⟩)
            | (go_at_call 47; (with_reducible refine (DG3.out).mono ?_); rintro e w1 ⟨k3, rfl, c1, c2, S3, rfl⟩; have S3' := Lib.hid S3; clear S3; clear DG3))
          all_goals
            rw [← S3'.out, drop_len c2, drop_len (by omega)] at NS2
            first
              | (rw [if_pos (by omega)] at NS2; go_ret; exact ⟨k3, rfl, by omega, c2, NS2.out.symm, rfl⟩)
              | (rw [if_neg (by omega)] at NS2; go_ret; exact ⟨k2, rfl, b1, b2, NS2.out.symm, rfl⟩)
        · skip
          have n1 := neI q2
          have n2 := neI q3
          simp only [Int.cast_ofNat_Int] at n1 n2
          have EX : xpS (L.drop k2) = (if (digS (L.drop (k2 + 1))).length < (L.drop (k2 + 1)).length ∧ (L.drop (k2 + 1)).length ≤ (digS (L.drop (k2 + 1))).length + 6 then digS (L.drop (k2 + 1)) else L.drop k2) := by
            unfold xpS
            simp only [List.drop_drop, q1, q2, q3, if_true, if_false, or_self]
          have DG3 := Lib.hid (DG.out (k2 + 1) ((k2 : Int) + 1) (by omega) (by omega))
          rw [EX] at NS2
          clear EX
          have HQ := Lib.hid (And.intro q2 q3)
          clear q2 q3
          have HQ1 := Lib.hid q1
          clear q1
          go_wp2_with (first
            | (go_at_call 26; (with_reducible refine (AT3.out).mono ?_); rintro e w1 ⟨rfl, rfl⟩)
            | (go_at_call 26; (with_reducible refine (AT4.out).mono ?_); rintro e w1 ⟨rfl, rfl⟩)
            | (go_at_call 47; (with_reducible refine (DG3.out).mono ?_); rintro e w1 ⟨k3, rfl, c1, c2, S3, rfl⟩; have S3' := Lib.hid S3; clear S3; clear DG3))
          all_goals
            rw [← S3'.out, drop_len c2, drop_len (by omega)] at NS2
            first
              | (rw [if_pos (by omega)] at NS2; go_ret; exact ⟨k3, rfl, by omega, c2, NS2.out.symm, rfl⟩)
              | (rw [if_neg (by omega)] at NS2; go_ret; exact ⟨k2, rfl, b1, b2, NS2.out.symm, rfl⟩)
      · have n0 := neI q1
        simp only [Int.cast_ofNat_Int] at n0
        have NS3 := Lib.hid (show numS (L.drop k) = L.drop k2 from by rw [NS2.out]; unfold xpS; rw [if_neg q1])
        have HQ1 := Lib.hid q1
        clear q1 NS2
        go_wp2_with (first
          | (go_at_call 26; (with_reducible refine (AT3.out).mono ?_); rintro e w1 ⟨rfl, rfl⟩))
        go_ret
        exact ⟨k2, rfl, b1, b2, NS3.out.symm, rfl⟩
    · rw [Bool.not_eq_true] at p2
      rw [p2] at DI2
      rw [if_neg (by rw [p2]; exact fun x => Bool.false_ne_true x.2)] at NS1
      have NS3 := Lib.hid (show numS (L.drop k) = L.drop k1 from by rw [NS1.out]; unfold xpS; rw [if_neg (by rw [p1]; decide)])
      have HP := Lib.hid (And.intro p1 p2)
      clear p1 p2 NS1
      go_wp2_with (first
        | (go_at_call 26; (with_reducible refine (AT1.out).mono ?_); rintro e w1 ⟨rfl, rfl⟩)
        | (go_at_call 26; (with_reducible refine (AT2.out).mono ?_); rintro e w1 ⟨rfl, rfl⟩)
        | (go_at_call 28; (with_reducible refine (DI2.out).mono ?_); rintro e w1 ⟨rfl, rfl⟩))
      go_ret
      exact ⟨k1, rfl, a1, a2, NS3.out.symm, rfl⟩
  · have n9 := neI p1
    simp only [Int.cast_ofNat_Int] at n9
    rw [if_neg (fun x => p1 x.1)] at NS1
    have HP := Lib.hid p1
    clear p1
    have NS2 := NS1
    have b1 := a1
    have b2 := a2
    clear NS1 a1 a2 AT1 AT2 DI2
    obtain ⟨k2, hk2⟩ : ∃ k2, k2 = k1 := ⟨_, rfl⟩
    subst hk2
    have AT3 := Lib.hid (AT.out k2 _ rfl (by omega))
    by_cases q1 : hd (L.drop k2) = 69
    · rw [q1] at AT3
      have l2 := hd_lt q1 (by decide)
      have AT4 := Lib.hid (AT.out (k2 + 1) ((k2 : Int) + 1) (by omega) (by omega))
      rcases (show hd (L.drop (k2 + 1)) = 43 ∨ hd (L.drop (k2 + 1)) = 45 ∨ (hd (L.drop (k2 + 1)) ≠ 43 ∧ hd (L.drop (k2 + 1)) ≠ 45) from by omega) with q2 | q2 | ⟨q2, q3⟩
      · skip
        rw [q2] at AT4
        have l3 := hd_lt q2 (by decide)
        have EX : xpS (L.drop k2) = (if (digS (L.drop (k2 + 1 + 1))).length < (L.drop (k2 + 1 + 1)).length ∧ (L.drop (k2 + 1 + 1)).length ≤ (digS (L.drop (k2 + 1 + 1))).length + 6 then digS (L.drop (k2 + 1 + 1)) else L.drop k2) := by
          unfold xpS
          simp only [List.drop_drop, q1, q2, if_true, if_false, true_or, or_true]
        have DG3 := Lib.hid (DG.out (k2 + 1 + 1) ((k2 : Int) + 1 + 1) (by omega) (by omega))
        rw [EX] at NS2
        clear EX
        have HQ := Lib.hid q2
        clear q2
        have HQ1 := Lib.hid q1
        clear q1
        go_wp2_with (first
          | (go_at_call 26; (with_reducible refine (AT3.out).mono ?_); rintro e w1 ⟨rfl, rfl⟩)
          | (go_at_call 26; (with_reducible refine (AT4.out).mono ?_); rintro e w1 ⟨rfl, rfl⟩)
          | (go_at_call 47; (with_reducible refine (DG3.out).mono ?_); rintro e w1 ⟨k3, rfl, c1, c2, S3, rfl⟩; have S3' := Lib.hid S3; clear S3; clear DG3))
        all_goals
          rw [← S3'.out, drop_len c2, drop_len (by omega)] at NS2
          first
            | (rw [if_pos (by omega)] at NS2; go_ret; exact ⟨k3, rfl, by omega, c2, NS2.out.symm, rfl⟩)
            | (rw [if_neg (by omega)] at NS2; go_ret; exact ⟨k2, rfl, b1, b2, NS2.out.symm, rfl⟩)
      · skip
        rw [q2] at AT4
        have l3 := hd_lt q2 (by decide)
        have EX : xpS (L.drop k2) = (if (digS (L.drop (k2 + 1 + 1))).length < (L.drop (k2 + 1 + 1)).length ∧ (L.drop (k2 + 1 + 1)).length ≤ (digS (L.drop (k2 + 1 + 1))).length + 6 then digS (L.drop (k2 + 1 + 1)) else L.drop k2) := by
          unfold xpS
          simp only [List.drop_drop, q1, q2, if_true, if_false, true_or, or_true]
        have DG3 := Lib.hid (DG.out (k2 + 1 + 1) ((k2 : Int) + 1 + 1) (by omega) (by omega))
        rw [EX] at NS2
        clear EX
        have HQ := Lib.hid q2
        clear q2
        have HQ1 := Lib.hid q1
        clear q1
        go_wp2_with (first
          | (go_at_call 26; (with_reducible refine (AT3.out).mono ?_); rintro e w1 ⟨rfl, rfl⟩)
          | (go_at_call 26; (with_reducible refine (AT4.out).mono ?_); rintro e w1 ⟨rfl, rfl⟩)
          | (go_at_call 47; (with_reducible refine (DG3.out).mono ?_); rintro e w1 ⟨k3, rfl, c1, c2, S3, rfl⟩; have S3' := Lib.hid S3; clear S3; clear DG3))
        all_goals
          rw [← S3'.out, drop_len c2, drop_len (by omega)] at NS2
          first
            | (rw [if_pos (by omega)] at NS2; go_ret; exact ⟨k3, rfl, by omega, c2, NS2.out.symm, rfl⟩)
            | (rw [if_neg (by omega)] at NS2; go_ret; exact ⟨k2, rfl, b1, b2, NS2.out.symm, rfl⟩)
      · skip
        have n1 := neI q2
        have n2 := neI q3
        simp only [Int.cast_ofNat_Int] at n1 n2
        have EX : xpS (L.drop k2) = (if (digS (L.drop (k2 + 1))).length < (L.drop (k2 + 1)).length ∧ (L.drop (k2 + 1)).length ≤ (digS (L.drop (k2 + 1))).length + 6 then digS (L.drop (k2 + 1)) else L.drop k2) := by
          unfold xpS
          simp only [List.drop_drop, q1, q2, q3, if_true, if_false, or_self]
        have DG3 := Lib.hid (DG.out (k2 + 1) ((k2 : Int) + 1) (by omega) (by omega))
        rw [EX] at NS2
        clear EX
        have HQ := Lib.hid (And.intro q2 q3)
        clear q2 q3
        have HQ1 := Lib.hid q1
        clear q1
        go_wp2_with (first
          | (go_at_call 26; (with_reducible refine (AT3.out).mono ?_); rintro e w1 ⟨rfl, rfl⟩)
          | (go_at_call 26; (with_reducible refine (AT4.out).mono ?_); rintro e w1 ⟨rfl, rfl⟩)
          | (go_at_call 47; (with_reducible refine (DG3.out).mono ?_); rintro e w1 ⟨k3, rfl, c1, c2, S3, rfl⟩; have S3' := Lib.hid S3; clear S3; clear DG3))
        all_goals
          rw [← S3'.out, drop_len c2, drop_len (by omega)] at NS2
          first
            | (rw [if_pos (by omega)] at NS2; go_ret; exact ⟨k3, rfl, by omega, c2, NS2.out.symm, rfl⟩)
            | (rw [if_neg (by omega)] at NS2; go_ret; exact ⟨k2, rfl, b1, b2, NS2.out.symm, rfl⟩)
    · have n0 := neI q1
      simp only [Int.cast_ofNat_Int] at n0
      have NS3 := Lib.hid (show numS (L.drop k) = L.drop k2 from by rw [NS2.out]; unfold xpS; rw [if_neg q1])
      have HQ1 := Lib.hid q1
      clear q1 NS2
      go_wp2_with (first
        | (go_at_call 26; (with_reducible refine (AT3.out).mono ?_); rintro e w1 ⟨rfl, rfl⟩))
      go_ret
      exact ⟨k2, rfl, b1, b2, NS3.out.symm, rfl⟩
end Go.Proofs.YtfelcneedpndiaaGreatDoor

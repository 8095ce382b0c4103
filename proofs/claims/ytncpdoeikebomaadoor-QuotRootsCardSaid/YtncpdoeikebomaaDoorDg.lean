/-
  How many digits a number has (digits, Digits of package wide), each as a contract of its call.
-/
import Derived.Test.YtncpdoeikebomaaDoorTn
import Derived.Test.YtncpdoeikebomaaDoorR4
namespace Go.Proofs.YtncpdoeikebomaaDoor
open Go.RowKit

/-- How many digits a number has. -/
def nd (n : Nat) : Nat := (Dg.dg n).length
theorem nd_zero : nd 0 = 0 := by unfold nd; rw [Dg.dg_zero]; rfl
theorem nd_pos {n : Nat} (h : n ≠ 0) : nd n = nd (n / 10) + 1 := by unfold nd; rw [Dg.dg_pos h]; rfl
theorem nd_le {n k : Nat} (h : n < 10 ^ k) : nd n ≤ k := Dg.dg_length_le h
theorem nd_lt (n : Nat) : n < 10 ^ nd n := (Dg.dg_bounds n).1
theorem nd_ge {n k : Nat} (h : 10 ^ k ≤ n) : k + 1 ≤ nd n := by
  have := nd_lt n
  rcases Nat.lt_or_ge k (nd n) with z | z
  · exact z
  · exfalso
    have := Nat.pow_le_pow_right (show 0 < 10 by decide) z
    omega
theorem nd_of {n k : Nat} (h1 : 10 ^ k ≤ n) (h2 : n < 10 ^ (k + 1)) : nd n = k + 1 := Nat.le_antisymm (nd_le h2) (nd_ge h1)
theorem nd_min {n : Nat} (h : n ≠ 0) : 10 ^ (nd n - 1) ≤ n := by
  induction n using Nat.strongRecOn with
  | _ n ih =>
    rw [nd_pos h, Nat.add_sub_cancel]
    by_cases z : n / 10 = 0
    · rw [z, nd_zero]; show 1 ≤ n; omega
    · have := ih (n / 10) (by omega) z
      have p : nd (n / 10) = nd (n / 10) - 1 + 1 := by rw [nd_pos z]; omega
      rw [p, Nat.pow_succ]
      omega
theorem nd_div {n : Nat} (k : Nat) (h : 10 ^ k ≤ n) : nd n = k + nd (n / 10 ^ k) := by
  induction k generalizing n with
  | zero => simp
  | succ k ih =>
    have p : 0 < 10 ^ k := Nat.pow_pos (by decide)
    rw [Nat.pow_succ] at h
    have h0 : n ≠ 0 := by omega
    rw [nd_pos h0, ih (n := n / 10) (by omega), Nat.div_div_eq_div_mul, Nat.pow_succ, Nat.mul_comm 10]
    omega

theorem log_table : ∀ b : Fin 129, 2 ^ b.val ≤ 10 ^ (b.val * 1233 / 4096 + 1) ∧ (0 < b.val → 0 < b.val * 1233 / 4096 → 10 ^ (b.val * 1233 / 4096 - 1) ≤ 2 ^ (b.val - 1)) := by decide +kernel

theorem bitLen_bounds {x : Nat} (h0 : 0 < x) (h1 : x < 18446744073709551616) : 1 ≤ Lib.bitLen x ∧ Lib.bitLen x ≤ 64 ∧ 2 ^ (Lib.bitLen x - 1) ≤ x ∧ x < 2 ^ Lib.bitLen x := by
  obtain ⟨a, b, c⟩ := Lib.bitLenAux_bounds 64 x (by simpa using h1) (by omega)
  have d : Lib.bitLen x ≤ 64 := Lib.bitLen_le x 64 (Nat.le_refl _) (by simpa using h1)
  have e : Lib.bitLenAux 64 x = Lib.bitLen x := rfl
  rw [e] at a b c
  exact ⟨a, d, b, c⟩

theorem bl2_bounds {h l : Nat} (ha : WW h l) (h0 : nv h l ≠ 0) : 1 ≤ bl2 h l ∧ bl2 h l ≤ 128 ∧ 2 ^ (bl2 h l - 1) ≤ nv h l ∧ nv h l < 2 ^ bl2 h l := by
  obtain ⟨a1, a2⟩ := ha
  unfold bl2
  split
  · rename_i z
    subst z
    have e : nv 0 l = l := by simp [nv]
    rw [e] at h0 ⊢
    obtain ⟨b1, b2, b3, b4⟩ := bitLen_bounds (by omega) a2
    exact ⟨b1, by omega, b3, b4⟩
  · rename_i z
    obtain ⟨b1, b2, b3, b4⟩ := bitLen_bounds (by omega) a1
    refine ⟨by omega, by omega, ?_, ?_⟩
    · rw [show 64 + Lib.bitLen h - 1 = (Lib.bitLen h - 1) + 64 by omega, Nat.pow_add]
      have := Nat.mul_le_mul_right (2 ^ 64) b3
      unfold nv
      exact Nat.le_trans this (Nat.le_add_right _ _)
    · rw [Nat.add_comm, Nat.pow_add]
      have := Nat.mul_le_mul_right (2 ^ 64) (Nat.succ_le_of_lt b4)
      rw [Nat.succ_mul] at this
      have e : (2 : Nat) ^ 64 = 18446744073709551616 := rfl
      rw [e] at this ⊢
      unfold nv
      omega

theorem bl2_zero {h l : Nat} (h0 : nv h l = 0) : bl2 h l = 0 := by
  unfold nv at h0
  have e1 : h = 0 := by omega
  have e2 : l = 0 := by omega
  subst e1 e2
  decide +kernel

theorem digits_right {h l : Nat} (ha : WW h l) : bl2 h l * 1233 / 4096 ≤ 38 ∧ bl2 h l ≤ 128 ∧
    (10 ^ (bl2 h l * 1233 / 4096) ≤ nv h l → nd (nv h l) = bl2 h l * 1233 / 4096 + 1) ∧ (nv h l < 10 ^ (bl2 h l * 1233 / 4096) → nd (nv h l) = bl2 h l * 1233 / 4096) := by
  by_cases z : nv h l = 0
  · rw [bl2_zero z, z]
    refine ⟨by decide, by decide, fun h => ?_, fun _ => nd_zero⟩
    exact absurd h (by decide)
  · obtain ⟨b1, b2, b3, b4⟩ := bl2_bounds ha z
    obtain ⟨t1, t2⟩ := log_table ⟨bl2 h l, by omega⟩
    simp only at t1 t2
    generalize bl2 h l = b at *
    generalize nv h l = n at *
    refine ⟨by omega, b2, fun k => nd_of k (Nat.lt_of_lt_of_le b4 t1), fun k => ?_⟩
    rcases Nat.eq_zero_or_pos (b * 1233 / 4096) with y | y
    · rw [y] at k; exfalso; apply z; simpa using k
    · have := t2 (by omega) y
      have q := nd_of (Nat.le_trans this b3) (by rw [Nat.sub_add_cancel y]; exact k)
      rw [Nat.sub_add_cancel y] at q
      exact q

set_option maxHeartbeats 1000000 in
theorem digits_any (h l : Nat) (ha : WW h l) (w : World) (ht : Tab w) : Calls Tryd.prog 82 #[U h l] w (RetI (nd (nv h l) : Int) w) := by
  obtain ⟨k38, b128, d1, d2⟩ := digits_right ha
  have HB := Lib.hid (bitLength_any h l ha)
  have HT := Lib.hid ht
  have HA := Lib.hid ha
  have D1 := Lib.hid d1
  have D2 := Lib.hid d2
  generalize bl2 h l = b at *
  obtain ⟨k, hk⟩ : ∃ k, k = b * 1233 / 4096 := ⟨_, rfl⟩
  rw [← hk] at k38 D1 D2
  have e1 : IntKind.i64.wrap ((b : Int) * 1233) = (b : Int) * 1233 := by rw [IntKind.wrap_i64]; omega
  have e2 : (b : Int) * 1233 / 4096 = (k : Int) := by omega
  clear ht ha d1 d2 hk
  go_enter Tryd.func82, Tryd.ntmps82
  go_wp2_with fail
  refine (HB.out _).mono ?_
  rintro e w1 ⟨rfl, hb1⟩
  have B1 : Below w.heap.size w w1 := bstep (by go_grown) hb1
  have T1 := Lib.hid (HT.out.below B1)
  have G0 := Lib.hid ((by simp [Holds2, go_sem] : Holds2 _ w.heap.size h l).below hb1)
  clear hb1 HT HB
  go_wp2_with fail
  refine (ten_yes k k38 _ T1.out).mono ?_
  rintro e w2 ⟨ph, pl, P, rfl, hb2⟩
  have B2 : Below w.heap.size w w2 := bstep B1 hb2
  obtain ⟨a1, a2, a3, a4, a5⟩ := G0.out.below hb2
  have HP := Lib.hid P
  clear hb2 G0 T1 B1 P
  go_wp2_with fail
  refine (cmp_any h l ph pl HA.out HP.out.1 _).mono ?_
  rintro e w3 ⟨rfl, hb3⟩
  have B3 : Below w.heap.size w w3 := bstep (B2.alloc B2.size _) hb3
  rw [HP.out.2]
  clear a1 a2 a3 a4 a5 hb3 B2
  rcases Nat.lt_or_ge (nv h l) (10 ^ k) with z | z
  · rw [cmpN_lt z]
    have E := Lib.hid (D2.out z)
    clear z
    go_wp2
    go_ret
    exact ⟨by rw [E.out]; rfl, B3⟩
  · have t : decide (0 ≤ cmpN (nv h l) (10 ^ k)) = true := by
      rcases cmpN_range (nv h l) (10 ^ k) with ⟨e, _⟩ | ⟨e, _⟩ | ⟨e, _⟩
      · omega
      · rw [e]; decide
      · rw [e]; decide
    have E := Lib.hid (D1.out z)
    generalize cmpN (nv h l) (10 ^ k) = cv at *
    clear z
    go_wp2
    go_ret
    exact ⟨by rw [E.out]; exact congrArg Ending.returned (int_eq (by omega)), B3⟩

theorem digits_round {N n k m r : Nat} (e : m + nd k = N) (h : n * 10000000000000000000 + r = k) (hr : r < 10000000000000000000) (hk : 340282366920938463463374607431768211456 ≤ k) : m + 19 + nd n = N ∧ n < k := by
  have q : k / 10 ^ 19 = n := by
    show k / 10000000000000000000 = n
    omega
  have := nd_div (n := k) 19 (show 10000000000000000000 ≤ k by omega)
  rw [q] at this
  omega

/-- Where the loop stands. -/
def DigRel (w : World) (N k : Nat) (n : Value) (W : World) : Prop :=
  ∃ h l h' l' m : Nat, n = .int .i64 (m : Int) ∧ k = nv2 h l h' l' ∧ WW h l ∧ WW h' l' ∧ m + nd (nv2 h l h' l') = N ∧ Tab W ∧ Holds2 W w.heap.size h l ∧ Holds2 W (w.heap.size + 1) h' l' ∧ Below w.heap.size w W

theorem nd_256 {h l h' l' : Nat} (h1 : WW h l) (h2 : WW h' l') : nd (nv2 h l h' l') ≤ 78 := by
  refine nd_le (Nat.lt_of_lt_of_le ?_ (show B128 * B128 ≤ 10 ^ 78 by decide +kernel))
  have x := nv_lt h1
  have y := nv_lt h2
  have z := Nat.mul_le_mul_right B128 (Nat.succ_le_of_lt x)
  rw [Nat.succ_mul] at z
  unfold nv2
  omega

set_option maxHeartbeats 1000000 in
theorem digitsTop_any (ah al bh bl : Nat) (ha : WW ah al) (hb : WW bh bl) (w : World) (ht : Tab w) : Calls Tryd.prog 49 #[U ah al, U bh bl] w (RetI (nd (nv2 ah al bh bl) : Int) w) := by
  have n78 := nd_256 ha hb
  have HT := Lib.hid ht
  have HA := Lib.hid ha
  have HBB := Lib.hid hb
  obtain ⟨N, hN⟩ : ∃ N, N = nd (nv2 ah al bh bl) := ⟨_, rfl⟩
  have HN := Lib.hid hN
  rw [← hN] at n78 ⊢
  clear ht ha hb hN
  go_enter Tryd.func49, Tryd.ntmps49
  go_wp2
  go_loopg [5] (nv2 ah al bh bl) (fun k n W => DigRel w N k n W)
  case atStart => exact ⟨ah, al, bh, bl, 0, rfl, rfl, HA.out, HBB.out, by rw [HN.out, Nat.zero_add], HT.out.below (by go_grown), by simp [Holds2, go_sem], by simp [Holds2, go_sem], by go_grown⟩
  case round =>
    clear HA HBB HN
    obtain ⟨h, l, h', l', m, rfl, hk, w1, w2, e1, T0, A1, A2, HB⟩ := hrel
    have W1 := Lib.hid w1
    have W2 := Lib.hid w2
    have E1 := Lib.hid e1
    have T0 := Lib.hid T0
    have HK := Lib.hid hk
    have m78 : m ≤ 78 := by omega
    clear w1 w2 e1 hk
    obtain ⟨a1, a2, a3, a4, a5⟩ := id A1
    by_cases z : nv h l = 0
    · go_wp2_with fail
      refine (zero_t z _).mono ?_
      rintro e v1 ⟨rfl, hb1⟩
      have B1 : Below w.heap.size w v1 := bstep HB hb1
      have T1 := Lib.hid (T0.out.below hb1)
      clear a1 a2 a3 a4 a5
      obtain ⟨b1, b2, b3, b4, b5⟩ := A2.below hb1
      have E2 := Lib.hid (show m + nd (nv h' l') = N by have := E1.out; unfold nv2 at this; rw [z, Nat.zero_mul, Nat.zero_add] at this; exact this)
      have d78 : nd (nv h' l') ≤ N := by have := E2.out; omega
      clear hb1 z HB A1 A2 T0
      go_wp2_with fail
      refine (digits_any h' l' W2.out _ T1.out).mono ?_
      rintro e v2 ⟨rfl, hb2⟩
      generalize nd (nv h' l') = d at *
      go_wp2
      go_ret
      exact ⟨congrArg Ending.returned (int_eq (by have := E2.out; omega)), bstep B1 hb2⟩
    · have c19 : wr.cell? ⟨0, 19, none⟩ = some (.int .u64 10000000000000000000) := T0.out.2 19 (by decide)
      have big : 340282366920938463463374607431768211456 ≤ gk := by
        rw [HK.out]; unfold nv2 B128; omega
      have BIG := Lib.hid big
      clear big
      go_wp2_with fail
      refine (zero_f z _).mono ?_
      rintro e v1 ⟨rfl, hb1⟩
      have B1 : Below w.heap.size w v1 := bstep HB hb1
      have T1 := Lib.hid (T0.out.below hb1)
      have C1 := Lib.hid (A1.below hb1)
      have C2 := Lib.hid (A2.below hb1)
      clear a1 a2 a3 a4 a5 A1 A2 HB c19 hb1 z T0
      have c19 : v1.cell? ⟨0, 19, none⟩ = some (.int .u64 10000000000000000000) := T1.out.2 19 (by decide)
      have s0 : 0 < v1.heap.size := T1.out.1
      obtain ⟨a1, a2, a3, a4, a5⟩ := C1.out
      obtain ⟨b1, b2, b3, b4, b5⟩ := C2.out
      go_wp2_with fail
      refine (divWord_any h l h' l' 10000000000000000000 W1.out W2.out (by decide) (by decide) _).mono ?_
      rintro e v2 ⟨gh, gl, gh', gl', r, F, rfl, hb2⟩
      have FF := Lib.hid F
      have E2 := Lib.hid (digits_round E1.out (show nv2 gh gl gh' gl' * 10000000000000000000 + r = nv2 h l h' l' from F.2.2.2) F.2.2.1 (by have := BIG.out; rw [HK.out] at this; exact this))
      have B2 : Below w.heap.size w v2 := bstep B1 hb2
      have T2 := Lib.hid (T1.out.below hb2)
      have G1 := Lib.hid (C1.out.below hb2)
      have G2 := Lib.hid (C2.out.below hb2)
      clear a1 a2 a3 a4 a5 b1 b2 b3 b4 b5 hb2 F c19 s0 B1 T1 C1 C2 E1
      obtain ⟨a1, a2, a3, a4, a5⟩ := G1.out
      obtain ⟨b1, b2, b3, b4, b5⟩ := G2.out
      go_wp2
      go_roundg (nv2 gh gl gh' gl')
      case measure => have := E2.out.2; rw [HK.out]; exact this
      case rel =>
        refine ⟨gh, gl, gh', gl', m + 19, by go_num, rfl, FF.out.1, FF.out.2.1, E2.out.1, ?_, ?_, ?_, ?_⟩
        · exact HT.out.below (by clear a1 a2 a3 a4 b1 b2 b3 b4; go_grown)
        · exact Holds2.far (Holds2.far (Holds2.put G1.out) (by show _ ≠ _; dsimp only; omega) _) (by show _ ≠ _; dsimp only; omega) _
        · exact Holds2.put (Holds2.far (Holds2.far G2.out (by show _ ≠ _; dsimp only; omega) _) (by show _ ≠ _; dsimp only; omega) _)
        · clear a1 a2 a3 a4 b1 b2 b3 b4
          go_grown
end Go.Proofs.YtncpdoeikebomaaDoor

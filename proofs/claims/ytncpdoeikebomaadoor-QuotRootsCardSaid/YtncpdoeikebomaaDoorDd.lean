/-
  The quotient of package wide, as a contract of its call, by every divisor.
-/
import Derived.Test.YtncpdoeikebomaaDoorDc
import Derived.Test.YtncpdoeikebomaaDoorI
namespace Go.Proofs.YtncpdoeikebomaaDoor
open Go.RowKit

theorem left_fits {h l s h' l' : Nat} (f : LeftF h l s h' l') (k : nv h l * 2 ^ s < B128) : WW h' l' ∧ nv h' l' = nv h l * 2 ^ s := by
  refine ⟨f.1, ?_⟩
  have := f.2
  rw [Nat.div_eq_of_lt k, Nat.zero_mul, Nat.add_zero] at this
  exact this
theorem left_over {h l s h' l' : Nat} (hs : s ≤ 63) (f : LeftF h l s h' l') : nv h' l' = nv h l % 2 ^ (128 - s) * 2 ^ s := by
  have e : 2 ^ (128 - s) * 2 ^ s = B128 := by rw [← Nat.pow_add, show 128 - s + s = 128 by omega]; rfl
  rw [← Sh.mul_mod_of e]
  have a := f.2
  have b := nv_lt f.1
  have c := Nat.div_add_mod' (nv h l * 2 ^ s) B128
  generalize nv h l * 2 ^ s / B128 * B128 = m at *
  omega
theorem high_word {h l s : Nat} (hs : s ≤ 63) (hl : l < 18446744073709551616) : nv h l / 2 ^ (128 - s) = h / 2 ^ (64 - s) := by
  rw [show 128 - s = 64 + (64 - s) by omega, Nat.pow_add, ← Nat.div_div_eq_div_mul]
  congr 1
  unfold nv
  rw [show (2 : Nat) ^ 64 = 18446744073709551616 from rfl]
  omega

def PrepF (hh hl lh dh dl s Dh Dl xh xl : Nat) : Prop :=
  bits BinOp.or .u64 (xl : Int) ((lh : Int) / 2 ^ (64 - s)) = ((xl + lh / 2 ^ (64 - s) : Nat) : Int) ∧ WW xh (xl + lh / 2 ^ (64 - s)) ∧ 0 < Dh ∧ nv Dh Dl = nv dh dl * 2 ^ s ∧ nv xh (xl + lh / 2 ^ (64 - s)) = nv hh hl * 2 ^ s + lh / 2 ^ (64 - s)

theorem div_prep {hh hl lh dh dl s Dh Dl xh xl : Nat} (hlh : lh < 18446744073709551616) (hd : WW dh dl) (k : nv hh hl < nv dh dl) (L : LzF dh s) (f1 : LeftF dh dl s Dh Dl) (f2 : LeftF hh hl s xh xl) : PrepF hh hl lh dh dl s Dh Dl xh xl := by
  obtain ⟨l1, l2, l3⟩ := L
  have e := Sh.pow64 l1
  have hp : 0 < 2 ^ s := Nat.two_pow_pos s
  have b1 : nv dh dl * 2 ^ s < B128 := by
    have q1 : dh < 2 ^ (64 - s) := by
      rcases Nat.lt_or_ge dh (2 ^ (64 - s)) with h | h
      · exact h
      · have := Nat.mul_le_mul_right (2 ^ s) h
        omega
    have q2 : nv dh dl < 2 ^ (64 - s) * 18446744073709551616 := by
      have := Nat.mul_le_mul_right 18446744073709551616 (Nat.succ_le_of_lt q1)
      rw [Nat.succ_mul] at this
      have := hd.2
      unfold nv
      omega
    have q3 := Nat.mul_lt_mul_of_pos_right q2 hp
    rw [Nat.mul_right_comm, e] at q3
    exact q3
  have b2 : nv hh hl * 2 ^ s < B128 := Nat.lt_trans (Nat.mul_lt_mul_of_pos_right k hp) b1
  obtain ⟨g1, g2⟩ := left_fits f1 b1
  obtain ⟨g3, g4⟩ := left_fits f2 b2
  have x0 : xl % 2 ^ s = 0 := by
    have d1 : 2 ^ s ∣ xh * 18446744073709551616 + xl := ⟨nv hh hl, by rw [Nat.mul_comm (2 ^ s)]; exact g4⟩
    have d2 : 2 ^ s ∣ xh * 18446744073709551616 := ⟨xh * 2 ^ (64 - s), by rw [← e, Nat.mul_comm (2 ^ s), Nat.mul_assoc]⟩
    exact Nat.mod_eq_zero_of_dvd ((Nat.dvd_add_right d2).1 d1)
  have lt : lh / 2 ^ (64 - s) < 2 ^ s := Nat.div_lt_of_lt_mul (by rw [e]; exact hlh)
  have xe : xl = xl / 2 ^ s * 2 ^ s := by have := Nat.div_add_mod' xl (2 ^ s); omega
  have xlt : xl / 2 ^ s < 2 ^ (64 - s) := Nat.div_lt_of_lt_mul (by rw [Nat.mul_comm, e]; exact g3.2)
  have xs : xl + lh / 2 ^ (64 - s) < 18446744073709551616 := by
    have := Nat.mul_le_mul_right (2 ^ s) (Nat.succ_le_of_lt xlt)
    rw [Nat.succ_mul, e] at this
    omega
  refine ⟨?_, ⟨g3.1, xs⟩, ?_, g2, ?_⟩
  · rw [divPow, bits_or_u64_nat _ _ g3.2 (by omega)]
    conv => lhs; rw [xe]
    rw [Sh.or_sum'' lt, ← xe]
  · rcases Nat.eq_zero_or_pos Dh with z | z
    · exfalso
      subst z
      have : 18446744073709551616 ≤ nv dh dl := by
        have : 0 < dh := by
          rcases Nat.eq_zero_or_pos dh with z | z
          · subst z; omega
          · exact z
        unfold nv; omega
      have q := Nat.mul_le_mul this hp
      have := g1.2
      unfold nv at g2 q
      omega
    · exact z
  · rw [← g4]; unfold nv; omega

theorem prep_lt {hh hl lh ll dh dl s Dh Dl xh xl : Nat} (h2 : WW lh ll) (k : nv hh hl < nv dh dl) (hs : s ≤ 63) (P : PrepF hh hl lh dh dl s Dh Dl xh xl) : nv xh (xl + lh / 2 ^ (64 - s)) < nv Dh Dl := by
  obtain ⟨_, _, _, p4, p5⟩ := P
  have e : 2 ^ (128 - s) * 2 ^ s = B128 := by rw [← Nat.pow_add, show 128 - s + s = 128 by omega]; rfl
  rw [p4, p5]
  exact (Dv.shifted e k (nv_lt h2) (high_word hs h2.2).symm rfl).2.1

theorem prep_all {hh hl lh ll dh dl s Dh Dl xh xl yh yl q1 q2 r1h r1l r2h r2l : Nat} (h2 : WW lh ll) (k : nv hh hl < nv dh dl) (hs : s ≤ 63) (P : PrepF hh hl lh dh dl s Dh Dl xh xl) (f3 : LeftF lh ll s yh yl)
    (s1 : StepQ xh (xl + lh / 2 ^ (64 - s)) yh Dh Dl q1 r1h r1l) (s2 : StepQ r1h r1l yl Dh Dl q2 r2h r2l) {rh rl : Nat} (R : RightF r2h r2l s rh rl) : QuoF hh hl lh ll dh dl q1 q2 rh rl := by
  obtain ⟨_, _, _, p4, p5⟩ := P
  have e : 2 ^ (128 - s) * 2 ^ s = B128 := by rw [← Nat.pow_add, show 128 - s + s = 128 by omega]; rfl
  have A := (Dv.shifted e k (nv_lt h2) (high_word hs h2.2).symm (left_over hs f3)).1
  rw [← p5] at A
  obtain ⟨a1, a2, a3, a4⟩ := s1
  obtain ⟨b1, b2, b3, b4⟩ := s2
  obtain ⟨c1, c2⟩ := Dv.final (K := 18446744073709551616) (Nat.two_pow_pos s) p4 A a4 b4 b3
  rw [← R.2] at c1 c2
  exact ⟨⟨a1, b1⟩, R.1, c1, c2⟩

theorem Holds2.put' {W : World} {g a b l : Nat} (H : Holds2 W g a b) : Holds2 (W.setCell ⟨g, 1, none⟩ (.int .u64 (l : Int))) g a l := by
  obtain ⟨a, b, c, d, e⟩ := H
  simp [Holds2, go_sem, *]

set_option maxHeartbeats 4000000 in
theorem div_high (hh hl lh ll dh dl : Nat) (h1 : WW hh hl) (h2 : WW lh ll) (hd : WW dh dl) (k : nv hh hl < nv dh dl) (h0 : 0 < dh) (w : World) :
    Calls Tryd.prog 32 #[U hh hl, U lh ll, U dh dl] w (RetUUB (QuoF hh hl lh ll dh dl) true w) := by
  have C := cmp_any hh hl dh dl h1 hd
  rw [cmpN_lt k] at C
  have HC := Lib.hid C
  have t0 : ((dh : Int) == 0) = false := by simp; omega
  have HL := Lib.hid (lz_any dh h0 hd.1)
  have H1 := Lib.hid h1
  have H2 := Lib.hid h2
  have HD := Lib.hid hd
  have HK := Lib.hid k
  clear C h1 h2 hd k h0
  go_enter Tryd.func32, Tryd.ntmps32
  go_wp2_with fail
  refine (HC.out _).mono ?_
  rintro e w1 ⟨rfl, hb1⟩
  have B1 : Below w.heap.size w w1 := bstep (by go_grown) hb1
  have A0 := Lib.hid (Holds2.below (by simp [Holds2, go_sem]) hb1 : Holds2 w1 w.heap.size hh hl)
  have A1 := Lib.hid (Holds2.below (by simp [Holds2, go_sem]) hb1 : Holds2 w1 (w.heap.size + 1) lh ll)
  have A2 := Lib.hid (Holds2.below (by simp [Holds2, go_sem]) hb1 : Holds2 w1 (w.heap.size + 1 + 1) dh dl)
  have A3 := Lib.hid (Holds2.below (by simp [Holds2, go_sem]) hb1 : Holds2 w1 (w.heap.size + 1 + 1 + 1) 0 0)
  have A4 := Lib.hid (Holds2.below (by simp [Holds2, go_sem]) hb1 : Holds2 w1 (w.heap.size + 1 + 1 + 1 + 1) 0 0)
  clear hb1 HC
  obtain ⟨c1, c2, c3, c4, c5⟩ := A2.out
  go_wp2_with fail
  refine (HL.out _).mono ?_
  rintro e w' ⟨s, L, rfl, rfl⟩
  have LL := Lib.hid L
  clear L HL
  go_wp2_with fail
  refine (left_any dh dl s LL.out.1 HD.out _).mono ?_
  rintro e w2 ⟨Dh, Dl, F1, rfl, hb2⟩
  have FF1 := Lib.hid F1
  have A0 := Lib.hid (A0.out.below hb2)
  have A1 := Lib.hid (A1.out.below hb2)
  have A2 := Lib.hid (A2.out.below hb2)
  have A3 := Lib.hid (A3.out.below hb2)
  have A4 := Lib.hid (A4.out.below hb2)
  have B2 : Below w.heap.size w w2 := bstep B1 hb2
  clear F1 hb2 c1 c2 c3 c4 c5 B1
  obtain ⟨a1, a2, a3, a4, a5⟩ := A0.out
  obtain ⟨c1, c2, c3, c4, c5⟩ := A2.out
  go_wp2_with fail
  refine (left_any hh hl s LL.out.1 H1.out _).mono ?_
  rintro e w3 ⟨xh, xl, F2, rfl, hb3⟩
  have PP := Lib.hid (div_prep H2.out.1 HD.out HK.out LL.out FF1.out F2)
  have PL := Lib.hid (prep_lt H2.out HK.out LL.out.1 PP.out)
  have A0 := Lib.hid (Holds2.below (Holds2.far (Holds2.far A0.out (by show _ ≠ _; dsimp only; omega) _) (by show _ ≠ _; dsimp only; omega) _) hb3)
  have A1 := Lib.hid (Holds2.below (Holds2.far (Holds2.far A1.out (by show _ ≠ _; dsimp only; omega) _) (by show _ ≠ _; dsimp only; omega) _) hb3)
  have A3 := Lib.hid (Holds2.below (Holds2.far (Holds2.far A3.out (by show _ ≠ _; dsimp only; omega) _) (by show _ ≠ _; dsimp only; omega) _) hb3)
  have A4 := Lib.hid (Holds2.below (Holds2.far (Holds2.far A4.out (by show _ ≠ _; dsimp only; omega) _) (by show _ ≠ _; dsimp only; omega) _) hb3)
  have A2 := Lib.hid (Holds2.below (Holds2.put (h := Dh) (l := Dl) A2.out) hb3)
  have B3 : Below w.heap.size w w3 := bstep (by clear a1 a2 a3 a4 a5 c1 c2 c3 c4 c5; go_grown) hb3
  clear F2 hb3 a1 a2 a3 a4 a5 c1 c2 c3 c4 c5 B2
  have e9 := PP.out.1
  obtain ⟨Xi, hX⟩ := named (xl + lh / 2 ^ (64 - s))
  rw [← hX] at e9
  have HX := Lib.hid hX
  clear hX
  have s63 := LL.out.1
  obtain ⟨a1, a2, a3, a4, a5⟩ := A0.out
  obtain ⟨b1, b2, b3, b4, b5⟩ := A1.out
  go_wp2
  go_region
  go_wp2_with fail
  refine (left_any lh ll s LL.out.1 H2.out _).mono ?_
  rintro e w4 ⟨yh, yl, F3, rfl, hb4⟩
  have hXi := HX.out
  subst hXi
  have FF3 := Lib.hid F3
  have C1 := Lib.hid (Holds2.below (by repeat' (first | (with_reducible exact A1.out) | (with_reducible refine Holds2.drew ?_) | (with_reducible refine Holds2.alloc ?_ _) | (with_reducible refine Holds2.far ?_ ?_ _) | (show _ ≠ _; (try dsimp only); omega))) hb4 : Holds2 w4 (w.heap.size + 1) lh ll)
  have C2 := Lib.hid (Holds2.below (by repeat' (first | (with_reducible exact A2.out) | (with_reducible refine Holds2.drew ?_) | (with_reducible refine Holds2.alloc ?_ _) | (with_reducible refine Holds2.far ?_ ?_ _) | (show _ ≠ _; (try dsimp only); omega))) hb4 : Holds2 w4 (w.heap.size + 1 + 1) Dh Dl)
  have C3 := Lib.hid (Holds2.below (by repeat' (first | (with_reducible exact A3.out) | (with_reducible refine Holds2.drew ?_) | (with_reducible refine Holds2.alloc ?_ _) | (with_reducible refine Holds2.far ?_ ?_ _) | (show _ ≠ _; (try dsimp only); omega))) hb4 : Holds2 w4 (w.heap.size + 1 + 1 + 1) 0 0)
  have C4 := Lib.hid (Holds2.below (by repeat' (first | (with_reducible exact A4.out) | (with_reducible refine Holds2.drew ?_) | (with_reducible refine Holds2.alloc ?_ _) | (with_reducible refine Holds2.far ?_ ?_ _) | (show _ ≠ _; (try dsimp only); omega))) hb4 : Holds2 w4 (w.heap.size + 1 + 1 + 1 + 1) 0 0)
  have C0 := Lib.hid (Holds2.below (by with_reducible exact Holds2.drew (Holds2.put' (Holds2.put A0.out))) hb4 : Holds2 w4 w.heap.size xh (xl + lh / 2 ^ (64 - s)))
  have B4 : Below w.heap.size w w4 := bstep (by clear a1 a2 a3 a4 a5 b1 b2 b3 b4 b5; go_grown) hb4
  clear F3 hb4 a1 a2 a3 a4 a5 b1 b2 b3 b4 b5 B3 A0 A1 A2 A3 A4 e9 HX
  obtain ⟨j1, pw, p0, j2⟩ := PP.out
  clear j1 j2
  have PW := Lib.hid pw
  have P0 := Lib.hid p0
  have P00 := Lib.hid p0
  have DW := Lib.hid FF1.out.1
  clear pw p0 FF1
  generalize hX : xl + lh / 2 ^ (64 - s) = X at *
  have HX := Lib.hid hX
  clear hX
  obtain ⟨a1, a2, a3, a4, a5⟩ := C0.out
  obtain ⟨b1, b2, b3, b4, b5⟩ := C1.out
  obtain ⟨c1, c2, c3, c4, c5⟩ := C2.out
  go_wp2_with fail
  refine (divStep_any xh X yh Dh Dl PW.out FF3.out.1.1 DW.out PL.out P0.out _).mono ?_
  rintro e w5 ⟨q1, r1h, r1l, S1, rfl, hb5⟩
  have SS1 := Lib.hid S1
  have D1 := Lib.hid (Holds2.below (Holds2.put (h := yh) (l := yl) C1.out) hb5)
  have D2 := Lib.hid (Holds2.below (Holds2.far (Holds2.far C2.out (by show _ ≠ _; dsimp only; omega) _) (by show _ ≠ _; dsimp only; omega) _) hb5)
  have D3 := Lib.hid (Holds2.below (Holds2.far (Holds2.far C3.out (by show _ ≠ _; dsimp only; omega) _) (by show _ ≠ _; dsimp only; omega) _) hb5)
  have D4 := Lib.hid (Holds2.below (Holds2.far (Holds2.far C4.out (by show _ ≠ _; dsimp only; omega) _) (by show _ ≠ _; dsimp only; omega) _) hb5)
  have B5 : Below w.heap.size w w5 := bstep (by clear a1 a2 a3 a4 a5 b1 b2 b3 b4 b5 c1 c2 c3 c4 c5; go_grown) hb5
  clear S1 hb5 a1 a2 a3 a4 a5 b1 b2 b3 b4 b5 c1 c2 c3 c4 c5 B4 C0 C1 C2 C3 C4 PL P0 PW
  have r1w := SS1.out.2.1
  have R1W := Lib.hid r1w
  have R1L := Lib.hid SS1.out.2.2.1
  clear r1w
  obtain ⟨b1, b2, b3, b4, b5⟩ := D1.out
  obtain ⟨c1, c2, c3, c4, c5⟩ := D2.out
  have z1 : w.heap.size + 1 < w5.heap.size + 1 := by omega
  have z2 : w.heap.size + 1 + 1 < w5.heap.size + 1 := by omega
  go_wp2_with fail
  refine (divStep_any r1h r1l yl Dh Dl R1W.out FF3.out.1.2 DW.out R1L.out P00.out _).mono ?_
  rintro e w6 ⟨q2, r2h, r2l, S2, rfl, hb6⟩
  have SS2 := Lib.hid S2
  have E3 := Lib.hid (Holds2.below (by repeat' (first | (with_reducible exact D3.out) | (with_reducible refine Holds2.alloc ?_ _))) hb6 : Holds2 w6 (w.heap.size + 1 + 1 + 1) 0 0)
  have E4 := Lib.hid (Holds2.below (by repeat' (first | (with_reducible exact D4.out) | (with_reducible refine Holds2.alloc ?_ _))) hb6 : Holds2 w6 (w.heap.size + 1 + 1 + 1 + 1) 0 0)
  have E5 := Lib.hid (Holds2.below (by simp [Holds2, go_sem]) hb6 : Holds2 w6 w5.heap.size r1h r1l)
  have B6 : Below w.heap.size w w6 := bstep (by clear b1 b2 b3 b4 b5 c1 c2 c3 c4 c5; go_grown) hb6
  have w5s : w.heap.size + 1 + 1 + 1 + 1 < w5.heap.size := D4.out.2.2.2.2
  clear S2 hb6 b1 b2 b3 b4 b5 c1 c2 c3 c4 c5 B5 D1 D2 D3 D4 z1 z2 R1W R1L
  obtain ⟨a1, a2, a3, a4, a5⟩ := E5.out
  go_wp2_with fail
  refine (right_any r2h r2l s LL.out.1 SS2.out.2.1 _).mono ?_
  rintro e w7 ⟨rh, rl, R, rfl, hb7⟩
  have FIN := Lib.hid (prep_all H2.out HK.out LL.out.1 PP.out FF3.out (by rw [HX.out]; exact SS1.out) SS2.out R)
  have G3 := Lib.hid (Holds2.below (Holds2.far (Holds2.far E3.out (by show _ ≠ _; dsimp only; omega) _) (by show _ ≠ _; dsimp only; omega) _) hb7 : Holds2 w7 (w.heap.size + 1 + 1 + 1) 0 0)
  have G4 := Lib.hid (Holds2.below (Holds2.far (Holds2.far E4.out (by show _ ≠ _; dsimp only; omega) _) (by show _ ≠ _; dsimp only; omega) _) hb7 : Holds2 w7 (w.heap.size + 1 + 1 + 1 + 1) 0 0)
  have B7 : Below w.heap.size w w7 := bstep (by clear a1 a2 a3 a4 a5; go_grown) hb7
  clear hb7 a1 a2 a3 a4 a5 B6 E3 E4 E5
  obtain ⟨a1, a2, a3, a4, a5⟩ := G3.out
  obtain ⟨b1, b2, b3, b4, b5⟩ := G4.out
  go_wp2
  refine bodyPost_ret (v := .tuple #[U q1 q2, U rh rl, .bool true]) (by simp [results, Tryd.results32, go_sem, *]) rfl ⟨_, _, _, _, FIN.out, rfl, ?_⟩
  clear a1 a2 a3 a4 a5 b1 b2 b3 b4 b5
  go_grown
end Go.Proofs.YtncpdoeikebomaaDoor

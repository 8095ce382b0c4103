/-
  The statement WideBack, walked: it answers true.
-/
import Derived.Test.YtlcpbmjipplcdaaDoorN
import Derived.Test.YtlcpbmjipplcdaaDoorDe
import Derived.Test.YtlcpbmjipplcdaaDoorTx
import Derived.Test.YtlcpbmjipplcdaaDoorRe
namespace Go.Proofs.YtlcpbmjipplcdaaDoor
open Go.RowKit

theorem dec_byte (k : Nat) (h : k < 10) : (UInt8.ofNat (48 + k)).toNat = 48 + k := by
  rw [UInt8.toNat_ofNat']
  exact Nat.mod_eq_of_lt (by omega)
theorem dec_reads (n : Nat) : dv (Lib.decDigits n) = n ∧ AllD (Lib.decDigits n) ∧ Lib.decDigits n ≠ [] := by
  induction n using Nat.strongRecOn with
  | _ n ih =>
    by_cases z : n < 10
    · rw [Lib.decDigits_one z]
      refine ⟨?_, ?_, by simp⟩
      · simp only [dv, List.foldl_cons, List.foldl_nil, dec_byte n z]; omega
      · intro b hb
        rw [List.mem_singleton.1 hb, dec_byte n z]
        omega
    · obtain ⟨i1, i2, _⟩ := ih (n / 10) (by omega)
      rw [Dx.dec_big z]
      refine ⟨?_, ?_, by simp⟩
      · rw [dv_snoc, i1, dec_byte _ (by omega)]; omega
      · exact AllD.snoc i2 (by rw [dec_byte _ (by omega)]; omega)
theorem read_back {ah al h l : Nat} {ok : Bool} (ha : WW ah al) (f : ReadF (Lib.decDigits (nv ah al)) h l ok) : (h = ah ∧ l = al) ∧ ok = true := by
  obtain ⟨d1, d2, d3⟩ := dec_reads (nv ah al)
  obtain ⟨f1, f2⟩ := f
  rcases f2 with ⟨f3, _, _, f4⟩ | ⟨_, _, f4⟩
  · exact ⟨nv_inj f1 ha (by rw [f4, d1]), f3⟩
  · exact absurd ⟨d3, d2, by rw [d1]; exact nv_lt ha⟩ f4
theorem back_plain {B s o a b m u : Nat} (f2 : o ≤ 1) (g2 : u ≤ 1) (f3 : s + o * B = a + b) (g3 : m + b = s + u * B) (a1 : a < B) (a2 : m < B) : m = a ∧ u = o := by
  have hu : u = 0 ∨ u = 1 := by omega
  have ho : o = 0 ∨ o = 1 := by omega
  rcases hu with rfl | rfl <;> rcases ho with rfl | rfl <;> simp only [Nat.zero_mul, Nat.one_mul, Nat.add_zero] at f3 g3 <;> omega
theorem back_words {ah al bh bl sh sl o mh ml u : Nat} (ha : WW ah al) (f : SumF ah al bh bl 0 sh sl o) (g : SubF sh sl bh bl 0 mh ml u) : (mh = ah ∧ ml = al) ∧ u = o := by
  obtain ⟨f1, f2, f3⟩ := f
  obtain ⟨g1, g2, g3⟩ := g
  rw [Nat.add_zero] at f3 g3
  have q := back_plain f2 g2 f3 g3 (nv_lt ha) (nv_lt g1)
  exact ⟨nv_inj g1 ha q.1, q.2⟩
theorem mul_back {ah al bh bl dh dl qh ql rh rl ph pl p2h p2l h l h' l' c : Nat} (ha : WW ah al) (hb : WW bh bl) (q : QuoF ah al bh bl dh dl qh ql rh rl) (p : ProdF qh ql dh dl ph pl p2h p2l) (s : Sum2F ph pl p2h p2l 0 0 rh rl h l h' l' c) :
    ((h = ah ∧ l = al) ∧ h' = bh ∧ l' = bl) ∧ c = 0 := by
  obtain ⟨q1, q2, q3, q4⟩ := q
  obtain ⟨p1, p2, p3⟩ := p
  obtain ⟨s1, s2, s3, s4⟩ := s
  have e : nv2 h l h' l' + c * (B128 * B128) = nv2 ah al bh bl := by
    rw [← q4, ← p3]
    rw [show nv 0 0 = 0 from rfl, Nat.zero_mul, Nat.zero_add] at s4
    exact s4
  have lt : nv2 ah al bh bl < B128 * B128 := by
    have x := nv_lt ha
    have y := nv_lt hb
    have z := Nat.mul_le_mul_right B128 (Nat.succ_le_of_lt x)
    rw [Nat.succ_mul] at z
    unfold nv2
    omega
  have c0 : c = 0 := by
    rcases Nat.eq_zero_or_pos c with z | z
    · exact z
    · have := Nat.le_mul_of_pos_left (B128 * B128) z
      generalize B128 * B128 = Q at *
      generalize c * Q = R at *
      omega
  subst c0
  rw [Nat.zero_mul, Nat.add_zero] at e
  exact ⟨words_eq s1 s2 ha hb e, rfl⟩

set_option maxRecDepth 100000 in
set_option maxHeartbeats 8000000 in
theorem wideBack_walk (ah al bh bl dh dl : Nat) (h1 : WW ah al) (h2 : WW bh bl) (h3 : WW dh dl) (w : World) (ht : Tab w) (ht2 : Tab2 w) :
    Calls Tryd.prog 5 #[U ah al, U bh bl, U dh dl] w (RetB true w) := by
  have HT := Lib.hid ht
  have HT2 := Lib.hid ht2
  have H1 := Lib.hid h1
  have H2 := Lib.hid h2
  have H3 := Lib.hid h3
  clear ht ht2 h1 h2 h3
  go_enter Tryd.func5, Tryd.ntmps5
  go_wp2_with fail
  refine (awake_any _ (HT.out.below (by go_grown))).mono ?_
  rintro e w1 ⟨rfl, hb1⟩
  have A0 := Lib.hid (Holds2.below (by simp [Holds2, go_sem]) hb1 : Holds2 w1 w.heap.size ah al)
  have A1 := Lib.hid (Holds2.below (by simp [Holds2, go_sem]) hb1 : Holds2 w1 (w.heap.size + 1) bh bl)
  have A2 := Lib.hid (Holds2.below (by simp [Holds2, go_sem]) hb1 : Holds2 w1 (w.heap.size + 1 + 1) dh dl)
  have B1 := Lib.hid (bstep (by go_grown) hb1 : Below w.heap.size w w1)
  clear hb1
  obtain ⟨a1, a2, a3, a4, a5⟩ := A0.out
  obtain ⟨b1, b2, b3, b4, b5⟩ := A1.out
  go_wp2_with fail
  refine (add_any ah al bh bl H1.out H2.out _).mono ?_
  rintro e w2 ⟨sh, sl, o, S, rfl, hb2⟩
  have HS := Lib.hid S
  have SW := Lib.hid S.1
  replace A0 := Lib.hid (A0.out.below hb2)
  replace A1 := Lib.hid (A1.out.below hb2)
  replace A2 := Lib.hid (A2.out.below hb2)
  have B2 := Lib.hid (bstep B1.out hb2)
  clear hb2 S B1 a1 a2 a3 a4 a5 b1 b2 b3 b4 b5
  obtain ⟨b1, b2, b3, b4, b5⟩ := A1.out
  have z1 : w.heap.size + 1 < w2.heap.size + 1 := by omega
  go_wp2_with fail
  refine (sub_any sh sl bh bl SW.out H2.out _).mono ?_
  rintro e w3 ⟨mh, ml, u, M, rfl, hb3⟩
  obtain ⟨⟨rfl, rfl⟩, rfl⟩ := back_words H1.out HS.out M
  replace A0 := Lib.hid ((A0.out.alloc _).below hb3)
  replace A1 := Lib.hid ((A1.out.alloc _).below hb3)
  replace A2 := Lib.hid ((A2.out.alloc _).below hb3)
  have B3 := Lib.hid (bstep (balc B2.out _) hb3)
  clear hb3 M B2 b1 b2 b3 b4 b5 z1 HS SW
  obtain ⟨a1, a2, a3, a4, a5⟩ := A0.out
  have z1 : w.heap.size < w3.heap.size + 1 := by omega
  go_wp2_with fail
  refine (text_any (nv mh ml) mh ml rfl H1.out _ (HT.out.below (balc B3.out _)) (HT2.out.below (balc B3.out _))).mono ?_
  rintro e w4 ⟨rfl, hb4⟩
  replace A0 := Lib.hid ((A0.out.alloc _).below hb4)
  replace A1 := Lib.hid ((A1.out.alloc _).below hb4)
  replace A2 := Lib.hid ((A2.out.alloc _).below hb4)
  have A3 := Lib.hid (Holds2.below (Holds2.new2 rfl) hb4 : Holds2 w4 w3.heap.size mh ml)
  have B4 := Lib.hid (bstep (balc B3.out _) hb4)
  clear hb4 B3 a1 a2 a3 a4 a5 z1
  go_wp2_with fail
  refine (read_any _ _).mono ?_
  rintro e w5 ⟨nh, nl, ok, R, rfl, hb5⟩
  obtain ⟨⟨rfl, rfl⟩, rfl⟩ := read_back H1.out R
  replace A0 := Lib.hid ((A0.out.below hb5).alloc (.cells #[.int .u64 (nh : Int), .int .u64 (nl : Int)] 24))
  replace A1 := Lib.hid ((A1.out.below hb5).alloc (.cells #[.int .u64 (nh : Int), .int .u64 (nl : Int)] 24))
  replace A2 := Lib.hid ((A2.out.below hb5).alloc (.cells #[.int .u64 (nh : Int), .int .u64 (nl : Int)] 24))
  replace A3 := Lib.hid ((A3.out.below hb5).alloc (.cells #[.int .u64 (nh : Int), .int .u64 (nl : Int)] 24))
  have A4 := Lib.hid (Holds2.new2 rfl : Holds2 (w5.alloc (.cells #[.int .u64 (nh : Int), .int .u64 (nl : Int)] 24)) w5.heap.size nh nl)
  have B5 := Lib.hid (balc (bstep B4.out hb5) (.cells #[.int .u64 (nh : Int), .int .u64 (nl : Int)] 24))
  clear hb5 B4 R
  go_upto_region 6 with fail
  generalize w5.alloc (.cells #[.int .u64 (nh : Int), .int .u64 (nl : Int)] 24) = W5 at *
  obtain ⟨a1, a2, a3, a4, a5⟩ := A0.out
  obtain ⟨b1, b2, b3, b4, b5⟩ := A1.out
  obtain ⟨c1, c2, c3, c4, c5⟩ := A2.out
  obtain ⟨d1, d2, d3, d4, d5⟩ := A3.out
  obtain ⟨e1, e2, e3, e4, e5⟩ := A4.out
  rcases Nat.lt_or_ge (nv nh nl) (nv dh dl) with k | k
  · have DD := Lib.hid (fun W => div_yes nh nl bh bl dh dl H1.out H2.out H3.out k W)
    clear k
    go_wp2_with fail
    refine (DD.out _).mono ?_
    rintro e w6 ⟨qh, ql, rh, rl, Q, rfl, hb6⟩
    have HQ := Lib.hid Q
    replace A0 := Lib.hid (A0.out.below hb6)
    replace A1 := Lib.hid (A1.out.below hb6)
    replace A2 := Lib.hid (A2.out.below hb6)
    have B6 := Lib.hid (bstep B5.out hb6)
    clear hb6 Q B5 DD a1 a2 a3 a4 a5 b1 b2 b3 b4 b5 c1 c2 c3 c4 c5 d1 d2 d3 d4 d5 e1 e2 e3 e4 e5 A3 A4
    obtain ⟨c1, c2, c3, c4, c5⟩ := A2.out
    have z1 : w.heap.size + 1 + 1 < w6.heap.size + 1 := by omega
    have z2 : w.heap.size + 1 + 1 < w6.heap.size + 1 + 1 := by omega
    go_wp2_with fail
    refine (mul_any qh ql dh dl HQ.out.1 H3.out _).mono ?_
    rintro e w7 ⟨ph, pl, p2h, p2l, P, rfl, hb7⟩
    have HP := Lib.hid P
    replace A0 := Lib.hid (((A0.out.alloc _).alloc _).below hb7)
    replace A1 := Lib.hid (((A1.out.alloc _).alloc _).below hb7)
    replace A2 := Lib.hid (((A2.out.alloc _).alloc _).below hb7)
    have A3 := Lib.hid (Holds2.below (Holds2.new2 (by simp)) hb7 : Holds2 w7 (w6.heap.size + 1) rh rl)
    have B7 := Lib.hid (bstep (balc (balc B6.out _) _) hb7)
    clear hb7 P B6 c1 c2 c3 c4 c5 z1 z2
    have A3n := Lib.hid A3.out.2.2.2.2
    have A2n := Lib.hid A2.out.2.2.2.2
    obtain ⟨d1, d2, d3, d4, d5⟩ := A3.out
    have z1 : w6.heap.size + 1 < w7.heap.size + 1 := by omega
    have z2 : w6.heap.size + 1 < w7.heap.size + 1 + 1 := by omega
    go_wp2_with fail
    refine (add2_any ph pl p2h p2l 0 0 rh rl HP.out.1 HP.out.2.1 ⟨by decide, by decide⟩ HQ.out.2.1 _).mono ?_
    rintro e w8 ⟨h, l, h', l', c, S, rfl, hb8⟩
    obtain ⟨⟨⟨rfl, rfl⟩, rfl, rfl⟩, rfl⟩ := mul_back H1.out H2.out HQ.out HP.out S
    replace A0 := Lib.hid (((A0.out.alloc _).alloc _).below hb8)
    replace A1 := Lib.hid (((A1.out.alloc _).alloc _).below hb8)
    replace A2 := Lib.hid (((A2.out.alloc _).alloc _).below hb8)
    replace A3 := Lib.hid (((A3.out.alloc _).alloc _).below hb8)
    have A4 := Lib.hid (Holds2.below ((Holds2.new2 rfl).alloc _) hb8 : Holds2 w8 w7.heap.size ph pl)
    have A5 := Lib.hid (Holds2.below (Holds2.new2 (by simp)) hb8 : Holds2 w8 (w7.heap.size + 1) p2h p2l)
    have B8 := Lib.hid (bstep (balc (balc B7.out _) _) hb8)
    have C := cmp_any rh rl dh dl HQ.out.2.1 H3.out
    rw [cmpN_lt HQ.out.2.2.1] at C
    have HC := Lib.hid C
    have n0 : w.heap.size + 1 + 1 < w7.heap.size := A2n.out
    have n1 : w6.heap.size + 1 < w7.heap.size := A3n.out
    clear hb8 S B7 d1 d2 d3 d4 d5 z1 z2 C HQ HP
    obtain ⟨a1, a2, a3, a4, a5⟩ := A0.out
    obtain ⟨b1, b2, b3, b4, b5⟩ := A1.out
    obtain ⟨c1, c2, c3, c4, c5⟩ := A2.out
    obtain ⟨d1, d2, d3, d4, d5⟩ := A3.out
    obtain ⟨e1, e2, e3, e4, e5⟩ := A4.out
    obtain ⟨f1, f2, f3, f4, f5⟩ := A5.out
    obtain ⟨y0, y1, y2, y3, y4⟩ : w.heap.size ≠ w7.heap.size ∧ w.heap.size + 1 ≠ w7.heap.size ∧ w.heap.size + 1 + 1 ≠ w7.heap.size ∧ w6.heap.size + 1 ≠ w7.heap.size ∧ w.heap.size ≠ w7.heap.size + 1 := by omega
    obtain ⟨y5, y6, y7⟩ : w.heap.size + 1 ≠ w7.heap.size + 1 ∧ w.heap.size + 1 + 1 ≠ w7.heap.size + 1 ∧ w6.heap.size + 1 ≠ w7.heap.size + 1 := by omega
    have BX := Lib.hid ((((B8.out.setCell (p := ⟨w7.heap.size, 0, none⟩) (by show w.heap.size ≤ w7.heap.size; omega) (.int .u64 (h : Int))).setCell (p := ⟨w7.heap.size, 1, none⟩) (by show w.heap.size ≤ w7.heap.size; omega) (.int .u64 (l : Int))).setCell (p := ⟨w7.heap.size + 1, 0, none⟩) (by show w.heap.size ≤ w7.heap.size + 1; omega) (.int .u64 (h' : Int))).setCell (p := ⟨w7.heap.size + 1, 1, none⟩) (by show w.heap.size ≤ w7.heap.size + 1; omega) (.int .u64 (l' : Int)))
    go_wp2_with fail
    refine (HC.out _).mono ?_
    rintro e w9 ⟨rfl, hb9⟩
    have B9 := Lib.hid (bstep BX.out hb9)
    clear hb9 a1 a2 a3 a4 a5 b1 b2 b3 b4 b5 c1 c2 c3 c4 c5 d1 d2 d3 d4 d5 e1 e2 e3 e4 e5 f1 f2 f3 f4 f5
    go_wp2
    go_ret
    exact ⟨rfl, B9.out⟩
  · have C := cmp_any nh nl dh dl H1.out H3.out
    have t0 : decide (0 ≤ cmpN (nv nh nl) (nv dh dl)) = true := by
      rcases cmpN_range (nv nh nl) (nv dh dl) with ⟨e, _⟩ | ⟨e, _⟩ | ⟨e, _⟩
      · omega
      · rw [e]; decide
      · rw [e]; decide
    have HC := Lib.hid C
    generalize cmpN (nv nh nl) (nv dh dl) = cv at *
    have DD := Lib.hid (fun W => div_no nh nl bh bl dh dl H1.out H3.out k W)
    clear k C
    go_wp2_with fail
    refine (DD.out _).mono ?_
    rintro e w6 ⟨rfl, hb6⟩
    replace A0 := Lib.hid (A0.out.below hb6)
    replace A2 := Lib.hid (A2.out.below hb6)
    have B6 := Lib.hid (bstep B5.out hb6)
    clear hb6 B5 DD a1 a2 a3 a4 a5 b1 b2 b3 b4 b5 c1 c2 c3 c4 c5 d1 d2 d3 d4 d5 e1 e2 e3 e4 e5 A1 A3 A4
    obtain ⟨a1, a2, a3, a4, a5⟩ := A0.out
    obtain ⟨c1, c2, c3, c4, c5⟩ := A2.out
    have z1 : w.heap.size < w6.heap.size + 1 := by omega
    have z2 : w.heap.size + 1 + 1 < w6.heap.size + 1 := by omega
    go_wp2_with fail
    refine (HC.out _).mono ?_
    rintro e w7 ⟨rfl, hb7⟩
    have B7 := Lib.hid (bstep (balc (balc B6.out _) _) hb7)
    clear hb7 B6 a1 a2 a3 a4 a5 c1 c2 c3 c4 c5 z1 z2
    go_wp2
    go_ret
    exact ⟨rfl, B7.out⟩
end Go.Proofs.YtlcpbmjipplcdaaDoor

/-
  A sum before it is fitted (sum of package dec), as a contract of its call.
-/
import Derived.Test.YtncpdoeikebomaaDoorEs
namespace Go.Proofs.YtncpdoeikebomaaDoor
open Go.RowKit

theorem HoldsD.drewv {W : World} {g : Nat} {neg : Bool} {h l : Nat} {e : Int} (H : HoldsD W g neg h l e) : HoldsD W.drew g neg h l e := H
theorem HoldsD.putAll {W : World} {g : Nat} {neg : Bool} {h l : Nat} {e : Int} (H : HoldsD W g neg h l e) (n : Bool) (a b : Nat) (x : Int) :
    HoldsD ((((W.setCell ⟨g, 0, none⟩ (.bool n)).setCell ⟨g, 1, none⟩ (.int .u64 (a : Int))).setCell ⟨g, 2, none⟩ (.int .u64 (b : Int))).setCell ⟨g, 3, none⟩ (.int .i64 x)) g n a b x := by
  obtain ⟨⟨a1, a2, a3, a4⟩, ⟨a5, a6, a7, a8⟩, s⟩ := H
  simp [HoldsD, go_sem, *]
theorem HoldsD.far4 {W : World} {q : Nat} {neg : Bool} {h l : Nat} {e : Int} (H : HoldsD W q neg h l e) (g i j k m : Nat) (hg : q ≠ g) (v0 v1 v2 v3 : Value) :
    HoldsD ((((W.setCell ⟨g, i, none⟩ v0).setCell ⟨g, j, none⟩ v1).setCell ⟨g, k, none⟩ v2).setCell ⟨g, m, none⟩ v3) q neg h l e :=
  HoldsD.far (HoldsD.far (HoldsD.far (HoldsD.far H hg _) hg _) hg _) hg _
theorem HoldsD.far2 {W : World} {q : Nat} {neg : Bool} {h l : Nat} {e : Int} (H : HoldsD W q neg h l e) (g i j : Nat) (hg : q ≠ g) (v0 v1 : Value) :
    HoldsD ((W.setCell ⟨g, i, none⟩ v0).setCell ⟨g, j, none⟩ v1) q neg h l e := HoldsD.far (HoldsD.far H hg _) hg _
theorem HoldsW.far2 {W : World} {q : Nat} {neg more : Bool} {h l h' l' : Nat} {e : Int} (H : HoldsW W q neg h l h' l' e more) (g i j : Nat) (hg : q ≠ g) (v0 v1 : Value) :
    HoldsW ((W.setCell ⟨g, i, none⟩ v0).setCell ⟨g, j, none⟩ v1) q neg h l h' l' e more := HoldsW.far (HoldsW.far H hg _) hg _
theorem HoldsW.putXM {W : World} {g : Nat} {neg more : Bool} {h l h' l' : Nat} {e : Int} (H : HoldsW W g neg h l h' l' e more) (x : Int) (m : Bool) : HoldsW ((W.setCell ⟨g, 5, none⟩ (.int .i64 x)).setCell ⟨g, 6, none⟩ (.bool m)) g neg h l h' l' x m := by
  obtain ⟨⟨a1, a2, a3, a4, a5, a6, a7⟩, ⟨a8, a9, a10, a11, a12, a13, a14⟩, s⟩ := H
  simp [HoldsW, go_sem, *]
theorem HoldsR.put {W : World} {g d : Nat} {m : Bool} (H : HoldsR W g d m) (d' : Nat) (m' : Bool) : HoldsR ((W.setCell ⟨g, 0, none⟩ (.int .u64 (d' : Int))).setCell ⟨g, 1, none⟩ (.bool m')) g d' m' := by
  obtain ⟨a1, a2, a3, a4, a5⟩ := H
  simp [HoldsR, go_sem, *]
theorem HoldsR.far4 {W : World} {q d : Nat} {mm : Bool} (H : HoldsR W q d mm) (g i j k m : Nat) (hg : q ≠ g) (v0 v1 v2 v3 : Value) :
    HoldsR ((((W.setCell ⟨g, i, none⟩ v0).setCell ⟨g, j, none⟩ v1).setCell ⟨g, k, none⟩ v2).setCell ⟨g, m, none⟩ v3) q d mm :=
  HoldsR.far (HoldsR.far (HoldsR.far (HoldsR.far H hg _) hg _) hg _) hg _
theorem Below.set2 {w W : World} (B : Below w.heap.size w W) (g i j : Nat) (hg : w.heap.size ≤ g) (v0 v1 : Value) : Below w.heap.size w ((W.setCell ⟨g, i, none⟩ v0).setCell ⟨g, j, none⟩ v1) := Below.setCell (Below.setCell B hg _) hg _

theorem drop_nothing {N n N' d : Nat} {m : Bool} (h : DropF N n false N' d m) : (!(decide (d = 0) && !m)) = decide (N % 10 ^ n ≠ 0) := by
  obtain ⟨_, hd, hm⟩ := dropF_eq h
  unfold dropD at hd
  unfold dropM at hm
  rcases Nat.eq_zero_or_pos n with z | z
  · rw [if_pos z] at hd
    rw [hd, hm, z]
    simp [Nat.mod_one]
  · rw [if_neg (by omega)] at hd
    have e : N % 10 ^ n = N % 10 ^ (n - 1) + 10 ^ (n - 1) * d := by
      rw [hd]
      have : n = (n - 1) + 1 := by omega
      rw [show 10 ^ n = 10 ^ (n - 1) * 10 by rw [← Nat.pow_succ]; congr 1, Nat.mod_mul]
    rw [hm, e]
    have hp := p10 (n - 1)
    generalize N % 10 ^ (n - 1) = t at *
    generalize 10 ^ (n - 1) = P at *
    by_cases d0 : d = 0
    · subst d0
      simp
    · have : 0 < P * d := Nat.mul_pos hp (Nat.pos_of_ne_zero d0)
      have a : t + P * d ≠ 0 := by omega
      rw [decide_eq_true a, decide_eq_false d0]
      rfl
theorem small_drop {c r : Nat} (h : c < 10 ^ 34) : c / 10 ^ min r 78 = c / 10 ^ r ∧ c % 10 ^ min r 78 = c % 10 ^ r := by
  rcases Nat.le_total r 78 with z | z
  · rw [Nat.min_eq_left z]; exact ⟨rfl, rfl⟩
  · have a : c < 10 ^ 78 := Nat.lt_of_lt_of_le h (p10_mono (by decide))
    have b : c < 10 ^ r := Nat.lt_of_lt_of_le a (p10_mono z)
    rw [Nat.min_eq_right z, Nat.div_eq_of_lt a, Nat.div_eq_of_lt b, Nat.mod_eq_of_lt a, Nat.mod_eq_of_lt b]
    exact ⟨rfl, rfl⟩

def SumIs (na : Bool) (ca : Nat) (ea : Int) (nb : Bool) (cb : Nat) (eb : Int) (neg : Bool) (h l h' l' : Nat) (x : Int) (more : Bool) : Prop := WW h l ∧ WW h' l' ∧ sumF na ca ea nb cb eb = (neg, nv2 h l h' l', x, more)

set_option maxRecDepth 100000 in
set_option maxHeartbeats 40000000 in
theorem sum_any (na : Bool) (ah al : Nat) (ea : Int) (nb : Bool) (bh bl : Nat) (eb : Int) (ha : WW ah al) (hb : WW bh bl) (h1 : NumD (nv ah al) ea) (h2 : NumD (nv bh bl) eb) (w : World) (ht : Tab w) :
    Calls Tryd.prog 58 #[Dv na ah al ea, Dv nb bh bl eb] w (RetW (SumIs na (nv ah al) ea nb (nv bh bl) eb) w) := by
  have HT := Lib.hid ht
  have HA := Lib.hid (And.intro ha h1)
  have HB := Lib.hid (And.intro hb h2)
  obtain ⟨SF, hSF⟩ : ∃ SF, SF = sumF na (nv ah al) ea nb (nv bh bl) eb := ⟨_, rfl⟩
  unfold SumIs
  rw [← hSF]
  have HSF := Lib.hid hSF
  clear ht ha hb h1 h2 hSF
  go_enter Tryd.func58, Tryd.ntmps58
  go_upto_if 15 with fail
  go_cut [2, 3] (fun p q W => ∃ (n1 : Bool) (h1 l1 : Nat) (e1 : Int) (n2 : Bool) (h2 l2 : Nat) (e2 : Int), p = .pointer (some ⟨w.heap.size, 0, none⟩) ∧ q = .pointer (some ⟨w.heap.size + 1, 0, none⟩) ∧
    HoldsD W w.heap.size n1 h1 l1 e1 ∧ HoldsD W (w.heap.size + 1) n2 h2 l2 e2 ∧ HoldsW W (w.heap.size + 1 + 1) false 0 0 0 0 0 false ∧ Below w.heap.size w W ∧
    (WW h1 l1 ∧ WW h2 l2 ∧ NumD (nv h1 l1) e1 ∧ NumD (nv h2 l2) e2 ∧ e2 ≤ e1 ∧ SF = sumH n1 (nv h1 l1) e1 n2 (nv h2 l2) e2))
  case first =>
    have D0 := Lib.hid (show HoldsD (((w.alloc (.cells #[.bool na, .int .u64 (ah : Int), .int .u64 (al : Int), .int .i64 ea] 28)).alloc (.cells #[.bool nb, .int .u64 (bh : Int), .int .u64 (bl : Int), .int .i64 eb] 28)).alloc (.cells #[.bool false, .int .u64 0, .int .u64 0, .int .u64 0, .int .u64 0, .int .i64 0, .bool false] 81)) w.heap.size na ah al ea from by simp [HoldsD, go_sem])
    have D1 := Lib.hid (show HoldsD (((w.alloc (.cells #[.bool na, .int .u64 (ah : Int), .int .u64 (al : Int), .int .i64 ea] 28)).alloc (.cells #[.bool nb, .int .u64 (bh : Int), .int .u64 (bl : Int), .int .i64 eb] 28)).alloc (.cells #[.bool false, .int .u64 0, .int .u64 0, .int .u64 0, .int .u64 0, .int .i64 0, .bool false] 81)) (w.heap.size + 1) nb bh bl eb from by simp [HoldsD, go_sem])
    have D2 := Lib.hid (show HoldsW (((w.alloc (.cells #[.bool na, .int .u64 (ah : Int), .int .u64 (al : Int), .int .i64 ea] 28)).alloc (.cells #[.bool nb, .int .u64 (bh : Int), .int .u64 (bl : Int), .int .i64 eb] 28)).alloc (.cells #[.bool false, .int .u64 0, .int .u64 0, .int .u64 0, .int .u64 0, .int .i64 0, .bool false] 81)) (w.heap.size + 1 + 1) false 0 0 0 0 0 false from by simp [HoldsW, go_sem])
    have B0 : Below w.heap.size w (((w.alloc (.cells #[.bool na, .int .u64 (ah : Int), .int .u64 (al : Int), .int .i64 ea] 28)).alloc (.cells #[.bool nb, .int .u64 (bh : Int), .int .u64 (bl : Int), .int .i64 eb] 28)).alloc (.cells #[.bool false, .int .u64 0, .int .u64 0, .int .u64 0, .int .u64 0, .int .i64 0, .bool false] 81)) := by go_grown
    generalize ((w.alloc (.cells #[.bool na, .int .u64 (ah : Int), .int .u64 (al : Int), .int .i64 ea] 28)).alloc (.cells #[.bool nb, .int .u64 (bh : Int), .int .u64 (bl : Int), .int .i64 eb] 28)).alloc (.cells #[.bool false, .int .u64 0, .int .u64 0, .int .u64 0, .int .u64 0, .int .i64 0, .bool false] 81) = V0 at *
    rcases Int.lt_or_le ea eb with z | z
    · have t1 : decide (ea < eb) = true := decide_eq_true z
      have FS := Lib.hid (show WW bh bl ∧ WW ah al ∧ NumD (nv bh bl) eb ∧ NumD (nv ah al) ea ∧ ea ≤ eb ∧ SF = sumH nb (nv bh bl) eb na (nv ah al) ea from ⟨HB.out.1, HA.out.1, HB.out.2, HA.out.2, by omega, by rw [HSF.out]; unfold sumF; rw [if_pos z]⟩)
      obtain ⟨⟨a1, a2, a3, a4⟩, ⟨a5, a6, a7, a8⟩, a9⟩ := D0.out
      obtain ⟨⟨b1, b2, b3, b4⟩, ⟨b5, b6, b7, b8⟩, b9⟩ := D1.out
      clear z
      generalize decide (ea < eb) = bb at *
      subst t1
      go_wp2
      go_meet
      case rel =>
        refine ⟨nb, bh, bl, eb, na, ah, al, ea, rfl, rfl, ?_, ?_, ?_, ?_, FS.out⟩
        · exact HoldsD.far4 (D0.out.putAll _ _ _ _) _ _ _ _ _ (by omega) _ _ _ _
        · exact HoldsD.putAll (D1.out.far4 _ _ _ _ _ (by omega) _ _ _ _) _ _ _ _
        · exact HoldsW.far4 (D2.out.far4 _ _ _ _ _ (by omega) _ _ _ _) _ _ _ _ _ (by omega) _ _ _ _
        · exact Below.set4 (Below.set4 B0 _ _ _ _ _ (Nat.le_refl _) _ _ _ _) _ _ _ _ _ (by omega) _ _ _ _
    · have t1 : decide (ea < eb) = false := decide_eq_false (by omega)
      have FS := Lib.hid (show WW ah al ∧ WW bh bl ∧ NumD (nv ah al) ea ∧ NumD (nv bh bl) eb ∧ eb ≤ ea ∧ SF = sumH na (nv ah al) ea nb (nv bh bl) eb from ⟨HA.out.1, HB.out.1, HA.out.2, HB.out.2, z, by rw [HSF.out]; unfold sumF; rw [if_neg (by omega)]⟩)
      clear z
      generalize decide (ea < eb) = bb at *
      subst t1
      go_wp2
      go_meet
      case rel => exact ⟨na, ah, al, ea, nb, bh, bl, eb, rfl, rfl, D0.out, D1.out, D2.out, B0, FS.out⟩
  case rest =>
  obtain ⟨n1, h1, l1, e1, n2, h2, l2, e2, rfl, rfl, A0, A1, A2, B0, FS⟩ := hcut
  have HF := Lib.hid FS
  have D0 := Lib.hid A0
  have D1 := Lib.hid A1
  have D2 := Lib.hid A2
  clear FS A0 A1 A2 HA HB HSF
  generalize wc = V0 at *
  have Z := Lib.hid (zeroD_any n1 h1 l1 e1)
  obtain ⟨⟨a1, a2, a3, a4⟩, ⟨a5, a6, a7, a8⟩, a9⟩ := D0.out
  obtain ⟨⟨b1, b2, b3, b4⟩, ⟨b5, b6, b7, b8⟩, b9⟩ := D1.out
  have g2 : w.heap.size + 1 + 1 < V0.heap.size := D2.out.2.2
  by_cases c0 : nv h1 l1 = 0
  · rw [decide_eq_true c0] at Z
    have RS := Lib.hid (show WW 0 0 ∧ WW h2 l2 ∧ SF = (n2, nv2 0 0 h2 l2, e2, false) from ⟨ww0, HF.out.2.1, by rw [HF.out.2.2.2.2.2]; unfold sumH; rw [if_pos c0, nv2_low]⟩)
    clear c0
    go_wp2_with fail
    refine (Z.out _).mono ?_
    rintro e w1 ⟨rfl, hb1⟩
    have L0 := Lib.hid ((show HoldsW (V0.alloc (.cells #[.bool n2, .int .u64 0, .int .u64 0, .int .u64 (h2 : Int), .int .u64 (l2 : Int), .int .i64 e2, .bool false] 81)) V0.heap.size n2 0 0 h2 l2 e2 false from by simp [HoldsW, go_sem]).below hb1)
    replace D2 := Lib.hid ((D2.out.alloc _).below hb1)
    have B1 : Below w.heap.size w w1 := bstep (ballD B0 _) hb1
    clear hb1 a1 a2 a3 a4 a5 a6 a7 a8 a9 b1 b2 b3 b4 b5 b6 b7 b8 b9 D0 D1 B0 Z
    obtain ⟨⟨c1, c2, c3, c4, c5, c6, c7⟩, ⟨c8, c9, c10, c11, c12, c13, c14⟩, c15⟩ := D2.out
    obtain ⟨⟨a1, a2, a3, a4, a5, a6, a7⟩, -, a15⟩ := L0.out
    go_wp2
    refine ret_via (fun VF => HoldsW VF (w.heap.size + 1 + 1) n2 0 0 h2 l2 e2 false) (v := Wv n2 0 0 h2 l2 e2 false) (by rintro VF ⟨⟨e1, e2, e3, e4, e5, e6, e7⟩, _, _⟩; simp [results, Tryd.results58, go_sem, e1, e2, e3, e4, e5, e6, e7]) (D2.out.putAll _ _ _ _ _ _ _) rfl ⟨_, _, _, _, _, _, _, RS.out, rfl, Below.set7 B1 _ (by omega) _ _ _ _ _ _ _⟩
  · rw [decide_eq_false c0] at Z
    obtain ⟨f1, f2, ⟨f3, f4, f5⟩, ⟨f6, f7, f8⟩, f9, f10⟩ := HF.out
    obtain ⟨k, hk⟩ : ∃ k : Nat, k = min (e1 - e2).toNat 38 := ⟨_, rfl⟩
    obtain ⟨r, hr⟩ : ∃ r : Nat, r = (e1 - e2).toNat - 38 := ⟨_, rfl⟩
    unfold sumH at f10
    rw [if_neg c0, ← hk, ← hr] at f10
    have k38 : k ≤ 38 := by omega
    have q1 : IntKind.i64.wrap (e1 - e2) = e1 - e2 := by rw [IntKind.wrap_i64]; omega
    have q2 : min (e1 - e2) 38 = (k : Int) := by omega
    have q3 : IntKind.i64.wrap (e1 - (k : Int)) = e1 - (k : Int) := by rw [IntKind.wrap_i64]; omega
    have q4 : e1 - (k : Int) - e2 = (r : Int) := by omega
    have q5 : IntKind.i64.wrap (e1 - (k : Int) - e2) = e1 - (k : Int) - e2 := by rw [IntKind.wrap_i64]; omega
    have Q4 := Lib.hid q4
    have r63 := Lib.hid (show (r : Int) ≤ 9223372036854775807 by omega)
    have far := Lib.hid (show r = 0 ∨ (10 ^ 38 ≤ nv h1 l1 * 10 ^ k) from by
      rcases Nat.eq_zero_or_pos r with y | y
      · exact .inl y
      · refine .inr ?_
        rw [show k = 38 by omega]
        exact Nat.le_mul_of_pos_left _ (Nat.pos_of_ne_zero c0))
    have HSUM := Lib.hid f10
    have SD := Lib.hid (small_drop (r := r) f6)
    have F6 := Lib.hid f6
    have HH := Lib.hid (show nv h1 l1 * 10 ^ k ≤ 10 ^ 72 from by
      have a : 10 ^ k ≤ 10 ^ 38 := p10_mono k38
      exact Nat.le_trans (Nat.mul_le_mul (Nat.le_of_lt f3) a) (by decide))
    have W1 := Lib.hid f1
    have W2 := Lib.hid f2
    clear c0 f1 f2 f3 f4 f5 f6 f7 f8 f9 f10 HF hk hr q4
    go_wp2_with fail
    refine (Z.out _).mono ?_
    rintro e w1 ⟨rfl, hb1⟩
    have L0 := Lib.hid ((show HoldsW (V0.alloc (.cells #[.bool n2, .int .u64 0, .int .u64 0, .int .u64 (h2 : Int), .int .u64 (l2 : Int), .int .i64 e2, .bool false] 81)) V0.heap.size n2 0 0 h2 l2 e2 false from by simp [HoldsW, go_sem]).below hb1)
    replace D0 := Lib.hid ((D0.out.alloc _).below hb1)
    replace D1 := Lib.hid ((D1.out.alloc _).below hb1)
    replace D2 := Lib.hid ((D2.out.alloc _).below hb1)
    have B1 : Below w.heap.size w w1 := bstep (ballD B0 _) hb1
    clear hb1 a1 a2 a3 a4 a5 a6 a7 a8 a9 b1 b2 b3 b4 b5 b6 b7 b8 b9 B0 Z
    obtain ⟨⟨a1, a2, a3, a4⟩, ⟨a5, a6, a7, a8⟩, a9⟩ := D0.out
    obtain ⟨⟨b1, b2, b3, b4⟩, ⟨b5, b6, b7, b8⟩, b9⟩ := D1.out
    go_wp2_with fail
    refine (ten_yes k k38 _ (HT.out.below B1)).mono ?_
    rintro e w2 ⟨th, tl, P, rfl, hb2⟩
    have HP := Lib.hid P
    replace L0 := Lib.hid (L0.out.below hb2)
    replace D0 := Lib.hid (D0.out.below hb2)
    replace D1 := Lib.hid (D1.out.below hb2)
    replace D2 := Lib.hid (D2.out.below hb2)
    have B2 : Below w.heap.size w w2 := bstep B1 hb2
    have gl : V0.heap.size < w2.heap.size := L0.out.2.2
    clear hb2 P a1 a2 a3 a4 a5 a6 a7 a8 a9 b1 b2 b3 b4 b5 b6 b7 b8 b9 B1
    obtain ⟨⟨a1, a2, a3, a4⟩, ⟨a5, a6, a7, a8⟩, a9⟩ := D0.out
    have z1 : w.heap.size < w2.heap.size + 1 := by omega
    have z2 : w.heap.size < w2.heap.size + 1 + 1 := by omega
    go_wp2_with fail
    refine (mul_any h1 l1 th tl W1.out HP.out.1 _).mono ?_
    rintro e w3 ⟨ph, pl, qh, ql, P, rfl, hb3⟩
    have PR := Lib.hid (show WW ph pl ∧ WW qh ql ∧ nv2 ph pl qh ql = nv h1 l1 * 10 ^ k from ⟨P.1, P.2.1, by rw [P.2.2, HP.out.2]⟩)
    have H0 := Lib.hid ((show HoldsW ((w2.alloc (.cells #[.int .u64 (th : Int), .int .u64 (tl : Int)] 24)).alloc (.cells #[.bool n1, .int .u64 0, .int .u64 0, .int .u64 0, .int .u64 0, .int .i64 (e1 - (k : Int)), .bool false] 81)) (w2.heap.size + 1) n1 0 0 0 0 (e1 - (k : Int)) false from by simp [HoldsW, go_sem]).below hb3)
    replace L0 := Lib.hid (((L0.out.alloc _).alloc _).below hb3)
    replace D0 := Lib.hid (((D0.out.alloc _).alloc _).below hb3)
    replace D1 := Lib.hid (((D1.out.alloc _).alloc _).below hb3)
    replace D2 := Lib.hid (((D2.out.alloc _).alloc _).below hb3)
    have B3 : Below w.heap.size w w3 := bstep (ballD (ballD B2 _) _) hb3
    clear hb3 P HP a1 a2 a3 a4 a5 a6 a7 a8 a9 B2 z1 z2 W1
    obtain ⟨⟨-, a2, a3, a4, a5, -, -⟩, ⟨-, a9, a10, a11, a12, -, -⟩, a15⟩ := H0.out
    go_upto_region 10 with fail
    clear a2 a3 a4 a5 a9 a10 a11 a12 a15
    replace B3 := Below.set4 B3 (w2.heap.size + 1) 1 2 3 4 (by omega) (.int .u64 (ph : Int)) (.int .u64 (pl : Int)) (.int .u64 (qh : Int)) (.int .u64 (ql : Int))
    replace H0 := Lib.hid (H0.out.putN ph pl qh ql)
    replace L0 := Lib.hid (L0.out.far4 (w2.heap.size + 1) 1 2 3 4 (by omega) (.int .u64 (ph : Int)) (.int .u64 (pl : Int)) (.int .u64 (qh : Int)) (.int .u64 (ql : Int)))
    replace D0 := Lib.hid (D0.out.far4 (w2.heap.size + 1) 1 2 3 4 (by omega) (.int .u64 (ph : Int)) (.int .u64 (pl : Int)) (.int .u64 (qh : Int)) (.int .u64 (ql : Int)))
    replace D1 := Lib.hid (D1.out.far4 (w2.heap.size + 1) 1 2 3 4 (by omega) (.int .u64 (ph : Int)) (.int .u64 (pl : Int)) (.int .u64 (qh : Int)) (.int .u64 (ql : Int)))
    replace D2 := Lib.hid (D2.out.far4 (w2.heap.size + 1) 1 2 3 4 (by omega) (.int .u64 (ph : Int)) (.int .u64 (pl : Int)) (.int .u64 (qh : Int)) (.int .u64 (ql : Int)))
    generalize (((w3.setCell ⟨w2.heap.size + 1, 1, none⟩ (.int .u64 (ph : Int))).setCell ⟨w2.heap.size + 1, 2, none⟩ (.int .u64 (pl : Int))).setCell ⟨w2.heap.size + 1, 3, none⟩ (.int .u64 (qh : Int))).setCell ⟨w2.heap.size + 1, 4, none⟩ (.int .u64 (ql : Int)) = V3 at *
    obtain ⟨⟨-, -, -, -, -, a6, -⟩, -, a15⟩ := H0.out
    obtain ⟨⟨b1, b2, b3, b4, b5, b6, b7⟩, -, b15⟩ := L0.out
    obtain ⟨⟨-, -, -, c4⟩, -, c9⟩ := D1.out
    have DR := Lib.hid (drop_any n2 0 0 h2 l2 e2 false r ww0 W2.out)
    rw [← Q4.out] at DR
    go_wp2_with fail
    refine (DR.out _ (HT.out.below (ballD B3 _)) (by rw [Q4.out]; exact r63.out)).mono ?_
    rintro e w4 ⟨uh, ul, vh, vl, d, m, F, rfl, hb4⟩
    have UF := Lib.hid (show WW uh ul ∧ WW vh vl ∧ nv2 uh ul vh vl = nv h2 l2 / 10 ^ r ∧ (!(decide (d = 0) && !m)) = decide (nv h2 l2 % 10 ^ r ≠ 0) from by
      obtain ⟨g1, g2, g3⟩ := F
      rw [nv2_low] at g3
      refine ⟨g1, g2, ?_, ?_⟩
      · rw [(dropF_eq g3).1, SD.out.1]
      · rw [drop_nothing g3, SD.out.2])
    have R0 := Lib.hid ((show HoldsR (V3.alloc (.cells #[.int .u64 0, .bool false] 109)) V3.heap.size 0 false from by simp [HoldsR, go_sem]).below hb4)
    replace H0 := Lib.hid ((H0.out.alloc _).below hb4)
    replace L0 := Lib.hid ((L0.out.alloc _).below hb4)
    replace D0 := Lib.hid ((D0.out.alloc _).below hb4)
    replace D1 := Lib.hid ((D1.out.alloc _).below hb4)
    replace D2 := Lib.hid ((D2.out.alloc _).below hb4)
    have B4 : Below w.heap.size w w4 := bstep (ballD B3 _) hb4
    clear hb4 F a6 b1 b2 b3 b4 b5 b6 b7 b15 c4 c9 DR B3 W2 SD q1 q2 q3 q5 k38
    obtain ⟨⟨-, b2, b3, b4, b5, -, -⟩, ⟨-, b9, b10, b11, b12, -, -⟩, b15⟩ := L0.out
    obtain ⟨c1, c2, c3, c4, c5⟩ := R0.out
    have nv3 : V0.heap.size ≠ V3.heap.size := by omega
    go_upto_region 12 with fail
    clear b2 b3 b4 b5 b9 b10 b11 b12 b15 c1 c2 c3 c4 c5
    replace B4 := Below.set2 (Below.set4 B4 V0.heap.size 1 2 3 4 (by omega) (.int .u64 (uh : Int)) (.int .u64 (ul : Int)) (.int .u64 (vh : Int)) (.int .u64 (vl : Int))) V3.heap.size 0 1 (by omega) (.int .u64 (d : Int)) (.bool m)
    replace L0 := Lib.hid ((L0.out.putN uh ul vh vl).far2 V3.heap.size 0 1 (by omega) (.int .u64 (d : Int)) (.bool m))
    replace R0 := Lib.hid ((R0.out.far4 V0.heap.size 1 2 3 4 (by omega) (.int .u64 (uh : Int)) (.int .u64 (ul : Int)) (.int .u64 (vh : Int)) (.int .u64 (vl : Int))).put d m)
    replace H0 := Lib.hid ((H0.out.far4 V0.heap.size 1 2 3 4 (by omega) (.int .u64 (uh : Int)) (.int .u64 (ul : Int)) (.int .u64 (vh : Int)) (.int .u64 (vl : Int))).far2 V3.heap.size 0 1 (by omega) (.int .u64 (d : Int)) (.bool m))
    replace D0 := Lib.hid ((D0.out.far4 V0.heap.size 1 2 3 4 (by omega) (.int .u64 (uh : Int)) (.int .u64 (ul : Int)) (.int .u64 (vh : Int)) (.int .u64 (vl : Int))).far2 V3.heap.size 0 1 (by omega) (.int .u64 (d : Int)) (.bool m))
    replace D1 := Lib.hid ((D1.out.far4 V0.heap.size 1 2 3 4 (by omega) (.int .u64 (uh : Int)) (.int .u64 (ul : Int)) (.int .u64 (vh : Int)) (.int .u64 (vl : Int))).far2 V3.heap.size 0 1 (by omega) (.int .u64 (d : Int)) (.bool m))
    replace D2 := Lib.hid ((D2.out.far4 V0.heap.size 1 2 3 4 (by omega) (.int .u64 (uh : Int)) (.int .u64 (ul : Int)) (.int .u64 (vh : Int)) (.int .u64 (vl : Int))).far2 V3.heap.size 0 1 (by omega) (.int .u64 (d : Int)) (.bool m))
    generalize (((((w4.setCell ⟨V0.heap.size, 1, none⟩ (.int .u64 (uh : Int))).setCell ⟨V0.heap.size, 2, none⟩ (.int .u64 (ul : Int))).setCell ⟨V0.heap.size, 3, none⟩ (.int .u64 (vh : Int))).setCell ⟨V0.heap.size, 4, none⟩ (.int .u64 (vl : Int))).setCell ⟨V3.heap.size, 0, none⟩ (.int .u64 (d : Int))).setCell ⟨V3.heap.size, 1, none⟩ (.bool m) = V4 at *
    have NO := Lib.hid (nothing_any d m)
    obtain ⟨mo, hmo⟩ : ∃ mo : Bool, mo = decide (nv h2 l2 % 10 ^ r ≠ 0) := ⟨_, rfl⟩
    have HM := Lib.hid hmo
    have UM := Lib.hid (show (!(decide (d = 0) && !m)) = mo from by rw [hmo]; exact UF.out.2.2.2)
    clear hmo
    generalize (decide (d = 0) && !m) = nn at *
    obtain ⟨-, -, -, -, -, a6, -⟩ := H0.out.1
    obtain ⟨c1, c2, c3, c4, c5⟩ := R0.out
    obtain ⟨⟨b1, b2, b3, b4, b5, b6, b7⟩, ⟨b8, b9, b10, b11, b12, b13, b14⟩, b15⟩ := L0.out
    have a16 := H0.out.2.2
    have nh : V0.heap.size ≠ w2.heap.size + 1 := by omega
    go_cut [5, 9] (fun p q W => p = .pointer (some ⟨V0.heap.size, 0, none⟩) ∧ q = .pointer (some ⟨w2.heap.size + 1, 0, none⟩) ∧
      HoldsW W V0.heap.size n2 uh ul vh vl (e1 - (k : Int)) mo ∧ HoldsW W (w2.heap.size + 1) n1 ph pl qh ql (e1 - (k : Int)) false ∧ HoldsD W w.heap.size n1 h1 l1 e1 ∧ HoldsD W (w.heap.size + 1) n2 h2 l2 e2 ∧ HoldsW W (w.heap.size + 1 + 1) false 0 0 0 0 0 false ∧ Below w.heap.size w W)
    case first =>
      clear b1 b2 b3 b4 b5 b8 b9 b10 b11 b12
      go_region_with
        (first
          | (go_at_call 88; refine (NO.out _).mono ?_; rintro e w5 ⟨rfl, hb5⟩;
             have R1 := Lib.hid (HoldsW.below (by repeat' (first | (with_reducible exact L0.out) | (with_reducible refine HoldsW.drew ?_))) hb5 : HoldsW w5 V0.heap.size n2 uh ul vh vl e2 false);
             have R2 := Lib.hid (HoldsW.below (by repeat' (first | (with_reducible exact H0.out) | (with_reducible refine HoldsW.drew ?_))) hb5 : HoldsW w5 (w2.heap.size + 1) n1 ph pl qh ql (e1 - (k : Int)) false);
             have R3 := Lib.hid (HoldsD.below (by repeat' (first | (with_reducible exact D0.out) | (with_reducible refine HoldsD.drewv ?_))) hb5 : HoldsD w5 w.heap.size n1 h1 l1 e1);
             have R4 := Lib.hid (HoldsD.below (by repeat' (first | (with_reducible exact D1.out) | (with_reducible refine HoldsD.drewv ?_))) hb5 : HoldsD w5 (w.heap.size + 1) n2 h2 l2 e2);
             have R5 := Lib.hid (HoldsW.below (by repeat' (first | (with_reducible exact D2.out) | (with_reducible refine HoldsW.drew ?_))) hb5 : HoldsW w5 (w.heap.size + 1 + 1) false 0 0 0 0 0 false);
             have BB := (bstep (w := w) (by repeat' (first | (with_reducible exact B4) | (with_reducible refine Below.drew ?_))) hb5 : Below w.heap.size w w5);
             obtain ⟨⟨-, -, -, -, -, p6, p7⟩, ⟨-, -, -, -, -, p13, p14⟩, p15⟩ := R1.out;
             obtain ⟨-, -, -, -, -, s6, -⟩ := R2.out.1; clear hb5))
      all_goals
        go_wp2
        go_meet
        case rel =>
          have um := UM.out
          subst um
          refine ⟨rfl, rfl, R1.out.putXM _ _, R2.out.far2 _ _ _ (by omega) _ _, R3.out.far2 _ _ _ (by omega) _ _, R4.out.far2 _ _ _ (by omega) _ _, R5.out.far2 _ _ _ (by omega) _ _, Below.set2 BB _ _ _ (by omega) _ _⟩
    case rest =>
      obtain ⟨rfl, rfl, A0, A1, A2, A3, A4, B5⟩ := hcut
      replace L0 := Lib.hid A0
      replace H0 := Lib.hid A1
      replace D2 := Lib.hid A4
      clear a6 c1 c2 c3 c4 c5 b1 b2 b3 b4 b5 b6 b7 b8 b9 b10 b11 b12 b13 b14 b15 A0 A1 A4 R0 NO UM B4 D0 D1
      obtain ⟨⟨a1, -, -, -⟩, -, a9⟩ := A2
      obtain ⟨⟨b1, -, -, -⟩, -, b9⟩ := A3
      obtain ⟨⟨p1, p2, p3, p4, p5, p6, p7⟩, -, p15⟩ := L0.out
      obtain ⟨⟨s1, s2, s3, s4, s5, s6, s7⟩, -, s15⟩ := H0.out
      have HSIZE := Lib.hid (show nv h1 l1 * 10 ^ k + nv h2 l2 / 10 ^ r < B128 * B128 from by
        have a := HH.out
        have b : nv h2 l2 / 10 ^ r ≤ 10 ^ 34 := Nat.le_trans (Nat.div_le_self _ _) (Nat.le_of_lt F6.out)
        have t : 10 ^ 72 + 10 ^ 34 < B128 * B128 := by unfold B128; decide
        exact Nat.lt_of_le_of_lt (Nat.add_le_add a b) t)
      have g5 : w.heap.size + 1 + 1 < wc.heap.size := D2.out.2.2
      by_cases s : n1 = n2
      · subst s
        have TG := Lib.hid (together_any n1 ph pl qh ql (e1 - (k : Int)) false n1 uh ul vh vl (e1 - (k : Int)) mo PR.out.1 PR.out.2.1 UF.out.1 UF.out.2.1 (by rw [PR.out.2.2, UF.out.2.2.1]; exact HSIZE.out))
        go_wp2_with fail
        have TG2 : Calls Tryd.prog 89 #[.agg #[.bool n1, .int .u64 (ph : Int), .int .u64 (pl : Int), .int .u64 (qh : Int), .int .u64 (ql : Int), .int .i64 (e1 - (k : Int)), .bool false], .agg #[.bool n1, .int .u64 (uh : Int), .int .u64 (ul : Int), .int .u64 (vh : Int), .int .u64 (vl : Int), .int .i64 (e1 - (k : Int)), .bool mo]] wc _ := TG.out wc
        apply Calls.mono TG2
        clear TG2
        rintro e w6 ⟨neg, h, l, h', l', y, more, ⟨rfl, t1, t2, t3, rfl, rfl⟩, rfl, hb6⟩
        have RS := Lib.hid (show WW h l ∧ WW h' l' ∧ SF = (neg, nv2 h l h' l', e1 - (k : Int), more) from ⟨t1, t2, by rw [HSUM.out, if_pos trivial, t3, PR.out.2.2, UF.out.2.2.1, HM.out]⟩)
        replace D2 := Lib.hid (D2.out.below hb6)
        have B6 : Below w.heap.size w w6 := bstep B5 hb6
        clear t1 t2 t3 hb6 B5 a1 b1 p1 p2 p3 p4 p5 p6 p7 s1 s2 s3 s4 s5 s6 s7 L0 H0 TG
        obtain ⟨⟨c1, c2, c3, c4, c5, c6, c7⟩, ⟨c8, c9, c10, c11, c12, c13, c14⟩, c15⟩ := D2.out
        go_wp2
        have HR := D2.out.putAll neg h l h' l' (e1 - (k : Int)) more
        have BR := Below.set7 B6 (w.heap.size + 1 + 1) (Nat.le_trans (Nat.le_succ _) (Nat.le_succ _)) (.bool neg) (.int .u64 (h : Int)) (.int .u64 (l : Int)) (.int .u64 (h' : Int)) (.int .u64 (l' : Int)) (.int .i64 (e1 - (k : Int))) (.bool more)
        refine ret_via (fun VF => HoldsW VF (w.heap.size + 1 + 1) neg h l h' l' (e1 - (k : Int)) more) (v := Wv neg h l h' l' (e1 - (k : Int)) more) ?_ HR rfl ⟨neg, h, l, h', l', e1 - (k : Int), more, RS.out, rfl, BR⟩
        rintro VF ⟨⟨i1, i2, i3, i4, i5, i6, i7⟩, -, -⟩
        simp [results, Tryd.results58, go_sem, i1, i2, i3, i4, i5, i6, i7]
      · have SX := Lib.hid s
        have tb : (n1 == n2) = false := by cases n1 <;> cases n2 <;> simp_all
        have CM := Lib.hid (cmp2_any ph pl qh ql uh ul vh vl PR.out.1 PR.out.2.1 UF.out.1 UF.out.2.1)
        rw [PR.out.2.2, UF.out.2.2.1] at CM
        clear s
        go_wp2_with fail
        refine (CM.out _).mono ?_
        rintro e w5 ⟨rfl, hb5⟩
        replace D2 := Lib.hid (D2.out.below hb5)
        replace L0 := Lib.hid (L0.out.below hb5)
        replace H0 := Lib.hid (H0.out.below hb5)
        replace B5 : Below w.heap.size w w5 := bstep B5 hb5
        clear hb5 a1 b1 p1 p2 p3 p4 p5 p6 p7 p15 s1 s2 s3 s4 s5 s6 s7 s15 CM tb
        obtain ⟨⟨p1, p2, p3, p4, p5, p6, p7⟩, -, p15⟩ := L0.out
        obtain ⟨⟨s1, s2, s3, s4, s5, s6, s7⟩, -, s15⟩ := H0.out
        by_cases lt : nv h1 l1 * 10 ^ k < nv h2 l2 / 10 ^ r
        · rw [cmpN_lt lt]
          have AP := Lib.hid (apart_no n2 uh ul vh vl (e1 - (k : Int)) mo n1 ph pl qh ql (e1 - (k : Int)) UF.out.1 UF.out.2.1 PR.out.1 PR.out.2.1 (by rw [PR.out.2.2, UF.out.2.2.1]; exact Nat.le_of_lt lt))
          have LT := Lib.hid lt
          clear lt
          go_wp2_with fail
          have TG2 : Calls Tryd.prog 91 #[.agg #[.bool n2, .int .u64 (uh : Int), .int .u64 (ul : Int), .int .u64 (vh : Int), .int .u64 (vl : Int), .int .i64 (e1 - (k : Int)), .bool mo], .agg #[.bool n1, .int .u64 (ph : Int), .int .u64 (pl : Int), .int .u64 (qh : Int), .int .u64 (ql : Int), .int .i64 (e1 - (k : Int)), .bool false]] w5 _ := AP.out w5
          apply Calls.mono TG2
          clear TG2
          rintro e w6 ⟨neg, h, l, h', l', y, more, ⟨rfl, t1, t2, t3, rfl, rfl⟩, rfl, hb6⟩
          have RS := Lib.hid (show WW h l ∧ WW h' l' ∧ SF = (neg, nv2 h l h' l', e1 - (k : Int), false) from ⟨t1, t2, by rw [HSUM.out, if_neg SX.out, if_pos LT.out, t3, PR.out.2.2, UF.out.2.2.1]⟩)
          replace D2 := Lib.hid (D2.out.below hb6)
          have B6 : Below w.heap.size w w6 := bstep B5 hb6
          clear t1 t2 t3 hb6 B5 p1 p2 p3 p4 p5 p6 p7 s1 s2 s3 s4 s5 s6 s7 L0 H0 AP
          obtain ⟨⟨c1, c2, c3, c4, c5, c6, c7⟩, ⟨c8, c9, c10, c11, c12, c13, c14⟩, c15⟩ := D2.out
          go_wp2
          have HR := D2.out.putAll neg h l h' l' (e1 - (k : Int)) false
          have BR := Below.set7 B6 (w.heap.size + 1 + 1) (Nat.le_trans (Nat.le_succ _) (Nat.le_succ _)) (.bool neg) (.int .u64 (h : Int)) (.int .u64 (l : Int)) (.int .u64 (h' : Int)) (.int .u64 (l' : Int)) (.int .i64 (e1 - (k : Int))) (.bool false)
          refine ret_via (fun VF => HoldsW VF (w.heap.size + 1 + 1) neg h l h' l' (e1 - (k : Int)) false) (v := Wv neg h l h' l' (e1 - (k : Int)) false) ?_ HR rfl ⟨neg, h, l, h', l', e1 - (k : Int), false, RS.out, rfl, BR⟩
          rintro VF ⟨⟨i1, i2, i3, i4, i5, i6, i7⟩, -, -⟩
          simp [results, Tryd.results58, go_sem, i1, i2, i3, i4, i5, i6, i7]
        · have c0 : decide (cmpN (nv h1 l1 * 10 ^ k) (nv h2 l2 / 10 ^ r) < 0) = false := by
            rcases cmpN_range (nv h1 l1 * 10 ^ k) (nv h2 l2 / 10 ^ r) with ⟨e, e'⟩ | ⟨e, _⟩ | ⟨e, _⟩
            · exact absurd e' lt
            · rw [e]; decide
            · rw [e]; decide
          have LT := Lib.hid lt
          generalize cmpN (nv h1 l1 * 10 ^ k) (nv h2 l2 / 10 ^ r) = cv at *
          clear lt
          cases mo
          · have AP := Lib.hid (apart_no n1 ph pl qh ql (e1 - (k : Int)) false n2 uh ul vh vl (e1 - (k : Int)) PR.out.1 PR.out.2.1 UF.out.1 UF.out.2.1 (by rw [PR.out.2.2, UF.out.2.2.1]; exact Nat.le_of_not_lt LT.out))
            go_wp2_with fail
            have TG2 : Calls Tryd.prog 91 #[.agg #[.bool n1, .int .u64 (ph : Int), .int .u64 (pl : Int), .int .u64 (qh : Int), .int .u64 (ql : Int), .int .i64 (e1 - (k : Int)), .bool false], .agg #[.bool n2, .int .u64 (uh : Int), .int .u64 (ul : Int), .int .u64 (vh : Int), .int .u64 (vl : Int), .int .i64 (e1 - (k : Int)), .bool false]] w5 _ := AP.out w5
            apply Calls.mono TG2
            clear TG2
            rintro e w6 ⟨neg, h, l, h', l', y, more, ⟨rfl, t1, t2, t3, rfl, rfl⟩, rfl, hb6⟩
            have RS := Lib.hid (show WW h l ∧ WW h' l' ∧ SF = (neg, nv2 h l h' l', e1 - (k : Int), false) from ⟨t1, t2, by
              have z : ¬ (nv h2 l2 % 10 ^ r ≠ 0) := of_decide_eq_false HM.out.symm
              rw [HSUM.out, if_neg SX.out, if_neg LT.out, if_neg z, ← HM.out, t3, PR.out.2.2, UF.out.2.2.1, Nat.sub_zero]⟩)
            replace D2 := Lib.hid (D2.out.below hb6)
            have B6 : Below w.heap.size w w6 := bstep B5 hb6
            clear t1 t2 t3 hb6 B5 p1 p2 p3 p4 p5 p6 p7 s1 s2 s3 s4 s5 s6 s7 L0 H0 AP
            obtain ⟨⟨c1, c2, c3, c4, c5, c6, c7⟩, ⟨c8, c9, c10, c11, c12, c13, c14⟩, c15⟩ := D2.out
            go_wp2
            have HR := D2.out.putAll neg h l h' l' (e1 - (k : Int)) false
            have BR := Below.set7 B6 (w.heap.size + 1 + 1) (Nat.le_trans (Nat.le_succ _) (Nat.le_succ _)) (.bool neg) (.int .u64 (h : Int)) (.int .u64 (l : Int)) (.int .u64 (h' : Int)) (.int .u64 (l' : Int)) (.int .i64 (e1 - (k : Int))) (.bool false)
            refine ret_via (fun VF => HoldsW VF (w.heap.size + 1 + 1) neg h l h' l' (e1 - (k : Int)) false) (v := Wv neg h l h' l' (e1 - (k : Int)) false) ?_ HR rfl ⟨neg, h, l, h', l', e1 - (k : Int), false, RS.out, rfl, BR⟩
            rintro VF ⟨⟨i1, i2, i3, i4, i5, i6, i7⟩, -, -⟩
            simp [results, Tryd.results58, go_sem, i1, i2, i3, i4, i5, i6, i7]
          · have AP := Lib.hid (apart_yes n1 ph pl qh ql (e1 - (k : Int)) false n2 uh ul vh vl (e1 - (k : Int)) PR.out.1 PR.out.2.1 UF.out.1 UF.out.2.1 (by
              rw [PR.out.2.2, UF.out.2.2.1]
              have z : nv h2 l2 % 10 ^ r ≠ 0 := of_decide_eq_true HM.out.symm
              have b : nv h2 l2 / 10 ^ r ≤ 10 ^ 34 := Nat.le_trans (Nat.div_le_self _ _) (Nat.le_of_lt F6.out)
              rcases far.out with y | y
              · exact absurd (by rw [y]; exact Nat.mod_one _) z
              · have : 10 ^ 34 + 1 ≤ 10 ^ 38 := by decide
                omega))
            go_wp2_with fail
            have TG2 : Calls Tryd.prog 91 #[.agg #[.bool n1, .int .u64 (ph : Int), .int .u64 (pl : Int), .int .u64 (qh : Int), .int .u64 (ql : Int), .int .i64 (e1 - (k : Int)), .bool false], .agg #[.bool n2, .int .u64 (uh : Int), .int .u64 (ul : Int), .int .u64 (vh : Int), .int .u64 (vl : Int), .int .i64 (e1 - (k : Int)), .bool true]] w5 _ := AP.out w5
            apply Calls.mono TG2
            clear TG2
            rintro e w6 ⟨neg, h, l, h', l', y, more, ⟨rfl, t1, t2, t3, rfl, rfl⟩, rfl, hb6⟩
            have RS := Lib.hid (show WW h l ∧ WW h' l' ∧ SF = (neg, nv2 h l h' l', e1 - (k : Int), true) from ⟨t1, t2, by
              have z : nv h2 l2 % 10 ^ r ≠ 0 := of_decide_eq_true HM.out.symm
              rw [HSUM.out, if_neg SX.out, if_neg LT.out, if_pos z, ← HM.out, t3, PR.out.2.2, UF.out.2.2.1]⟩)
            replace D2 := Lib.hid (D2.out.below hb6)
            have B6 : Below w.heap.size w w6 := bstep B5 hb6
            clear t1 t2 t3 hb6 B5 p1 p2 p3 p4 p5 p6 p7 s1 s2 s3 s4 s5 s6 s7 L0 H0 AP
            obtain ⟨⟨c1, c2, c3, c4, c5, c6, c7⟩, ⟨c8, c9, c10, c11, c12, c13, c14⟩, c15⟩ := D2.out
            go_wp2
            have HR := D2.out.putAll neg h l h' l' (e1 - (k : Int)) true
            have BR := Below.set7 B6 (w.heap.size + 1 + 1) (Nat.le_trans (Nat.le_succ _) (Nat.le_succ _)) (.bool neg) (.int .u64 (h : Int)) (.int .u64 (l : Int)) (.int .u64 (h' : Int)) (.int .u64 (l' : Int)) (.int .i64 (e1 - (k : Int))) (.bool true)
            refine ret_via (fun VF => HoldsW VF (w.heap.size + 1 + 1) neg h l h' l' (e1 - (k : Int)) true) (v := Wv neg h l h' l' (e1 - (k : Int)) true) ?_ HR rfl ⟨neg, h, l, h', l', e1 - (k : Int), true, RS.out, rfl, BR⟩
            rintro VF ⟨⟨i1, i2, i3, i4, i5, i6, i7⟩, -, -⟩
            simp [results, Tryd.results58, go_sem, i1, i2, i3, i4, i5, i6, i7]
end Go.Proofs.YtncpdoeikebomaaDoor

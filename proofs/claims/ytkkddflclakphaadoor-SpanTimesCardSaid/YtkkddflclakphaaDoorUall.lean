/-
  Several texts in one: each one's own remark stands ahead of it.
-/
import Derived.Test.YtkkddflclakphaaDoorEm
import Derived.Test.YtkkddflclakphaaDoorAc
import Derived.Test.YtkkddflclakphaaDoorEs
import Derived.Deep.LoopGhost
import Derived.Deep.RegionHeld3
import Derived.RegionTactic
import Derived.Test.YtkkddflclakphaaDoorWid
import Derived.Test.YtkkddflclakphaaDoorE9
/-
  Noughts behind a coefficient, a coefficient of 34 digits, a quotient with enough places (withNoughts, filled, wideQuotient of package quot), each as a contract of its call.
-/
namespace Go.Proofs.YtkkddflclakphaaDoor
open Go.RowKit

set_option maxRecDepth 100000 in
set_option maxHeartbeats 2000000 in
theorem wn_any (h l k : Nat) (ha : WW h l) (hk : k ≤ 38) (hp : nv h l * 10 ^ k < B128) (w : World) (ht : Tab w) :
    Calls Tryd.prog 71 #[U h l, .int .i64 (k : Int)] w (RetU (fun a b => WW a b ∧ nv a b = nv h l * 10 ^ k) w) := by
  have HT := Lib.hid ht
  have HA := Lib.hid ha
  have HP := Lib.hid hp
  have TY := Lib.hid (ten_yes k hk)
  clear ht ha hp hk
  go_enter Tryd.func71, Tryd.ntmps71
  go_wp2_with fail
  have B0 : Below w.heap.size w ((w.alloc (.cells #[.int .u64 (h : Int), .int .u64 (l : Int)] 31)).alloc (.cells #[.int .u64 0, .int .u64 0] 31)) := by go_grown
  have E2 := Lib.hid (show Holds2 ((w.alloc (.cells #[.int .u64 (h : Int), .int .u64 (l : Int)] 31)).alloc (.cells #[.int .u64 0, .int .u64 0] 31)) w.heap.size h l from by simp [Holds2, go_sem])
  have E4 := Lib.hid (show Holds2 ((w.alloc (.cells #[.int .u64 (h : Int), .int .u64 (l : Int)] 31)).alloc (.cells #[.int .u64 0, .int .u64 0] 31)) (w.heap.size + 1) 0 0 from by simp [Holds2, go_sem])
  refine (TY.out _ (HT.out.below B0)).mono ?_
  rintro e w1 ⟨th, tl, P, rfl, hb1⟩
  have TP := Lib.hid P
  replace E2 := Lib.hid (E2.out.below hb1)
  replace E4 := Lib.hid (E4.out.below hb1)
  have B1 : Below w.heap.size w w1 := bstep B0 hb1
  clear hb1 B0 P TY
  obtain ⟨a1, a2, -, -, a5⟩ := E2.out
  have z1 : w.heap.size < w1.heap.size + 1 := by omega
  go_wp2_with fail
  refine (mul_any h l th tl HA.out TP.out.1 _).mono ?_
  rintro e w2 ⟨ph, pl, qh, ql, P, rfl, hb2⟩
  obtain ⟨y1, y2, y3⟩ := low_half P.2.1 (by have v := P.2.2; rw [TP.out.2] at v; exact v) HP.out
  have R := Lib.hid (show WW qh ql ∧ nv qh ql = nv h l * 10 ^ k from ⟨P.2.1, y3⟩)
  replace E2 := Lib.hid ((E2.out.alloc (.cells #[.int .u64 (th : Int), .int .u64 (tl : Int)] 31)).below hb2)
  replace E4 := Lib.hid ((E4.out.alloc (.cells #[.int .u64 (th : Int), .int .u64 (tl : Int)] 31)).below hb2)
  have B2 : Below w.heap.size w w2 := bstep (ballD1 B1 _) hb2
  clear hb2 B1 P y1 y2 y3 a1 a2 a5 z1 HP TP
  obtain ⟨a1, a2, a3, a4, a5⟩ := E2.out
  obtain ⟨b1, b2, b3, b4, b5⟩ := E4.out
  go_wp2
  refine bodyPost_ret (v := U qh ql) (by simp [results, Tryd.results71, go_sem, *]) rfl ⟨_, _, R.out, rfl, ?_⟩
  clear a1 a2 a3 a4 b1 b2 b3 b4
  go_grown

def RetUI (F : Nat → Nat → Int → Prop) (w : World) (e : Ending) (w' : World) : Prop := ∃ h l x, F h l x ∧ e = .returned (.tuple #[U h l, .int .i64 x]) ∧ Below w.heap.size w w'

set_option maxRecDepth 100000 in
set_option maxHeartbeats 2000000 in
theorem filled_any (h l : Nat) (ha : WW h l) (hc : nv h l < 10 ^ 34) (w : World) (ht : Tab w) :
    Calls Tryd.prog 40 #[U h l] w (RetUI (fun a b x => WW a b ∧ nv a b = nv h l * 10 ^ (34 - nd (nv h l)) ∧ x = ((34 - nd (nv h l) : Nat) : Int)) w) := by
  have HT := Lib.hid ht
  have HA := Lib.hid ha
  have DG := Lib.hid (digitsTop_any 0 0 h l ww0 ha)
  rw [nv2_low] at DG
  have hk : nd (nv h l) ≤ 34 := nd_le hc
  have hp : nv h l * 10 ^ (34 - nd (nv h l)) < B128 := by
    have a := nd_lt (nv h l)
    have : nv h l * 10 ^ (34 - nd (nv h l)) < 10 ^ nd (nv h l) * 10 ^ (34 - nd (nv h l)) := Nat.mul_lt_mul_of_pos_right a (p10 _)
    rw [← Nat.pow_add, show nd (nv h l) + (34 - nd (nv h l)) = 34 by omega] at this
    exact Nat.lt_trans this ten34_lt
  have WN := Lib.hid (wn_any h l (34 - nd (nv h l)) ha (by omega) hp)
  obtain ⟨m, hm⟩ : ∃ m, m = nd (nv h l) := ⟨_, rfl⟩
  rw [← hm] at DG WN hk
  rw [← hm]
  obtain ⟨k, hkk⟩ : ∃ k, k = 34 - m := ⟨_, rfl⟩
  rw [← hkk] at WN
  rw [← hkk]
  obtain ⟨ki, hki⟩ : ∃ ki : Int, ki = (k : Int) := ⟨_, rfl⟩
  rw [← hki] at WN
  rw [← hki]
  have e1 : IntKind.i64.wrap (34 - (m : Int)) = ki := by rw [IntKind.wrap_i64, hki, hkk]; omega
  clear ht ha hc hp hm hkk hki
  go_enter Tryd.func40, Tryd.ntmps40
  go_wp2_with fail
  have B0 : Below w.heap.size w ((w.alloc (.cells #[.int .u64 (h : Int), .int .u64 (l : Int)] 31)).alloc (.cells #[.int .u64 0, .int .u64 0] 31)) := by go_grown
  have E1 := Lib.hid (show Holds2 ((w.alloc (.cells #[.int .u64 (h : Int), .int .u64 (l : Int)] 31)).alloc (.cells #[.int .u64 0, .int .u64 0] 31)) w.heap.size h l from by simp [Holds2, go_sem])
  have E2 := Lib.hid (show Holds2 ((w.alloc (.cells #[.int .u64 (h : Int), .int .u64 (l : Int)] 31)).alloc (.cells #[.int .u64 0, .int .u64 0] 31)) (w.heap.size + 1) 0 0 from by simp [Holds2, go_sem])
  refine (DG.out _ (HT.out.below B0)).mono ?_
  rintro e w1 ⟨rfl, hb1⟩
  replace E1 := Lib.hid (E1.out.below hb1)
  replace E2 := Lib.hid (E2.out.below hb1)
  have B1 : Below w.heap.size w w1 := bstep B0 hb1
  clear hb1 B0 DG
  obtain ⟨a1, a2, -, -, a5⟩ := E1.out
  go_wp2_with fail
  refine (WN.out _ (HT.out.below B1)).mono ?_
  rintro e w2 ⟨qh, ql, Q, rfl, hb2⟩
  have HQ := Lib.hid Q
  replace E2 := Lib.hid (E2.out.below hb2)
  have B2 : Below w.heap.size w w2 := bstep B1 hb2
  clear hb2 B1 a1 a2 a5 E1 WN Q
  obtain ⟨b1, b2, b3, b4, b5⟩ := E2.out
  go_wp2
  refine bodyPost_ret (v := .tuple #[U qh ql, .int .i64 ki]) (by simp [results, Tryd.results40, go_sem, *]) rfl ⟨_, _, _, ⟨HQ.out.1, HQ.out.2, rfl⟩, rfl, ?_⟩
  clear b1 b2 b3 b4
  go_grown

theorem top_lt0 (K p q a b : Nat) (e : p * K + q = a * 10 ^ 35) (h1 : a < 10 ^ 34) (h2 : 10 ^ 33 ≤ b) (hK : 10 ^ 69 < 10 ^ 33 * K) : p < b := by
  rcases Nat.lt_or_ge p b with z | z
  · exact z
  · exfalso
    have x := Nat.mul_le_mul_right K (Nat.le_trans h2 z)
    have y : a * 10 ^ 35 < 10 ^ 34 * 10 ^ 35 := Nat.mul_lt_mul_of_pos_right h1 (p10 35)
    rw [← Nat.pow_add] at y
    generalize 10 ^ 33 * K = M at *
    generalize p * K = R at *
    generalize a * 10 ^ 35 = T at *
    have y' : T < 10 ^ 69 := y
    omega
theorem top_lt {ph pl qh ql a b : Nat} (e : nv2 ph pl qh ql = a * 10 ^ 35) (h1 : a < 10 ^ 34) (h2 : 10 ^ 33 ≤ b) : nv ph pl < b :=
  top_lt0 B128 _ _ _ _ e h1 h2 (by unfold B128; decide)
/-- A quotient with 35 places, and what is left. -/
def WqF (ah al bh bl qh ql rh rl : Nat) : Prop := WW qh ql ∧ WW rh rl ∧ nv rh rl < nv bh bl ∧ nv qh ql * nv bh bl + nv rh rl = nv ah al * 10 ^ 35

set_option maxRecDepth 100000 in
set_option maxHeartbeats 2000000 in
theorem wq_any (ah al bh bl : Nat) (ha : WW ah al) (hb : WW bh bl) (h1 : nv ah al < 10 ^ 34) (h2 : 10 ^ 33 ≤ nv bh bl) (w : World) (ht : Tab w) :
    Calls Tryd.prog 41 #[U ah al, U bh bl] w (RetUUB (WqF ah al bh bl) true w) := by
  have HT := Lib.hid ht
  have HA := Lib.hid ha
  have HB := Lib.hid hb
  have H1 := Lib.hid h1
  have H2 := Lib.hid h2
  have TY := Lib.hid (ten_yes 35 (by decide))
  clear ht ha hb h1 h2
  go_enter Tryd.func41, Tryd.ntmps41
  go_wp2_with fail
  have B0 : Below w.heap.size w ((((w.alloc (.cells #[.int .u64 (ah : Int), .int .u64 (al : Int)] 31)).alloc (.cells #[.int .u64 (bh : Int), .int .u64 (bl : Int)] 31)).alloc (.cells #[.int .u64 0, .int .u64 0] 31)).alloc (.cells #[.int .u64 0, .int .u64 0] 31)) := by go_grown
  have E2 := Lib.hid (show Holds2 ((((w.alloc (.cells #[.int .u64 (ah : Int), .int .u64 (al : Int)] 31)).alloc (.cells #[.int .u64 (bh : Int), .int .u64 (bl : Int)] 31)).alloc (.cells #[.int .u64 0, .int .u64 0] 31)).alloc (.cells #[.int .u64 0, .int .u64 0] 31)) w.heap.size ah al from by simp [Holds2, go_sem])
  have E3 := Lib.hid (show Holds2 ((((w.alloc (.cells #[.int .u64 (ah : Int), .int .u64 (al : Int)] 31)).alloc (.cells #[.int .u64 (bh : Int), .int .u64 (bl : Int)] 31)).alloc (.cells #[.int .u64 0, .int .u64 0] 31)).alloc (.cells #[.int .u64 0, .int .u64 0] 31)) (w.heap.size + 1) bh bl from by simp [Holds2, go_sem])
  have E4 := Lib.hid (show Holds2 ((((w.alloc (.cells #[.int .u64 (ah : Int), .int .u64 (al : Int)] 31)).alloc (.cells #[.int .u64 (bh : Int), .int .u64 (bl : Int)] 31)).alloc (.cells #[.int .u64 0, .int .u64 0] 31)).alloc (.cells #[.int .u64 0, .int .u64 0] 31)) (w.heap.size + 1 + 1) 0 0 from by simp [Holds2, go_sem])
  have E5 := Lib.hid (show Holds2 ((((w.alloc (.cells #[.int .u64 (ah : Int), .int .u64 (al : Int)] 31)).alloc (.cells #[.int .u64 (bh : Int), .int .u64 (bl : Int)] 31)).alloc (.cells #[.int .u64 0, .int .u64 0] 31)).alloc (.cells #[.int .u64 0, .int .u64 0] 31)) (w.heap.size + 1 + 1 + 1) 0 0 from by simp [Holds2, go_sem])
  generalize ((((w.alloc (.cells #[.int .u64 (ah : Int), .int .u64 (al : Int)] 31)).alloc (.cells #[.int .u64 (bh : Int), .int .u64 (bl : Int)] 31)).alloc (.cells #[.int .u64 0, .int .u64 0] 31)).alloc (.cells #[.int .u64 0, .int .u64 0] 31)) = V at *
  refine (TY.out _ (HT.out.below B0)).mono ?_
  rintro e w1 ⟨th, tl, P, rfl, hb1⟩
  have TP := Lib.hid P
  replace E2 := Lib.hid ((E2.out.below hb1).alloc (.cells #[.int .u64 (th : Int), .int .u64 (tl : Int)] 31))
  replace E3 := Lib.hid ((E3.out.below hb1).alloc (.cells #[.int .u64 (th : Int), .int .u64 (tl : Int)] 31))
  replace E4 := Lib.hid ((E4.out.below hb1).alloc (.cells #[.int .u64 (th : Int), .int .u64 (tl : Int)] 31))
  replace E5 := Lib.hid ((E5.out.below hb1).alloc (.cells #[.int .u64 (th : Int), .int .u64 (tl : Int)] 31))
  have E7 := Lib.hid (Holds2.new2 rfl : Holds2 (w1.alloc (.cells #[.int .u64 (th : Int), .int .u64 (tl : Int)] 31)) w1.heap.size th tl)
  have B1 := ballD1 (bstep B0 hb1) (.cells #[.int .u64 (th : Int), .int .u64 (tl : Int)] 31)
  clear hb1 B0 P TY
  go_upto_region 2 with fail
  obtain ⟨g7, hg⟩ : ∃ g, g = w1.heap.size := ⟨_, rfl⟩
  rw [← hg] at E7
  rw [← hg]
  generalize w1.alloc (.cells #[.int .u64 (th : Int), .int .u64 (tl : Int)] 31) = V1 at *
  clear hg
  obtain ⟨a1, a2, -, -, a5⟩ := E2.out
  obtain ⟨b1, b2, -, -, b5⟩ := E7.out
  go_wp2_with fail
  refine (mul_any ah al th tl HA.out TP.out.1 _).mono ?_
  rintro e w2 ⟨ph, pl, qh, ql, P, rfl, hb2⟩
  have HP := Lib.hid (show nv2 ph pl qh ql = nv ah al * 10 ^ 35 from P.2.2.trans (by rw [TP.out.2]))
  have HW := Lib.hid (And.intro P.1 P.2.1)
  replace E3 := Lib.hid (((E3.out.below hb2).alloc (.cells #[.int .u64 (ph : Int), .int .u64 (pl : Int)] 31)).alloc (.cells #[.int .u64 (qh : Int), .int .u64 (ql : Int)] 31))
  replace E4 := Lib.hid (((E4.out.below hb2).alloc (.cells #[.int .u64 (ph : Int), .int .u64 (pl : Int)] 31)).alloc (.cells #[.int .u64 (qh : Int), .int .u64 (ql : Int)] 31))
  replace E5 := Lib.hid (((E5.out.below hb2).alloc (.cells #[.int .u64 (ph : Int), .int .u64 (pl : Int)] 31)).alloc (.cells #[.int .u64 (qh : Int), .int .u64 (ql : Int)] 31))
  have E9 := Lib.hid ((Holds2.new2 rfl).alloc _ : Holds2 ((w2.alloc (.cells #[.int .u64 (ph : Int), .int .u64 (pl : Int)] 31)).alloc (.cells #[.int .u64 (qh : Int), .int .u64 (ql : Int)] 31)) w2.heap.size ph pl)
  have E10 := Lib.hid (Holds2.new2 (by simp) : Holds2 ((w2.alloc (.cells #[.int .u64 (ph : Int), .int .u64 (pl : Int)] 31)).alloc (.cells #[.int .u64 (qh : Int), .int .u64 (ql : Int)] 31)) (w2.heap.size + 1) qh ql)
  replace B1 := ballD1 (ballD1 (bstep B1 hb2) (.cells #[.int .u64 (ph : Int), .int .u64 (pl : Int)] 31)) (.cells #[.int .u64 (qh : Int), .int .u64 (ql : Int)] 31)
  clear hb2 P a1 a2 a5 b1 b2 b5 E2 E7 TP
  go_upto_region 3 with fail
  generalize (w2.alloc (.cells #[.int .u64 (ph : Int), .int .u64 (pl : Int)] 31)).alloc (.cells #[.int .u64 (qh : Int), .int .u64 (ql : Int)] 31) = V2 at *
  have DV := Lib.hid (div_yes ph pl qh ql bh bl HW.out.1 HW.out.2 HB.out (top_lt HP.out H1.out H2.out))
  obtain ⟨a1, a2, -, -, a5⟩ := E9.out
  obtain ⟨b1, b2, -, -, b5⟩ := E10.out
  obtain ⟨c1, c2, -, -, c5⟩ := E3.out
  go_wp2_with fail
  refine (DV.out _).mono ?_
  rintro e w3 ⟨kh, kl, rh, rl, Q, rfl, hb3⟩
  have HQ := Lib.hid (show WqF ah al bh bl kh kl rh rl from ⟨Q.1, Q.2.1, Q.2.2.1, Q.2.2.2.trans HP.out⟩)
  replace E4 := Lib.hid (E4.out.below hb3)
  replace E5 := Lib.hid (E5.out.below hb3)
  replace B1 := bstep B1 hb3
  clear hb3 Q a1 a2 a5 b1 b2 b5 c1 c2 c5 E3 E9 E10 DV
  obtain ⟨a1, a2, a3, a4, a5⟩ := E4.out
  obtain ⟨b1, b2, b3, b4, b5⟩ := E5.out
  go_wp2
  refine bodyPost_ret (v := .tuple #[U kh kl, U rh rl, .bool true]) (by simp [results, Tryd.results41, go_sem, *]) rfl ⟨_, _, _, _, HQ.out, rfl, ?_⟩
  clear a1 a2 a3 a4 b1 b2 b3 b4
  go_grown
end Go.Proofs.YtkkddflclakphaaDoor

/-
  A size without the noughts at its end (withoutNoughts of package quot), as a contract of its call.
-/
namespace Go.Proofs.YtkkddflclakphaaDoor
open Go.RowKit

def WoRel (w : World) (N n0 : Nat) (x0 : Int) (neg more : Bool) (hh hl : Nat) (m : Nat) (t : Value) (W : World) : Prop :=
  ∃ j a b : Nat, t = .int .i64 (m : Int) ∧ j + m = n0 ∧ WW a b ∧ nv a b * 10 ^ j = N ∧ HoldsW W w.heap.size neg hh hl a b (x0 + (j : Int)) more ∧ HoldsW W (w.heap.size + 1) false 0 0 0 0 0 false ∧ Below w.heap.size w W
/-- What is left when noughts are taken away. -/
def WoF (N n0 : Nat) (x0 : Int) (neg more : Bool) (hh hl : Nat) (neg' : Bool) (h l a b : Nat) (x : Int) (more' : Bool) : Prop :=
  neg' = neg ∧ h = hh ∧ l = hl ∧ more' = more ∧ WW a b ∧ ∃ j : Nat, j ≤ n0 ∧ nv a b * 10 ^ j = N ∧ x = x0 + (j : Int) ∧ (j = n0 ∨ nv a b % 10 ≠ 0)

theorem tenth {ph pl qh ql a b r : Nat} (F : DivWordF 0 0 a b 10 ph pl qh ql r) (h : WW a b) : WW qh ql ∧ r = nv a b % 10 ∧ nv qh ql = nv a b / 10 := by
  obtain ⟨f1, f2, f3, f4⟩ := F
  rw [nv2_low] at f4
  have e : nv2 ph pl qh ql = nv a b / 10 := by omega
  have lt : nv a b / 10 < B128 := Nat.lt_of_le_of_lt (Nat.div_le_self _ _) (nv_lt h)
  obtain ⟨_, _, y3⟩ := low_half f2 e lt
  exact ⟨f2, by omega, y3⟩

theorem HoldsW.putL {W : World} {g : Nat} {neg more : Bool} {h l h' l' : Nat} {e : Int} (H : HoldsW W g neg h l h' l' e more) (c d : Nat) :
    HoldsW ((W.setCell ⟨g, 3, none⟩ (.int .u64 (c : Int))).setCell ⟨g, 4, none⟩ (.int .u64 (d : Int))) g neg h l c d e more := by
  obtain ⟨⟨a1, a2, a3, a4, a5, a6, a7⟩, ⟨b1, b2, b3, b4, b5, b6, b7⟩, s⟩ := H
  simp [HoldsW, go_sem, *]

set_option maxRecDepth 100000 in
set_option maxHeartbeats 4000000 in
theorem wo_any (neg : Bool) (hh hl h l : Nat) (x : Int) (more : Bool) (n0 : Nat) (h2 : WW h l) (hn : n0 ≤ 200) (x1 : -20000 ≤ x) (x2 : x ≤ 20000) (w : World) :
    Calls Tryd.prog 42 #[Wv neg hh hl h l x more, .int .i64 (n0 : Int)] w (RetW (WoF (nv h l) n0 x neg more hh hl) w) := by
  have H2 := Lib.hid h2
  go_enter Tryd.func42, Tryd.ntmps42
  go_wp2
  go_loopg [1] n0 (fun m t W => WoRel w (nv h l) n0 x neg more hh hl m t W)
  case atStart =>
    refine ⟨0, h, l, rfl, by omega, H2.out, by rw [Nat.pow_zero, Nat.mul_one], ?_, ?_, ?_⟩
    · simp [HoldsW, go_sem]
    · simp [HoldsW, go_sem]
    · go_grown
  case round =>
    obtain ⟨j, a, b, rfl, e1, wab, eN, P2, P4, HB⟩ := hrel
    have J := Lib.hid (And.intro e1 eN)
    have WAB := Lib.hid wab
    have j2 : (j : Int) ≤ 200 := by omega
    have P2H := Lib.hid P2
    have P4H := Lib.hid P4
    have g2 : (gk : Int) ≤ 200 := by omega
    clear e1 eN wab P2 P4
    rcases Nat.eq_zero_or_pos gk with z | z
    · subst z
      have t0 : decide ((0 : Int) < ((0 : Nat) : Int)) = false := rfl
      obtain ⟨⟨c1, c2, c3, c4, c5, c6, c7⟩, -, c9⟩ := P2H.out
      obtain ⟨⟨d1, d2, d3, d4, d5, d6, d7⟩, ⟨d11, d12, d13, d14, d15, d16, d17⟩, d9⟩ := P4H.out
      go_wp2
      clear c1 c2 c3 c4 c5 c6 c7 d1 d2 d3 d4 d5 d6 d7 d11 d12 d13 d14 d15 d16 d17
      refine ret_via (fun VF => HoldsW VF (w.heap.size + 1) neg hh hl a b (x + (j : Int)) more) (fun VF hq => ?_) (HoldsW.putAll P4H.out neg hh hl a b (x + (j : Int)) more) rfl ⟨_, _, _, _, _, _, _, ⟨rfl, rfl, rfl, rfl, WAB.out, j, by have := J.out.1; omega, J.out.2, rfl, .inl (by have := J.out.1; omega)⟩, rfl, Below.set7 HB (w.heap.size + 1) (Nat.le_succ _) _ _ _ _ _ _ _⟩
      obtain ⟨⟨d1, d2, d3, d4, d5, d6, d7⟩, -, -⟩ := hq
      simp [results, Tryd.results42, go_sem, *]
    · have t0 : decide ((0 : Int) < (gk : Int)) = true := decide_eq_true (by omega)
      have t0' : decide (0 < gk) = true := decide_eq_true z
      have DW := Lib.hid (divWord_any 0 0 a b 10 ww0 WAB.out (by decide) (by decide))
      obtain ⟨⟨c1, c2, c3, c4, c5, c6, c7⟩, -, c9⟩ := P2H.out
      go_wp2_with fail
      refine (DW.out _).mono ?_
      rintro e w1 ⟨ph, pl, qh, ql, r, F, rfl, hb1⟩
      obtain ⟨f1, f2, f3⟩ := tenth F WAB.out
      have FF := Lib.hid (And.intro f1 (And.intro f2 f3))
      replace P2H := Lib.hid (((P2H.out.below hb1).alloc (.cells #[.int .u64 (ph : Int), .int .u64 (pl : Int)] 31)).alloc (.cells #[.int .u64 (qh : Int), .int .u64 (ql : Int)] 31))
      replace P4H := Lib.hid (((P4H.out.below hb1).alloc (.cells #[.int .u64 (ph : Int), .int .u64 (pl : Int)] 31)).alloc (.cells #[.int .u64 (qh : Int), .int .u64 (ql : Int)] 31))
      have E6 := Lib.hid (Holds2.new2 (by simp) : Holds2 ((w1.alloc (.cells #[.int .u64 (ph : Int), .int .u64 (pl : Int)] 31)).alloc (.cells #[.int .u64 (qh : Int), .int .u64 (ql : Int)] 31)) (w1.heap.size + 1) qh ql)
      replace HB := ballD1 (ballD1 (bstep HB hb1) (.cells #[.int .u64 (ph : Int), .int .u64 (pl : Int)] 31)) (.cells #[.int .u64 (qh : Int), .int .u64 (ql : Int)] 31)
      have s1 : w.heap.size < w1.heap.size + 1 := by have := hb1.size; omega
      clear hb1 F f1 f2 f3 c1 c2 c3 c4 c5 c6 c7 DW
      go_upto_region 4 with fail
      generalize (w1.alloc (.cells #[.int .u64 (ph : Int), .int .u64 (pl : Int)] 31)).alloc (.cells #[.int .u64 (qh : Int), .int .u64 (ql : Int)] 31) = V1 at *
      by_cases r0 : r = 0
      · have r1 : ((r : Int) != 0) = false := by rw [r0]; rfl
        have r2 : ((r : Int) == 0) = true := by rw [r0]; rfl
        have NX := Lib.hid (show nv qh ql * 10 ^ (j + 1) = nv h l from by
          rw [Nat.pow_succ, ← J.out.2, Nat.mul_comm (10 ^ j) 10, ← Nat.mul_assoc]
          congr 1
          have := FF.out.2.1
          have := FF.out.2.2
          omega)
        obtain ⟨⟨c1, c2, c3, c4, c5, c6, c7⟩, ⟨c11, c12, c13, c14, c15, c16, c17⟩, c9⟩ := P2H.out
        obtain ⟨d1, d2, -, -, d5⟩ := E6.out
        clear r0
        go_wp2
        clear c1 c2 c3 c4 c5 c6 c7 c11 c12 c13 c14 c15 c16 c17 d1 d2 d5
        go_roundg (gk - 1)
        case measure => omega
        case rel =>
          refine ⟨j + 1, qh, ql, by go_num, by have := J.out.1; omega, FF.out.1, NX.out, ?_, ?_, ?_⟩
          · have k := HoldsW.putX (e' := x + (j : Int) + 1) (HoldsW.putL P2H.out qh ql)
            rw [show x + (j : Int) + 1 = x + ((j + 1 : Nat) : Int) by omega] at k
            first | exact k | (rw [show x + (j : Int) + 1 = x + ((j + 1 : Nat) : Int) by omega]; exact k)
          · exact HoldsW.far (HoldsW.far (HoldsW.far P4H.out (p := ⟨w.heap.size, 3, none⟩) (show w.heap.size + 1 ≠ w.heap.size by omega) _) (p := ⟨w.heap.size, 4, none⟩) (show w.heap.size + 1 ≠ w.heap.size by omega) _) (p := ⟨w.heap.size, 5, none⟩) (show w.heap.size + 1 ≠ w.heap.size by omega) _
          · exact Below.set1 (Below.set1 (Below.set1 HB _ _ (Nat.le_refl _) _) _ _ (Nat.le_refl _) _) _ _ (Nat.le_refl _) _
      · have r1 : ((r : Int) != 0) = true := by simp; omega
        have r2 : ((r : Int) == 0) = false := by simp; omega
        obtain ⟨⟨c1, c2, c3, c4, c5, c6, c7⟩, -, c9⟩ := P2H.out
        obtain ⟨⟨d1, d2, d3, d4, d5, d6, d7⟩, ⟨d11, d12, d13, d14, d15, d16, d17⟩, d9⟩ := P4H.out
        go_wp2
        clear c1 c2 c3 c4 c5 c6 c7 d1 d2 d3 d4 d5 d6 d7 d11 d12 d13 d14 d15 d16 d17
        refine ret_via (fun VF => HoldsW VF (w.heap.size + 1) neg hh hl a b (x + (j : Int)) more) (fun VF hq => ?_) (HoldsW.putAll P4H.out neg hh hl a b (x + (j : Int)) more) rfl ⟨_, _, _, _, _, _, _, ⟨rfl, rfl, rfl, rfl, WAB.out, j, by have := J.out.1; omega, J.out.2, rfl, .inr (by rw [← FF.out.2.1]; exact r0)⟩, rfl, Below.set7 HB (w.heap.size + 1) (Nat.le_succ _) _ _ _ _ _ _ _⟩
        obtain ⟨⟨d1, d2, d3, d4, d5, d6, d7⟩, -, -⟩ := hq
        simp [results, Tryd.results42, go_sem, *]
end Go.Proofs.YtkkddflclakphaaDoor

/-
  Quotients of decimal numbers (Div of package quot), as a contract of its call.
-/
namespace Go.Proofs.YtkkddflclakphaaDoor
open Go.RowKit

/-- A number or none, of which something is known. -/
def RetDP (P : Option (Bool × Nat × Int) → Prop) (w : World) (e : Ending) (w' : World) : Prop := ∃ o, P o ∧ RetDO o w e w'
/-- So many places. -/
def plD (ca cb : Nat) : Int := ((34 - nd ca : Nat) : Int) - ((34 - nd cb : Nat) : Int) + 35
/-- What a quotient is. -/
def DivP (na : Bool) (ca : Nat) (ea : Int) (nb : Bool) (cb : Nat) (eb : Int) (o : Option (Bool × Nat × Int)) : Prop :=
  (cb = 0 ∧ o = none) ∨ (cb ≠ 0 ∧ ca = 0 ∧ o = fitF 1 false 0 false (ea - eb)) ∨
  (cb ≠ 0 ∧ ca ≠ 0 ∧ ∃ Q R : Nat, R < cb * 10 ^ (34 - nd cb) ∧ Q * (cb * 10 ^ (34 - nd cb)) + R = ca * 10 ^ (34 - nd ca) * 10 ^ 35 ∧
    ((R ≠ 0 ∧ o = fitF 1 (na != nb) Q true (ea - eb - plD ca cb)) ∨
     (R = 0 ∧ ∃ q j : Nat, j ≤ (plD ca cb).toNat ∧ q * 10 ^ j = Q ∧ (j = (plD ca cb).toNat ∨ q % 10 ≠ 0) ∧ o = fitF 1 (na != nb) q false (ea - eb - plD ca cb + (j : Int)))))

theorem filled_bounds {c : Nat} (h : c < 10 ^ 34) (z : c ≠ 0) : 10 ^ 33 ≤ c * 10 ^ (34 - nd c) ∧ c * 10 ^ (34 - nd c) < 10 ^ 34 := by
  have a := nd_min z
  have b := nd_lt c
  have n1 : nd c ≤ 34 := nd_le h
  have n0 : 1 ≤ nd c := by have := nd_pos z; omega
  constructor
  · have := Nat.mul_le_mul_right (10 ^ (34 - nd c)) a
    rw [← Nat.pow_add, show nd c - 1 + (34 - nd c) = 33 by omega] at this
    exact this
  · have : c * 10 ^ (34 - nd c) < 10 ^ nd c * 10 ^ (34 - nd c) := Nat.mul_lt_mul_of_pos_right b (p10 _)
    rw [← Nat.pow_add, show nd c + (34 - nd c) = 34 by omega] at this
    exact this

set_option maxRecDepth 100000 in
set_option maxHeartbeats 4000000 in
theorem divD_zero (na : Bool) (ah al : Nat) (ea : Int) (nb : Bool) (bh bl : Nat) (eb : Int) (z : nv bh bl = 0) (w : World) :
    Calls Tryd.prog 19 #[Dv na ah al ea, Dv nb bh bl eb] w (RetDP (DivP na (nv ah al) ea nb (nv bh bl) eb) w) := by
  have Z := Lib.hid (zeroD_any nb bh bl eb)
  rw [decide_eq_true z] at Z
  have HZ := Lib.hid z
  clear z
  go_enter Tryd.func19, Tryd.ntmps19
  go_wp2_with fail
  refine (Z.out _).mono ?_
  rintro e w1 ⟨rfl, hb1⟩
  have E4 := Lib.hid ((show HoldsD _ (w.heap.size + 1 + 1) false 0 0 0 from by simp [HoldsD, go_sem]).below hb1)
  have B1 : Below w.heap.size w w1 := bstep (by go_grown) hb1
  clear hb1 Z
  obtain ⟨⟨d1, d2, d3, d4⟩, ⟨d5, d6, d7, d8⟩, d9⟩ := E4.out
  go_wp2
  refine bodyPost_ret (v := .tuple #[Dv false 0 0 0, .bool false]) (by simp [results, Tryd.results19, go_sem, *]) rfl ⟨none, .inl ⟨HZ.out, rfl⟩, _, _, _, _, _, ⟨ww0, rfl, rfl, rfl, rfl, rfl⟩, rfl, ?_⟩
  clear d1 d2 d3 d4 d5 d6 d7 d8
  go_grown

set_option maxRecDepth 100000 in
set_option maxHeartbeats 4000000 in
theorem divD_nought (na : Bool) (ah al : Nat) (ea : Int) (nb : Bool) (bh bl : Nat) (eb : Int) (h1 : NumD (nv ah al) ea) (h2 : NumD (nv bh bl) eb) (zb : nv bh bl ≠ 0) (za : nv ah al = 0) (w : World) (ht : Tab w) :
    Calls Tryd.prog 19 #[Dv na ah al ea, Dv nb bh bl eb] w (RetDP (DivP na (nv ah al) ea nb (nv bh bl) eb) w) := by
  have HT := Lib.hid ht
  have Z := Lib.hid (zeroD_any nb bh bl eb)
  rw [decide_eq_false zb] at Z
  have Y := Lib.hid (zeroD_any na ah al ea)
  rw [decide_eq_true za] at Y
  have HZ := Lib.hid (And.intro zb za)
  have e1 : IntKind.i64.wrap (ea - eb) = ea - eb := by rw [IntKind.wrap_i64]; have := h1.2; have := h2.2; omega
  have FI := Lib.hid (fit_any 1 (.inl rfl) false 0 0 0 0 (ea - eb) false ww0 ww0 (by have := h1.2; have := h2.2; omega) (by have := h1.2; have := h2.2; omega))
  rw [show nv2 0 0 0 0 = 0 from rfl] at FI
  clear zb za ht h1 h2
  go_enter Tryd.func19, Tryd.ntmps19
  go_wp2_with fail
  refine (Z.out _).mono ?_
  rintro e w1 ⟨rfl, hb1⟩
  have E2 := Lib.hid ((show HoldsD _ w.heap.size na ah al ea from by simp [HoldsD, go_sem]).below hb1)
  have E3 := Lib.hid ((show HoldsD _ (w.heap.size + 1) nb bh bl eb from by simp [HoldsD, go_sem]).below hb1)
  have E4 := Lib.hid ((show HoldsD _ (w.heap.size + 1 + 1) false 0 0 0 from by simp [HoldsD, go_sem]).below hb1)
  have B1 : Below w.heap.size w w1 := bstep (by go_grown) hb1
  clear hb1 Z
  obtain ⟨⟨a1, a2, a3, a4⟩, -, a9⟩ := E2.out
  obtain ⟨⟨b1, b2, b3, b4⟩, -, b9⟩ := E3.out
  go_wp2_with fail
  refine (Y.out _).mono ?_
  rintro e w2 ⟨rfl, hb2⟩
  replace E4 := Lib.hid (E4.out.below hb2)
  replace B1 := bstep B1 hb2
  clear hb2 Y a1 a2 a3 a4 a9 b1 b2 b3 b4 b9 E2 E3
  go_wp2_with fail
  refine (FI.out _ (HT.out.below B1)).mono ?_
  rintro e w3 ⟨n3, h3, l3, x3, k3, N, rfl, hb3⟩
  have HN := Lib.hid N
  replace E4 := Lib.hid (E4.out.below hb3)
  replace B1 := bstep B1 hb3
  clear hb3 N FI
  obtain ⟨⟨d1, d2, d3, d4⟩, ⟨d5, d6, d7, d8⟩, d9⟩ := E4.out
  go_wp2
  refine bodyPost_ret (v := .tuple #[Dv n3 h3 l3 x3, .bool k3]) (by simp [results, Tryd.results19, go_sem, *]) rfl ⟨_, .inr (.inl ⟨HZ.out.1, HZ.out.2, rfl⟩), _, _, _, _, _, HN.out, rfl, ?_⟩
  clear d1 d2 d3 d4 d5 d6 d7 d8
  go_grown
end Go.Proofs.YtkkddflclakphaaDoor

/-
  Quotients of decimal numbers (Div of package quot), as a contract of its call: of numbers that are not 0.
-/
namespace Go.Proofs.YtkkddflclakphaaDoor
open Go.RowKit

theorem HoldsW.new7 {W : World} {g t : Nat} {neg more : Bool} {h l h' l' : Nat} {e : Int} (hg : g = W.heap.size) : HoldsW (W.alloc (.cells #[.bool neg, .int .u64 (h : Int), .int .u64 (l : Int), .int .u64 (h' : Int), .int .u64 (l' : Int), .int .i64 e, .bool more] t)) g neg h l h' l' e more := by
  subst hg
  simp [HoldsW, go_sem]
theorem HoldsW.low7 {W : World} {g t : Nat} {neg more : Bool} {h' l' : Nat} {e : Int} (hg : g = W.heap.size) : HoldsW (W.alloc (.cells #[.bool neg, .int .u64 0, .int .u64 0, .int .u64 (h' : Int), .int .u64 (l' : Int), .int .i64 e, .bool more] t)) g neg 0 0 h' l' e more := HoldsW.new7 hg
theorem HoldsW.zero7 {W : World} {g t : Nat} (hg : g = W.heap.size) : HoldsW (W.alloc (.cells #[.bool false, .int .u64 0, .int .u64 0, .int .u64 0, .int .u64 0, .int .i64 0, .bool false] t)) g false 0 0 0 0 0 false := HoldsW.new7 hg
theorem HoldsW.lowAll {W : World} {g : Nat} {neg more : Bool} {h l h' l' : Nat} {e : Int} (H : HoldsW W g neg h l h' l' e more) (n : Bool) (c d : Nat) (x : Int) (m : Bool) :
    HoldsW (((((((W.setCell ⟨g, 0, none⟩ (.bool n)).setCell ⟨g, 1, none⟩ (.int .u64 0)).setCell ⟨g, 2, none⟩ (.int .u64 0)).setCell ⟨g, 3, none⟩ (.int .u64 (c : Int))).setCell ⟨g, 4, none⟩ (.int .u64 (d : Int))).setCell ⟨g, 5, none⟩ (.int .i64 x)).setCell ⟨g, 6, none⟩ (.bool m)) g n 0 0 c d x m := HoldsW.putAll H n 0 0 c d x m
theorem HoldsD.far7 {W : World} {q g : Nat} {neg : Bool} {h l : Nat} {e : Int} (H : HoldsD W q neg h l e) (hg : q ≠ g) (v0 v1 v2 v3 v4 v5 v6 : Value) :
    HoldsD (((((((W.setCell ⟨g, 0, none⟩ v0).setCell ⟨g, 1, none⟩ v1).setCell ⟨g, 2, none⟩ v2).setCell ⟨g, 3, none⟩ v3).setCell ⟨g, 4, none⟩ v4).setCell ⟨g, 5, none⟩ v5).setCell ⟨g, 6, none⟩ v6) q neg h l e :=
  HoldsD.far (HoldsD.far (HoldsD.far (HoldsD.far (HoldsD.far (HoldsD.far (HoldsD.far H hg _) hg _) hg _) hg _) hg _) hg _) hg _
theorem keep1122 {W w' : World} {a b c d : Nat} {v0 v1 v2 v3 v4 v5 : Value} (hb : Below W.heap.size W w') (h : W.cell? ⟨a, 0, none⟩ = some v0 ∧ W.cell? ⟨b, 0, none⟩ = some v1 ∧ W.cell? ⟨c, 0, none⟩ = some v2 ∧ W.cell? ⟨c, 1, none⟩ = some v3 ∧ W.cell? ⟨d, 0, none⟩ = some v4 ∧ W.cell? ⟨d, 1, none⟩ = some v5) :
    w'.cell? ⟨a, 0, none⟩ = some v0 ∧ w'.cell? ⟨b, 0, none⟩ = some v1 ∧ w'.cell? ⟨c, 0, none⟩ = some v2 ∧ w'.cell? ⟨c, 1, none⟩ = some v3 ∧ w'.cell? ⟨d, 0, none⟩ = some v4 ∧ w'.cell? ⟨d, 1, none⟩ = some v5 :=
  ⟨keepCell2 h.1 hb, keepCell2 h.2.1 hb, keepCell2 h.2.2.1 hb, keepCell2 h.2.2.2.1 hb, keepCell2 h.2.2.2.2.1 hb, keepCell2 h.2.2.2.2.2 hb⟩
theorem keep1122d {W : World} {a b c d : Nat} {v0 v1 v2 v3 v4 v5 : Value} (h : W.cell? ⟨a, 0, none⟩ = some v0 ∧ W.cell? ⟨b, 0, none⟩ = some v1 ∧ W.cell? ⟨c, 0, none⟩ = some v2 ∧ W.cell? ⟨c, 1, none⟩ = some v3 ∧ W.cell? ⟨d, 0, none⟩ = some v4 ∧ W.cell? ⟨d, 1, none⟩ = some v5) :
    W.drew.cell? ⟨a, 0, none⟩ = some v0 ∧ W.drew.cell? ⟨b, 0, none⟩ = some v1 ∧ W.drew.cell? ⟨c, 0, none⟩ = some v2 ∧ W.drew.cell? ⟨c, 1, none⟩ = some v3 ∧ W.drew.cell? ⟨d, 0, none⟩ = some v4 ∧ W.drew.cell? ⟨d, 1, none⟩ = some v5 := h
theorem keep1122a {W : World} {a b c d : Nat} {v0 v1 v2 v3 v4 v5 : Value} {ob : Obj} (h : W.cell? ⟨a, 0, none⟩ = some v0 ∧ W.cell? ⟨b, 0, none⟩ = some v1 ∧ W.cell? ⟨c, 0, none⟩ = some v2 ∧ W.cell? ⟨c, 1, none⟩ = some v3 ∧ W.cell? ⟨d, 0, none⟩ = some v4 ∧ W.cell? ⟨d, 1, none⟩ = some v5) :
    (W.alloc ob).cell? ⟨a, 0, none⟩ = some v0 ∧ (W.alloc ob).cell? ⟨b, 0, none⟩ = some v1 ∧ (W.alloc ob).cell? ⟨c, 0, none⟩ = some v2 ∧ (W.alloc ob).cell? ⟨c, 1, none⟩ = some v3 ∧ (W.alloc ob).cell? ⟨d, 0, none⟩ = some v4 ∧ (W.alloc ob).cell? ⟨d, 1, none⟩ = some v5 := keep1122 ((Below.refl _ _).alloc (Nat.le_refl _) ob) h
theorem keep1122s {W : World} {a b c d : Nat} {v0 v1 v2 v3 v4 v5 : Value} {p : Addr} {u : Value} (ha : a ≠ p.block) (hb : b ≠ p.block) (hc : c ≠ p.block) (hd : d ≠ p.block) (h : W.cell? ⟨a, 0, none⟩ = some v0 ∧ W.cell? ⟨b, 0, none⟩ = some v1 ∧ W.cell? ⟨c, 0, none⟩ = some v2 ∧ W.cell? ⟨c, 1, none⟩ = some v3 ∧ W.cell? ⟨d, 0, none⟩ = some v4 ∧ W.cell? ⟨d, 1, none⟩ = some v5) :
    (W.setCell p u).cell? ⟨a, 0, none⟩ = some v0 ∧ (W.setCell p u).cell? ⟨b, 0, none⟩ = some v1 ∧ (W.setCell p u).cell? ⟨c, 0, none⟩ = some v2 ∧ (W.setCell p u).cell? ⟨c, 1, none⟩ = some v3 ∧ (W.setCell p u).cell? ⟨d, 0, none⟩ = some v4 ∧ (W.setCell p u).cell? ⟨d, 1, none⟩ = some v5 :=
  ⟨keepSet h.1 ha, keepSet h.2.1 hb, keepSet h.2.2.1 hc, keepSet h.2.2.2.1 hc, keepSet h.2.2.2.2.1 hd, keepSet h.2.2.2.2.2 hd⟩

set_option maxRecDepth 100000 in
set_option maxHeartbeats 8000000 in
theorem divD_main (na : Bool) (ah al : Nat) (ea : Int) (nb : Bool) (bh bl : Nat) (eb : Int) (ha : WW ah al) (hb : WW bh bl) (h1 : NumD (nv ah al) ea) (h2 : NumD (nv bh bl) eb) (zb : nv bh bl ≠ 0) (za : nv ah al ≠ 0) (w : World) (ht : Tab w) :
    Calls Tryd.prog 19 #[Dv na ah al ea, Dv nb bh bl eb] w (RetDP (DivP na (nv ah al) ea nb (nv bh bl) eb) w) := by
  have HT := Lib.hid ht
  have Z := Lib.hid (zeroD_any nb bh bl eb)
  rw [decide_eq_false zb] at Z
  have Y := Lib.hid (zeroD_any na ah al ea)
  rw [decide_eq_false za] at Y
  have FA := Lib.hid (filled_any ah al ha h1.1)
  have FB := Lib.hid (filled_any bh bl hb h2.1)
  have BA := Lib.hid (filled_bounds h1.1 za)
  have BB := Lib.hid (filled_bounds h2.1 zb)
  have HZ := Lib.hid (And.intro zb za)
  obtain ⟨ex, hex, ex1, ex2⟩ : ∃ x, x = ea - eb ∧ -13000 ≤ x ∧ x ≤ 13000 := ⟨_, rfl, by have := h1.2; have := h2.2; omega, by have := h1.2; have := h2.2; omega⟩
  have e1 : IntKind.i64.wrap (ea - eb) = ex := by rw [IntKind.wrap_i64, hex]; have := h1.2; have := h2.2; omega
  obtain ⟨ka, hka, ka2⟩ : ∃ k : Int, k = ((34 - nd (nv ah al) : Nat) : Int) ∧ k ≤ 33 := ⟨_, rfl, by have := nd_pos za; omega⟩
  obtain ⟨kb, hkb, kb2⟩ : ∃ k : Int, k = ((34 - nd (nv bh bl) : Nat) : Int) ∧ k ≤ 33 := ⟨_, rfl, by have := nd_pos zb; omega⟩
  have ka1 : 0 ≤ ka := by omega
  have kb1 : 0 ≤ kb := by omega
  obtain ⟨pl, hpl⟩ : ∃ p, p = plD (nv ah al) (nv bh bl) := ⟨_, rfl⟩
  have epl : pl = ka - kb + 35 := by rw [hpl, hka, hkb]; rfl
  have pl1 : 2 ≤ pl := by omega
  have pl2 : pl ≤ 68 := by omega
  have e2 : IntKind.i64.wrap (ka - kb) = ka - kb := by rw [IntKind.wrap_i64]; omega
  have e3 : IntKind.i64.wrap (ka - kb + 35) = pl := by rw [IntKind.wrap_i64]; omega
  have e4 : IntKind.i64.wrap (ex - pl) = ex - pl := by rw [IntKind.wrap_i64]; omega
  rw [← hka] at FA
  rw [← hkb] at FB
  have HH := Lib.hid (And.intro hex hpl)
  obtain ⟨s, hs⟩ : ∃ s, (na != nb) = s := ⟨_, rfl⟩
  have hs' : (!na == nb) = s := hs
  have HS := Lib.hid hs
  clear zb za ht h1 h2 ha hb hka hkb hex hpl epl ka1 ka2 kb1 kb2
  go_enter Tryd.func19, Tryd.ntmps19
  go_wp2_with fail
  refine (Z.out _).mono ?_
  rintro e w1 ⟨rfl, hb1⟩
  have E2 := Lib.hid ((show HoldsD _ w.heap.size na ah al ea from by simp [HoldsD, go_sem]).below hb1)
  have E3 := Lib.hid ((show HoldsD _ (w.heap.size + 1) nb bh bl eb from by simp [HoldsD, go_sem]).below hb1)
  have E4 := Lib.hid ((show HoldsD _ (w.heap.size + 1 + 1) false 0 0 0 from by simp [HoldsD, go_sem]).below hb1)
  have B1 : Below w.heap.size w w1 := bstep (by go_grown) hb1
  clear hb1 Z
  obtain ⟨⟨a1, a2, a3, a4⟩, -, a9⟩ := E2.out
  obtain ⟨⟨b1, b2, b3, b4⟩, -, b9⟩ := E3.out
  go_wp2_with fail
  refine (Y.out _).mono ?_
  rintro e w2 ⟨rfl, hb2⟩
  replace E2 := Lib.hid (E2.out.below hb2)
  replace E3 := Lib.hid (E3.out.below hb2)
  replace E4 := Lib.hid (E4.out.below hb2)
  replace B1 := bstep B1 hb2
  clear hb2 Y a1 a2 a3 a4 a9 b1 b2 b3 b4 b9
  obtain ⟨⟨a1, a2, a3, a4⟩, -, a9⟩ := E2.out
  go_wp2_with fail
  refine (FA.out _ (HT.out.below B1)).mono ?_
  rintro e w3 ⟨th, tl, xa, ⟨p1, p2, p3⟩, rfl, hb3⟩
  subst p3
  have TA := Lib.hid (And.intro p1 p2)
  replace E2 := Lib.hid ((E2.out.below hb3).alloc (.cells #[.int .u64 (th : Int), .int .u64 (tl : Int)] 31))
  replace E3 := Lib.hid ((E3.out.below hb3).alloc (.cells #[.int .u64 (th : Int), .int .u64 (tl : Int)] 31))
  replace E4 := Lib.hid ((E4.out.below hb3).alloc (.cells #[.int .u64 (th : Int), .int .u64 (tl : Int)] 31))
  have E7 := Lib.hid (Holds2.new2 rfl : Holds2 (w3.alloc (.cells #[.int .u64 (th : Int), .int .u64 (tl : Int)] 31)) w3.heap.size th tl)
  replace B1 := ballD1 (bstep B1 hb3) (.cells #[.int .u64 (th : Int), .int .u64 (tl : Int)] 31)
  clear hb3 p1 p2 a1 a2 a3 a4 a9 FA
  go_upto_region 7 with fail
  obtain ⟨g7, hg⟩ : ∃ g, g = w3.heap.size := ⟨_, rfl⟩
  rw [← hg] at E7
  rw [← hg]
  generalize w3.alloc (.cells #[.int .u64 (th : Int), .int .u64 (tl : Int)] 31) = V3 at *
  clear hg
  obtain ⟨⟨b1, b2, b3, b4⟩, -, b9⟩ := E3.out
  go_wp2_with fail
  refine (FB.out _ (HT.out.below B1)).mono ?_
  rintro e w4 ⟨uh, ul, xb, ⟨p1, p2, p3⟩, rfl, hb3⟩
  subst p3
  have TU := Lib.hid (And.intro p1 p2)
  replace E2 := Lib.hid ((E2.out.below hb3).alloc (.cells #[.int .u64 (uh : Int), .int .u64 (ul : Int)] 31))
  replace E3 := Lib.hid ((E3.out.below hb3).alloc (.cells #[.int .u64 (uh : Int), .int .u64 (ul : Int)] 31))
  replace E4 := Lib.hid ((E4.out.below hb3).alloc (.cells #[.int .u64 (uh : Int), .int .u64 (ul : Int)] 31))
  replace E7 := Lib.hid ((E7.out.below hb3).alloc (.cells #[.int .u64 (uh : Int), .int .u64 (ul : Int)] 31))
  have E9 := Lib.hid (Holds2.new2 rfl : Holds2 (w4.alloc (.cells #[.int .u64 (uh : Int), .int .u64 (ul : Int)] 31)) w4.heap.size uh ul)
  replace B1 := ballD1 (bstep B1 hb3) (.cells #[.int .u64 (uh : Int), .int .u64 (ul : Int)] 31)
  clear hb3 p1 p2 b1 b2 b3 b4 b9 FB
  go_upto_region 8 with fail
  obtain ⟨g9, hg⟩ : ∃ g, g = w4.heap.size := ⟨_, rfl⟩
  rw [← hg] at E9
  rw [← hg]
  generalize w4.alloc (.cells #[.int .u64 (uh : Int), .int .u64 (ul : Int)] 31) = V4 at *
  clear hg
  have WQ := Lib.hid (wq_any th tl uh ul TA.out.1 TU.out.1 (by rw [TA.out.2]; exact BA.out.2) (by rw [TU.out.2]; exact BB.out.1))
  obtain ⟨a1, a2, -, -, a5⟩ := E7.out
  obtain ⟨b1, b2, -, -, b5⟩ := E9.out
  go_wp2_with fail
  refine (WQ.out _ (HT.out.below B1)).mono ?_
  rintro e w5 ⟨qh, ql, rh, rl, F, rfl, hb3⟩
  have HF := Lib.hid F
  replace E2 := Lib.hid (((E2.out.below hb3).alloc (.cells #[.int .u64 (qh : Int), .int .u64 (ql : Int)] 31)).alloc (.cells #[.int .u64 (rh : Int), .int .u64 (rl : Int)] 31))
  replace E3 := Lib.hid (((E3.out.below hb3).alloc (.cells #[.int .u64 (qh : Int), .int .u64 (ql : Int)] 31)).alloc (.cells #[.int .u64 (rh : Int), .int .u64 (rl : Int)] 31))
  replace E4 := Lib.hid (((E4.out.below hb3).alloc (.cells #[.int .u64 (qh : Int), .int .u64 (ql : Int)] 31)).alloc (.cells #[.int .u64 (rh : Int), .int .u64 (rl : Int)] 31))
  have E11 := Lib.hid ((Holds2.new2 rfl).alloc _ : Holds2 ((w5.alloc (.cells #[.int .u64 (qh : Int), .int .u64 (ql : Int)] 31)).alloc (.cells #[.int .u64 (rh : Int), .int .u64 (rl : Int)] 31)) w5.heap.size qh ql)
  have E12 := Lib.hid (Holds2.new2 (by simp) : Holds2 ((w5.alloc (.cells #[.int .u64 (qh : Int), .int .u64 (ql : Int)] 31)).alloc (.cells #[.int .u64 (rh : Int), .int .u64 (rl : Int)] 31)) (w5.heap.size + 1) rh rl)
  replace B1 := ballD1 (ballD1 (bstep B1 hb3) (.cells #[.int .u64 (qh : Int), .int .u64 (ql : Int)] 31)) (.cells #[.int .u64 (rh : Int), .int .u64 (rl : Int)] 31)
  clear hb3 F a1 a2 a5 b1 b2 b5 E7 E9 WQ
  go_upto_region 9 with fail
  obtain ⟨g11, hg⟩ : ∃ g, g = w5.heap.size := ⟨_, rfl⟩
  rw [← hg] at E11 E12
  rw [← hg]
  generalize (w5.alloc (.cells #[.int .u64 (qh : Int), .int .u64 (ql : Int)] 31)).alloc (.cells #[.int .u64 (rh : Int), .int .u64 (rl : Int)] 31) = V5 at *
  clear hg
  go_upto_region 12 with fail
  have ZR := Lib.hid (zero_any rh rl)
  have hE := HF.out.2.2.2
  rw [TA.out.2, TU.out.2] at hE
  have hR := HF.out.2.2.1
  rw [TU.out.2] at hR
  have HE := Lib.hid (And.intro hR hE)
  clear hE hR
  by_cases r0 : nv rh rl = 0
  · have R0 := Lib.hid r0
    rw [decide_eq_true R0.out] at ZR
    clear r0
    obtain ⟨⟨a1, -, -, -⟩, -, a9⟩ := E2.out
    obtain ⟨⟨b1, -, -, -⟩, -, b9⟩ := E3.out
    obtain ⟨c1, c2, -, -, c5⟩ := E11.out
    obtain ⟨d1, d2, -, -, d5⟩ := E12.out
    go_cut [15] (fun p W => ∃ g : Nat, p = .pointer (some ⟨g, 0, none⟩) ∧ w.heap.size + 1 + 1 < g ∧ HoldsW W g s 0 0 qh ql (ex - pl) false ∧ Below V5.heap.size V5 W)
    case first =>
      go_region_held3 (fun w' => w'.cell? ⟨w.heap.size, 0, none⟩ = some (.bool na) ∧ w'.cell? ⟨w.heap.size + 1, 0, none⟩ = some (.bool nb) ∧ w'.cell? ⟨g11, 0, none⟩ = some (.int .u64 (qh : Int)) ∧ w'.cell? ⟨g11, 1, none⟩ = some (.int .u64 (ql : Int)) ∧ w'.cell? ⟨g11 + 1, 0, none⟩ = some (.int .u64 (rh : Int)) ∧ w'.cell? ⟨g11 + 1, 1, none⟩ = some (.int .u64 (rl : Int)))
        (repeat' (first | (with_reducible assumption) | (with_reducible refine keep1122a ?_) | (with_reducible refine keep1122d ?_) | (with_reducible refine keep1122s ?_ ?_ ?_ ?_ ?_) | (with_reducible exact ⟨a1, b1, c1, c2, d1, d2⟩) | (with_reducible refine keep1122 (by with_reducible assumption) ?_) | (show _ ≠ _; (try dsimp only); omega)))
        (first
          | (go_at_call 33; (with_reducible refine (ZR.out _).mono ?_); rintro e w6 ⟨rfl, hb6⟩; obtain ⟨hc6, hf6⟩ := bcell hb6; have sz6 := hb6.size; (try simp only [World.size_alloc, World.size_drew] at sz6); (try (have : V5.heap.size < w6.heap.size := (by omega)))))
      all_goals
        go_wp2
        go_meet
        case rel =>
          refine ⟨_, rfl, ?_, ?_, ?_⟩
          · (try simp only [World.size_alloc, World.size_drew]); have := E4.out.2.2; omega
          · clear a1 b1 c1 c2 d1 d2 hc6 hf6
            repeat' (first | (with_reducible refine HoldsW.lowAll (neg := false) (more := false) (h := 0) (l := 0) (h' := 0) (l' := 0) (e := 0) ?_ _ _ _ _ _) | ((with_reducible refine HoldsW.low7 ?_); (first | rfl | (simp; done))) | ((with_reducible refine HoldsW.zero7 ?_); (first | rfl | (simp; done))) | (with_reducible refine HoldsW.alloc ?_ _) | (with_reducible refine HoldsW.drew ?_) | (with_reducible refine HoldsW.below ?_ (by with_reducible assumption)))
          · clear a1 b1 c1 c2 d1 d2 hc6 hf6
            repeat' (first | (with_reducible exact Below.refl _ _) | (with_reducible refine Below.drew ?_) | (with_reducible refine ballD1 ?_ _) | (with_reducible refine Below.set1' ?_ _ _ ?_ _) | (with_reducible refine bstep ?_ (by with_reducible assumption)) | omega)
    case rest =>
    obtain ⟨g15, rfl, g15b, P15, hb6⟩ := hcut
    have E15 := Lib.hid P15
    replace E4 := Lib.hid (E4.out.below hb6)
    replace B1 := bstep B1 hb6
    clear hb6 P15 a1 a9 b1 b9 c1 c2 c5 d1 d2 d5 E2 E3 E11 E12 ZR e1 e2 e3 hs hs'
    generalize wc = V6 at *
    obtain ⟨pn, hpn⟩ : ∃ p : Nat, pl = (p : Int) := ⟨pl.toNat, by omega⟩
    have WO := Lib.hid (wo_any s 0 0 qh ql (ex - pl) false pn HF.out.1 (by omega) (by omega) (by omega))
    rw [← hpn] at WO
    have HPN := Lib.hid hpn
    clear hpn
    obtain ⟨⟨a1, a2, a3, a4, a5, a6, a7⟩, ⟨a11, a12, a13, a14, a15, a16, a17⟩, a9⟩ := E15.out
    go_wp2_with fail
    refine (WO.out _).mono ?_
    rintro e w7 ⟨n7, hh7, hl7, h7, l7, x7, m7, F7, rfl, hb7⟩
    obtain ⟨q1, q2, q3, q4, q5, j, q6, q7, q8, q9⟩ := F7
    subst q1 q2 q3 q4
    have QQ := Lib.hid (And.intro q5 (And.intro q6 (And.intro q7 (And.intro q8 q9))))
    have XB := Lib.hid (show -300000000000000 ≤ x7 ∧ x7 ≤ 300000000000000 by rw [q8]; have := HPN.out; omega)
    replace E15 := Lib.hid (E15.out.below hb7)
    replace E4 := Lib.hid (E4.out.below hb7)
    replace B1 := bstep B1 hb7
    clear hb7 q5 q6 q7 q8 q9 a1 a2 a3 a4 a5 a6 a7 a11 a12 a13 a14 a15 a16 a17 a9 WO
    have FI := Lib.hid (fit_any 1 (.inl rfl) n7 0 0 h7 l7 x7 false ww0 QQ.out.1 XB.out.1 XB.out.2)
    rw [nv2_low] at FI
    have NE := Lib.hid (show w.heap.size + 1 + 1 ≠ g15 by omega)
    obtain ⟨⟨a1, a2, a3, a4, a5, a6, a7⟩, ⟨a11, a12, a13, a14, a15, a16, a17⟩, a9⟩ := E15.out
    go_upto_region 15 with fail
    clear a1 a2 a3 a4 a5 a6 a7 a11 a12 a13 a14 a15 a16 a17 a9
    have G15 := Lib.hid (HoldsW.lowAll E15.out n7 h7 l7 x7 false)
    have G4 := Lib.hid (HoldsD.far7 E4.out NE.out (.bool n7) (.int .u64 0) (.int .u64 0) (.int .u64 (h7 : Int)) (.int .u64 (l7 : Int)) (.int .i64 x7) (.bool false))
    have GB := Below.set7 B1 g15 (by omega) (.bool n7) (.int .u64 0) (.int .u64 0) (.int .u64 (h7 : Int)) (.int .u64 (l7 : Int)) (.int .i64 x7) (.bool false)
    generalize ((((((w7.setCell ⟨g15, 0, none⟩ (.bool n7)).setCell ⟨g15, 1, none⟩ (.int .u64 0)).setCell ⟨g15, 2, none⟩ (.int .u64 0)).setCell ⟨g15, 3, none⟩ (.int .u64 (h7 : Int))).setCell ⟨g15, 4, none⟩ (.int .u64 (l7 : Int))).setCell ⟨g15, 5, none⟩ (.int .i64 x7)).setCell ⟨g15, 6, none⟩ (.bool false) = V7 at *
    clear E15 E4 B1
    obtain ⟨⟨a1, a2, a3, a4, a5, a6, a7⟩, -, a9⟩ := G15.out
    go_wp2_with fail
    refine (FI.out _ (HT.out.below GB)).mono ?_
    rintro e w8 ⟨n8, h8, l8, x8, k8, N, rfl, hb8⟩
    have HN := Lib.hid N
    replace G4 := Lib.hid (G4.out.below hb8)
    replace GB := bstep GB hb8
    clear hb8 N FI a1 a2 a3 a4 a5 a6 a7 a9 G15
    obtain ⟨⟨d1, d2, d3, d4⟩, ⟨d5, d6, d7, d8⟩, d9⟩ := G4.out
    go_wp2
    refine bodyPost_ret (v := .tuple #[Dv n8 h8 l8 x8, .bool k8]) (by simp [results, Tryd.results19, go_sem, *]) rfl ⟨_, .inr (.inr ⟨HZ.out.1, HZ.out.2, nv qh ql, nv rh rl, HE.out.1, HE.out.2, .inr ⟨R0.out, nv h7 l7, j, ?_, QQ.out.2.2.1, ?_, ?_⟩⟩), _, _, _, _, _, HN.out, rfl, ?_⟩
    · rw [← HH.out.2, HPN.out]; exact QQ.out.2.1
    · rw [← HH.out.2, HPN.out]; exact QQ.out.2.2.2.2
    · rw [HS.out, ← HH.out.1, ← HH.out.2, ← QQ.out.2.2.2.1]
    · clear d1 d2 d3 d4 d5 d6 d7 d8
      go_grown
  · have R0 := Lib.hid r0
    rw [decide_eq_false R0.out] at ZR
    clear r0
    obtain ⟨⟨a1, -, -, -⟩, -, a9⟩ := E2.out
    obtain ⟨⟨b1, -, -, -⟩, -, b9⟩ := E3.out
    obtain ⟨c1, c2, -, -, c5⟩ := E11.out
    obtain ⟨d1, d2, -, -, d5⟩ := E12.out
    go_cut [15] (fun p W => ∃ g : Nat, p = .pointer (some ⟨g, 0, none⟩) ∧ w.heap.size + 1 + 1 < g ∧ HoldsW W g s 0 0 qh ql (ex - pl) true ∧ Below V5.heap.size V5 W)
    case first =>
      go_region_held3 (fun w' => w'.cell? ⟨w.heap.size, 0, none⟩ = some (.bool na) ∧ w'.cell? ⟨w.heap.size + 1, 0, none⟩ = some (.bool nb) ∧ w'.cell? ⟨g11, 0, none⟩ = some (.int .u64 (qh : Int)) ∧ w'.cell? ⟨g11, 1, none⟩ = some (.int .u64 (ql : Int)) ∧ w'.cell? ⟨g11 + 1, 0, none⟩ = some (.int .u64 (rh : Int)) ∧ w'.cell? ⟨g11 + 1, 1, none⟩ = some (.int .u64 (rl : Int)))
        (repeat' (first | (with_reducible assumption) | (with_reducible refine keep1122a ?_) | (with_reducible refine keep1122d ?_) | (with_reducible refine keep1122s ?_ ?_ ?_ ?_ ?_) | (with_reducible exact ⟨a1, b1, c1, c2, d1, d2⟩) | (with_reducible refine keep1122 (by with_reducible assumption) ?_) | (show _ ≠ _; (try dsimp only); omega)))
        (first
          | (go_at_call 33; (with_reducible refine (ZR.out _).mono ?_); rintro e w6 ⟨rfl, hb6⟩; obtain ⟨hc6, hf6⟩ := bcell hb6; have sz6 := hb6.size; (try simp only [World.size_alloc, World.size_drew] at sz6); (try (have : V5.heap.size < w6.heap.size := (by omega)))))
      all_goals
        go_wp2
        go_meet
        case rel =>
          refine ⟨_, rfl, ?_, ?_, ?_⟩
          · (try simp only [World.size_alloc, World.size_drew]); have := E4.out.2.2; omega
          · clear a1 b1 c1 c2 d1 d2 hc6 hf6
            repeat' (first | (with_reducible refine HoldsW.lowAll (neg := false) (more := false) (h := 0) (l := 0) (h' := 0) (l' := 0) (e := 0) ?_ _ _ _ _ _) | ((with_reducible refine HoldsW.low7 ?_); (first | rfl | (simp; done))) | ((with_reducible refine HoldsW.zero7 ?_); (first | rfl | (simp; done))) | (with_reducible refine HoldsW.alloc ?_ _) | (with_reducible refine HoldsW.drew ?_) | (with_reducible refine HoldsW.below ?_ (by with_reducible assumption)))
          · clear a1 b1 c1 c2 d1 d2 hc6 hf6
            repeat' (first | (with_reducible exact Below.refl _ _) | (with_reducible refine Below.drew ?_) | (with_reducible refine ballD1 ?_ _) | (with_reducible refine Below.set1' ?_ _ _ ?_ _) | (with_reducible refine bstep ?_ (by with_reducible assumption)) | omega)
    case rest =>
    obtain ⟨g15, rfl, g15b, P15, hb6⟩ := hcut
    have E15 := Lib.hid P15
    replace E4 := Lib.hid (E4.out.below hb6)
    replace B1 := bstep B1 hb6
    clear hb6 P15 a1 a9 b1 b9 c1 c2 c5 d1 d2 d5 E2 E3 E11 E12 ZR e1 e2 e3 hs hs'
    generalize wc = V6 at *
    have FI := Lib.hid (fit_any 1 (.inl rfl) s 0 0 qh ql (ex - pl) true ww0 HF.out.1 (by omega) (by omega))
    rw [nv2_low] at FI
    obtain ⟨⟨a1, a2, a3, a4, a5, a6, a7⟩, -, a9⟩ := E15.out
    go_wp2_with fail
    refine (FI.out _ (HT.out.below B1)).mono ?_
    rintro e w8 ⟨n8, h8, l8, x8, k8, N, rfl, hb8⟩
    have HN := Lib.hid N
    replace E4 := Lib.hid (E4.out.below hb8)
    replace B1 := bstep B1 hb8
    clear hb8 N FI
    obtain ⟨⟨d1, d2, d3, d4⟩, ⟨d5, d6, d7, d8⟩, d9⟩ := E4.out
    go_wp2
    refine bodyPost_ret (v := .tuple #[Dv n8 h8 l8 x8, .bool k8]) (by simp [results, Tryd.results19, go_sem, *]) rfl ⟨_, .inr (.inr ⟨HZ.out.1, HZ.out.2, nv qh ql, nv rh rl, HE.out.1, HE.out.2, .inl ⟨R0.out, by rw [HS.out, HH.out.1, HH.out.2]⟩⟩), _, _, _, _, _, HN.out, rfl, ?_⟩
    clear d1 d2 d3 d4 d5 d6 d7 d8 a1 a2 a3 a4 a5 a6 a7
    go_grown

theorem divD_any (na : Bool) (ah al : Nat) (ea : Int) (nb : Bool) (bh bl : Nat) (eb : Int) (ha : WW ah al) (hb : WW bh bl) (h1 : NumD (nv ah al) ea) (h2 : NumD (nv bh bl) eb) (w : World) (ht : Tab w) :
    Calls Tryd.prog 19 #[Dv na ah al ea, Dv nb bh bl eb] w (RetDP (DivP na (nv ah al) ea nb (nv bh bl) eb) w) := by
  by_cases zb : nv bh bl = 0
  · exact divD_zero na ah al ea nb bh bl eb zb w
  by_cases za : nv ah al = 0
  · exact divD_nought na ah al ea nb bh bl eb h1 h2 zb za w ht
  · exact divD_main na ah al ea nb bh bl eb ha hb h1 h2 zb za w ht
end Go.Proofs.YtkkddflclakphaaDoor

/-
  A size with an even exponent, and half of that (evenly of package quot), as a contract of its call.
-/
namespace Go.Proofs.YtkkddflclakphaaDoor
open Go.RowKit

theorem and_one (x : Int) : bits .and .i64 x 1 = x % 2 := by
  show IntKind.i64.wrap ((((BitVec.ofInt 64 x) &&& (BitVec.ofInt 64 1)).toNat : Nat) : Int) = x % 2
  rw [BitVec.toNat_and, BitVec.toNat_ofInt, show (BitVec.ofInt 64 1).toNat = 1 from rfl, Nat.and_one_is_mod, IntKind.wrap_i64]
  have : ((2 ^ 64 : Nat) : Int) = 18446744073709551616 := by decide
  rw [this]
  omega

end Go.Proofs.YtkkddflclakphaaDoor

/-
  Square roots of decimal numbers (longRoot, Root of package quot), each as a contract of its call.
-/
namespace Go.Proofs.YtkkddflclakphaaDoor
open Go.RowKit

/-- The root of a size that is no square: 35 digits of it, and a little more. -/
def LongP (c : Nat) (half : Int) (o : Option (Bool × Nat × Int)) : Prop :=
  ∃ r : Nat, r * r ≤ c * 10 ^ (2 * (35 - (nd c + 1) / 2)) ∧ c * 10 ^ (2 * (35 - (nd c + 1) / 2)) < (r + 1) * (r + 1) ∧ o = fitF 1 false r true (half - ((35 - (nd c + 1) / 2 : Nat) : Int))

/-- What a root is. -/
def RootP (c : Nat) (x : Int) (o : Option (Bool × Nat × Int)) : Prop :=
  (∃ r : Nat, r * r = c * 10 ^ (x % 2).toNat ∧ o = some (false, r, x / 2)) ∨ (c ≠ 0 ∧ (∀ s : Nat, s * s ≠ c * 10 ^ (x % 2).toNat) ∧ LongP (c * 10 ^ (x % 2).toNat) (x / 2) o)

end Go.Proofs.YtkkddflclakphaaDoor

/-
  Quotients by plain arithmetic: what a quotient is where nothing is rounded; the document's examples of layer 3; powers as they are squared; no program is spoken of.
-/
namespace Go.Proofs.YtkkddflclakphaaDoor

theorem nought_end {q j q' j' : Nat} (e : q * 10 ^ j = q' * 10 ^ j') (l : j < j') : q % 10 = 0 := by
  have k : q = q' * 10 ^ (j' - j) := by
    refine Nat.eq_of_mul_eq_mul_right (p10 j) ?_
    rw [e, Nat.mul_assoc, ← Nat.pow_add, show j' - j + j = j' by omega]
  rw [k, show j' - j = j' - j - 1 + 1 by omega, Nat.pow_succ, ← Nat.mul_assoc]
  exact Nat.mul_mod_left _ _
theorem div_unique {q j q' j' pl : Nat} (e : q * 10 ^ j = q' * 10 ^ j') (b1 : j ≤ pl) (t1 : j = pl ∨ q % 10 ≠ 0) (b2 : j' ≤ pl) (t2 : j' = pl ∨ q' % 10 ≠ 0) : q = q' ∧ j = j' := by
  rcases Nat.lt_trichotomy j j' with l | l | l
  · have := nought_end e l
    omega
  · subst l
    exact ⟨Nat.eq_of_mul_eq_mul_right (p10 j) e, rfl⟩
  · have := nought_end e.symm l
    omega
theorem plD_low {ca cb : Nat} (hb : cb < 10 ^ 34) (zb : cb ≠ 0) (ha : ca < 10 ^ 34) : 2 ≤ plD ca cb := by
  have := nd_le hb
  have := nd_pos zb
  have := nd_le ha
  unfold plD
  omega
/-- A quotient that has an end: c with k places. -/
theorem DivP_exact {na nb : Bool} {ca cb : Nat} {ea eb : Int} {o : Option (Bool × Nat × Int)} {c k : Nat} (D : DivP na ca ea nb cb eb o) (ha : ca < 10 ^ 34) (hb : cb < 10 ^ 34) (zb : cb ≠ 0) (za : ca ≠ 0)
    (e : ca * 10 ^ k = c * cb) (hk : (k : Int) ≤ plD ca cb) (t : k = 0 ∨ c % 10 ≠ 0) : o = fitF 1 (na != nb) c false (ea - eb - (k : Int)) := by
  rcases D with ⟨z, _⟩ | ⟨_, z, _⟩ | ⟨_, _, Q, R, hR, hQ, D⟩
  · exact absurd z zb
  · exact absurd z za
  obtain ⟨P, hP⟩ : ∃ P : Nat, P = (plD ca cb).toNat := ⟨_, rfl⟩
  rw [← hP] at D
  have hP' : (P : Int) = plD ca cb := by omega
  have na34 := nd_le ha
  have nb34 := nd_le hb
  have hS : P + (34 - nd cb) = 34 - nd ca + 35 := by unfold plD at hP'; omega
  have kP : k ≤ P := by omega
  have e2 : c * 10 ^ (P - k) * (cb * 10 ^ (34 - nd cb)) = ca * 10 ^ (34 - nd ca) * 10 ^ 35 := by
    rw [Nat.mul_assoc ca, ← Nat.pow_add, ← hS, Nat.mul_mul_mul_comm, ← e, Nat.mul_assoc ca, ← Nat.pow_add, ← Nat.pow_add, show k + (P - k + (34 - nd cb)) = P + (34 - nd cb) by omega]
  have B0 : 0 < cb * 10 ^ (34 - nd cb) := Nat.mul_pos (Nat.pos_of_ne_zero zb) (p10 _)
  rw [← e2] at hQ
  generalize cb * 10 ^ (34 - nd cb) = B at *
  have q1 := (Nat.div_mod_unique B0).2 ⟨show R + B * Q = c * 10 ^ (P - k) * B by rw [← hQ, Nat.mul_comm B, Nat.add_comm], hR⟩
  rw [Nat.mul_div_cancel _ B0, Nat.mul_mod_left] at q1
  obtain ⟨q1, r1⟩ := q1
  rcases D with ⟨n, _⟩ | ⟨_, q, j, j1, j2, j3, rfl⟩
  · exact absurd r1.symm n
  · obtain ⟨rfl, rfl⟩ := div_unique (q' := c) (j' := P - k) (pl := P) (by rw [j2, q1]) j1 j3 (by omega) (by omega)
    congr 1
    rw [← hP']
    omega
theorem DivP_mult {na nb : Bool} {ca cb : Nat} {ea eb : Int} {o : Option (Bool × Nat × Int)} {c : Nat} (D : DivP na ca ea nb cb eb o) (ha : ca < 10 ^ 34) (hb : cb < 10 ^ 34) (zb : cb ≠ 0) (za : ca ≠ 0)
    (e : ca = c * cb) : o = fitF 1 (na != nb) c false (ea - eb) := by
  have k := DivP_exact (k := 0) D ha hb zb za (by rw [Nat.pow_zero, Nat.mul_one]; exact e) (by have := plD_low hb zb ha; omega) (.inl rfl)
  rw [k]
  congr 1
  omega
/-- By 1 a number is itself. -/
theorem DivP_one {na : Bool} {ca : Nat} {ea : Int} {o : Option (Bool × Nat × Int)} (D : DivP na ca ea false 1 0 o) (h : NumD ca ea) (z : ca = 0 → na = false) : o = some (na, ca, ea) := by
  by_cases c0 : ca = 0
  · rcases D with ⟨k, _⟩ | ⟨_, _, k⟩ | ⟨_, k, _⟩
    · exact absurd k (by decide)
    · rw [k, z c0, c0]
      rw [c0] at h
      rw [Int.sub_zero]
      exact fitF_self h (fun _ => rfl)
    · exact absurd c0 k
  · rw [DivP_mult D h.1 (by decide) (by decide) c0 (Nat.mul_one ca).symm, Int.sub_zero, show (na != false) = na by cases na <;> rfl]
    exact fitF_self h (fun k => absurd k c0)
/-- By itself it is 1. -/
theorem DivP_self {na : Bool} {ca : Nat} {ea : Int} {o : Option (Bool × Nat × Int)} (D : DivP na ca ea na ca ea o) (h : NumD ca ea) : (ca = 0 ∧ o = none) ∨ (ca ≠ 0 ∧ o = some (false, 1, 0)) := by
  by_cases c0 : ca = 0
  · rcases D with ⟨_, k⟩ | ⟨k, _⟩ | ⟨_, k, _⟩
    · exact .inl ⟨c0, k⟩
    · exact absurd c0 k
    · exact absurd c0 k
  · refine .inr ⟨c0, ?_⟩
    rw [DivP_mult D h.1 h.1 c0 c0 (Nat.one_mul ca).symm, Int.sub_self, show (na != na) = false by cases na <;> rfl]
    exact fitF_self ⟨by decide, by decide, by decide⟩ (fun _ => rfl)

theorem exd_60 {o : Option (Bool × Nat × Int)} (D : DivP false 60 (-1) false 2 0 o) : o = some (false, 30, -1) := by
  rw [DivP_mult (c := 30) D (by decide) (by decide) (by decide) (by decide) (by decide)]
  exact fitF_self ⟨by decide, by decide, by decide⟩ (fun _ => rfl)
theorem nd1 {c : Nat} (h : 0 < c) (h' : c < 10) : nd c = 1 := nd_of (k := 0) h h'
theorem exd_8 {o : Option (Bool × Nat × Int)} (D : DivP false 1 0 false 8 0 o) : o = some (false, 125, -3) := by
  rw [DivP_exact (c := 125) (k := 3) D (by decide) (by decide) (by decide) (by decide) (by decide) (by unfold plD; rw [nd1 (c := 1) (by decide) (by decide), nd1 (c := 8) (by decide) (by decide)]; decide) (.inr (by decide))]
  exact fitF_self ⟨by decide, by decide, by decide⟩ (fun _ => rfl)
theorem exd_4 {o : Option (Bool × Nat × Int)} (D : DivP false 1 0 false 4 0 o) : o = some (false, 25, -2) := by
  rw [DivP_exact (c := 25) (k := 2) D (by decide) (by decide) (by decide) (by decide) (by decide) (by unfold plD; rw [nd1 (c := 1) (by decide) (by decide), nd1 (c := 4) (by decide) (by decide)]; decide) (.inr (by decide))]
  exact fitF_self ⟨by decide, by decide, by decide⟩ (fun _ => rfl)
theorem exd_3 {o : Option (Bool × Nat × Int)} (D : DivP false 1 0 false 3 0 o) : o = some (false, 3333333333333333333333333333333333, -34) := by
  rcases D with ⟨z, _⟩ | ⟨_, z, _⟩ | ⟨_, _, Q, R, hR, hQ, D⟩
  · exact absurd z (by decide)
  · exact absurd z (by decide)
  rw [nd1 (c := 3) (by decide) (by decide)] at hR hQ
  rw [nd1 (c := 1) (by decide) (by decide)] at hQ
  have q1 := (Nat.div_mod_unique (show 0 < 3 * 10 ^ (34 - 1) by decide)).2 ⟨show R + (3 * 10 ^ (34 - 1)) * Q = 1 * 10 ^ (34 - 1) * 10 ^ 35 by rw [← hQ, Nat.mul_comm Q, Nat.add_comm], hR⟩
  obtain ⟨q1, r1⟩ := q1
  rw [show 1 * 10 ^ (34 - 1) * 10 ^ 35 / (3 * 10 ^ (34 - 1)) = 33333333333333333333333333333333333 by decide] at q1
  rw [show 1 * 10 ^ (34 - 1) * 10 ^ 35 % (3 * 10 ^ (34 - 1)) = 1000000000000000000000000000000000 by decide] at r1
  rcases D with ⟨_, k⟩ | ⟨n, _⟩
  · rw [k, ← q1]
    unfold plD
    rw [nd1 (c := 1) (by decide) (by decide), nd1 (c := 3) (by decide) (by decide)]
    decide +kernel
  · rw [n] at r1
    exact absurd r1 (by decide)

/-- One round of a power: squared, and where the bit is set multiplied. -/
def powS (b : Bool) (na : Bool) (ca : Nat) (ea : Int) : Option (Bool × Nat × Int) → Option (Bool × Nat × Int)
  | none => none
  | some (s, c, x) => match mulF s c x s c x with
    | none => none
    | some (s', c', x') => if b then mulF s' c' x' na ca ea else some (s', c', x')
/-- The rounds of the bits below k. -/
def powL (n : Nat) (na : Bool) (ca : Nat) (ea : Int) : Nat → Option (Bool × Nat × Int) → Option (Bool × Nat × Int)
  | 0, o => o
  | k + 1, o => powL n na ca ea k (powS (decide (n / 2 ^ k % 2 = 1)) na ca ea o)
def powF (n : Nat) (na : Bool) (ca : Nat) (ea : Int) : Option (Bool × Nat × Int) := powL n na ca ea 31 (some (false, 1, 0))
theorem powS_one (na : Bool) (ca : Nat) (ea : Int) : powS false na ca ea (some (false, 1, 0)) = some (false, 1, 0) := by
  show (match mulF false 1 0 false 1 0 with | none => none | some (s', c', x') => if false then mulF s' c' x' na ca ea else some (s', c', x')) = _
  rw [mulF_one ⟨by decide, by decide, by decide⟩ (fun _ => rfl)]
  rfl
theorem powS_none {b : Bool} {na : Bool} {ca : Nat} {ea : Int} {s : Bool} {c : Nat} {x : Int} (h : mulF s c x s c x = none) : powS b na ca ea (some (s, c, x)) = none := by
  show (match mulF s c x s c x with | none => none | some (s', c', x') => if b then mulF s' c' x' na ca ea else some (s', c', x')) = _
  rw [h]
theorem powS_t {na : Bool} {ca : Nat} {ea : Int} {s : Bool} {c : Nat} {x : Int} {s' : Bool} {c' : Nat} {x' : Int} (h : mulF s c x s c x = some (s', c', x')) : powS true na ca ea (some (s, c, x)) = mulF s' c' x' na ca ea := by
  show (match mulF s c x s c x with | none => none | some (s', c', x') => if true then mulF s' c' x' na ca ea else some (s', c', x')) = _
  rw [h]
  simp only [if_true]
theorem powS_f {na : Bool} {ca : Nat} {ea : Int} {s : Bool} {c : Nat} {x : Int} {s' : Bool} {c' : Nat} {x' : Int} (h : mulF s c x s c x = some (s', c', x')) : powS false na ca ea (some (s, c, x)) = some (s', c', x') := by
  show (match mulF s c x s c x with | none => none | some (s', c', x') => if false then mulF s' c' x' na ca ea else some (s', c', x')) = _
  rw [h]
  simp only [Bool.false_eq_true, if_false]
theorem powL_succ (n : Nat) (na : Bool) (ca : Nat) (ea : Int) (k : Nat) (o : Option (Bool × Nat × Int)) : powL n na ca ea (k + 1) o = powL n na ca ea k (powS (decide (n / 2 ^ k % 2 = 1)) na ca ea o) := rfl
theorem powL_done (n : Nat) (na : Bool) (ca : Nat) (ea : Int) (o : Option (Bool × Nat × Int)) : powL n na ca ea 0 o = o := rfl
theorem powF_def (n : Nat) (na : Bool) (ca : Nat) (ea : Int) : powL n na ca ea 31 (some (false, 1, 0)) = powF n na ca ea := rfl
theorem powL_none (n : Nat) (na : Bool) (ca : Nat) (ea : Int) (k : Nat) : powL n na ca ea k none = none := by
  induction k with
  | zero => rfl
  | succ k ih => exact ih
theorem powL_zeros {n : Nat} {na : Bool} {ca : Nat} {ea : Int} (k j : Nat) (h : ∀ i, i < k → n / 2 ^ (j + i) % 2 ≠ 1) : powL n na ca ea (j + k) (some (false, 1, 0)) = powL n na ca ea j (some (false, 1, 0)) := by
  induction k with
  | zero => rfl
  | succ k ih =>
    rw [show j + (k + 1) = j + k + 1 from rfl, powL_succ, decide_eq_false (h k (by omega)), powS_one]
    exact ih (fun i hi => h i (by omega))
theorem pow_zero' (na : Bool) (ca : Nat) (ea : Int) : powF 0 na ca ea = some (false, 1, 0) := by
  rw [← powF_def]
  exact (powL_zeros 31 0 (fun i _ => by rw [Nat.zero_div]; decide)).trans (powL_done _ _ _ _ _)
theorem pow_one' {na : Bool} {ca : Nat} {ea : Int} (h : NumD ca ea) (z : ca = 0 → na = false) : powF 1 na ca ea = some (na, ca, ea) := by
  have k := powL_zeros (n := 1) (na := na) (ca := ca) (ea := ea) 30 1 (fun i _ => by rw [Nat.pow_add, Nat.div_eq_of_lt (by have : 0 < 2 ^ i := Nat.pow_pos (by decide); omega)]; decide)
  rw [← powF_def]
  refine Eq.trans k ?_
  rw [powL_succ, powL_done, show decide (1 / 2 ^ 0 % 2 = 1) = true from rfl]
  show (match mulF false 1 0 false 1 0 with | none => none | some (s', c', x') => if true then mulF s' c' x' na ca ea else some (s', c', x')) = _
  rw [mulF_one ⟨by decide, by decide, by decide⟩ (fun _ => rfl)]
  show mulF false 1 0 na ca ea = _
  rw [mulF_comm]
  exact mulF_one h z
theorem pow_two' : powF 2 false 2 0 = some (false, 4, 0) := by
  have k := powL_zeros (n := 2) (na := false) (ca := 2) (ea := 0) 29 2 (fun i _ => by rw [Nat.pow_add, Nat.div_eq_of_lt (by have : 0 < 2 ^ i := Nat.pow_pos (by decide); omega)]; decide)
  rw [← powF_def]
  refine Eq.trans k ?_
  decide +kernel
end Go.Proofs.YtkkddflclakphaaDoor

/-
  Roots by plain arithmetic: the root of a square, and that every root is a number; no program is spoken of.
-/
namespace Go.Proofs.YtkkddflclakphaaDoor

theorem sq_inj {r s : Nat} (e : r * r = s * s) : r = s := by
  have a := Nat.mul_self_le_mul_self_iff.mp (Nat.le_of_eq e)
  have b := Nat.mul_self_le_mul_self_iff.mp (Nat.le_of_eq e.symm)
  omega
/-- The root of a square is what was squared. -/
theorem RootP_square {p : Nat} {e : Int} {o : Option (Bool × Nat × Int)} (R : RootP (p * p) (e + e) o) : o = some (false, p, e) := by
  have x0 : ((e + e) % 2).toNat = 0 := by omega
  have x1 : (e + e) / 2 = e := by omega
  unfold RootP at R
  rw [x0, x1, Nat.pow_zero, Nat.mul_one] at R
  rcases R with ⟨r, h, k⟩ | ⟨_, n, _⟩
  · rw [k, sq_inj h]
  · exact absurd rfl (n p)
theorem sq35 : 10 ^ 35 * 10 ^ 35 = 10 ^ 70 := by decide
theorem sq34 : 10 ^ 34 * 10 ^ 34 = 10 ^ 68 := by decide
theorem LongP_ok {c : Nat} {half : Int} {o : Option (Bool × Nat × Int)} (L : LongP c half o) (z : c ≠ 0) (hc : c < 10 ^ 35) (h1 : -4000 ≤ half) (h2 : half ≤ 4000) : ∃ r y, o = some (false, r, y) ∧ NumD r y ∧ r ≠ 0 := by
  obtain ⟨r, a, b, rfl⟩ := L
  have lo := nd_min z
  have hi := nd_lt c
  have n35 : nd c ≤ 35 := nd_le hc
  have n1 : 1 ≤ nd c := by have := nd_pos z; omega
  generalize nd c = m at *
  obtain ⟨p, hp⟩ : ∃ p, p = 35 - (m + 1) / 2 := ⟨_, rfl⟩
  rw [← hp] at a b ⊢
  have M1 : 10 ^ 68 ≤ c * 10 ^ (2 * p) := by
    refine Nat.le_trans ?_ (Nat.mul_le_mul_right _ lo)
    rw [← Nat.pow_add]
    exact p10_mono (by omega)
  have M2 : c * 10 ^ (2 * p) < 10 ^ 70 := by
    refine Nat.lt_of_lt_of_le (Nat.mul_lt_mul_of_pos_right hi (p10 _)) ?_
    rw [← Nat.pow_add]
    exact p10_mono (by omega)
  generalize c * 10 ^ (2 * p) = M at *
  have r1 : 10 ^ 34 < r + 1 := by
    refine Nat.mul_self_lt_mul_self_iff.mp ?_
    rw [sq34]
    exact Nat.lt_of_le_of_lt M1 b
  have r2 : r < 10 ^ 35 := by
    refine Nat.mul_self_lt_mul_self_iff.mp ?_
    rw [sq35]
    exact Nat.lt_of_le_of_lt a M2
  have nr : nd r = 35 := nd_of (k := 34) (by omega) r2
  have es : surp r (min (half - (p : Int)) 6145) = 1 := by unfold surp; rw [nr]; omega
  have em : min (half - (p : Int)) 6145 = half - (p : Int) := by omega
  unfold fitF
  rw [es, em]
  have up := upN_le 1 false r 1 true
  rw [show 10 ^ min 1 78 = 10 by decide] at up
  generalize cutN 1 false r 1 true = k at *
  have k1 : 10 ^ 33 ≤ k := by have : (10 : Nat) ^ 34 = 10 * 10 ^ 33 := by decide
                              omega
  have k2 : k ≤ 10 ^ 34 := by have : (10 : Nat) ^ 35 = 10 * 10 ^ 34 := by decide
                              omega
  unfold fitT
  by_cases t : k = 10 ^ 34
  · rw [if_pos t]
    unfold fitE
    rw [if_neg (by decide), if_pos (by omega)]
    exact ⟨_, _, rfl, ⟨by decide, by omega, by omega⟩, by decide⟩
  · rw [if_neg t]
    unfold fitE
    have k0 : 0 < k := Nat.lt_of_lt_of_le (by decide) k1
    rw [if_neg (by omega), if_pos (by omega)]
    exact ⟨_, _, rfl, ⟨by omega, by omega, by omega⟩, by omega⟩
/-- A root is a number; it is 0 just if the number is. -/
theorem RootP_ok {c : Nat} {x : Int} {o : Option (Bool × Nat × Int)} (R : RootP c x o) (h : NumD c x) : ∃ r y, o = some (false, r, y) ∧ NumD r y ∧ (r = 0 ↔ c = 0) := by
  obtain ⟨h1, h2, h3⟩ := h
  have q : c * 10 ^ (x % 2).toNat < 10 ^ 35 := by
    have m : (x % 2).toNat ≤ 1 := by omega
    exact Nat.lt_of_lt_of_le (Nat.mul_lt_mul_of_lt_of_le h1 (p10_mono m) (p10 1)) (by decide)
  rcases R with ⟨r, e, rfl⟩ | ⟨z, _, L⟩
  · refine ⟨r, x / 2, rfl, ⟨?_, by omega, by omega⟩, ?_⟩
    · refine Nat.mul_self_lt_mul_self_iff.mp ?_
      rw [e, sq34]
      exact Nat.lt_of_lt_of_le q (by decide)
    · constructor
      · intro k
        rw [k] at e
        have := p10 (x % 2).toNat
        rcases Nat.mul_eq_zero.mp e.symm with k | k
        · exact k
        · omega
      · intro k
        rw [k, Nat.zero_mul] at e
        rcases Nat.mul_eq_zero.mp e with k | k <;> exact k
  · obtain ⟨r, y, e, n, k⟩ := LongP_ok L (Nat.mul_ne_zero z (Nat.ne_of_gt (p10 _))) q (by omega) (by omega)
    exact ⟨r, y, e, n, ⟨fun t => absurd t k, fun t => absurd t z⟩⟩
end Go.Proofs.YtkkddflclakphaaDoor

/-
  Powers of decimal numbers (power of package quot), as a contract of its call.
-/
namespace Go.Proofs.YtkkddflclakphaaDoor
open Go.RowKit

theorem bit_test (n k : Nat) : (bits BinOp.and IntKind.i64 ((n : Int) / 2 ^ k) 1 == 1) = decide (n / 2 ^ k % 2 = 1) := by
  rw [and_one]
  have e : (n : Int) / 2 ^ k % 2 = ((n / 2 ^ k % 2 : Nat) : Int) := by simp
  rw [e]
  by_cases h : n / 2 ^ k % 2 = 1
  · rw [h]; rfl
  · rw [decide_eq_false h]
    have : n / 2 ^ k % 2 = 0 := by omega
    rw [this]; rfl

/-- What is so far: p, whether it is a number, and how many bits are left. -/
def PowRel (w : World) (g : Nat) (n : Nat) (na : Bool) (ah al : Nat) (ea : Int) (m : Nat) (t b : Value) (W : World) : Prop :=
  ∃ (o : Option (Bool × Nat × Int)) (s : Bool) (h l : Nat) (x : Int) (ok : Bool), t = .bool ok ∧ b = .int .i64 ((m : Int) - 1) ∧ m ≤ 31 ∧ NumO o s h l x ok ∧ (ok = true → NumD (nv h l) x) ∧
    powL n na (nv ah al) ea m o = powF n na (nv ah al) ea ∧ HoldsD W g s h l x ∧ HoldsD W w.heap.size na ah al ea ∧ HoldsD W (w.heap.size + 1) false 0 0 0 ∧ Below w.heap.size w W

theorem HoldsD.farAll {W : World} {q g : Nat} {neg : Bool} {h l : Nat} {e : Int} (H : HoldsD W q neg h l e) (hg : q ≠ g) (v0 v1 v2 v3 : Value) : HoldsD ((((W.setCell ⟨g, 0, none⟩ v0).setCell ⟨g, 1, none⟩ v1).setCell ⟨g, 2, none⟩ v2).setCell ⟨g, 3, none⟩ v3) q neg h l e :=
  HoldsD.far (HoldsD.far (HoldsD.far (HoldsD.far H (p := ⟨g, 0, none⟩) hg v0) (p := ⟨g, 1, none⟩) hg v1) (p := ⟨g, 2, none⟩) hg v2) (p := ⟨g, 3, none⟩) hg v3

end Go.Proofs.YtkkddflclakphaaDoor

/-
  Powers of decimal numbers (Power of package quot), as a contract of its call.
-/
namespace Go.Proofs.YtkkddflclakphaaDoor
open Go.RowKit

theorem RetDP.det {P : Option (Bool × Nat × Int) → Prop} {r : Option (Bool × Nat × Int)} {w w' : World} {e : Ending} (h : ∀ o, P o → o = r) (H : RetDP P w e w') : RetDO r w e w' := by
  obtain ⟨o, p, k⟩ := H
  rw [← h o p]
  exact k
theorem numO_self {n : Bool} {h l : Nat} {x : Int} {n' : Bool} {h' l' : Nat} {x' : Int} {ok : Bool} (wh : WW h l) (N : NumO (some (n, nv h l, x)) n' h' l' x' ok) : ok = true ∧ n' = n ∧ h' = h ∧ l' = l ∧ x' = x := by
  obtain ⟨a, b, c, d, e⟩ := N
  obtain ⟨p, q⟩ := nv_inj a wh d
  exact ⟨b, c, p, q, e⟩

end Go.Proofs.YtkkddflclakphaaDoor

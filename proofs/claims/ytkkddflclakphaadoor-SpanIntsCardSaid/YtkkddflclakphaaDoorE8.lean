/-
  A number fitted (Fit of package dec), as a contract of its call.
-/
import Derived.Test.YtkkddflclakphaaDoorE6
namespace Go.Proofs.YtkkddflclakphaaDoor
open Go.RowKit

/-- A number or none, as the program hands it back: the number and whether there is one. -/
def NumO (o : Option (Bool × Nat × Int)) (neg : Bool) (h l : Nat) (x : Int) (ok : Bool) : Prop :=
  WW h l ∧ match o with
    | some (s, c, e) => ok = true ∧ neg = s ∧ nv h l = c ∧ x = e
    | none => ok = false ∧ neg = false ∧ h = 0 ∧ l = 0 ∧ x = 0
def RetDO (o : Option (Bool × Nat × Int)) (w : World) (e : Ending) (w' : World) : Prop := ∃ neg h l x ok, NumO o neg h l x ok ∧ e = .returned (.tuple #[Dv neg h l x, .bool ok]) ∧ Below w.heap.size w w'

theorem HoldsW.putX {W : World} {g : Nat} {neg more : Bool} {h l h' l' : Nat} {e e' : Int} (H : HoldsW W g neg h l h' l' e more) : HoldsW (W.setCell ⟨g, 5, none⟩ (.int .i64 e')) g neg h l h' l' e' more := by
  obtain ⟨⟨a, b, c, d, i, j, k⟩, ⟨a', b', c', d', i', j', k'⟩, s⟩ := H
  simp [HoldsW, go_sem, *]

theorem HoldsD.drew {W : World} {g : Nat} {neg : Bool} {h l : Nat} {e : Int} (H : HoldsD W g neg h l e) : HoldsD W.drew g neg h l e := H
/-- From where it is known what the cut size is: d holds sign, size and exponent. -/
def FitRel (w : World) (neg : Bool) (C : Nat) (y : Int) (p : Value) (W : World) : Prop :=
  ∃ g h l : Nat, p = .pointer (some ⟨g, 0, none⟩) ∧ w.heap.size + 1 < g ∧ WW h l ∧ nv h l = C ∧ HoldsD W g neg h l y ∧ HoldsD W (w.heap.size + 1) false 0 0 0 ∧ Below w.heap.size w W

set_option maxRecDepth 100000 in
set_option maxHeartbeats 4000000 in
theorem fit_any (m : Nat) (hm : m = 1 ∨ m = 2 ∨ m = 3 ∨ m = 4 ∨ m = 5 ∨ m = 6 ∨ m = 7) (neg : Bool) (ah al bh bl : Nat) (x : Int) (more : Bool) (h1 : WW ah al) (h2 : WW bh bl) (x1 : -300000000000000 ≤ x) (x2 : x ≤ 300000000000000) (w : World) (ht : Tab w) :
    Calls Tryd.prog 38 #[Wv neg ah al bh bl x more, .int .i64 (m : Int)] w (RetDO (fitF m neg (nv2 ah al bh bl) more x) w) := by
  have HT := Lib.hid ht
  obtain ⟨x', hx'⟩ : ∃ x', x' = min x 6145 := ⟨_, rfl⟩
  have SU := Lib.hid (surplus_any neg ah al bh bl x' more h1 h2 (by omega) (by omega))
  have N256 : nv2 ah al bh bl < B128 * B128 := by
    have a := nv_lt h1
    have b := nv_lt h2
    unfold nv2
    have := Nat.mul_le_mul_right B128 (Nat.succ_le_of_lt a)
    rw [Nat.succ_mul] at this
    omega
  have sn : surp (nv2 ah al bh bl) x' ≤ 500000000000000 := by
    have := nd_256 h1 h2
    unfold surp
    omega
  have HQ : nv2 ah al bh bl / 10 ^ min (surp (nv2 ah al bh bl) x') 78 + 1 < B128 * B128 := by
    have := div_surp (N := nv2 ah al bh bl) x'
    rw [div_min N256]
    have t : 10 ^ 34 + 1 < B128 * B128 := by unfold B128; decide
    omega
  have CU := Lib.hid (cut_any m hm neg ah al bh bl x' more (surp (nv2 ah al bh bl) x') h1 h2 sn (by omega) (by omega) HQ)
  have CL := Lib.hid (cut_le (m := m) (neg := neg) (more := more) (x := x') N256)
  have SL := Lib.hid (surp_low (N := nv2 ah al bh bl) (x := x'))
  unfold fitF
  rw [← hx']
  have hmin : min x 6145 = x' := hx'.symm
  have y2 : x' + ((surp (nv2 ah al bh bl) x' : Nat) : Int) ≤ 90000 := by
    have := nd_256 h1 h2
    unfold surp
    omega
  generalize cutN m neg (nv2 ah al bh bl) (surp (nv2 ah al bh bl) x') more = C at *
  generalize surp (nv2 ah al bh bl) x' = n at *
  obtain ⟨y, hy⟩ : ∃ y, y = x' + (n : Int) := ⟨_, rfl⟩
  rw [← hy] at CU SL y2
  rw [← hy]
  have Y1 := SL.out
  clear ht h1 h2 hm x1 x2 N256 sn HQ hx' hy SL
  go_enter Tryd.func38, Tryd.ntmps38
  go_upto_region 2 with fail
  have B0 : Below w.heap.size w ((w.alloc (.cells #[.bool neg, .int .u64 (ah : Int), .int .u64 (al : Int), .int .u64 (bh : Int), .int .u64 (bl : Int), .int .i64 x', .bool more] 72)).alloc (.cells #[.bool false, .int .u64 0, .int .u64 0, .int .i64 0] 34)) := by go_grown
  have D0 := Lib.hid (show HoldsW ((w.alloc (.cells #[.bool neg, .int .u64 (ah : Int), .int .u64 (al : Int), .int .u64 (bh : Int), .int .u64 (bl : Int), .int .i64 x', .bool more] 72)).alloc (.cells #[.bool false, .int .u64 0, .int .u64 0, .int .i64 0] 34)) w.heap.size neg ah al bh bl x' more from by simp [HoldsW, go_sem])
  have D1 := Lib.hid (show HoldsD ((w.alloc (.cells #[.bool neg, .int .u64 (ah : Int), .int .u64 (al : Int), .int .u64 (bh : Int), .int .u64 (bl : Int), .int .i64 x', .bool more] 72)).alloc (.cells #[.bool false, .int .u64 0, .int .u64 0, .int .i64 0] 34)) (w.heap.size + 1) false 0 0 0 from by simp [HoldsD, go_sem])
  generalize (w.alloc (.cells #[.bool neg, .int .u64 (ah : Int), .int .u64 (al : Int), .int .u64 (bh : Int), .int .u64 (bl : Int), .int .i64 x', .bool more] 72)).alloc (.cells #[.bool false, .int .u64 0, .int .u64 0, .int .i64 0] 34) = W0 at *
  obtain ⟨⟨a1, a2, a3, a4, a5, a6, a7⟩, ⟨a8, a9, a10, a11, a12, a13, a14⟩, a15⟩ := D0.out
  go_cut [2] (fun p W => ∃ h l : Nat, p = .pointer (some ⟨w.heap.size, 0, none⟩) ∧ WW h l ∧ nv h l = C ∧ HoldsW W w.heap.size neg 0 0 h l y false ∧ HoldsD W (w.heap.size + 1) false 0 0 0 ∧ Below w.heap.size w W)
  case first =>
    go_region_with
      (first
        | (go_at_call 68; refine (SU.out _ (HT.out.below (by repeat' (first | (with_reducible exact B0) | (with_reducible refine Below.drew ?_))))).mono ?_; rintro e w1 ⟨rfl, hb1⟩;
           have P0 := Lib.hid (HoldsW.below (by repeat' (first | (with_reducible exact D0.out) | (with_reducible refine HoldsW.drew ?_))) hb1 : HoldsW w1 w.heap.size neg ah al bh bl x' more);
           have P1 := Lib.hid (HoldsD.below (by repeat' (first | (with_reducible exact D1.out) | (with_reducible refine HoldsD.drew ?_))) hb1 : HoldsD w1 (w.heap.size + 1) false 0 0 0);
           have B1 := (bstep (w := w) (by repeat' (first | (with_reducible exact B0) | (with_reducible refine Below.drew ?_))) hb1 : Below w.heap.size w w1);
           obtain ⟨⟨c1, c2, c3, c4, c5, c6, c7⟩, _, _⟩ := P0.out; clear hb1)
        | (go_at_call 67; refine (CU.out _ (HT.out.below (by repeat' (first | (with_reducible exact B1) | (with_reducible refine Below.drew ?_))))).mono ?_; rintro e w2 ⟨neg', kh, kl, jh, jl, y', mo, ⟨rfl, k1, k2, k3, rfl, rfl⟩, rfl, hb2⟩;
           have Q0 := Lib.hid (HoldsW.below (by repeat' (first | (with_reducible exact P0.out) | (with_reducible refine HoldsW.drew ?_))) hb2 : HoldsW w2 w.heap.size neg' ah al bh bl x' more);
           have Q1 := Lib.hid (HoldsD.below (by repeat' (first | (with_reducible exact P1.out) | (with_reducible refine HoldsD.drew ?_))) hb2 : HoldsD w2 (w.heap.size + 1) false 0 0 0);
           have B2 := (bstep (w := w) (by repeat' (first | (with_reducible exact B1) | (with_reducible refine Below.drew ?_))) hb2 : Below w.heap.size w w2);
           obtain ⟨⟨d1, d2, d3, d4, d5, d6, d7⟩, ⟨d8, d9, d10, d11, d12, d13, d14⟩, d15⟩ := Q0.out; clear hb2))
    all_goals
      have KK := Lib.hid (low_half k2 k3 (Nat.lt_of_le_of_lt CL.out ten34_lt))
      have K2 := Lib.hid k2
      clear k1 k2 k3
      go_wp2
      go_meet
      case rel =>
        obtain ⟨z1, z2, z3⟩ := KK.out
        subst z1 z2
        refine ⟨jh, jl, rfl, K2.out, z3, ?_, ?_, ?_⟩
        · simp [HoldsW, go_sem, *]
        · exact HoldsD.far (HoldsD.far (HoldsD.far (HoldsD.far (HoldsD.far (HoldsD.far (HoldsD.far Q1.out (by show _ ≠ _; dsimp only; omega) _) (by show _ ≠ _; dsimp only; omega) _) (by show _ ≠ _; dsimp only; omega) _) (by show _ ≠ _; dsimp only; omega) _) (by show _ ≠ _; dsimp only; omega) _) (by show _ ≠ _; dsimp only; omega) _) (by show _ ≠ _; dsimp only; omega) _
        · clear a1 a2 a3 a4 a5 a6 a7 a8 a9 a10 a11 a12 a13 a14 c1 c2 c3 c4 c5 c6 c7 d1 d2 d3 d4 d5 d6 d7 d8 d9 d10 d11 d12 d13 d14
          go_grown
  case rest =>
    obtain ⟨h, l, rfl, F1, F2, A0, A1, HB⟩ := hcut
    have G1 := Lib.hid F1
    have G2 := Lib.hid F2
    have Z := Lib.hid (zeroD_any neg h l y)
    rw [F2] at Z
    have C0 := Lib.hid A0
    have C1 := Lib.hid A1
    clear F1 F2 D0 D1 B0 SU CU a1 a2 a3 a4 a5 a6 a7 a8 a9 a10 a11 a12 a13 a14 a15 hmin A0 A1
    obtain ⟨⟨a1, a2, a3, a4, a5, a6, a7⟩, _, a15⟩ := C0.out
    by_cases c0 : C = 0
    · rw [decide_eq_true c0] at Z
      have NO := Lib.hid (show fitT neg C y = some (false, 0, min y 6111) from by unfold fitT fitE; rw [c0, if_neg (by decide), if_pos rfl])
      obtain ⟨y', hy'⟩ : ∃ y', min y 6111 = y' := ⟨_, rfl⟩
      clear c0
      go_wp2_with fail
      refine (Z.out _).mono ?_
      rintro e w1 ⟨rfl, hb1⟩
      have ND := Lib.hid ((show HoldsD (wc.alloc (.cells #[.bool neg, .int .u64 (h : Int), .int .u64 (l : Int), .int .i64 y] 34)) wc.heap.size neg h l y from by simp [HoldsD, go_sem]).below hb1)
      have B1 : Below w.heap.size w w1 := bstep (ballD HB _) hb1
      replace C1 := Lib.hid ((C1.out.alloc _).below hb1)
      clear hb1 a1 a2 a3 a4 a5 a6 a7 a15 C0 HB
      obtain ⟨⟨a1, a2, a3, a4⟩, _, a15⟩ := ND.out
      obtain ⟨⟨b1, b2, b3, b4⟩, ⟨b5, b6, b7, b8⟩, b9⟩ := C1.out
      go_wp2
      refine bodyPost_ret (v := .tuple #[Dv false 0 0 y', .bool true]) (by simp [results, Tryd.results38, go_sem, *]) rfl ⟨_, _, _, _, _, ⟨ww0, ?_⟩, rfl, ?_⟩
      · rw [NO.out, hy']
        exact ⟨rfl, rfl, rfl, rfl⟩
      · clear a1 a2 a3 a4 b1 b2 b3 b4 b5 b6 b7 b8
        go_grown
    · rw [decide_eq_false c0] at Z
      have CZ := Lib.hid c0
      clear c0
      go_wp2_with fail
      refine (Z.out _).mono ?_
      rintro e w1 ⟨rfl, hb1⟩
      have ND := Lib.hid ((show HoldsD (wc.alloc (.cells #[.bool neg, .int .u64 (h : Int), .int .u64 (l : Int), .int .i64 y] 34)) wc.heap.size neg h l y from by simp [HoldsD, go_sem]).below hb1)
      have B1 : Below w.heap.size w w1 := bstep (ballD HB _) hb1
      have lw : w.heap.size + 1 < wc.heap.size := C1.out.2.2
      have nb : w.heap.size + 1 ≠ wc.heap.size := by omega
      replace C1 := Lib.hid ((C1.out.alloc _).below hb1)
      clear hb1 a1 a2 a3 a4 a5 a6 a7 a15 C0 HB
      go_wp2_with fail
      refine (ten_yes 34 (by decide) _ (HT.out.below B1)).mono ?_
      rintro e w2 ⟨th, tl, P, rfl, hb2⟩
      have HP := Lib.hid P
      have B2 : Below w.heap.size w w2 := bstep B1 hb2
      replace ND := Lib.hid (ND.out.below hb2)
      replace C1 := Lib.hid (C1.out.below hb2)
      clear hb2 P B1
      obtain ⟨⟨a1, a2, a3, a4⟩, ⟨a5, a6, a7, a8⟩, a15⟩ := ND.out
      have z1 : wc.heap.size < w2.heap.size + 1 := by omega
      go_upto_region 7 with fail
      have DE := Lib.hid (show ∀ b : Bool, (b = true ↔ h = th ∧ l = tl) → b = decide (C = 10 ^ 34) from by
        intro b hb
        rw [← G2.out, ← HP.out.2]
        by_cases q : h = th ∧ l = tl
        · rw [hb.2 q, q.1, q.2, decide_eq_true rfl]
        · have bf : b = false := by cases b <;> simp_all
          rw [bf, decide_eq_false (fun r => q (nv_inj G1.out HP.out.1 r))])
      have NX := Lib.hid ((C1.out.alloc _ : HoldsD (w2.alloc (.cells #[.int .u64 (th : Int), .int .u64 (tl : Int)] 31)) _ _ _ _ _))
      have ND2 := Lib.hid ((ND.out.alloc _ : HoldsD (w2.alloc (.cells #[.int .u64 (th : Int), .int .u64 (tl : Int)] 31)) _ _ _ _ _))
      replace B2 := ballD B2 (.cells #[.int .u64 (th : Int), .int .u64 (tl : Int)] 31)
      go_cut [38] (fun t W => t = .bool (decide (C = 10 ^ 34)) ∧ W = w2.alloc (.cells #[.int .u64 (th : Int), .int .u64 (tl : Int)] 31))
      case first =>
        by_cases e1 : h = th
        · subst e1
          by_cases e2 : l = tl
          · subst e2
            go_wp2
            go_meet
            case rel => exact ⟨by rw [← DE.out true (by simp)], rfl⟩
          · go_wp2
            all_goals
              go_meet
              case rel => exact ⟨by rw [← DE.out false (by simp [e2])], rfl⟩
        · go_wp2
          all_goals
            go_meet
            case rel => exact ⟨by rw [← DE.out false (by simp [e1])], rfl⟩
      case rest =>
        obtain ⟨rfl, rfl⟩ := hcut
        clear a1 a2 a3 a4 a5 a6 a7 a8 a15 z1 DE C1 ND
        generalize w2.alloc (.cells #[.int .u64 (th : Int), .int .u64 (tl : Int)] 31) = W3 at *
        go_upto_if 38 with fail
        go_cut [6] (fun p W => ∃ (h l C' : Nat) (y' : Int), p = .pointer (some ⟨wc.heap.size, 0, none⟩) ∧ WW h l ∧ nv h l = C' ∧ (C' ≠ 0 ∧ C' < 10 ^ 34 ∧ -6176 ≤ y' ∧ y' ≤ 100000 ∧ fitT neg C y = fitE neg C' y') ∧ HoldsD W wc.heap.size neg h l y' ∧ HoldsD W (w.heap.size + 1) false 0 0 0 ∧ Below w.heap.size w W)
        case first =>
          by_cases q : C = 10 ^ 34
          · have qt : decide (C = 10 ^ 34) = true := decide_eq_true q
            generalize decide (C = 10 ^ 34) = b at *
            subst qt
            have FT := Lib.hid (show fitT neg C y = fitE neg (10 ^ 33) (y + 1) from by unfold fitT; rw [if_pos q])
            have e1 : IntKind.i64.wrap (y + 1) = y + 1 := by rw [IntKind.wrap_i64]; omega
            clear q
            go_wp2_with fail
            refine (ten_yes 33 (by decide) _ (HT.out.below B2)).mono ?_
            rintro e w4 ⟨rh, rl, P, rfl, hb4⟩
            have HR := Lib.hid P
            have B4 : Below w.heap.size w w4 := bstep B2 hb4
            replace ND2 := Lib.hid (ND2.out.below hb4)
            replace NX := Lib.hid (NX.out.below hb4)
            clear hb4 P B2
            obtain ⟨⟨a1, a2, a3, a4⟩, ⟨a5, a6, a7, a8⟩, a15⟩ := ND2.out
            go_wp2
            go_meet
            case rel =>
              refine ⟨rh, rl, 10 ^ 33, y + 1, rfl, HR.out.1, HR.out.2, ⟨by decide, by decide, by omega, by omega, FT.out⟩, ?_, ?_, ?_⟩
              · simp [HoldsD, go_sem, *]
              · exact HoldsD.far (HoldsD.far (HoldsD.far NX.out (by show _ ≠ _; dsimp only; omega) _) (by show _ ≠ _; dsimp only; omega) _) (by show _ ≠ _; dsimp only; omega) _
              · clear a1 a2 a3 a4 a5 a6 a7 a8
                go_grown
          · have qt : decide (C = 10 ^ 34) = false := decide_eq_false q
            have CL1 := CL.out
            have CZ1 := CZ.out
            have FT := Lib.hid (show C ≠ 0 ∧ C < 10 ^ 34 ∧ -6176 ≤ y ∧ y ≤ 100000 ∧ fitT neg C y = fitE neg C y from ⟨CZ1, by omega, Y1, by omega, by unfold fitT; rw [if_neg q]⟩)
            generalize decide (C = 10 ^ 34) = b at *
            subst qt
            clear q CL1 CZ1
            go_wp2
            go_meet
            case rel => exact ⟨h, l, C, y, rfl, G1.out, G2.out, FT.out, ND2.out, NX.out, B2⟩
        case rest =>
          clear G1 G2 Z HP NX ND2 B2 CL CZ
          obtain ⟨h, l, C', y', rfl, F1, F2, ⟨f1, f2, f3, f4, f5⟩, A0, A1, HB⟩ := hcut
          have G1 := Lib.hid F1
          have G2 := Lib.hid F2
          have G3 := Lib.hid f5
          have G4 := Lib.hid f1
          have G5 := Lib.hid f2
          have C0 := Lib.hid A0
          have C1 := Lib.hid A1
          clear F1 F2 f1 f2 f5 A0 A1
          obtain ⟨⟨a1, a2, a3, a4⟩, ⟨a5, a6, a7, a8⟩, a15⟩ := C0.out
          obtain ⟨⟨b1, b2, b3, b4⟩, ⟨b5, b6, b7, b8⟩, b15⟩ := C1.out
          by_cases low : y' ≤ 6111
          · have t1 : decide (y' ≤ 6111) = true := decide_eq_true low
            go_wp2
            refine bodyPost_ret (v := .tuple #[Dv neg h l y', .bool true]) (by simp [results, Tryd.results38, go_sem, *]) rfl ⟨_, _, _, _, _, ⟨G1.out, ?_⟩, rfl, ?_⟩
            · rw [G3.out]
              unfold fitE
              rw [if_neg G4.out, if_pos low]
              exact ⟨rfl, rfl, G2.out, rfl⟩
            · clear a1 a2 a3 a4 a5 a6 a7 a8 b1 b2 b3 b4 b5 b6 b7 b8
              go_grown
          · have t1 : decide (y' ≤ 6111) = false := decide_eq_false low
            have LY := Lib.hid (lay_any neg h l y' G1.out (by rw [G2.out]; exact G5.out) (by omega) (by omega))
            rw [G2.out] at LY
            go_wp2_with fail
            refine (LY.out _ (HT.out.below HB)).mono ?_
            rintro e w4 ⟨neg', rh, rl, y'', ⟨rfl, g1, g2, rfl⟩, rfl, hb4⟩
            have B4 : Below w.heap.size w w4 := bstep HB hb4
            replace C0 := Lib.hid (C0.out.below hb4)
            replace C1 := Lib.hid (C1.out.below hb4)
            have R1 := Lib.hid g1
            have R2 := Lib.hid g2
            clear a1 a2 a3 a4 a5 a6 a7 a8 a15 b1 b2 b3 b4 b5 b6 b7 b8 b15 g1 g2 hb4 LY HB
            obtain ⟨⟨a1, a2, a3, a4⟩, ⟨a5, a6, a7, a8⟩, a15⟩ := C0.out
            obtain ⟨⟨b1, b2, b3, b4⟩, ⟨b5, b6, b7, b8⟩, b15⟩ := C1.out
            generalize hk : 34 - nd C' = k at *
            by_cases top : 6111 < y' - (k : Int)
            · have t2 : decide (6111 < y' - (k : Int)) = true := decide_eq_true top
              go_wp2
              refine bodyPost_ret (v := .tuple #[Dv false 0 0 0, .bool false]) (by simp [results, Tryd.results38, go_sem, *]) rfl ⟨_, _, _, _, _, ⟨ww0, ?_⟩, rfl, ?_⟩
              · rw [G3.out]
                unfold fitE
                rw [if_neg G4.out, if_neg (show ¬ y' ≤ 6111 by omega), hk, if_pos top]
                exact ⟨rfl, rfl, rfl, rfl, rfl⟩
              · clear a1 a2 a3 a4 a5 a6 a7 a8 b1 b2 b3 b4 b5 b6 b7 b8
                go_grown
            · have t2 : decide (6111 < y' - (k : Int)) = false := decide_eq_false top
              go_wp2
              refine bodyPost_ret (v := .tuple #[Dv neg' rh rl (y' - (k : Int)), .bool true]) (by simp [results, Tryd.results38, go_sem, *]) rfl ⟨_, _, _, _, _, ⟨R1.out, ?_⟩, rfl, ?_⟩
              · rw [G3.out]
                unfold fitE
                rw [if_neg G4.out, if_neg (show ¬ y' ≤ 6111 by omega), hk, if_neg (show ¬ 6111 < y' - (k : Int) by omega)]
                exact ⟨rfl, rfl, R2.out, rfl⟩
              · clear a1 a2 a3 a4 a5 a6 a7 a8 b1 b2 b3 b4 b5 b6 b7 b8
                go_grown
end Go.Proofs.YtkkddflclakphaaDoor

/-
  The statement WideRoots, walked: it answers true.
-/
import Derived.Test.YtcimickajocdnaaDoorN
import Derived.Deep.DeepCutAuto
namespace Go.Proofs.YtcimickajocdnaaDoor
open Go.RowKit

/-- What stands behind the sum of the root and 1. -/
def NextRel (w : World) (hh hl lh ll rh rl g7 g8 : Nat) (p q : Value) (W : World) : Prop :=
  ∃ g sh sl c : Nat, p = .pointer (some ⟨g, 0, none⟩) ∧ q = .int .u64 (c : Int) ∧ SumF rh rl 0 1 0 sh sl c ∧ Holds2 W g sh sl ∧ Holds2 W w.heap.size hh hl ∧ Holds2 W (w.heap.size + 1) lh ll ∧ (∃ a b, Holds2 W g7 a b) ∧ (∃ a b, Holds2 W g8 a b) ∧ g ≠ g7 ∧ g ≠ g8 ∧ Below w.heap.size w W

/-- What stands behind the test of the root's square. -/
def TestRel (w : World) (hh hl lh ll rh rl g5 g7 h l h' l' : Nat) (t : Value) (W : World) : Prop :=
  t = .bool false ∧ Holds2 W w.heap.size hh hl ∧ Holds2 W (w.heap.size + 1) lh ll ∧ Holds2 W g5 rh rl ∧ Holds2 W g7 h l ∧ Holds2 W (g7 + 1) h' l' ∧ Below w.heap.size w W

theorem cmp_le {a b : Nat} (h : a ≤ b) : cmpN a b ≤ 0 := by
  rcases cmpN_range a b with ⟨e, _⟩ | ⟨e, _⟩ | ⟨e, _⟩
  · rw [e]; decide
  · rw [e]; decide
  · omega

set_option maxHeartbeats 4000000 in
theorem wideRoots_walk (hh hl lh ll : Nat) (h1 : WW hh hl) (h2 : WW lh ll) (w : World) (ht : Tab w) :
    Calls Tryd.prog 7 #[U hh hl, U lh ll] w (RetB true w) := by
  have HT := Lib.hid ht
  clear ht
  go_enter Tryd.func7, Tryd.ntmps7
  go_wp2_with fail
  refine (awake_any _ (HT.out.below (by go_grown))).mono ?_
  rintro e w1 ⟨rfl, hb1⟩
  have A0 := Lib.hid (Holds2.below (by simp [Holds2, go_sem]) hb1 : Holds2 w1 w.heap.size hh hl)
  have A1 := Lib.hid (Holds2.below (by simp [Holds2, go_sem]) hb1 : Holds2 w1 (w.heap.size + 1) lh ll)
  have B1 : Below w.heap.size w w1 := bstep (by go_grown) hb1
  have S1 := B1.size
  clear hb1 HT
  obtain ⟨a1, a2, a3, a4, a5⟩ := A0.out
  obtain ⟨b1, b2, b3, b4, b5⟩ := A1.out
  go_wp2_with fail
  refine (root_any hh hl lh ll h1 h2 _).mono ?_
  rintro e w2 ⟨rh, rl, b, ⟨f1, f2, f3, f4⟩, rfl, hb2⟩
  have A0' := Lib.hid (A0.out.below hb2)
  have A1' := Lib.hid (A1.out.below hb2)
  have B2 : Below w.heap.size w w2 := bstep B1 hb2
  have S2 := B2.size
  have F2 := Lib.hid f2
  have F3 := Lib.hid f3
  have F4 := Lib.hid f4
  clear hb2 A0 A1 a1 a2 a3 a4 a5 b1 b2 b3 b4 b5 f2 f3 f4
  go_wp2_with fail
  refine (mul_any rh rl rh rl f1 f1 _).mono ?_
  rintro e w3 ⟨h, l, h', l', ⟨g1, g2, g3⟩, rfl, hb3⟩
  have G3 := Lib.hid g3
  have C0 := Lib.hid ((A0'.out.alloc _).below hb3)
  have C1 := Lib.hid ((A1'.out.alloc _).below hb3)
  have C2 := Lib.hid ((Holds2.new2 rfl : Holds2 _ w2.heap.size rh rl).below hb3)
  have B3 : Below w.heap.size w w3 := bstep (by go_grown) hb3
  have S3 := B3.size
  clear hb3 A0' A1' g3
  have k3 : w.heap.size + 1 < w3.heap.size := C1.out.2.2.2.2
  go_upto_region 5 with fail
  go_cut [42] (fun t W => TestRel w hh hl lh ll rh rl w2.heap.size w3.heap.size h l h' l' t W)
  case first =>
    obtain ⟨a1, a2, a3, a4, a5⟩ := C0.out
    obtain ⟨b1, b2, b3, b4, b5⟩ := C1.out
    obtain ⟨_, a6, a7, a8, a9⟩ := lots a5
    obtain ⟨_, b6, b7, b8, b9⟩ := lots b5
    have C := cmp2_any h l h' l' hh hl lh ll g1 g2 h1 h2
    have c0 : cmpN (nv2 h l h' l') (nv2 hh hl lh ll) ≤ 0 := cmp_le (by rw [G3.out]; exact F2.out)
    generalize cmpN (nv2 h l h' l') (nv2 hh hl lh ll) = cv at *
    have HC := Lib.hid C
    have c1 : decide (0 < cv) = false := by simpa using c0
    clear C c0
    go_wp2_with fail
    refine (HC.out _).mono ?_
    rintro e w4 ⟨rfl, hb4⟩
    have D0 := Lib.hid (((C0.out.alloc _).alloc _).below hb4)
    have D1 := Lib.hid (((C1.out.alloc _).alloc _).below hb4)
    have D2 := Lib.hid (((C2.out.alloc _).alloc _).below hb4)
    have D3 := Lib.hid (((Holds2.new2 rfl).alloc _ : Holds2 _ w3.heap.size h l).below hb4)
    have D4 := Lib.hid ((Holds2.new2 (by simp) : Holds2 _ (w3.heap.size + 1) h' l').below hb4)
    have B4 : Below w.heap.size w w4 := bstep (by go_grown) hb4
    clear hb4 C0 C1 C2 HC a1 a2 a3 a4 a5 a6 a7 a8 a9 b1 b2 b3 b4 b5 b6 b7 b8 b9
    obtain ⟨a1, a2, a3, a4, a5⟩ := D0.out
    obtain ⟨b1, b2, b3, b4, b5⟩ := D1.out
    obtain ⟨d1, d2, d3, d4, d5⟩ := D3.out
    obtain ⟨e1, e2, e3, e4, e5⟩ := D4.out
    have fin : TestRel w hh hl lh ll rh rl w2.heap.size w3.heap.size h l h' l' (.bool false) w4 := ⟨rfl, D0.out, D1.out, D2.out, D3.out, D4.out, B4⟩
    have Fin := Lib.hid fin
    clear fin D0 D1 D2 D3 D4
    cases b
    · have ne : ¬ (h = hh ∧ l = hl ∧ h' = lh ∧ l' = ll) := by
        rintro ⟨rfl, rfl, rfl, rfl⟩
        have := F4.out.2 G3.out.symm
        cases this
      clear F2 F3 F4
      by_cases k1 : h = hh
      · subst k1
        by_cases k2 : l = hl
        · subst k2
          by_cases k3 : h' = lh
          · subst k3
            have k4 : ((l' : Int) == ll) = false := by
              have : l' ≠ ll := fun k => ne ⟨rfl, rfl, rfl, k⟩
              simp; omega
            clear ne
            go_wp2
            go_meet
            case rel => exact Fin.out
          · have k4 : ((h' : Int) == lh) = false := by simp; omega
            clear ne
            go_wp2
            go_meet
            case rel => exact Fin.out
        · have k4 : ((l : Int) == hl) = false := by simp; omega
          clear ne
          go_wp2
          go_meet
          case rel => exact Fin.out
      · have k4 : ((h : Int) == hh) = false := by simp; omega
        clear ne
        go_wp2
        go_meet
        case rel => exact Fin.out
    · obtain ⟨⟨rfl, rfl⟩, rfl, rfl⟩ := words_eq g1 g2 h1 h2 (G3.out.trans (F4.out.1 rfl))
      clear F2 F3 F4
      go_wp2
      go_meet
      case rel => exact Fin.out
  case rest =>
    generalize hw4 : wc = w4 at *
    clear hw4
    obtain ⟨rfl, D0, D1, D2, D3, D4, B4⟩ := hcut
    clear C0 C1 C2 F4
    have S4 := B4.size
    go_upto_region 7 with fail
    go_cut [9, 10] (fun p q W => NextRel w hh hl lh ll rh rl w3.heap.size (w3.heap.size + 1) p q W)
    case first =>
      have E0 := Lib.hid D0
      have E1 := Lib.hid D1
      have E3 := Lib.hid D3
      have E4 := Lib.hid D4
      have E2 := Lib.hid D2
      obtain ⟨a1, a2, a3, a4, a5⟩ := D2
      obtain ⟨_, a6, a7, a8, a9⟩ := lots a5
      clear D0 D1 D3 D4 F2 F3
      go_region_held3 (fun w' => w'.cell? ⟨w2.heap.size, 0, none⟩ = some (.int .u64 (rh : Int)) ∧ w'.cell? ⟨w2.heap.size, 1, none⟩ = some (.int .u64 (rl : Int))) (simp [go_sem, *])
        (first
          | (go_at_call 27; refine (of_any 1 _).mono ?_; rintro e w' ⟨rfl, o1, rfl⟩)
          | (go_at_call 10; refine (add_any rh rl 0 1 f1 ⟨by decide, by decide⟩ _).mono ?_; rintro e w5 ⟨sh, sl, c, SF, rfl, hb5⟩; obtain ⟨hc5, hf5⟩ := bcell (bundrew hb5); have sz := hb5.size; simp only [World.size_alloc, World.size_drew] at sz; have z5 : w4.heap.size < w5.heap.size := (by omega); obtain ⟨_, a10, a11, a12, a13⟩ := lots (Nat.lt_trans a5 z5)))
      all_goals
        go_wp2_with fail
        go_meet
        case rel =>
          clear hc5 hf5
          have s3 := E4.out.2.2.2.2
          have s0 := E1.out.2.2.2.2
          have B5 : Below w.heap.size w w5 := bstep (by go_grown) hb5
          refine ⟨_, sh, sl, c, rfl, rfl, SF, ?_, ?_, ?_, ⟨h, l, ?_⟩, ⟨h', l', ?_⟩, ?_, ?_, ?_⟩
          · repeat' (first | (with_reducible exact E0.out) | ((with_reducible refine Holds2.new2 ?_); simp; done) | (with_reducible refine Holds2.put (a := 0) (b := 0) ?_) | (with_reducible refine Holds2.alloc ?_ _) | (with_reducible refine Holds2.drew ?_) | (with_reducible refine Holds2.far (Holds2.far ?_ ?_ _) ?_ _) | ((with_reducible refine Holds2.below ?_ hb5); simp [Holds2, go_sem]; done) | (with_reducible refine Holds2.below ?_ hb5) | (show _ ≠ _; (try dsimp only); omega))
          · repeat' (first | (with_reducible exact E0.out) | ((with_reducible refine Holds2.new2 ?_); simp; done) | (with_reducible refine Holds2.put (a := 0) (b := 0) ?_) | (with_reducible refine Holds2.alloc ?_ _) | (with_reducible refine Holds2.drew ?_) | (with_reducible refine Holds2.far (Holds2.far ?_ ?_ _) ?_ _) | ((with_reducible refine Holds2.below ?_ hb5); simp [Holds2, go_sem]; done) | (with_reducible refine Holds2.below ?_ hb5) | (show _ ≠ _; (try dsimp only); omega))
          · repeat' (first | (with_reducible exact E1.out) | ((with_reducible refine Holds2.new2 ?_); simp; done) | (with_reducible refine Holds2.put (a := 0) (b := 0) ?_) | (with_reducible refine Holds2.alloc ?_ _) | (with_reducible refine Holds2.drew ?_) | (with_reducible refine Holds2.far (Holds2.far ?_ ?_ _) ?_ _) | ((with_reducible refine Holds2.below ?_ hb5); simp [Holds2, go_sem]; done) | (with_reducible refine Holds2.below ?_ hb5) | (show _ ≠ _; (try dsimp only); omega))
          · repeat' (first | (with_reducible exact E3.out) | ((with_reducible refine Holds2.new2 ?_); simp; done) | (with_reducible refine Holds2.put (a := 0) (b := 0) ?_) | (with_reducible refine Holds2.alloc ?_ _) | (with_reducible refine Holds2.drew ?_) | (with_reducible refine Holds2.far (Holds2.far ?_ ?_ _) ?_ _) | ((with_reducible refine Holds2.below ?_ hb5); simp [Holds2, go_sem]; done) | (with_reducible refine Holds2.below ?_ hb5) | (show _ ≠ _; (try dsimp only); omega))
          · repeat' (first | (with_reducible exact E4.out) | ((with_reducible refine Holds2.new2 ?_); simp; done) | (with_reducible refine Holds2.put (a := 0) (b := 0) ?_) | (with_reducible refine Holds2.alloc ?_ _) | (with_reducible refine Holds2.drew ?_) | (with_reducible refine Holds2.far (Holds2.far ?_ ?_ _) ?_ _) | ((with_reducible refine Holds2.below ?_ hb5); simp [Holds2, go_sem]; done) | (with_reducible refine Holds2.below ?_ hb5) | (show _ ≠ _; (try dsimp only); omega))
          · omega
          · omega
          · go_grown
    case rest =>
      clear D0 D1 D2 D3 D4 B4 S4
      obtain ⟨g, sh, sl, c, rfl, rfl, SF, P0, P1, P2, ⟨xa, xb, P3⟩, ⟨ya, yb, P4⟩, n1, n2, B5⟩ := hcut
      obtain ⟨sf1, sf2, sf3⟩ := SF
      have S5 := B5.size
      have q : c = 0 ∨ c = 1 := by omega
      rcases q with rfl | rfl
      · have sf4 : nv sh sl = nv rh rl + 1 := by
          have e : nv 0 1 = 1 := rfl
          rw [e, Nat.zero_mul, Nat.add_zero, Nat.add_zero] at sf3
          exact sf3
        have SF4 := Lib.hid sf4
        have Q0 := Lib.hid P1
        have Q1 := Lib.hid P2
        obtain ⟨a1, a2, a3, a4, a5⟩ := P0
        clear sf3 sf4
        go_wp2_with fail
        refine (mul_any sh sl sh sl sf1 sf1 _).mono ?_
        rintro e w6 ⟨th, tl, th', tl', ⟨t1, t2, t3⟩, rfl, hb6⟩
        have T3 := Lib.hid t3
        have B6 : Below w.heap.size w w6 := bstep B5 hb6
        obtain ⟨b1, b2, b3, b4, b5⟩ := Q0.out.below hb6
        obtain ⟨c1, c2, c3, c4, c5⟩ := Q1.out.below hb6
        obtain ⟨d1, d2, d3, d4, d5⟩ := P3.below hb6
        obtain ⟨e1, e2, e3, e4, e5⟩ := P4.below hb6
        have C := cmp2_any th tl th' tl' hh hl lh ll t1 t2 h1 h2
        have cv0 : cmpN (nv2 th tl th' tl') (nv2 hh hl lh ll) = 1 := cmpN_gt (by rw [T3.out, SF4.out]; exact F3.out)
        rw [cv0] at C
        have HC := Lib.hid C
        clear a1 a2 a3 a4 a5 hb6 t3 C cv0 P1 P2 P3 P4 F2 F3
        obtain ⟨m1, m2, m3, m4⟩ : w.heap.size ≠ w3.heap.size ∧ w.heap.size ≠ w3.heap.size + 1 ∧ w.heap.size + 1 ≠ w3.heap.size ∧ w.heap.size + 1 ≠ w3.heap.size + 1 := by omega
        go_wp2_with fail
        refine (HC.out _).mono ?_
        rintro e w7 ⟨rfl, hb7⟩
        have B7 : Below w.heap.size w w7 := by
          refine bstep ?_ hb7
          clear b1 b2 b3 b4 b5 c1 c2 c3 c4 c5 d1 d2 d3 d4 d5 e1 e2 e3 e4 e5
          go_grown
        clear hb7 b1 b2 b3 b4 b5 c1 c2 c3 c4 c5 d1 d2 d3 d4 d5 e1 e2 e3 e4 e5
        go_wp2
        go_ret
        exact ⟨rfl, B7⟩
      · go_wp2
        go_ret
        exact ⟨rfl, B5⟩
end Go.Proofs.YtcimickajocdnaaDoor

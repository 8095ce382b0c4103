/-
  The root of package wide, as a contract of its call.
-/
import Derived.Test.YtncpdoeikebomaaDoorE
import Derived.Test.YtncpdoeikebomaaDoorMr
import Derived.Deep.LoopGhost
namespace Go.Proofs.YtncpdoeikebomaaDoor
open Go.RowKit

def RetUB (F : Nat → Nat → Bool → Prop) (w : World) (e : Ending) (w' : World) : Prop :=
  ∃ (h l : Nat) (b : Bool), F h l b ∧ e = .returned (.tuple #[U h l, .bool b]) ∧ Below w.heap.size w w'

theorem zero_t {h l : Nat} (e : nv h l = 0) (w : World) : Calls Tryd.prog 33 #[U h l] w (RetB true w) := by
  have := zero_any h l w
  rw [show decide (nv h l = 0) = true from by simp [e]] at this
  exact this
theorem zero_f {h l : Nat} (e : nv h l ≠ 0) (w : World) : Calls Tryd.prog 33 #[U h l] w (RetB false w) := by
  have := zero_any h l w
  rw [show decide (nv h l = 0) = false from by simp [e]] at this
  exact this

theorem no_carry (x c T B : Nat) (s : x + c * B = T) (h : T < B) : x = T := by
  rcases Nat.eq_zero_or_pos c with hc | hc
  · rw [hc, Nat.zero_mul, Nat.add_zero] at s; exact s
  · have := Nat.le_mul_of_pos_left B hc
    generalize c * B = y at *
    omega
theorem sum_fits {rh rl bh bl nh nl c : Nat} (S : SumF rh rl bh bl 0 nh nl c) (h : nv rh rl + nv bh bl < B128) : WW nh nl ∧ nv nh nl = nv rh rl + nv bh bl :=
  ⟨S.1, no_carry (nv nh nl) c (nv rh rl + nv bh bl) B128 (by have e := S.2.2; rw [Nat.add_zero] at e; exact e) h⟩

/-- Where the loop stands. -/
def RootRel (w : World) (hh hl lh ll k : Nat) (p : Value) (W : World) : Prop :=
  ∃ g bh bl rh rl : Nat, p = .pointer (some ⟨g, 0, none⟩) ∧ w.heap.size + 1 + 1 + 1 < g ∧ Holds2 W g bh bl ∧ Holds2 W (w.heap.size + 1 + 1 + 1) rh rl ∧ Holds2 W w.heap.size hh hl ∧ Holds2 W (w.heap.size + 1) lh ll ∧ Holds2 W (w.heap.size + 1 + 1) 0 0 ∧
    RootF (nv2 hh hl lh ll) k (nv bh bl) (nv rh rl) ∧ WW bh bl ∧ WW rh rl ∧ Below w.heap.size w W

set_option maxHeartbeats 1000000 in
theorem root_any (hh hl lh ll : Nat) (h1 : WW hh hl) (h2 : WW lh ll) (w : World) :
    Calls Tryd.prog 35 #[U hh hl, U lh ll] w (RetUB (fun h l b => WW h l ∧ nv h l * nv h l ≤ nv2 hh hl lh ll ∧ nv2 hh hl lh ll < (nv h l + 1) * (nv h l + 1) ∧ (b = true ↔ nv h l * nv h l = nv2 hh hl lh ll)) w) := by
  go_enter Tryd.func35, Tryd.ntmps35
  go_wp2
  go_loopg [7] 128 (fun k p W => RootRel w hh hl lh ll k p W)
  case atStart =>
    refine ⟨w.heap.size + 1 + 1 + 1 + 1, 9223372036854775808, 0, 0, 0, rfl, by omega, ?_, ?_, ?_, ?_, ?_, ?_, ?_, ?_, by go_grown⟩
    · simp [Holds2, go_sem]
    · simp [Holds2, go_sem]
    · simp [Holds2, go_sem]
    · simp [Holds2, go_sem]
    · simp [Holds2, go_sem]
    · exact rootF_start (by have := nv_lt h1; have := nv_lt h2; unfold nv2 B128 at *; omega)
    · exact ⟨by decide, by decide⟩
    · exact ⟨by decide, by decide⟩
  case round =>
    obtain ⟨g, bh, bl, rh, rl, rfl, hg, A1, A2, A3, A4, A5, F, w1, w2, HB⟩ := hrel
    rcases Nat.eq_zero_or_pos gk with h0 | h0
    · subst h0
      obtain ⟨e1, e2, e3⟩ := rootF_end F
      obtain ⟨a1, a2, a3, a4, a5⟩ := id A1
      go_wp2_with fail
      refine (zero_t e1 _).mono ?_
      rintro e v1 ⟨rfl, hb1⟩
      clear a1 a2 a3 a4 a5
      obtain ⟨b1, b2, b3, b4, b5⟩ := A2.below hb1
      obtain ⟨c1, c2, c3, c4, c5⟩ := A3.below hb1
      obtain ⟨d1, d2, d3, d4, d5⟩ := A4.below hb1
      obtain ⟨f1, f2, f3, f4, f5⟩ := A5.below hb1
      have HB1 : Below w.heap.size w v1 := bstep HB hb1
      have G2 := A2.below hb1
      have G3 := A3.below hb1
      have G4 := A4.below hb1
      have G5 := A5.below hb1
      clear A1 A2 A3 A4 A5 hb1 e1
      go_wp2
      go_region_held3 (fun w' => w'.cell? ⟨w.heap.size + 1 + 1 + 1, 0, none⟩ = some (.int .u64 (rh : Int)) ∧ w'.cell? ⟨w.heap.size + 1 + 1 + 1, 1, none⟩ = some (.int .u64 (rl : Int)) ∧ w'.cell? ⟨w.heap.size, 0, none⟩ = some (.int .u64 (hh : Int)) ∧ w'.cell? ⟨w.heap.size, 1, none⟩ = some (.int .u64 (hl : Int)) ∧ w'.cell? ⟨w.heap.size + 1, 0, none⟩ = some (.int .u64 (lh : Int)) ∧ w'.cell? ⟨w.heap.size + 1, 1, none⟩ = some (.int .u64 (ll : Int))) (simp [go_sem, *])
        (first
          | (go_at_call 75; refine (cmpSquare_any rh rl hh hl lh ll w2 h1 h2 _).mono ?_; rintro e v2 ⟨rfl, hb2⟩; have hb3 : Below v1.heap.size v1 v2 := ⟨hb2.os, hb2.tape, hb2.output, hb2.size, hb2.block⟩; obtain ⟨p1, p2, p3, p4, p5⟩ := G2.below hb3; obtain ⟨q1, q2, q3, q4, q5⟩ := G3.below hb3; obtain ⟨r1, r2, r3, r4, r5⟩ := G4.below hb3; obtain ⟨s1, s2, s3, s4, s5⟩ := G5.below hb3; clear hb2))
      all_goals
        go_wp2
        refine bodyPost_ret (v := .tuple #[U rh rl, .bool (cmpN (nv rh rl * nv rh rl) (nv2 hh hl lh ll) == 0)]) (by simp [results, Tryd.results35, go_sem, *]) rfl ⟨_, _, _, ⟨w2, e2, e3, ?_⟩, rfl, ?_⟩
        · rcases cmpN_range (nv rh rl * nv rh rl) (nv2 hh hl lh ll) with ⟨e, e'⟩ | ⟨e, e'⟩ | ⟨e, e'⟩
          · rw [e]; simp; omega
          · rw [e]; simp [e']
          · rw [e]; simp; omega
        · have HB2 : Below w.heap.size w v2 := bstep HB1 hb3
          clear b1 b2 b3 b4 b5 c1 c2 c3 c4 c5 d1 d2 d3 d4 d5 f1 f2 f3 f4 f5 p1 p2 p3 p4 p5 q1 q2 q3 q4 q5 r1 r2 r3 r4 r5 s1 s2 s3 s4 s5
          go_grown
    · obtain ⟨k, rfl⟩ : ∃ k, gk = k + 1 := ⟨gk - 1, by omega⟩
      obtain ⟨r1, r2, r3⟩ := rootF_room F
      have Rt := Lib.hid (@rootF_take _ _ _ _ F)
      have Rp := Lib.hid (@rootF_pass _ _ _ _ F)
      have R2 := Lib.hid r2
      have nz := rootF_bit F
      clear r1 r2 r3
      obtain ⟨a1, a2, a3, a4, a5⟩ := id A1
      go_wp2_with fail
      refine (zero_f nz _).mono ?_
      rintro e v1 ⟨rfl, hb1⟩
      clear a1 a2 a3 a4 a5
      obtain ⟨a1, a2, a3, a4, a5⟩ := A1.below hb1
      obtain ⟨b1, b2, b3, b4, b5⟩ := A2.below hb1
      have A1' := A1.below hb1
      have A2' := A2.below hb1
      have A3' := A3.below hb1
      have A4' := A4.below hb1
      have A5' := A5.below hb1
      have HB1 : Below w.heap.size w v1 := bstep HB hb1
      clear A1 A2 A3 A4 A5 hb1 nz F HB
      go_wp2_with fail
      refine (add_any rh rl bh bl w2 w1 _).mono ?_
      rintro e v2 ⟨nh, nl, c, S, rfl, hb2⟩
      clear a1 a2 a3 a4 a5 b1 b2 b3 b4 b5
      have N1 := sum_fits S R2.out
      clear S
      obtain ⟨N1, N2⟩ := N1
      have N3 := Lib.hid N2
      clear N2
      obtain ⟨a1, a2, a3, a4, a5⟩ := A1'.below hb2
      obtain ⟨b1, b2, b3, b4, b5⟩ := A2'.below hb2
      obtain ⟨c1, c2, c3, c4, c5⟩ := A3'.below hb2
      obtain ⟨d1, d2, d3, d4, d5⟩ := A4'.below hb2
      obtain ⟨f1, f2, f3, f4, f5⟩ := A5'.below hb2
      have HB2 : Below w.heap.size w v2 := bstep HB1 hb2
      clear A1' A2' A3' A4' A5' hb2 HB1
      have gne : g ≠ w.heap.size + 1 + 1 + 1 := by omega
      go_wp2_with fail
      refine (cmpSquare_any nh nl hh hl lh ll N1 h1 h2 _).mono ?_
      rintro e v3 ⟨rfl, hb3⟩
      have B1 := (show Holds2 _ g bh bl from by simp [Holds2, go_sem, *]).below hb3
      have B2 := (show Holds2 _ (w.heap.size + 1 + 1 + 1) rh rl from by simp [Holds2, go_sem, *]).below hb3
      have B3 := (show Holds2 _ w.heap.size hh hl from by simp [Holds2, go_sem, *]).below hb3
      have B4 := (show Holds2 _ (w.heap.size + 1) lh ll from by simp [Holds2, go_sem, *]).below hb3
      have B5 := (show Holds2 _ (w.heap.size + 1 + 1) 0 0 from by simp [Holds2, go_sem, *]).below hb3
      have B6 := (show Holds2 _ v2.heap.size nh nl from by simp [Holds2, go_sem, *]).below hb3
      have HB3 : Below w.heap.size w v3 := bstep (HB2.alloc HB2.size _) hb3
      have big : w.heap.size + 1 + 1 + 1 < v2.heap.size := by omega
      clear a1 a2 a3 a4 a5 b1 b2 b3 b4 b5 c1 c2 c3 c4 c5 d1 d2 d3 d4 d5 f1 f2 f3 f4 f5 hb3 HB2
      obtain ⟨a1, a2, a3, a4, a5⟩ := id B1
      obtain ⟨b1, b2, b3, b4, b5⟩ := id B2
      obtain ⟨m1, m2, m3, m4, m5⟩ := id B6
      have gne' : w.heap.size + 1 + 1 + 1 ≠ g := by omega
      rcases Nat.lt_or_ge (nv2 hh hl lh ll) (nv nh nl * nv nh nl) with q | q
      · have RF := Rp.out (by rw [← N3.out]; exact q)
        have q1 : 0 < cmpN (nv nh nl * nv nh nl) (nv2 hh hl lh ll) := by rw [cmpN_gt q]; decide
        generalize cmpN (nv nh nl * nv nh nl) (nv2 hh hl lh ll) = cv at *
        clear q Rp Rt R2
        go_wp2_with fail
        refine (right_any bh bl 1 (by omega) w1 _).mono ?_
        rintro e v4 ⟨yh, yl, ⟨Y1, Y2⟩, rfl, hb4⟩
        have Y3 := Lib.hid Y2
        obtain ⟨c1, c2, c3, c4, c5⟩ := B3
        obtain ⟨d1, d2, d3, d4, d5⟩ := B4
        obtain ⟨f1, f2, f3, f4, f5⟩ := B5
        have C2 := (show Holds2 _ (w.heap.size + 1 + 1 + 1) rh rl from by simp [Holds2, go_sem, *]).below hb4
        have C3 := (show Holds2 _ w.heap.size hh hl from by simp [Holds2, go_sem, *]).below hb4
        have C4 := (show Holds2 _ (w.heap.size + 1) lh ll from by simp [Holds2, go_sem, *]).below hb4
        have C5 := (show Holds2 _ (w.heap.size + 1 + 1) 0 0 from by simp [Holds2, go_sem, *]).below hb4
        have C6 := (show Holds2 _ v3.heap.size bh bl from by simp [Holds2, go_sem, *]).below hb4
        have HB4 : Below w.heap.size w v4 := bstep (HB3.alloc HB3.size _) hb4
        clear a1 a2 a3 a4 a5 b1 b2 b3 b4 c1 c2 c3 c4 c5 d1 d2 d3 d4 d5 f1 f2 f3 f4 f5 m1 m2 m3 m4 m5 hb4 HB3 B1 B2 B6 Y2 gne gne'
        obtain ⟨b1, b2, b3, b4, b6⟩ := C2
        obtain ⟨c1, c2, c3, c4, c5⟩ := C3
        obtain ⟨d1, d2, d3, d4, d5⟩ := C4
        obtain ⟨f1, f2, f3, f4, f5⟩ := C5
        obtain ⟨m1, m2, m3, m4, m5⟩ := C6
        obtain ⟨n0, n1, n2, n3⟩ : w.heap.size ≠ v3.heap.size ∧ w.heap.size + 1 ≠ v3.heap.size ∧ w.heap.size + 1 + 1 ≠ v3.heap.size ∧ w.heap.size + 1 + 1 + 1 ≠ v3.heap.size := by omega
        go_wp2
        go_roundg k
        case measure => omega
        case rel =>
          refine ⟨v3.heap.size, yh, yl, rh, rl, rfl, b5, ?_, ?_, ?_, ?_, ?_, ?_, Y1, w2, ?_⟩
          · simp [Holds2, go_sem, *]
          · simp [Holds2, go_sem, *]
          · simp [Holds2, go_sem, *]
          · simp [Holds2, go_sem, *]
          · simp [Holds2, go_sem, *]
          · rw [Y3.out]; exact RF
          · exact (HB4.setCell (by show w.heap.size ≤ v3.heap.size; omega) _).setCell (by show w.heap.size ≤ v3.heap.size; omega) _
      · have RF := Rt.out (by rw [← N3.out]; exact q)
        have q1 : cmpN (nv nh nl * nv nh nl) (nv2 hh hl lh ll) ≤ 0 := by
          rcases cmpN_range (nv nh nl * nv nh nl) (nv2 hh hl lh ll) with ⟨e, _⟩ | ⟨e, _⟩ | ⟨e, e'⟩
          · rw [e]; decide
          · rw [e]; decide
          · omega
        generalize cmpN (nv nh nl * nv nh nl) (nv2 hh hl lh ll) = cv at *
        clear q Rp Rt R2
        go_wp2_with fail
        refine (right_any bh bl 1 (by omega) w1 _).mono ?_
        rintro e v4 ⟨yh, yl, ⟨Y1, Y2⟩, rfl, hb4⟩
        have Y3 := Lib.hid Y2
        obtain ⟨c1, c2, c3, c4, c5⟩ := B3
        obtain ⟨d1, d2, d3, d4, d5⟩ := B4
        obtain ⟨f1, f2, f3, f4, f5⟩ := B5
        have C2 := (show Holds2 _ (w.heap.size + 1 + 1 + 1) nh nl from by simp [Holds2, go_sem, *]).below hb4
        have C3 := (show Holds2 _ w.heap.size hh hl from by simp [Holds2, go_sem, *]).below hb4
        have C4 := (show Holds2 _ (w.heap.size + 1) lh ll from by simp [Holds2, go_sem, *]).below hb4
        have C5 := (show Holds2 _ (w.heap.size + 1 + 1) 0 0 from by simp [Holds2, go_sem, *]).below hb4
        have C6 := (show Holds2 _ v3.heap.size bh bl from by simp [Holds2, go_sem, *]).below hb4
        have HB4 : Below w.heap.size w v4 := by
          refine bstep ?_ hb4
          refine Below.alloc ?_ ?_ _
          · exact (HB3.setCell (by show w.heap.size ≤ w.heap.size + 1 + 1 + 1; omega) _).setCell (by show w.heap.size ≤ w.heap.size + 1 + 1 + 1; omega) _
          · simp; omega
        clear a1 a2 a3 a4 a5 b1 b2 b3 b4 c1 c2 c3 c4 c5 d1 d2 d3 d4 d5 f1 f2 f3 f4 f5 m1 m2 m3 m4 m5 hb4 HB3 B1 B2 B6 Y2 gne gne'
        obtain ⟨b1, b2, b3, b4, b6⟩ := C2
        obtain ⟨c1, c2, c3, c4, c5⟩ := C3
        obtain ⟨d1, d2, d3, d4, d5⟩ := C4
        obtain ⟨f1, f2, f3, f4, f5⟩ := C5
        obtain ⟨m1, m2, m3, m4, m5⟩ := C6
        obtain ⟨n0, n1, n2, n3⟩ : w.heap.size ≠ v3.heap.size ∧ w.heap.size + 1 ≠ v3.heap.size ∧ w.heap.size + 1 + 1 ≠ v3.heap.size ∧ w.heap.size + 1 + 1 + 1 ≠ v3.heap.size := by omega
        go_wp2
        go_roundg k
        case measure => omega
        case rel =>
          refine ⟨v3.heap.size, yh, yl, nh, nl, rfl, b5, ?_, ?_, ?_, ?_, ?_, ?_, Y1, N1, ?_⟩
          · simp [Holds2, go_sem, *]
          · simp [Holds2, go_sem, *]
          · simp [Holds2, go_sem, *]
          · simp [Holds2, go_sem, *]
          · simp [Holds2, go_sem, *]
          · rw [Y3.out, N3.out]; exact RF
          · exact (HB4.setCell (by show w.heap.size ≤ v3.heap.size; omega) _).setCell (by show w.heap.size ≤ v3.heap.size; omega) _
end Go.Proofs.YtncpdoeikebomaaDoor

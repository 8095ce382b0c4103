/-
  The product of package wide, as a contract of its call.
-/
import Derived.Test.YtncpdoeikebomaaDoorD
import Derived.Deep.DeepCutAuto
namespace Go.Proofs.YtncpdoeikebomaaDoor
open Go.RowKit

/-- What stands behind the sum of the two products. -/
def MulRel (w : World) (ah al bh bl : Nat) (p q : Value) (W : World) : Prop :=
  ∃ g g' h l h' l' : Nat, p = .pointer (some ⟨g, 0, none⟩) ∧ q = .pointer (some ⟨g', 0, none⟩) ∧ w.heap.size + 1 + 1 + 1 < g ∧ w.heap.size + 1 + 1 + 1 < g' ∧ Holds2 W g h l ∧ Holds2 W g' h' l' ∧ Holds2 W (w.heap.size + 1 + 1) 0 0 ∧ Holds2 W (w.heap.size + 1 + 1 + 1) 0 0 ∧ ProdF ah al bh bl h l h' l' ∧ Below w.heap.size w W

set_option maxHeartbeats 40000000 in
theorem mul_any (ah al bh bl : Nat) (ha : WW ah al) (hb : WW bh bl) (w : World) :
    Calls Tryd.prog 76 #[U ah al, U bh bl] w (RetUU (ProdF ah al bh bl) w) := by
  obtain ⟨b1, b2⟩ := id hb
  go_enter Tryd.func76, Tryd.ntmps76
  go_wp2_with fail
  refine (mulWord_any ah al bh ha b1 _).mono ?_
  rintro e w1 ⟨o, hh, hl, F, rfl, hb1⟩
  have Hb1 : Below w.heap.size w w1 := bstep (by go_grown) hb1
  obtain ⟨z0, z1, z2, z3⟩ : w.heap.size < w1.heap.size ∧ w.heap.size + 1 < w1.heap.size ∧ w.heap.size + 1 + 1 < w1.heap.size ∧ w.heap.size + 1 + 1 + 1 < w1.heap.size := by have := hb1.size; simp at this; omega
  obtain ⟨hc, hf⟩ := bcell hb1
  clear hb1
  go_wp2_with fail
  refine (mulWord_any ah al bl ha b2 _).mono ?_
  rintro e w2 ⟨c, lh, ll, G, rfl, hb2⟩
  have Hb2 : Below w.heap.size w w2 := bstep (by go_grown) hb2
  obtain ⟨x0, x1, x2, x3⟩ : w.heap.size < w2.heap.size ∧ w.heap.size + 1 < w2.heap.size ∧ w.heap.size + 1 + 1 < w2.heap.size ∧ w.heap.size + 1 + 1 + 1 < w2.heap.size := by have := hb2.size; simp at this; omega
  obtain ⟨y0, y1, y2, y3, y4⟩ : w1.heap.size < w2.heap.size ∧ w1.heap.size < w2.heap.size + 1 ∧ w1.heap.size < w2.heap.size + 1 + 1 ∧ w1.heap.size < w2.heap.size + 1 + 1 + 1 ∧ w1.heap.size < w2.heap.size + 1 + 1 + 1 + 1 := by have := hb2.size; simp at this; omega
  obtain ⟨hc2, hf2⟩ := bcell hb2
  clear hb2
  go_wp2
  obtain ⟨q1, q2, q3⟩ : (WW o hh ∧ WW hl 0 ∧ WW 0 c) ∧ WW lh ll ∧ True := by
    obtain ⟨f1, ⟨f2, f3⟩, _⟩ := F; obtain ⟨g1, ⟨g2, g3⟩, _⟩ := G
    exact ⟨⟨⟨f1, f2⟩, ⟨f3, by omega⟩, ⟨by omega, g1⟩⟩, ⟨g2, g3⟩, trivial⟩
  have Q5 := Lib.hid (by simp [Holds2, go_sem, *] : Holds2 w2 (w.heap.size + 1 + 1) 0 0)
  have Q6 := Lib.hid (by simp [Holds2, go_sem, *] : Holds2 w2 (w.heap.size + 1 + 1 + 1) 0 0)
  go_cut [10, 11] (fun p q W => MulRel w ah al bh bl p q W)
  case first =>
    go_region_held3 (fun w' => w'.cell? ⟨w1.heap.size, 0, none⟩ = some (.int .u64 (hh : Int)) ∧ w'.cell? ⟨w1.heap.size, 1, none⟩ = some (.int .u64 (hl : Int)) ∧ w'.cell? ⟨w2.heap.size, 0, none⟩ = some (.int .u64 (lh : Int)) ∧ w'.cell? ⟨w2.heap.size, 1, none⟩ = some (.int .u64 (ll : Int))) (simp [go_sem, *])
      (first
        | (go_at_call 59; refine (of_any c _).mono ?_; rintro e w' ⟨rfl, o1, rfl⟩)
        | (go_at_call 101; refine (add2_any o hh hl 0 0 c lh ll q1.1 q1.2.1 q1.2.2 q2 _).mono ?_; rintro e w3 ⟨h, l, h', l', k, S, rfl, hb3⟩; have R5 := Lib.hid (Holds2.below (by repeat' (first | (with_reducible exact Q5.out) | (with_reducible refine Holds2.alloc ?_ _) | (with_reducible refine Holds2.drew ?_))) hb3 : Holds2 w3 (w.heap.size + 1 + 1) 0 0); have R6 := Lib.hid (Holds2.below (by repeat' (first | (with_reducible exact Q6.out) | (with_reducible refine Holds2.alloc ?_ _) | (with_reducible refine Holds2.drew ?_))) hb3 : Holds2 w3 (w.heap.size + 1 + 1 + 1) 0 0); obtain ⟨hc3, hf3⟩ := bcell hb3; have Hb3 : Below w.heap.size w w3 := bstep (by go_grown) hb3; obtain ⟨v0, v1, v2, v3, v4, v5, v6, v7, v8, v9, v10, v11⟩ := lt8 (d := w3.heap.size) (c := w2.heap.size) (by have := hb3.size; simp at this; omega) y0 x3; have sz := hb3.size; simp only [World.size_alloc, World.size_drew] at sz; first | obtain ⟨⟨u1, u2, u3⟩, ⟨u4, u5, u6⟩⟩ := up4 sz | obtain ⟨⟨u1, u2, u3⟩, ⟨u4, u5, u6⟩⟩ := up3 sz | obtain ⟨⟨u1, u2, u3⟩, ⟨u4, u5, u6⟩⟩ := up2 sz))
    all_goals
      go_wp2_with fail
      go_meet
      case rel =>
        refine ⟨_, _, h, l, h', l', rfl, rfl, ?_, ?_, ?_, ?_, ?_, ?_, prodF_mk ha hb F G S, ?_⟩
        · omega
        · omega
        · clear hc hf hc2 hf2 hc3 hf3 R5 R6 Q5 Q6 F G S
          repeat' (first | ((with_reducible refine Holds2.new2 ?_); simp; done) | (with_reducible refine Holds2.put (a := 0) (b := 0) ?_) | (with_reducible refine Holds2.alloc ?_ _) | (with_reducible refine Holds2.far (Holds2.far ?_ ?_ _) ?_ _) | ((with_reducible refine Holds2.below ?_ hb3); simp [Holds2, go_sem]; done) | (show _ ≠ _; (try dsimp only); omega))
        · clear hc hf hc2 hf2 hc3 hf3 R5 R6 Q5 Q6 F G S
          repeat' (first | ((with_reducible refine Holds2.new2 ?_); simp; done) | (with_reducible refine Holds2.put (a := 0) (b := 0) ?_) | (with_reducible refine Holds2.alloc ?_ _) | (with_reducible refine Holds2.far (Holds2.far ?_ ?_ _) ?_ _) | ((with_reducible refine Holds2.below ?_ hb3); simp [Holds2, go_sem]; done) | (show _ ≠ _; (try dsimp only); omega))
        · repeat' (first | (with_reducible exact (R5.out)) | (with_reducible refine Holds2.alloc ?_ _) | (with_reducible refine Holds2.drew ?_) | (with_reducible refine Holds2.far ?_ ?_ _) | (show _ ≠ _; (try dsimp only); omega))
        · repeat' (first | (with_reducible exact (R6.out)) | (with_reducible refine Holds2.alloc ?_ _) | (with_reducible refine Holds2.drew ?_) | (with_reducible refine Holds2.far ?_ ?_ _) | (show _ ≠ _; (try dsimp only); omega))
        · clear hc hf hc2 hf2 hc3 hf3
          go_grown
  case rest =>
    clear hc hf hc2 hf2
    obtain ⟨g, g', h, l, h', l', rfl, rfl, k1, k2, A1, A2, A3, A4, PF, HB⟩ := hcut
    obtain ⟨a1, a2, a3, a4, a5⟩ := A1
    obtain ⟨b1, b2, b3, b4, b5⟩ := A2
    obtain ⟨c1, c2, c3, c4, c5⟩ := A3
    obtain ⟨d1, d2, d3, d4, d5⟩ := A4
    obtain ⟨n1, n2, n3, n4⟩ : g ≠ w.heap.size + 1 + 1 ∧ g ≠ w.heap.size + 1 + 1 + 1 ∧ g' ≠ w.heap.size + 1 + 1 ∧ g' ≠ w.heap.size + 1 + 1 + 1 := by omega
    go_wp2
    go_region
    all_goals
      go_wp2
      refine bodyPost_ret (v := .tuple #[U h l, U h' l']) (by simp [results, Tryd.results76, go_sem, *]) rfl ⟨_, _, _, _, PF, rfl, ?_⟩
      clear a1 a2 a3 a4 a5 b1 b2 b3 b4 b5 c1 c2 c3 c4 c5 d1 d2 d3 d4 d5
      go_grown
end Go.Proofs.YtncpdoeikebomaaDoor

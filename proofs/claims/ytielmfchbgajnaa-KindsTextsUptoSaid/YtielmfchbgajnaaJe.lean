/-
  Types held against one another: hold of lists and ranges, and of two alike that have nothing in them.
-/
import Derived.Test.YtielmfchbgajnaaJd
namespace Go.Proofs.Ytielmfchbgajnaa
open Go.RowKit

/-- A verdict's box that is still empty. -/
def Fresh (W : World) (g : Nat) : Prop :=
  W.cell? ⟨g, 0, none⟩ = some (.bool false) ∧ W.cell? ⟨g, 1, none⟩ = some (.bool false) ∧ W.cell? ⟨g, 2, none⟩ = some (.int .i64 0) ∧ W.cell? ⟨g, 3, none⟩ = some (.slice none 0 0) ∧ W.cell? ⟨g, 4, none⟩ = some (.slice none 0 0) ∧ ∀ i, W.frozen? ⟨g, i, none⟩ = false
theorem Fresh.on {W W' : World} {g : Nat} (h : Fresh W g) (hb : Below W.heap.size W W') : Fresh W' g :=
  ⟨cell_below h.1 hb, cell_below h.2.1 hb, cell_below h.2.2.1 hb, cell_below h.2.2.2.1 hb, cell_below h.2.2.2.2.1 hb, fun i => (hb.frozen (p := ⟨g, i, none⟩) (cell_lt h.1)).trans (h.2.2.2.2.2 i)⟩
theorem Fresh.start {w : World} {x y : Obj} {n : Nat} : Fresh (((w.alloc x).alloc y).alloc (.cells #[.bool false, .bool false, .int .i64 0, .slice none 0 0, .slice none 0 0] n)) (w.heap.size + 1 + 1) := by
  refine ⟨?_, ?_, ?_, ?_, ?_, ?_⟩ <;> simp [go_sem]
set_option maxRecDepth 100000 in
theorem hold_same (t u : T) (S : Nat → Prop) (w : World) (k : Int) (a : Option Addr) (n c : Nat) (b : Option Addr) (m d : Nat) (a' : Option Addr) (n' c' : Nat) (b' : Option Addr) (m' d' : Nat) (_h : Lies S w (TV k a n c b m d) t) (h' : Lies S w (TV k a' n' c' b' m' d') u)
    (h0 : k ≠ 10) (h1 : k ≠ 11) (h2 : k ≠ 12) (h3 : k ≠ 13) :
    Calls Try.prog 34 #[TV k a n c b m d, TV k a' n' c' b' m' d'] w (RetV (Sn S w) ⟨true, true, u⟩ w) := by
  have H2 := Lib.hid h'
  have f0 : (k == 10) = false := beq_eq_false_iff_ne.2 h0
  have f1 : (k == 11) = false := beq_eq_false_iff_ne.2 h1
  have f2 : (k == 12) = false := beq_eq_false_iff_ne.2 h2
  have f3 : (k == 13) = false := beq_eq_false_iff_ne.2 h3
  clear _h h' h0 h1 h2 h3
  go_enter Try.func34, Try.ntmps34
  go_wp2
  exact bodyPost_ret (v := VV true true k a' n' c' b' m' d') (by simp [results, Try.results34, go_sem]) rfl ⟨k, a', n', c', b', m', d', rfl, (H2.out.on (by go_grown)).sn, by go_grown⟩

/-- The two arguments' boxes. -/
def Two (W : World) (g : Nat) (k : Int) (a : Option Addr) (n c : Nat) (b : Option Addr) (m d : Nat) (k' : Int) (a' : Option Addr) (n' c' : Nat) (b' : Option Addr) (m' d' : Nat) : Prop :=
  W.cell? ⟨g, 0, none⟩ = some (.int .i64 k) ∧ W.cell? ⟨g, 1, none⟩ = some (.slice a n c) ∧ W.cell? ⟨g, 2, none⟩ = some (.slice b m d) ∧ W.cell? ⟨g + 1, 0, none⟩ = some (.int .i64 k') ∧ W.cell? ⟨g + 1, 1, none⟩ = some (.slice a' n' c') ∧ W.cell? ⟨g + 1, 2, none⟩ = some (.slice b' m' d')
/-- A verdict's box. -/
def Ver (W : World) (g : Nat) (p q : Bool) (k : Int) (a : Option Addr) (n c : Nat) (b : Option Addr) (m d : Nat) : Prop :=
  W.cell? ⟨g, 0, none⟩ = some (.bool p) ∧ W.cell? ⟨g, 1, none⟩ = some (.bool q) ∧ W.cell? ⟨g, 2, none⟩ = some (.int .i64 k) ∧ W.cell? ⟨g, 3, none⟩ = some (.slice a n c) ∧ W.cell? ⟨g, 4, none⟩ = some (.slice b m d)
theorem Two.on {W W' : World} {g : Nat} {k : Int} {a : Option Addr} {n c : Nat} {b : Option Addr} {m d : Nat} {k' : Int} {a' : Option Addr} {n' c' : Nat} {b' : Option Addr} {m' d' : Nat} (h : Two W g k a n c b m d k' a' n' c' b' m' d') (hb : Below W.heap.size W W') : Two W' g k a n c b m d k' a' n' c' b' m' d' := keep33 h hb
theorem Ver.on {W W' : World} {g : Nat} {p q : Bool} {k : Int} {a : Option Addr} {n c : Nat} {b : Option Addr} {m d : Nat} (h : Ver W g p q k a n c b m d) (hb : Below W.heap.size W W') : Ver W' g p q k a n c b m d :=
  ⟨cell_below h.1 hb, cell_below h.2.1 hb, cell_below h.2.2.1 hb, cell_below h.2.2.2.1 hb, cell_below h.2.2.2.2 hb⟩

set_option linter.unusedSimpArgs false in
set_option linter.unusedVariables false in
set_option maxRecDepth 100000 in
set_option maxHeartbeats 1000000 in
theorem hold_list10 (t u : T) (HW : HoldsFor t.within) (S : Nat → Prop) (w : World) (a : Option Addr) (n c : Nat) (b : Option Addr) (m d : Nat) (a' : Option Addr) (n' c' : Nat) (b' : Option Addr) (m' d' : Nat) (h : Lies S w (TV 10 a n c b m d) t) (h' : Lies S w (TV 10 a' n' c' b' m' d') u) :
    Calls Try.prog 34 #[TV 10 a n c b m d, TV 10 a' n' c' b' m' d'] w (RetV (Sn S w) (judgeV t u (vd t.within u.within).there (vd t.within u.within).back (.mk 10 1 (fun _ => (vd t.within u.within).join) 0 (fun _ => ByteArray.empty))) w) := by
  have H1 := Lib.hid h.sb
  have H2 := Lib.hid h'.sb
  unfold HoldsFor at HW
  have HI := Lib.hid HW
  clear h h' HW
  go_enter Try.func34, Try.ntmps34
  go_wp2
  go_cut [5] (fun p W => ∃ (g : Nat) (k3 : Int) (a3 : Option Addr) (n3 c3 : Nat) (b3 : Option Addr) (m3 d3 : Nat), p = .pointer (some ⟨g, 0, none⟩) ∧ w.heap.size + 1 + 1 < g ∧ Ver W g (vd t.within u.within).there (vd t.within u.within).back k3 a3 n3 c3 b3 m3 d3 ∧ Two W w.heap.size 10 a n c b m d 10 a' n' c' b' m' d' ∧ Lies (Sx S w (w.heap.size + 1 + 1 + 1)) W (TV k3 a3 n3 c3 b3 m3 d3) (vd t.within u.within).join ∧ Fresh W (w.heap.size + 1 + 1) ∧ Below w.heap.size w W)
  case first =>
    go_region_held3 (fun w' => w'.cell? ⟨w.heap.size, 0, none⟩ = some (.int .i64 10) ∧ w'.cell? ⟨w.heap.size, 1, none⟩ = some (.slice a n c) ∧ w'.cell? ⟨w.heap.size, 2, none⟩ = some (.slice b m d) ∧ w'.cell? ⟨w.heap.size + 1, 0, none⟩ = some (.int .i64 10) ∧ w'.cell? ⟨w.heap.size + 1, 1, none⟩ = some (.slice a' n' c') ∧ w'.cell? ⟨w.heap.size + 1, 2, none⟩ = some (.slice b' m' d'))
      (first | (simp [go_sem]; done) | (repeat' (first | (with_reducible assumption) | (with_reducible refine keep33 ?_ (by with_reducible assumption)) | (with_reducible refine keep33d ?_) | (with_reducible refine keep33n (by with_reducible assumption) _ ?_ ?_) | (with_reducible refine keep33a ?_ _) | (with_reducible refine keep33s ?_ ?_ ?_ _) | (show _ ≠ _; (try dsimp only); omega) | (show _ < _; (try dsimp only); (try simp only [World.size_alloc, World.size_drew]); omega))))
      (first
        | (go_at_call 50; (with_reducible refine (within_walk 10 a n c b m d t _ _ (H1.out.on ?_)).mono ?_); (· (repeat' (first | (with_reducible assumption) | (with_reducible exact Below.refl _ _) | (with_reducible refine Below.drew ?_) | (with_reducible refine ballD1 ?_ _) | (with_reducible refine Below.set1 ?_ _ _ ?_ _) | (show _ ≤ _; (try simp only [World.size_alloc, World.size_drew]); omega) | (refine bstep ?_ hb2)))); rintro e w1 ⟨k1, a1, n1, c1, b1, m1, d1, rfl, L1, hb1⟩; have sz1 := hb1.size; (try simp only [World.size_alloc, World.size_drew] at sz1); obtain ⟨hc1, hf1⟩ := bcell (hb1); have z1_0 : w.heap.size + 1 + 1 < w1.heap.size := (by omega); (try (refine (fun (y1_0 : w.heap.size + 1 + 1 + 1 < w1.heap.size) => ?_) ?_; rotate_left; (· omega))))
        | (go_at_call 50; (with_reducible refine (within_walk 10 a' n' c' b' m' d' u _ _ (H2.out.on ?_)).mono ?_); (· (repeat' (first | (with_reducible assumption) | (with_reducible exact Below.refl _ _) | (with_reducible refine Below.drew ?_) | (with_reducible refine ballD1 ?_ _) | (with_reducible refine Below.set1 ?_ _ _ ?_ _) | (show _ ≤ _; (try simp only [World.size_alloc, World.size_drew]); omega) | (refine bstep ?_ hb1)))); rintro e w2 ⟨k2, a2, n2, c2, b2, m2, d2, rfl, L2, hb2⟩; have sz2 := hb2.size; (try simp only [World.size_alloc, World.size_drew] at sz2); obtain ⟨hc2, hf2⟩ := bcell (hb2); have z2_0 : w.heap.size + 1 + 1 < w2.heap.size := (by omega); (try (refine (fun (y2_0 : w.heap.size + 1 + 1 + 1 < w2.heap.size) => ?_) ?_; rotate_left; (· omega))); (try (refine (fun (y2_1 : w1.heap.size < w2.heap.size) => ?_) ?_; rotate_left; (· omega))))
        | (go_at_call 34; (with_reducible refine (HI.out _ _ _ _ _ _ _ _ _ _ _ _ _ _ _ _ _ (Lies.on L1 ?_) (Lies.on L2 ?_)).mono ?_); (· (repeat' (first | (with_reducible assumption) | (with_reducible exact Below.refl _ _) | (with_reducible refine Below.drew ?_) | (with_reducible refine ballD1 ?_ _) | (with_reducible refine Below.set1 ?_ _ _ ?_ _) | (show _ ≤ _; (try simp only [World.size_alloc, World.size_drew]); omega) | (refine bstep ?_ hb2)))); (· (repeat' (first | (with_reducible assumption) | (with_reducible exact Below.refl _ _) | (with_reducible refine Below.drew ?_) | (with_reducible refine ballD1 ?_ _) | (with_reducible refine Below.set1 ?_ _ _ ?_ _) | (show _ ≤ _; (try simp only [World.size_alloc, World.size_drew]); omega) | (refine bstep ?_ hb2)))); rintro e w3 ⟨k3, a3, n3, c3, b3, m3, d3, rfl, L3, hb3⟩; have sz3 := hb3.size; (try simp only [World.size_alloc, World.size_drew] at sz3); obtain ⟨hc3, hf3⟩ := bcell (hb3); have z3_0 : w.heap.size + 1 + 1 < w3.heap.size := (by omega); (try (refine (fun (y3_0 : w.heap.size + 1 + 1 + 1 < w3.heap.size) => ?_) ?_; rotate_left; (· omega))); (try (refine (fun (y3_1 : w1.heap.size < w3.heap.size) => ?_) ?_; rotate_left; (· omega))); (try (refine (fun (y3_2 : w2.heap.size < w3.heap.size) => ?_) ?_; rotate_left; (· omega)))))
    all_goals
      go_wp2_with fail
      go_meet
      case rel =>
        refine ⟨_, k3, a3, n3, c3, b3, m3, d3, rfl, by omega, ?_, by assumption, ?_, ?_, ?_⟩
        · refine ⟨?_, ?_, ?_, ?_, ?_⟩ <;> simp [go_sem, *]
        · apply Lies.grow (w := w) (N := w.heap.size + 1 + 1 + 1)
          · repeat' (first | (with_reducible exact L3) | (with_reducible refine Lies.alloc ?_ _) | (with_reducible refine Lies.set ?_ _ _ _ ?_))
            all_goals (apply not_sn <;> (try simp only [World.size_alloc]) <;> omega)
          · (try simp only [World.size_alloc, World.size_drew]); omega
        · refine Fresh.on (Fresh.start (w := w) (x := .cells #[.int .i64 10, .slice a n c, .slice b m d] 26) (y := .cells #[.int .i64 10, .slice a' n' c', .slice b' m' d'] 26) (n := 46)) ?_
          (repeat' (first | (with_reducible assumption) | (with_reducible exact Below.refl _ _) | (with_reducible refine Below.drew ?_) | (with_reducible refine ballD1 ?_ _) | (with_reducible refine Below.set1 ?_ _ _ ?_ _) | (show _ ≤ _; (try simp only [World.size_alloc, World.size_drew]); omega) | (refine bstep ?_ hb3) | (refine bstep ?_ hb2) | (refine bstep ?_ hb1)))
        · (repeat' (first | (with_reducible assumption) | (with_reducible exact Below.refl _ _) | (with_reducible refine Below.drew ?_) | (with_reducible refine ballD1 ?_ _) | (with_reducible refine Below.set1 ?_ _ _ ?_ _) | (show _ ≤ _; (try simp only [World.size_alloc, World.size_drew]); omega) | (refine bstep ?_ hb3) | (refine bstep ?_ hb2) | (refine bstep ?_ hb1)))
  case rest =>
    obtain ⟨g, k3, a3, n3, c3, b3, m3, d3, rfl, hg, ⟨x0, x1, x2, x3, x4⟩, ⟨y0, y1, y2, y3, y4, y5⟩, L3, FR, HB⟩ := hcut
    have hgs := cell_lt x0
    obtain ⟨q0, q1, q2, q3, q4, q5⟩ := id FR
    have qs := cell_lt q0
    have IK : I64 10 := ⟨by decide, by decide⟩
    go_wp2_with fail
    go_region_held3 (fun w' => w'.cell? ⟨w.heap.size, 0, none⟩ = some (.int .i64 10) ∧ w'.cell? ⟨w.heap.size, 1, none⟩ = some (.slice a n c) ∧ w'.cell? ⟨w.heap.size, 2, none⟩ = some (.slice b m d) ∧ w'.cell? ⟨w.heap.size + 1, 0, none⟩ = some (.int .i64 10) ∧ w'.cell? ⟨w.heap.size + 1, 1, none⟩ = some (.slice a' n' c') ∧ w'.cell? ⟨w.heap.size + 1, 2, none⟩ = some (.slice b' m' d') ∧ w'.cell? ⟨g, 0, none⟩ = some (.bool (vd t.within u.within).there) ∧ w'.cell? ⟨g, 1, none⟩ = some (.bool (vd t.within u.within).back) ∧ w'.cell? ⟨g, 2, none⟩ = some (.int .i64 k3) ∧ w'.cell? ⟨g, 3, none⟩ = some (.slice a3 n3 c3) ∧ w'.cell? ⟨g, 4, none⟩ = some (.slice b3 m3 d3))
      (first | (simp [go_sem]; done) | (repeat' (first | (with_reducible assumption) | (with_reducible exact ⟨y0, y1, y2, y3, y4, y5, x0, x1, x2, x3, x4⟩) | (with_reducible refine keep335 ?_ (by with_reducible assumption)) | (with_reducible refine keep335d ?_) | (with_reducible refine keep335n (by with_reducible assumption) _ ?_ ?_ ?_) | (with_reducible refine keep335a ?_ _) | (with_reducible refine keep335s ?_ ?_ ?_ ?_ _) | (show _ ≠ _; (try dsimp only); omega) | (show _ < _; (try dsimp only); (try simp only [World.size_alloc, World.size_drew]); omega))))
      (first
        | (go_at_call 43; (with_reducible refine (around_walk 10 IK k3 a3 n3 c3 b3 m3 d3 _ _ _ (L3.on ?_)).mono ?_); (· (repeat' (first | (with_reducible assumption) | (with_reducible exact Below.refl _ _) | (with_reducible refine Below.drew ?_) | (with_reducible refine ballD1 ?_ _) | (with_reducible refine Below.set1 ?_ _ _ ?_ _) | (show _ ≤ _; (try simp only [World.size_alloc, World.size_drew]); omega)))); rintro e w5 ⟨k5, a5, n5, c5, b5, m5, d5, rfl, L5, hb5⟩; have sz5 := hb5.size; (try simp only [World.size_alloc, World.size_drew] at sz5); obtain ⟨hc5, hf5⟩ := bcell (bundrew hb5); have z5_0 : w.heap.size + 1 + 1 < w5.heap.size := (by omega); have z5_1 : g < w5.heap.size := (by omega))
        | (go_at_call 48; (with_reducible refine (judge_any (S := Sx S w (w.heap.size + 1 + 1 + 1)) (vd t.within u.within).there (vd t.within u.within).back (Lies.sx (H1.out.on ?_)) (Lies.sx (H2.out.on ?_)) (L5.grow' ?_)).mono ?_); (· (repeat' (first | (with_reducible assumption) | (with_reducible exact Below.refl _ _) | (with_reducible refine Below.drew ?_) | (with_reducible refine ballD1 ?_ _) | (with_reducible refine Below.set1 ?_ _ _ ?_ _) | (show _ ≤ _; (try simp only [World.size_alloc, World.size_drew]); omega) | (refine bstep ?_ hb5) | (refine bstep ?_ HB)))); (· (repeat' (first | (with_reducible assumption) | (with_reducible exact Below.refl _ _) | (with_reducible refine Below.drew ?_) | (with_reducible refine ballD1 ?_ _) | (with_reducible refine Below.set1 ?_ _ _ ?_ _) | (show _ ≤ _; (try simp only [World.size_alloc, World.size_drew]); omega) | (refine bstep ?_ hb5) | (refine bstep ?_ HB)))); (· (try simp only [World.size_alloc, World.size_drew]); omega); rintro e w6 ⟨k6, a6, n6, c6, b6, m6, d6, rfl, L6, hb6⟩; have sz6 := hb6.size; (try simp only [World.size_alloc, World.size_drew] at sz6); obtain ⟨hc6, hf6⟩ := bcell (hb6); have z6_0 : w.heap.size + 1 + 1 < w6.heap.size := (by omega); have z6_1 : g < w6.heap.size := (by omega)))
    go_wp2
    have B6 := bstep (bstep (Below.drew HB) hb5) hb6
    refine bodyPost_ret (v := VV _ _ k6 a6 n6 c6 b6 m6 d6) (by simp [results, Try.results34, go_sem, *]) rfl ⟨k6, a6, n6, c6, b6, m6, d6, rfl, ?_, ?_⟩
    · refine Lies.out (N := w.heap.size + 1 + 1 + 1) ?_ (by omega)
      repeat' (first | (with_reducible exact L6) | (with_reducible refine Lies.set ?_ _ _ _ ?_))
      all_goals (apply not_sx <;> omega)
    · (repeat' (first | (with_reducible assumption) | (with_reducible exact Below.refl _ _) | (with_reducible refine Below.drew ?_) | (with_reducible refine ballD1 ?_ _) | (with_reducible refine Below.set1 ?_ _ _ ?_ _) | (show _ ≤ _; (try simp only [World.size_alloc, World.size_drew]); omega) | (with_reducible exact B6)))
set_option linter.unusedSimpArgs false in
set_option linter.unusedVariables false in
set_option maxRecDepth 100000 in
set_option maxHeartbeats 1000000 in
theorem hold_list12 (t u : T) (HW : HoldsFor t.within) (S : Nat → Prop) (w : World) (a : Option Addr) (n c : Nat) (b : Option Addr) (m d : Nat) (a' : Option Addr) (n' c' : Nat) (b' : Option Addr) (m' d' : Nat) (h : Lies S w (TV 12 a n c b m d) t) (h' : Lies S w (TV 12 a' n' c' b' m' d') u) :
    Calls Try.prog 34 #[TV 12 a n c b m d, TV 12 a' n' c' b' m' d'] w (RetV (Sn S w) (judgeV t u (vd t.within u.within).there (vd t.within u.within).back (.mk 12 1 (fun _ => (vd t.within u.within).join) 0 (fun _ => ByteArray.empty))) w) := by
  have H1 := Lib.hid h.sb
  have H2 := Lib.hid h'.sb
  unfold HoldsFor at HW
  have HI := Lib.hid HW
  clear h h' HW
  go_enter Try.func34, Try.ntmps34
  go_wp2
  go_cut [5] (fun p W => ∃ (g : Nat) (k3 : Int) (a3 : Option Addr) (n3 c3 : Nat) (b3 : Option Addr) (m3 d3 : Nat), p = .pointer (some ⟨g, 0, none⟩) ∧ w.heap.size + 1 + 1 < g ∧ Ver W g (vd t.within u.within).there (vd t.within u.within).back k3 a3 n3 c3 b3 m3 d3 ∧ Two W w.heap.size 12 a n c b m d 12 a' n' c' b' m' d' ∧ Lies (Sx S w (w.heap.size + 1 + 1 + 1)) W (TV k3 a3 n3 c3 b3 m3 d3) (vd t.within u.within).join ∧ Fresh W (w.heap.size + 1 + 1) ∧ Below w.heap.size w W)
  case first =>
    go_region_held3 (fun w' => w'.cell? ⟨w.heap.size, 0, none⟩ = some (.int .i64 12) ∧ w'.cell? ⟨w.heap.size, 1, none⟩ = some (.slice a n c) ∧ w'.cell? ⟨w.heap.size, 2, none⟩ = some (.slice b m d) ∧ w'.cell? ⟨w.heap.size + 1, 0, none⟩ = some (.int .i64 12) ∧ w'.cell? ⟨w.heap.size + 1, 1, none⟩ = some (.slice a' n' c') ∧ w'.cell? ⟨w.heap.size + 1, 2, none⟩ = some (.slice b' m' d'))
      (first | (simp [go_sem]; done) | (repeat' (first | (with_reducible assumption) | (with_reducible refine keep33 ?_ (by with_reducible assumption)) | (with_reducible refine keep33d ?_) | (with_reducible refine keep33n (by with_reducible assumption) _ ?_ ?_) | (with_reducible refine keep33a ?_ _) | (with_reducible refine keep33s ?_ ?_ ?_ _) | (show _ ≠ _; (try dsimp only); omega) | (show _ < _; (try dsimp only); (try simp only [World.size_alloc, World.size_drew]); omega))))
      (first
        | (go_at_call 50; (with_reducible refine (within_walk 12 a n c b m d t _ _ (H1.out.on ?_)).mono ?_); (· (repeat' (first | (with_reducible assumption) | (with_reducible exact Below.refl _ _) | (with_reducible refine Below.drew ?_) | (with_reducible refine ballD1 ?_ _) | (with_reducible refine Below.set1 ?_ _ _ ?_ _) | (show _ ≤ _; (try simp only [World.size_alloc, World.size_drew]); omega) | (refine bstep ?_ hb2)))); rintro e w1 ⟨k1, a1, n1, c1, b1, m1, d1, rfl, L1, hb1⟩; have sz1 := hb1.size; (try simp only [World.size_alloc, World.size_drew] at sz1); obtain ⟨hc1, hf1⟩ := bcell (hb1); have z1_0 : w.heap.size + 1 + 1 < w1.heap.size := (by omega); (try (refine (fun (y1_0 : w.heap.size + 1 + 1 + 1 < w1.heap.size) => ?_) ?_; rotate_left; (· omega))))
        | (go_at_call 50; (with_reducible refine (within_walk 12 a' n' c' b' m' d' u _ _ (H2.out.on ?_)).mono ?_); (· (repeat' (first | (with_reducible assumption) | (with_reducible exact Below.refl _ _) | (with_reducible refine Below.drew ?_) | (with_reducible refine ballD1 ?_ _) | (with_reducible refine Below.set1 ?_ _ _ ?_ _) | (show _ ≤ _; (try simp only [World.size_alloc, World.size_drew]); omega) | (refine bstep ?_ hb1)))); rintro e w2 ⟨k2, a2, n2, c2, b2, m2, d2, rfl, L2, hb2⟩; have sz2 := hb2.size; (try simp only [World.size_alloc, World.size_drew] at sz2); obtain ⟨hc2, hf2⟩ := bcell (hb2); have z2_0 : w.heap.size + 1 + 1 < w2.heap.size := (by omega); (try (refine (fun (y2_0 : w.heap.size + 1 + 1 + 1 < w2.heap.size) => ?_) ?_; rotate_left; (· omega))); (try (refine (fun (y2_1 : w1.heap.size < w2.heap.size) => ?_) ?_; rotate_left; (· omega))))
        | (go_at_call 34; (with_reducible refine (HI.out _ _ _ _ _ _ _ _ _ _ _ _ _ _ _ _ _ (Lies.on L1 ?_) (Lies.on L2 ?_)).mono ?_); (· (repeat' (first | (with_reducible assumption) | (with_reducible exact Below.refl _ _) | (with_reducible refine Below.drew ?_) | (with_reducible refine ballD1 ?_ _) | (with_reducible refine Below.set1 ?_ _ _ ?_ _) | (show _ ≤ _; (try simp only [World.size_alloc, World.size_drew]); omega) | (refine bstep ?_ hb2)))); (· (repeat' (first | (with_reducible assumption) | (with_reducible exact Below.refl _ _) | (with_reducible refine Below.drew ?_) | (with_reducible refine ballD1 ?_ _) | (with_reducible refine Below.set1 ?_ _ _ ?_ _) | (show _ ≤ _; (try simp only [World.size_alloc, World.size_drew]); omega) | (refine bstep ?_ hb2)))); rintro e w3 ⟨k3, a3, n3, c3, b3, m3, d3, rfl, L3, hb3⟩; have sz3 := hb3.size; (try simp only [World.size_alloc, World.size_drew] at sz3); obtain ⟨hc3, hf3⟩ := bcell (hb3); have z3_0 : w.heap.size + 1 + 1 < w3.heap.size := (by omega); (try (refine (fun (y3_0 : w.heap.size + 1 + 1 + 1 < w3.heap.size) => ?_) ?_; rotate_left; (· omega))); (try (refine (fun (y3_1 : w1.heap.size < w3.heap.size) => ?_) ?_; rotate_left; (· omega))); (try (refine (fun (y3_2 : w2.heap.size < w3.heap.size) => ?_) ?_; rotate_left; (· omega)))))
    all_goals
      go_wp2_with fail
      go_meet
      case rel =>
        refine ⟨_, k3, a3, n3, c3, b3, m3, d3, rfl, by omega, ?_, by assumption, ?_, ?_, ?_⟩
        · refine ⟨?_, ?_, ?_, ?_, ?_⟩ <;> simp [go_sem, *]
        · apply Lies.grow (w := w) (N := w.heap.size + 1 + 1 + 1)
          · repeat' (first | (with_reducible exact L3) | (with_reducible refine Lies.alloc ?_ _) | (with_reducible refine Lies.set ?_ _ _ _ ?_))
            all_goals (apply not_sn <;> (try simp only [World.size_alloc]) <;> omega)
          · (try simp only [World.size_alloc, World.size_drew]); omega
        · refine Fresh.on (Fresh.start (w := w) (x := .cells #[.int .i64 12, .slice a n c, .slice b m d] 26) (y := .cells #[.int .i64 12, .slice a' n' c', .slice b' m' d'] 26) (n := 46)) ?_
          (repeat' (first | (with_reducible assumption) | (with_reducible exact Below.refl _ _) | (with_reducible refine Below.drew ?_) | (with_reducible refine ballD1 ?_ _) | (with_reducible refine Below.set1 ?_ _ _ ?_ _) | (show _ ≤ _; (try simp only [World.size_alloc, World.size_drew]); omega) | (refine bstep ?_ hb3) | (refine bstep ?_ hb2) | (refine bstep ?_ hb1)))
        · (repeat' (first | (with_reducible assumption) | (with_reducible exact Below.refl _ _) | (with_reducible refine Below.drew ?_) | (with_reducible refine ballD1 ?_ _) | (with_reducible refine Below.set1 ?_ _ _ ?_ _) | (show _ ≤ _; (try simp only [World.size_alloc, World.size_drew]); omega) | (refine bstep ?_ hb3) | (refine bstep ?_ hb2) | (refine bstep ?_ hb1)))
  case rest =>
    obtain ⟨g, k3, a3, n3, c3, b3, m3, d3, rfl, hg, ⟨x0, x1, x2, x3, x4⟩, ⟨y0, y1, y2, y3, y4, y5⟩, L3, FR, HB⟩ := hcut
    have hgs := cell_lt x0
    obtain ⟨q0, q1, q2, q3, q4, q5⟩ := id FR
    have qs := cell_lt q0
    have IK : I64 12 := ⟨by decide, by decide⟩
    go_wp2_with fail
    go_region_held3 (fun w' => w'.cell? ⟨w.heap.size, 0, none⟩ = some (.int .i64 12) ∧ w'.cell? ⟨w.heap.size, 1, none⟩ = some (.slice a n c) ∧ w'.cell? ⟨w.heap.size, 2, none⟩ = some (.slice b m d) ∧ w'.cell? ⟨w.heap.size + 1, 0, none⟩ = some (.int .i64 12) ∧ w'.cell? ⟨w.heap.size + 1, 1, none⟩ = some (.slice a' n' c') ∧ w'.cell? ⟨w.heap.size + 1, 2, none⟩ = some (.slice b' m' d') ∧ w'.cell? ⟨g, 0, none⟩ = some (.bool (vd t.within u.within).there) ∧ w'.cell? ⟨g, 1, none⟩ = some (.bool (vd t.within u.within).back) ∧ w'.cell? ⟨g, 2, none⟩ = some (.int .i64 k3) ∧ w'.cell? ⟨g, 3, none⟩ = some (.slice a3 n3 c3) ∧ w'.cell? ⟨g, 4, none⟩ = some (.slice b3 m3 d3))
      (first | (simp [go_sem]; done) | (repeat' (first | (with_reducible assumption) | (with_reducible exact ⟨y0, y1, y2, y3, y4, y5, x0, x1, x2, x3, x4⟩) | (with_reducible refine keep335 ?_ (by with_reducible assumption)) | (with_reducible refine keep335d ?_) | (with_reducible refine keep335n (by with_reducible assumption) _ ?_ ?_ ?_) | (with_reducible refine keep335a ?_ _) | (with_reducible refine keep335s ?_ ?_ ?_ ?_ _) | (show _ ≠ _; (try dsimp only); omega) | (show _ < _; (try dsimp only); (try simp only [World.size_alloc, World.size_drew]); omega))))
      (first
        | (go_at_call 43; (with_reducible refine (around_walk 12 IK k3 a3 n3 c3 b3 m3 d3 _ _ _ (L3.on ?_)).mono ?_); (· (repeat' (first | (with_reducible assumption) | (with_reducible exact Below.refl _ _) | (with_reducible refine Below.drew ?_) | (with_reducible refine ballD1 ?_ _) | (with_reducible refine Below.set1 ?_ _ _ ?_ _) | (show _ ≤ _; (try simp only [World.size_alloc, World.size_drew]); omega)))); rintro e w5 ⟨k5, a5, n5, c5, b5, m5, d5, rfl, L5, hb5⟩; have sz5 := hb5.size; (try simp only [World.size_alloc, World.size_drew] at sz5); obtain ⟨hc5, hf5⟩ := bcell (bundrew hb5); have z5_0 : w.heap.size + 1 + 1 < w5.heap.size := (by omega); have z5_1 : g < w5.heap.size := (by omega))
        | (go_at_call 48; (with_reducible refine (judge_any (S := Sx S w (w.heap.size + 1 + 1 + 1)) (vd t.within u.within).there (vd t.within u.within).back (Lies.sx (H1.out.on ?_)) (Lies.sx (H2.out.on ?_)) (L5.grow' ?_)).mono ?_); (· (repeat' (first | (with_reducible assumption) | (with_reducible exact Below.refl _ _) | (with_reducible refine Below.drew ?_) | (with_reducible refine ballD1 ?_ _) | (with_reducible refine Below.set1 ?_ _ _ ?_ _) | (show _ ≤ _; (try simp only [World.size_alloc, World.size_drew]); omega) | (refine bstep ?_ hb5) | (refine bstep ?_ HB)))); (· (repeat' (first | (with_reducible assumption) | (with_reducible exact Below.refl _ _) | (with_reducible refine Below.drew ?_) | (with_reducible refine ballD1 ?_ _) | (with_reducible refine Below.set1 ?_ _ _ ?_ _) | (show _ ≤ _; (try simp only [World.size_alloc, World.size_drew]); omega) | (refine bstep ?_ hb5) | (refine bstep ?_ HB)))); (· (try simp only [World.size_alloc, World.size_drew]); omega); rintro e w6 ⟨k6, a6, n6, c6, b6, m6, d6, rfl, L6, hb6⟩; have sz6 := hb6.size; (try simp only [World.size_alloc, World.size_drew] at sz6); obtain ⟨hc6, hf6⟩ := bcell (hb6); have z6_0 : w.heap.size + 1 + 1 < w6.heap.size := (by omega); have z6_1 : g < w6.heap.size := (by omega)))
    go_wp2
    have B6 := bstep (bstep (Below.drew HB) hb5) hb6
    refine bodyPost_ret (v := VV _ _ k6 a6 n6 c6 b6 m6 d6) (by simp [results, Try.results34, go_sem, *]) rfl ⟨k6, a6, n6, c6, b6, m6, d6, rfl, ?_, ?_⟩
    · refine Lies.out (N := w.heap.size + 1 + 1 + 1) ?_ (by omega)
      repeat' (first | (with_reducible exact L6) | (with_reducible refine Lies.set ?_ _ _ _ ?_))
      all_goals (apply not_sx <;> omega)
    · (repeat' (first | (with_reducible assumption) | (with_reducible exact Below.refl _ _) | (with_reducible refine Below.drew ?_) | (with_reducible refine ballD1 ?_ _) | (with_reducible refine Below.set1 ?_ _ _ ?_ _) | (show _ ≤ _; (try simp only [World.size_alloc, World.size_drew]); omega) | (with_reducible exact B6)))
end Go.Proofs.Ytielmfchbgajnaa

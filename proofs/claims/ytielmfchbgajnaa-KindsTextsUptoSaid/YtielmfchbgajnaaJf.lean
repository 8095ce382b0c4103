/-
  Types held against one another: functions.
-/
import Derived.Test.YtielmfchbgajnaaJe
namespace Go.Proofs.Ytielmfchbgajnaa
open Go.RowKit

/-- What is in a type is held as it is told. -/
def Kids (t : T) : Prop := ∀ i, i < t.n → HoldsFor (t.it i)
theorem Two.start {w : World} {z : Obj} {k : Int} {a : Option Addr} {n c : Nat} {b : Option Addr} {m d : Nat} {k' : Int} {a' : Option Addr} {n' c' : Nat} {b' : Option Addr} {m' d' : Nat} {x y : Nat} : Two (((w.alloc (.cells #[.int .i64 k, .slice a n c, .slice b m d] x)).alloc (.cells #[.int .i64 k', .slice a' n' c', .slice b' m' d'] y)).alloc z) w.heap.size k a n c b m d k' a' n' c' b' m' d' := by
  refine ⟨?_, ?_, ?_, ?_, ?_, ?_⟩ <;> simp [go_sem]

set_option linter.unusedSimpArgs false in
set_option linter.unusedVariables false in
set_option maxRecDepth 100000 in
set_option maxHeartbeats 1000000 in
theorem hold_takes (t u : T) (S : Nat → Prop) (w : World) (k : Int) (a : Option Addr) (n c : Nat) (b : Option Addr) (m d : Nat) (k' : Int) (a' : Option Addr) (n' c' : Nat) (b' : Option Addr) (m' d' : Nat) (h : Lies S w (TV k a n c b m d) t) (h' : Lies S w (TV k' a' n' c' b' m' d') u) (hne : n - 1 ≠ n' - 1) :
    Calls Try.prog 52 #[TV k a n c b m d, TV k' a' n' c' b' m' d'] w (RetV (Sn S w) (judgeV t u false false (T.of 14)) w) := by
  obtain ⟨F1, F2, -, I1, -, -⟩ := h.few
  obtain ⟨F1', F2', -, I1', -, -⟩ := h'.few
  have H1 := Lib.hid h.sb
  have H2 := Lib.hid h'.sb
  have ND : (((n - 1 : Nat) : Int) != ((n' - 1 : Nat) : Int)) = true := by simp; omega
  clear h h' F1 F2 F1' F2' I1 I1'
  obtain ⟨N, hN⟩ : ∃ N, N = n - 1 := ⟨_, rfl⟩
  obtain ⟨N', hN'⟩ : ∃ N, N = n' - 1 := ⟨_, rfl⟩
  rw [← hN, ← hN'] at ND
  have HN := Lib.hid (And.intro hN hN')
  have P1 := Lib.hid (fun (S' : Nat → Prop) W (e : Lies S' W (TV k a n c b m d) t) => hN ▸ parts_walk k a n c b m d t S' W e)
  have P2 := Lib.hid (fun (S' : Nat → Prop) W (e : Lies S' W (TV k' a' n' c' b' m' d') u) => hN' ▸ parts_walk k' a' n' c' b' m' d' u S' W e)
  clear hN hN' hne
  go_enter Try.func52, Try.ntmps52
  go_wp2_with (first
    | (go_at_call 63; (with_reducible refine (P1.out _ _ (H1.out.on ?_)).mono ?_); (· (repeat' (first | (with_reducible assumption) | (with_reducible exact Below.refl _ _) | (with_reducible refine Below.drew ?_) | (with_reducible refine ballD1 ?_ _) | (with_reducible refine Below.set1 ?_ _ _ ?_ _) | (show _ ≤ _; (try simp only [World.size_alloc, World.size_drew]); omega)))); rintro e w1 ⟨a0, c0, k1, a1, n1, c1, b1, m1, d1, rfl, E1, L1, hb1⟩; have sz1 := hb1.size; (try simp only [World.size_alloc, World.size_drew] at sz1); obtain ⟨hc1, hf1⟩ := bcell (hb1); have z1_0 : w.heap.size < w1.heap.size := (by omega); have z1_1 : w.heap.size + 1 < w1.heap.size := (by omega); have z1_2 : w.heap.size + 1 + 1 < w1.heap.size := (by omega))
    | (go_at_call 63; (with_reducible refine (P2.out _ _ (H2.out.on ?_)).mono ?_); (· (repeat' (first | (with_reducible assumption) | (with_reducible exact Below.refl _ _) | (with_reducible refine Below.drew ?_) | (with_reducible refine ballD1 ?_ _) | (with_reducible refine Below.set1 ?_ _ _ ?_ _) | (show _ ≤ _; (try simp only [World.size_alloc, World.size_drew]); omega) | (refine bstep ?_ hb1)))); rintro e w2 ⟨a0', c0', k2, a2, n2, c2, b2, m2, d2, rfl, E2, L2, hb2⟩; have sz2 := hb2.size; (try simp only [World.size_alloc, World.size_drew] at sz2); obtain ⟨hc2, hf2⟩ := bcell (hb2); have z2_0 : w.heap.size < w2.heap.size := (by omega); have z2_1 : w.heap.size + 1 < w2.heap.size := (by omega); have z2_2 : w.heap.size + 1 + 1 < w2.heap.size := (by omega); have z2_3 : w1.heap.size < w2.heap.size := (by omega)))
  have HB : Below w.heap.size w ((w2.alloc (.cells #[.int .i64 k2, .slice a2 n2 c2, .slice b2 m2 d2] 26))) := (by (repeat' (first | (with_reducible assumption) | (with_reducible exact Below.refl _ _) | (with_reducible refine Below.drew ?_) | (with_reducible refine ballD1 ?_ _) | (with_reducible refine Below.set1 ?_ _ _ ?_ _) | (show _ ≤ _; (try simp only [World.size_alloc, World.size_drew]); omega) | (refine bstep ?_ hb2) | (refine bstep ?_ hb1))))
  have TW : Two ((w2.alloc (.cells #[.int .i64 k2, .slice a2 n2 c2, .slice b2 m2 d2] 26))) w.heap.size k a n c b m d k' a' n' c' b' m' d' := Two.on (Two.start (w := w) (z := .cells #[.bool false, .bool false, .int .i64 0, .slice none 0 0, .slice none 0 0] 46) (x := 26) (y := 26)) (by (repeat' (first | (with_reducible assumption) | (with_reducible exact Below.refl _ _) | (with_reducible refine Below.drew ?_) | (with_reducible refine ballD1 ?_ _) | (with_reducible refine Below.set1 ?_ _ _ ?_ _) | (show _ ≤ _; (try simp only [World.size_alloc, World.size_drew]); omega) | (refine bstep ?_ hb2) | (refine bstep ?_ hb1))))
  have FR : Fresh ((w2.alloc (.cells #[.int .i64 k2, .slice a2 n2 c2, .slice b2 m2 d2] 26))) (w.heap.size + 1 + 1) := Fresh.on (Fresh.start (w := w) (x := .cells #[.int .i64 k, .slice a n c, .slice b m d] 26) (y := .cells #[.int .i64 k', .slice a' n' c', .slice b' m' d'] 26) (n := 46)) (by (repeat' (first | (with_reducible assumption) | (with_reducible exact Below.refl _ _) | (with_reducible refine Below.drew ?_) | (with_reducible refine ballD1 ?_ _) | (with_reducible refine Below.set1 ?_ _ _ ?_ _) | (show _ ≤ _; (try simp only [World.size_alloc, World.size_drew]); omega) | (refine bstep ?_ hb2) | (refine bstep ?_ hb1))))
  clear P1 P2 E1 E2 L1 L2 hc1 hf1 hc2 hf2 hb1 hb2
  generalize (w2.alloc (.cells #[.int .i64 k2, .slice a2 n2 c2, .slice b2 m2 d2] 26)) = V at *
  obtain ⟨y0, y1, y2, y3, y4, y5⟩ := TW
  obtain ⟨q0, q1, q2, q3, q4, q5⟩ := id FR
  have qs := cell_lt q0
  have r0 := cell_lt y0
  have r1 := cell_lt y3
  have OO : ∀ W : World, Lies (Sx S w (w.heap.size + 1 + 1 + 1)) W (TV 14 none 0 0 none 0 0) (T.of 14) := fun W => lies_of ⟨by decide, by decide⟩
  go_region_held3 (fun w' => w'.cell? ⟨w.heap.size, 0, none⟩ = some (.int .i64 k) ∧ w'.cell? ⟨w.heap.size, 1, none⟩ = some (.slice a n c) ∧ w'.cell? ⟨w.heap.size, 2, none⟩ = some (.slice b m d) ∧ w'.cell? ⟨w.heap.size + 1, 0, none⟩ = some (.int .i64 k') ∧ w'.cell? ⟨w.heap.size + 1, 1, none⟩ = some (.slice a' n' c') ∧ w'.cell? ⟨w.heap.size + 1, 2, none⟩ = some (.slice b' m' d'))
    (first | (simp [go_sem]; done) | (repeat' (first | (with_reducible assumption) | (with_reducible exact ⟨y0, y1, y2, y3, y4, y5⟩) | (with_reducible refine keep33 ?_ (by with_reducible assumption)) | (with_reducible refine keep33d ?_) | (with_reducible refine keep33n (by with_reducible assumption) _ ?_ ?_) | (with_reducible refine keep33a ?_ _) | (with_reducible refine keep33s ?_ ?_ ?_ _) | (show _ ≠ _; (try dsimp only); omega) | (show _ < _; (try dsimp only); (try simp only [World.size_alloc, World.size_drew]); omega))))
    (first
      | (go_at_call 33; (with_reducible refine (of_walk 14 _).mono ?_); rintro e w5 ⟨rfl, hb5⟩; have sz5 := hb5.size; (try simp only [World.size_alloc, World.size_drew] at sz5); obtain ⟨hc5, hf5⟩ := bcell (bundrew hb5); have z5_0 : w.heap.size + 1 + 1 < w5.heap.size := (by omega))
      | (go_at_call 48; (with_reducible refine (judge_any (S := Sx S w (w.heap.size + 1 + 1 + 1))  false false (Lies.sx (H1.out.on ?_)) (Lies.sx (H2.out.on ?_)) (OO _)).mono ?_); (· (repeat' (first | (with_reducible assumption) | (with_reducible exact Below.refl _ _) | (with_reducible refine Below.drew ?_) | (with_reducible refine ballD1 ?_ _) | (with_reducible refine Below.set1 ?_ _ _ ?_ _) | (show _ ≤ _; (try simp only [World.size_alloc, World.size_drew]); omega) | (refine bstep ?_ hb5) | (refine bstep ?_ HB)))); (· (repeat' (first | (with_reducible assumption) | (with_reducible exact Below.refl _ _) | (with_reducible refine Below.drew ?_) | (with_reducible refine ballD1 ?_ _) | (with_reducible refine Below.set1 ?_ _ _ ?_ _) | (show _ ≤ _; (try simp only [World.size_alloc, World.size_drew]); omega) | (refine bstep ?_ hb5) | (refine bstep ?_ HB)))); rintro e w6 ⟨k6, a6, n6, c6, b6, m6, d6, rfl, L6, hb6⟩; have sz6 := hb6.size; (try simp only [World.size_alloc, World.size_drew] at sz6); obtain ⟨hc6, hf6⟩ := bcell (hb6); have z6_0 : w.heap.size + 1 + 1 < w6.heap.size := (by omega)))
  go_wp2
  have B6 := bstep (bstep (Below.drew HB) hb5) hb6
  refine bodyPost_ret (v := VV (judgeV t u false false (T.of 14)).there (judgeV t u false false (T.of 14)).back k6 a6 n6 c6 b6 m6 d6) (by simp [results, Try.results52, go_sem, *]) rfl ⟨k6, a6, n6, c6, b6, m6, d6, rfl, ?_, ?_⟩
  · refine Lies.out (N := w.heap.size + 1 + 1 + 1) ?_ (by omega)
    repeat' (first | (with_reducible exact L6) | (with_reducible refine Lies.set ?_ _ _ _ ?_))
    all_goals (apply not_sx <;> omega)
  · (repeat' (first | (with_reducible assumption) | (with_reducible exact Below.refl _ _) | (with_reducible refine Below.drew ?_) | (with_reducible refine ballD1 ?_ _) | (with_reducible refine Below.set1 ?_ _ _ ?_ _) | (show _ ≤ _; (try simp only [World.size_alloc, World.size_drew]); omega) | (with_reducible exact B6)))
/-- Where the loop over what two functions take stands. -/
def FunRel (t u : T) (N : Nat) (w : World) (k : Int) (a : Option Addr) (n c : Nat) (b : Option Addr) (m d : Nat) (k' : Int) (a' : Option Addr) (n' c' : Nat) (b' : Option Addr) (m' d' : Nat) (gg : Nat) (p q i : Value) (wr : World) : Prop :=
  ∃ (kk : Nat) (x y : Bool), kk ≤ N ∧ N - kk ≤ gg ∧ p = .bool x ∧ q = .bool y ∧ i = .int .i64 (kk : Int) ∧ Hid ((x, y) = funV (fun i => vd (t.it i)) u (vd t.gives u.gives) kk) ∧ Hid (Two wr w.heap.size k a n c b m d k' a' n' c' b' m' d') ∧ Hid (Fresh wr (w.heap.size + 1 + 1)) ∧ Hid (Below w.heap.size w wr)
set_option linter.unusedSimpArgs false in
set_option linter.unusedVariables false in
set_option maxRecDepth 100000 in
set_option maxHeartbeats 4000000 in
theorem hold_funs (t u : T) (KI : Kids t) (HG : HoldsFor t.gives) (S : Nat → Prop) (w : World) (k : Int) (a : Option Addr) (n c : Nat) (b : Option Addr) (m d : Nat) (k' : Int) (a' : Option Addr) (n' c' : Nat) (b' : Option Addr) (m' d' : Nat) (h : Lies S w (TV k a n c b m d) t) (h' : Lies S w (TV k' a' n' c' b' m' d') u) (he : n - 1 = n' - 1) :
    Calls Try.prog 52 #[TV k a n c b m d, TV k' a' n' c' b' m' d'] w (RetV (Sn S w) (judgeV t u (funV (fun i => vd (t.it i)) u (vd t.gives u.gives) (n - 1)).1 (funV (fun i => vd (t.it i)) u (vd t.gives u.gives) (n - 1)).2 (T.of 14)) w) := by
  obtain ⟨F1, F2, -, I1, -, -⟩ := h.few
  obtain ⟨F1', F2', -, I1', -, -⟩ := h'.few
  have H1 := Lib.hid h.sb
  have H2 := Lib.hid h'.sb
  obtain ⟨N, hN⟩ : ∃ N, N = n - 1 := ⟨_, rfl⟩
  have hN' : N = n' - 1 := hN.trans he
  have NB : (N : Int) + 1 ≤ 9223372036854775807 := by have := F1.1; omega
  have HK := Lib.hid (show ∀ i, i < N → HoldsFor (t.it i) from fun i hi => KI i (by rw [h.nn]; omega))
  unfold HoldsFor at HK HG
  have HGG := Lib.hid HG
  rw [← hN]
  have CC := Lib.hid (And.intro F2 F2')
  have HN := Lib.hid (And.intro hN hN')
  have P1 := Lib.hid (fun (S' : Nat → Prop) W (e : Lies S' W (TV k a n c b m d) t) => hN ▸ parts_walk k a n c b m d t S' W e)
  have P2 := Lib.hid (fun (S' : Nat → Prop) W (e : Lies S' W (TV k' a' n' c' b' m' d') u) => hN' ▸ parts_walk k' a' n' c' b' m' d' u S' W e)
  clear hN hN' h h' F1 F2 F1' F2' I1 I1' he KI HG
  go_enter Try.func52, Try.ntmps52
  go_wp2_with (first
    | (go_at_call 63; (with_reducible refine (P1.out _ _ (H1.out.on ?_)).mono ?_); (· (repeat' (first | (with_reducible assumption) | (with_reducible exact Below.refl _ _) | (with_reducible refine Below.drew ?_) | (with_reducible refine ballD1 ?_ _) | (with_reducible refine Below.set1 ?_ _ _ ?_ _) | (show _ ≤ _; (try simp only [World.size_alloc, World.size_drew]); omega)))); rintro e w1 ⟨a0, c0, k1, a1, n1, c1, b1, m1, d1, rfl, E1, L1, hb1⟩; have sz1 := hb1.size; (try simp only [World.size_alloc, World.size_drew] at sz1); obtain ⟨hc1, hf1⟩ := bcell (hb1); have z1_0 : w.heap.size < w1.heap.size := (by omega); have z1_1 : w.heap.size + 1 < w1.heap.size := (by omega); have z1_2 : w.heap.size + 1 + 1 < w1.heap.size := (by omega))
    | (go_at_call 63; (with_reducible refine (P2.out _ _ (H2.out.on ?_)).mono ?_); (· (repeat' (first | (with_reducible assumption) | (with_reducible exact Below.refl _ _) | (with_reducible refine Below.drew ?_) | (with_reducible refine ballD1 ?_ _) | (with_reducible refine Below.set1 ?_ _ _ ?_ _) | (show _ ≤ _; (try simp only [World.size_alloc, World.size_drew]); omega) | (refine bstep ?_ hb1)))); rintro e w2 ⟨a0', c0', k2, a2, n2, c2, b2, m2, d2, rfl, E2, L2, hb2⟩; have sz2 := hb2.size; (try simp only [World.size_alloc, World.size_drew] at sz2); obtain ⟨hc2, hf2⟩ := bcell (hb2); have z2_0 : w.heap.size < w2.heap.size := (by omega); have z2_1 : w.heap.size + 1 < w2.heap.size := (by omega); have z2_2 : w.heap.size + 1 + 1 < w2.heap.size := (by omega); have z2_3 : w1.heap.size < w2.heap.size := (by omega))
    | (go_at_call 34; (with_reducible refine (HGG.out _ _ _ _ _ _ _ _ _ _ _ _ _ _ _ _ _ (Lies.on L1 ?_) (Lies.on L2 ?_)).mono ?_); (· (repeat' (first | (with_reducible assumption) | (with_reducible exact Below.refl _ _) | (with_reducible refine Below.drew ?_) | (with_reducible refine ballD1 ?_ _) | (with_reducible refine Below.set1 ?_ _ _ ?_ _) | (show _ ≤ _; (try simp only [World.size_alloc, World.size_drew]); omega) | (refine bstep ?_ hb2)))); (· (repeat' (first | (with_reducible assumption) | (with_reducible exact Below.refl _ _) | (with_reducible refine Below.drew ?_) | (with_reducible refine ballD1 ?_ _) | (with_reducible refine Below.set1 ?_ _ _ ?_ _) | (show _ ≤ _; (try simp only [World.size_alloc, World.size_drew]); omega)))); rintro e w3 ⟨k3, a3, n3, c3, b3, m3, d3, rfl, -, hb3⟩; have sz3 := hb3.size; (try simp only [World.size_alloc, World.size_drew] at sz3); obtain ⟨hc3, hf3⟩ := bcell (hb3); have z3_0 : w.heap.size < w3.heap.size := (by omega); have z3_1 : w.heap.size + 1 < w3.heap.size := (by omega); have z3_2 : w.heap.size + 1 + 1 < w3.heap.size := (by omega); have z3_3 : w1.heap.size < w3.heap.size := (by omega); have z3_4 : w2.heap.size < w3.heap.size := (by omega)))
  go_region
  have HB : Below w.heap.size w ((w3.alloc (.cells #[.bool (vd t.gives u.gives).there, .bool (vd t.gives u.gives).back, .int .i64 k3, .slice a3 n3 c3, .slice b3 m3 d3] 46)).drew) := (by (repeat' (first | (with_reducible assumption) | (with_reducible exact Below.refl _ _) | (with_reducible refine Below.drew ?_) | (with_reducible refine ballD1 ?_ _) | (with_reducible refine Below.set1 ?_ _ _ ?_ _) | (show _ ≤ _; (try simp only [World.size_alloc, World.size_drew]); omega) | (refine bstep ?_ hb3) | (refine bstep ?_ hb2) | (refine bstep ?_ hb1))))
  have TW : Two ((w3.alloc (.cells #[.bool (vd t.gives u.gives).there, .bool (vd t.gives u.gives).back, .int .i64 k3, .slice a3 n3 c3, .slice b3 m3 d3] 46)).drew) w.heap.size k a n c b m d k' a' n' c' b' m' d' := Two.on (Two.start (w := w) (z := .cells #[.bool false, .bool false, .int .i64 0, .slice none 0 0, .slice none 0 0] 46) (x := 26) (y := 26)) (by (repeat' (first | (with_reducible assumption) | (with_reducible exact Below.refl _ _) | (with_reducible refine Below.drew ?_) | (with_reducible refine ballD1 ?_ _) | (with_reducible refine Below.set1 ?_ _ _ ?_ _) | (show _ ≤ _; (try simp only [World.size_alloc, World.size_drew]); omega) | (refine bstep ?_ hb3) | (refine bstep ?_ hb2) | (refine bstep ?_ hb1))))
  have FR : Fresh ((w3.alloc (.cells #[.bool (vd t.gives u.gives).there, .bool (vd t.gives u.gives).back, .int .i64 k3, .slice a3 n3 c3, .slice b3 m3 d3] 46)).drew) (w.heap.size + 1 + 1) := Fresh.on (Fresh.start (w := w) (x := .cells #[.int .i64 k, .slice a n c, .slice b m d] 26) (y := .cells #[.int .i64 k', .slice a' n' c', .slice b' m' d'] 26) (n := 46)) (by (repeat' (first | (with_reducible assumption) | (with_reducible exact Below.refl _ _) | (with_reducible refine Below.drew ?_) | (with_reducible refine ballD1 ?_ _) | (with_reducible refine Below.set1 ?_ _ _ ?_ _) | (show _ ≤ _; (try simp only [World.size_alloc, World.size_drew]); omega) | (refine bstep ?_ hb3) | (refine bstep ?_ hb2) | (refine bstep ?_ hb1))))
  have EE := Lib.hid (And.intro E1 E2)
  clear P1 P2 E1 E2 L1 L2 hc1 hf1 hc2 hf2 hb1 hb2 hc3 hf3 hb3 HGG
  generalize (w3.alloc (.cells #[.bool (vd t.gives u.gives).there, .bool (vd t.gives u.gives).back, .int .i64 k3, .slice a3 n3 c3, .slice b3 m3 d3] 46)).drew = V at *
  go_wp2
  go_loopg [10, 11, 43] N (fun gg p q i wr => FunRel t u N w k a n c b m d k' a' n' c' b' m' d' gg p q i wr)
  case atStart => exact ⟨0, _, _, Nat.zero_le _, Nat.le_refl _, rfl, rfl, rfl, Lib.hid rfl, Lib.hid TW, Lib.hid FR, Lib.hid HB⟩
  case round =>
    clear TW FR HB
    obtain ⟨kk, x, y, hkk, hg, rfl, rfl, rfl, ST, TW, FR, HB⟩ := hrel
    by_cases hlt : kk < N
    · obtain ⟨e1, e2⟩ : a0 = a ∧ a0' = a' := by have := HN.out; exact ⟨(EE.out.1 (by omega)).1, (EE.out.2 (by omega)).1⟩
      obtain ⟨g3, o3, e3, k3, a3, n3, c3, b3, m3, d3, t0, t1, t2, tg, L3⟩ := H1.out.item kk (by have := HN.out; omega)
      obtain ⟨g4, o4, e4, k4, a4, n4, c4, b4, m4, d4, u0, u1, u2, ug, L4⟩ := H2.out.item kk (by have := HN.out; omega)
      obtain rfl : a0 = some ⟨g3, o3, none⟩ := e1.trans e3
      obtain rfl : a0' = some ⟨g4, o4, none⟩ := e2.trans e4
      clear e1 e2 e3 e4
      replace t0 := cell_below t0 HB.out
      replace t1 := cell_below t1 HB.out
      replace t2 := cell_below t2 HB.out
      replace u0 := cell_below u0 HB.out
      replace u1 := cell_below u1 HB.out
      replace u2 := cell_below u2 HB.out
      have tg' := Nat.lt_of_lt_of_le tg HB.out.size
      have ug' := Nat.lt_of_lt_of_le ug HB.out.size
      have le0 := HB.out.size
      replace L3 := L3.on HB.out
      replace L4 := L4.on HB.out
      have hli : (0 : Int) ≤ (kk : Int) ∧ (kk : Int) < (N : Int) := by omega
      have HJ := HK.out kk hlt
      clear tg ug
      go_wp2
      go_cut [14] (fun p W => ∃ (g : Nat) (k5 : Int) (a5 : Option Addr) (n5 c5 : Nat) (b5 : Option Addr) (m5 d5 : Nat), p = .pointer (some ⟨g, 0, none⟩) ∧ Ver W g (vd (t.it kk) (u.it kk)).there (vd (t.it kk) (u.it kk)).back k5 a5 n5 c5 b5 m5 d5 ∧ Below wr.heap.size wr W)
      case first =>
        have T0 : ((wr.alloc (.cells #[.int .i64 k3, .slice a3 n3 c3, .slice b3 m3 d3] 26)).drew).cell? ⟨wr.heap.size, 0, none⟩ = some (.int .i64 k3) ∧ ((wr.alloc (.cells #[.int .i64 k3, .slice a3 n3 c3, .slice b3 m3 d3] 26)).drew).cell? ⟨wr.heap.size, 1, none⟩ = some (.slice a3 n3 c3) ∧ ((wr.alloc (.cells #[.int .i64 k3, .slice a3 n3 c3, .slice b3 m3 d3] 26)).drew).cell? ⟨wr.heap.size, 2, none⟩ = some (.slice b3 m3 d3) ∧ ((wr.alloc (.cells #[.int .i64 k3, .slice a3 n3 c3, .slice b3 m3 d3] 26)).drew).cell? ⟨g4, o4 + kk * 3, none⟩ = some (.int .i64 k4) ∧ ((wr.alloc (.cells #[.int .i64 k3, .slice a3 n3 c3, .slice b3 m3 d3] 26)).drew).cell? ⟨g4, o4 + kk * 3 + 1, none⟩ = some (.slice a4 n4 c4) ∧ ((wr.alloc (.cells #[.int .i64 k3, .slice a3 n3 c3, .slice b3 m3 d3] 26)).drew).cell? ⟨g4, o4 + kk * 3 + 2, none⟩ = some (.slice b4 m4 d4) := ⟨by simp [go_sem], by simp [go_sem], by simp [go_sem], cell_below u0 (ballD1 (Below.refl _ _) _).drew, cell_below u1 (ballD1 (Below.refl _ _) _).drew, cell_below u2 (ballD1 (Below.refl _ _) _).drew⟩
        have T1 : (((wr.alloc (.cells #[.int .i64 k3, .slice a3 n3 c3, .slice b3 m3 d3] 26)).alloc (.cells #[.bool false, .bool false, .int .i64 0, .slice none 0 0, .slice none 0 0] 46)).drew).cell? ⟨wr.heap.size, 0, none⟩ = some (.int .i64 k3) ∧ (((wr.alloc (.cells #[.int .i64 k3, .slice a3 n3 c3, .slice b3 m3 d3] 26)).alloc (.cells #[.bool false, .bool false, .int .i64 0, .slice none 0 0, .slice none 0 0] 46)).drew).cell? ⟨wr.heap.size, 1, none⟩ = some (.slice a3 n3 c3) ∧ (((wr.alloc (.cells #[.int .i64 k3, .slice a3 n3 c3, .slice b3 m3 d3] 26)).alloc (.cells #[.bool false, .bool false, .int .i64 0, .slice none 0 0, .slice none 0 0] 46)).drew).cell? ⟨wr.heap.size, 2, none⟩ = some (.slice b3 m3 d3) ∧ (((wr.alloc (.cells #[.int .i64 k3, .slice a3 n3 c3, .slice b3 m3 d3] 26)).alloc (.cells #[.bool false, .bool false, .int .i64 0, .slice none 0 0, .slice none 0 0] 46)).drew).cell? ⟨g4, o4 + kk * 3, none⟩ = some (.int .i64 k4) ∧ (((wr.alloc (.cells #[.int .i64 k3, .slice a3 n3 c3, .slice b3 m3 d3] 26)).alloc (.cells #[.bool false, .bool false, .int .i64 0, .slice none 0 0, .slice none 0 0] 46)).drew).cell? ⟨g4, o4 + kk * 3 + 1, none⟩ = some (.slice a4 n4 c4) ∧ (((wr.alloc (.cells #[.int .i64 k3, .slice a3 n3 c3, .slice b3 m3 d3] 26)).alloc (.cells #[.bool false, .bool false, .int .i64 0, .slice none 0 0, .slice none 0 0] 46)).drew).cell? ⟨g4, o4 + kk * 3 + 2, none⟩ = some (.slice b4 m4 d4) := ⟨by simp [go_sem], by simp [go_sem], by simp [go_sem], cell_below u0 (ballD1 (ballD1 (Below.refl _ _) _) _).drew, cell_below u1 (ballD1 (ballD1 (Below.refl _ _) _) _).drew, cell_below u2 (ballD1 (ballD1 (Below.refl _ _) _) _).drew⟩
        go_region_held3 (fun w' => w'.cell? ⟨wr.heap.size, 0, none⟩ = some (.int .i64 k3) ∧ w'.cell? ⟨wr.heap.size, 1, none⟩ = some (.slice a3 n3 c3) ∧ w'.cell? ⟨wr.heap.size, 2, none⟩ = some (.slice b3 m3 d3) ∧ w'.cell? ⟨g4, o4 + kk * 3, none⟩ = some (.int .i64 k4) ∧ w'.cell? ⟨g4, o4 + kk * 3 + 1, none⟩ = some (.slice a4 n4 c4) ∧ w'.cell? ⟨g4, o4 + kk * 3 + 2, none⟩ = some (.slice b4 m4 d4))
          (first | (simp [go_sem]; done) | (repeat' (first | (with_reducible assumption) | (with_reducible exact T0) | (with_reducible exact T1) | (with_reducible refine keep33 ?_ (by with_reducible assumption)) | (with_reducible refine keep33d ?_) | (with_reducible refine keep33n (by with_reducible assumption) _ ?_ ?_) | (with_reducible refine keep33a ?_ _) | (with_reducible refine keep33s ?_ ?_ ?_ _) | (show _ ≠ _; (try dsimp only); omega) | (show _ < _; (try dsimp only); (try simp only [World.size_alloc, World.size_drew]); omega))))
          (first
            | (go_at_call 34; (with_reducible refine (HJ _ _ _ _ _ _ _ _ _ _ _ _ _ _ _ _ _ (Lies.on L3 ?_) (Lies.on L4 ?_)).mono ?_); (· (repeat' (first | (with_reducible assumption) | (with_reducible exact Below.refl _ _) | (with_reducible refine Below.drew ?_) | (with_reducible refine ballD1 ?_ _) | (with_reducible refine Below.set1 ?_ _ _ ?_ _) | (show _ ≤ _; (try simp only [World.size_alloc, World.size_drew]); omega)))); (· (repeat' (first | (with_reducible assumption) | (with_reducible exact Below.refl _ _) | (with_reducible refine Below.drew ?_) | (with_reducible refine ballD1 ?_ _) | (with_reducible refine Below.set1 ?_ _ _ ?_ _) | (show _ ≤ _; (try simp only [World.size_alloc, World.size_drew]); omega)))); rintro e w5 ⟨k5, a5, n5, c5, b5, m5, d5, rfl, -, hb5⟩; have sz5 := hb5.size; (try simp only [World.size_alloc, World.size_drew] at sz5); obtain ⟨hc5, hf5⟩ := bcell (hb5); have z5_0 : wr.heap.size < w5.heap.size := (by omega); (try (refine (fun (y5_0 : wr.heap.size + 1 < w5.heap.size) => ?_) ?_; rotate_left; (· omega)))))
        all_goals
          go_wp2_with fail
          go_meet
          case rel =>
            refine ⟨_, k5, a5, n5, c5, b5, m5, d5, rfl, ?_, ?_⟩
            · refine ⟨?_, ?_, ?_, ?_, ?_⟩ <;> simp [go_sem, *]
            · (repeat' (first | (with_reducible assumption) | (with_reducible exact Below.refl _ _) | (with_reducible refine Below.drew ?_) | (with_reducible refine ballD1 ?_ _) | (with_reducible refine Below.set1 ?_ _ _ ?_ _) | (show _ ≤ _; (try simp only [World.size_alloc, World.size_drew]); omega) | (refine bstep ?_ hb5)))
      case rest =>
        obtain ⟨g, k5, a5, n5, c5, b5, m5, d5, rfl, ⟨x0, x1, x2, x3, x4⟩, BW⟩ := hcut
        have R1 := Lib.hid (TW.out.on BW)
        have R2 := Lib.hid (FR.out.on BW)
        have R3 := Lib.hid (bstep HB.out BW)
        have ST' := Lib.hid (show (x && (vd (t.it kk) (u.it kk)).back, y && (vd (t.it kk) (u.it kk)).there) = funV (fun i => vd (t.it i)) u (vd t.gives u.gives) (kk + 1) from by
          unfold funV
          rw [← ST.out])
        clear t0 t1 t2 u0 u1 u2 tg' ug' L3 L4 HJ TW FR HB BW ST
        generalize (vd (t.it kk) (u.it kk)).there = vt at *
        generalize (vd (t.it kk) (u.it kk)).back = vb at *
        have KB : (kk : Int) + 1 ≤ 9223372036854775807 := by omega
        cases x <;> cases y
        all_goals
          go_wp2
          go_region
          go_wp2
          go_roundg (N - (kk + 1))
          case measure => omega
          case rel => exact ⟨kk + 1, _, _, by omega, Nat.le_refl _, rfl, rfl, by go_num, by simpa using ST', R1, R2, Lib.hid R3.out.drew⟩
    · have : kk = N := by omega
      subst this
      go_wp2
      replace TW := TW.out
      replace FR := FR.out
      replace HB := HB.out
      obtain ⟨y0, y1, y2, y3, y4, y5⟩ := TW
      obtain ⟨q0, q1, q2, q3, q4, q5⟩ := id FR
      have qs := cell_lt q0
      have r0 := cell_lt y0
      have r1 := cell_lt y3
      have OO : ∀ W : World, Lies (Sx S w (w.heap.size + 1 + 1 + 1)) W (TV 14 none 0 0 none 0 0) (T.of 14) := fun W => lies_of ⟨by decide, by decide⟩
      go_region_held3 (fun w' => w'.cell? ⟨w.heap.size, 0, none⟩ = some (.int .i64 k) ∧ w'.cell? ⟨w.heap.size, 1, none⟩ = some (.slice a n c) ∧ w'.cell? ⟨w.heap.size, 2, none⟩ = some (.slice b m d) ∧ w'.cell? ⟨w.heap.size + 1, 0, none⟩ = some (.int .i64 k') ∧ w'.cell? ⟨w.heap.size + 1, 1, none⟩ = some (.slice a' n' c') ∧ w'.cell? ⟨w.heap.size + 1, 2, none⟩ = some (.slice b' m' d'))
        (first | (simp [go_sem]; done) | (repeat' (first | (with_reducible assumption) | (with_reducible exact ⟨y0, y1, y2, y3, y4, y5⟩) | (with_reducible refine keep33 ?_ (by with_reducible assumption)) | (with_reducible refine keep33d ?_) | (with_reducible refine keep33n (by with_reducible assumption) _ ?_ ?_) | (with_reducible refine keep33a ?_ _) | (with_reducible refine keep33s ?_ ?_ ?_ _) | (show _ ≠ _; (try dsimp only); omega) | (show _ < _; (try dsimp only); (try simp only [World.size_alloc, World.size_drew]); omega))))
        (first
          | (go_at_call 33; (with_reducible refine (of_walk 14 _).mono ?_); rintro e w5 ⟨rfl, hb5⟩; have sz5 := hb5.size; (try simp only [World.size_alloc, World.size_drew] at sz5); obtain ⟨hc5, hf5⟩ := bcell (bundrew hb5); have z5_0 : w.heap.size + 1 + 1 < w5.heap.size := (by omega))
          | (go_at_call 48; (with_reducible refine (judge_any (S := Sx S w (w.heap.size + 1 + 1 + 1))  x y (Lies.sx (H1.out.on ?_)) (Lies.sx (H2.out.on ?_)) (OO _)).mono ?_); (· (repeat' (first | (with_reducible assumption) | (with_reducible exact Below.refl _ _) | (with_reducible refine Below.drew ?_) | (with_reducible refine ballD1 ?_ _) | (with_reducible refine Below.set1 ?_ _ _ ?_ _) | (show _ ≤ _; (try simp only [World.size_alloc, World.size_drew]); omega) | (refine bstep ?_ hb5) | (refine bstep ?_ HB)))); (· (repeat' (first | (with_reducible assumption) | (with_reducible exact Below.refl _ _) | (with_reducible refine Below.drew ?_) | (with_reducible refine ballD1 ?_ _) | (with_reducible refine Below.set1 ?_ _ _ ?_ _) | (show _ ≤ _; (try simp only [World.size_alloc, World.size_drew]); omega) | (refine bstep ?_ hb5) | (refine bstep ?_ HB)))); rintro e w6 ⟨k6, a6, n6, c6, b6, m6, d6, rfl, L6, hb6⟩; have sz6 := hb6.size; (try simp only [World.size_alloc, World.size_drew] at sz6); obtain ⟨hc6, hf6⟩ := bcell (hb6); have z6_0 : w.heap.size + 1 + 1 < w6.heap.size := (by omega)))
      go_wp2
      have B6 := bstep (bstep (Below.drew HB) hb5) hb6
      refine bodyPost_ret (v := VV (judgeV t u x y (T.of 14)).there (judgeV t u x y (T.of 14)).back k6 a6 n6 c6 b6 m6 d6) (by simp [results, Try.results52, go_sem, *]) rfl ⟨k6, a6, n6, c6, b6, m6, d6, by rw [← ST.out], ?_, ?_⟩
      · rw [← ST.out]
        refine Lies.out (N := w.heap.size + 1 + 1 + 1) ?_ (by omega)
        repeat' (first | (with_reducible exact L6) | (with_reducible refine Lies.set ?_ _ _ _ ?_))
        all_goals (apply not_sx <;> omega)
      · (repeat' (first | (with_reducible assumption) | (with_reducible exact Below.refl _ _) | (with_reducible refine Below.drew ?_) | (with_reducible refine ballD1 ?_ _) | (with_reducible refine Below.set1 ?_ _ _ ?_ _) | (show _ ≤ _; (try simp only [World.size_alloc, World.size_drew]); omega) | (with_reducible exact B6)))
end Go.Proofs.Ytielmfchbgajnaa

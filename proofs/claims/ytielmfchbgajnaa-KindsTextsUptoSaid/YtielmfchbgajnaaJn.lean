/-
  Types made and held against one another: the exported functions.
-/
import Derived.Test.YtielmfchbgajnaaJm
namespace Go.Proofs.Ytielmfchbgajnaa
open Go.RowKit

theorem field0 (p q : Bool) (k : Int) (a : Option Addr) (n c : Nat) (b : Option Addr) (m d : Nat) (W : World) : (Instr.field 46 (VV p q k a n c b m d) 0).run Try.prog W = .ok (.bool p) W := by kernel_rfl
theorem field2 (p q : Bool) (k : Int) (a : Option Addr) (n c : Nat) (b : Option Addr) (m d : Nat) (W : World) : (Instr.field 46 (VV p q k a n c b m d) 2).run Try.prog W = .ok (TV k a n c b m d) W := by kernel_rfl
/-- A list's type, a range's. -/
def T.one (k : Int) (t : T) : T := .mk k 1 (fun _ => t) 0 (fun _ => ByteArray.empty)
set_option linter.unusedSimpArgs false in
set_option linter.unusedVariables false in
set_option maxRecDepth 100000 in
set_option maxHeartbeats 1000000 in
theorem listof_walk (S : Nat → Prop) (w : World) (k : Int) (a : Option Addr) (n c : Nat) (b : Option Addr) (m d : Nat) (t : T) (h : Lies S w (TV k a n c b m d) t) :
    Calls Try.prog 20 #[TV k a n c b m d] w (RetT (New w) (T.one 10 t) w) := by
  have H1 := Lib.hid h
  have IK : I64 10 := ⟨by decide, by decide⟩
  have CO := Lib.hid (copied_any (T.one 10 t))
  unfold CopiesFor at CO
  clear h
  go_enter Try.func20, Try.ntmps20
  go_wp2_with (first
    | (go_at_call 43; (with_reducible refine (around_walk 10 IK k a n c b m d t S _ (H1.out.on ?_)).mono ?_); (· (repeat' (first | (with_reducible assumption) | (with_reducible exact Below.refl _ _) | (with_reducible refine Below.drew ?_) | (with_reducible refine ballD1 ?_ _) | (with_reducible refine Below.set1 ?_ _ _ ?_ _) | (show _ ≤ _; (try simp only [World.size_alloc, World.size_drew]); omega)))); rintro e w1 ⟨k1, a1, n1, c1, b1, m1, d1, rfl, L1, hb1⟩; have sz1 := hb1.size; (try simp only [World.size_alloc, World.size_drew] at sz1); obtain ⟨hc1, hf1⟩ := bcell (hb1); have z1_0 : w.heap.size < w1.heap.size := (by omega); have z1_1 : w.heap.size + 1 < w1.heap.size := (by omega))
    | (go_at_call 35; (with_reducible refine (CO.out _ _ _ _ _ _ _ _ _ L1).mono ?_); rintro e w2 ⟨k2, a2, n2, c2, b2, m2, d2, rfl, L2, hb2⟩; have sz2 := hb2.size; (try simp only [World.size_alloc, World.size_drew] at sz2); obtain ⟨hc2, hf2⟩ := bcell (hb2); have z2_0 : w.heap.size < w2.heap.size := (by omega); have z2_1 : w.heap.size + 1 < w2.heap.size := (by omega)))
  have BB : Below w.heap.size w w2 := (by (repeat' (first | (with_reducible assumption) | (with_reducible exact Below.refl _ _) | (with_reducible refine Below.drew ?_) | (with_reducible refine ballD1 ?_ _) | (with_reducible refine Below.set1 ?_ _ _ ?_ _) | (show _ ≤ _; (try simp only [World.size_alloc, World.size_drew]); omega) | (refine bstep ?_ hb2) | (refine bstep ?_ hb1))))
  have L3 := Lies.frm (N := w.heap.size + 1 + 1) L2 (by omega)
  refine bodyPost_ret (v := TV k2 a2 n2 c2 b2 m2 d2) (by simp [results, Try.results20, go_sem, *]) rfl ⟨k2, a2, n2, c2, b2, m2, d2, rfl, ?_, ?_⟩
  · refine Lies.wide (S := From (w.heap.size + 1 + 1)) ?_ (fun g _ s => by have s' : w.heap.size + 1 + 1 ≤ g := s; show w.heap.size ≤ g; omega)
    repeat' (first | (with_reducible exact L3) | (with_reducible refine Lies.set ?_ _ _ _ (not_from (by omega))))
  · (repeat' (first | (with_reducible assumption) | (with_reducible exact Below.refl _ _) | (with_reducible refine Below.drew ?_) | (with_reducible refine ballD1 ?_ _) | (with_reducible refine Below.set1 ?_ _ _ ?_ _) | (show _ ≤ _; (try simp only [World.size_alloc, World.size_drew]); omega) | (with_reducible exact BB)))
set_option linter.unusedSimpArgs false in
set_option linter.unusedVariables false in
set_option maxRecDepth 100000 in
set_option maxHeartbeats 1000000 in
theorem rangeof_walk (S : Nat → Prop) (w : World) (k : Int) (a : Option Addr) (n c : Nat) (b : Option Addr) (m d : Nat) (t : T) (h : Lies S w (TV k a n c b m d) t) :
    Calls Try.prog 21 #[TV k a n c b m d] w (RetT (New w) (T.one 12 t) w) := by
  have H1 := Lib.hid h
  have IK : I64 12 := ⟨by decide, by decide⟩
  have CO := Lib.hid (copied_any (T.one 12 t))
  unfold CopiesFor at CO
  clear h
  go_enter Try.func21, Try.ntmps21
  go_wp2_with (first
    | (go_at_call 43; (with_reducible refine (around_walk 12 IK k a n c b m d t S _ (H1.out.on ?_)).mono ?_); (· (repeat' (first | (with_reducible assumption) | (with_reducible exact Below.refl _ _) | (with_reducible refine Below.drew ?_) | (with_reducible refine ballD1 ?_ _) | (with_reducible refine Below.set1 ?_ _ _ ?_ _) | (show _ ≤ _; (try simp only [World.size_alloc, World.size_drew]); omega)))); rintro e w1 ⟨k1, a1, n1, c1, b1, m1, d1, rfl, L1, hb1⟩; have sz1 := hb1.size; (try simp only [World.size_alloc, World.size_drew] at sz1); obtain ⟨hc1, hf1⟩ := bcell (hb1); have z1_0 : w.heap.size < w1.heap.size := (by omega); have z1_1 : w.heap.size + 1 < w1.heap.size := (by omega))
    | (go_at_call 35; (with_reducible refine (CO.out _ _ _ _ _ _ _ _ _ L1).mono ?_); rintro e w2 ⟨k2, a2, n2, c2, b2, m2, d2, rfl, L2, hb2⟩; have sz2 := hb2.size; (try simp only [World.size_alloc, World.size_drew] at sz2); obtain ⟨hc2, hf2⟩ := bcell (hb2); have z2_0 : w.heap.size < w2.heap.size := (by omega); have z2_1 : w.heap.size + 1 < w2.heap.size := (by omega)))
  have BB : Below w.heap.size w w2 := (by (repeat' (first | (with_reducible assumption) | (with_reducible exact Below.refl _ _) | (with_reducible refine Below.drew ?_) | (with_reducible refine ballD1 ?_ _) | (with_reducible refine Below.set1 ?_ _ _ ?_ _) | (show _ ≤ _; (try simp only [World.size_alloc, World.size_drew]); omega) | (refine bstep ?_ hb2) | (refine bstep ?_ hb1))))
  have L3 := Lies.frm (N := w.heap.size + 1 + 1) L2 (by omega)
  refine bodyPost_ret (v := TV k2 a2 n2 c2 b2 m2 d2) (by simp [results, Try.results21, go_sem, *]) rfl ⟨k2, a2, n2, c2, b2, m2, d2, rfl, ?_, ?_⟩
  · refine Lies.wide (S := From (w.heap.size + 1 + 1)) ?_ (fun g _ s => by have s' : w.heap.size + 1 + 1 ≤ g := s; show w.heap.size ≤ g; omega)
    repeat' (first | (with_reducible exact L3) | (with_reducible refine Lies.set ?_ _ _ _ (not_from (by omega))))
  · (repeat' (first | (with_reducible assumption) | (with_reducible exact Below.refl _ _) | (with_reducible refine Below.drew ?_) | (with_reducible refine ballD1 ?_ _) | (with_reducible refine Below.set1 ?_ _ _ ?_ _) | (show _ ≤ _; (try simp only [World.size_alloc, World.size_drew]); omega) | (with_reducible exact BB)))
set_option linter.unusedSimpArgs false in
set_option linter.unusedVariables false in
set_option maxRecDepth 100000 in
set_option maxHeartbeats 1000000 in
theorem conforms_walk (t u : T) (S : Nat → Prop) (w : World) (k : Int) (a : Option Addr) (n c : Nat) (b : Option Addr) (m d : Nat) (k' : Int) (a' : Option Addr) (n' c' : Nat) (b' : Option Addr) (m' d' : Nat) (h : Lies S w (TV k a n c b m d) t) (h' : Lies S w (TV k' a' n' c' b' m' d') u) : Calls Try.prog 10 #[TV k a n c b m d, TV k' a' n' c' b' m' d'] w (Ret (.bool (vd t u).there) w) := by
  have H1 := Lib.hid h
  have H2 := Lib.hid h'
  have HA := hold_any t
  unfold HoldsFor at HA
  replace HA := Lib.hid (HA u)
  clear h h'
  have fd := field0
  go_enter Try.func10, Try.ntmps10
  go_wp2_with (go_at_call 34; (with_reducible refine (HA.out _ _ _ _ _ _ _ _ _ _ _ _ _ _ _ _ (H1.out.on ?_) (H2.out.on ?_)).mono ?_); (· (repeat' (first | (with_reducible assumption) | (with_reducible exact Below.refl _ _) | (with_reducible refine Below.drew ?_) | (with_reducible refine ballD1 ?_ _) | (with_reducible refine Below.set1 ?_ _ _ ?_ _) | (show _ ≤ _; (try simp only [World.size_alloc, World.size_drew]); omega)))); (· (repeat' (first | (with_reducible assumption) | (with_reducible exact Below.refl _ _) | (with_reducible refine Below.drew ?_) | (with_reducible refine ballD1 ?_ _) | (with_reducible refine Below.set1 ?_ _ _ ?_ _) | (show _ ≤ _; (try simp only [World.size_alloc, World.size_drew]); omega)))); rintro e w1 ⟨k1, a1, n1, c1, b1, m1, d1, rfl, L1, hb1⟩; have sz1 := hb1.size; (try simp only [World.size_alloc, World.size_drew] at sz1); obtain ⟨hc1, hf1⟩ := bcell (hb1); have z1_0 : w.heap.size < w1.heap.size := (by omega); have z1_1 : w.heap.size + 1 < w1.heap.size := (by omega))
  go_ret
  exact ⟨rfl, by (repeat' (first | (with_reducible assumption) | (with_reducible exact Below.refl _ _) | (with_reducible refine Below.drew ?_) | (with_reducible refine ballD1 ?_ _) | (with_reducible refine Below.set1 ?_ _ _ ?_ _) | (show _ ≤ _; (try simp only [World.size_alloc, World.size_drew]); omega) | (refine bstep ?_ hb1)))⟩
set_option linter.unusedSimpArgs false in
set_option linter.unusedVariables false in
set_option maxRecDepth 100000 in
set_option maxHeartbeats 1000000 in
theorem same_walk (t u : T) (S : Nat → Prop) (w : World) (k : Int) (a : Option Addr) (n c : Nat) (b : Option Addr) (m d : Nat) (k' : Int) (a' : Option Addr) (n' c' : Nat) (b' : Option Addr) (m' d' : Nat) (h : Lies S w (TV k a n c b m d) t) (h' : Lies S w (TV k' a' n' c' b' m' d') u) : Calls Try.prog 24 #[TV k a n c b m d, TV k' a' n' c' b' m' d'] w (Ret (.bool ((vd t u).there && (vd t u).back)) w) := by
  have H1 := Lib.hid h
  have H2 := Lib.hid h'
  have HA := hold_any t
  unfold HoldsFor at HA
  replace HA := Lib.hid (HA u)
  clear h h'
  generalize vd t u = v at *
  cases hv : v.there
  all_goals
    go_enter Try.func24, Try.ntmps24
    go_wp2_with (go_at_call 34; (with_reducible refine (HA.out _ _ _ _ _ _ _ _ _ _ _ _ _ _ _ _ (H1.out.on ?_) (H2.out.on ?_)).mono ?_); (· (repeat' (first | (with_reducible assumption) | (with_reducible exact Below.refl _ _) | (with_reducible refine Below.drew ?_) | (with_reducible refine ballD1 ?_ _) | (with_reducible refine Below.set1 ?_ _ _ ?_ _) | (show _ ≤ _; (try simp only [World.size_alloc, World.size_drew]); omega)))); (· (repeat' (first | (with_reducible assumption) | (with_reducible exact Below.refl _ _) | (with_reducible refine Below.drew ?_) | (with_reducible refine ballD1 ?_ _) | (with_reducible refine Below.set1 ?_ _ _ ?_ _) | (show _ ≤ _; (try simp only [World.size_alloc, World.size_drew]); omega)))); rintro e w1 ⟨k1, a1, n1, c1, b1, m1, d1, rfl, L1, hb1⟩; have sz1 := hb1.size; (try simp only [World.size_alloc, World.size_drew] at sz1); obtain ⟨hc1, hf1⟩ := bcell (hb1); have z1_0 : w.heap.size < w1.heap.size := (by omega); have z1_1 : w.heap.size + 1 < w1.heap.size := (by omega))
    go_ret
    exact ⟨by simp, by (repeat' (first | (with_reducible assumption) | (with_reducible exact Below.refl _ _) | (with_reducible refine Below.drew ?_) | (with_reducible refine ballD1 ?_ _) | (with_reducible refine Below.set1 ?_ _ _ ?_ _) | (show _ ≤ _; (try simp only [World.size_alloc, World.size_drew]); omega) | (refine bstep ?_ hb1)))⟩
set_option linter.unusedSimpArgs false in
set_option linter.unusedVariables false in
set_option maxRecDepth 100000 in
set_option maxHeartbeats 1000000 in
theorem join_walk (t u : T) (S : Nat → Prop) (w : World) (k : Int) (a : Option Addr) (n c : Nat) (b : Option Addr) (m d : Nat) (k' : Int) (a' : Option Addr) (n' c' : Nat) (b' : Option Addr) (m' d' : Nat) (h : Lies S w (TV k a n c b m d) t) (h' : Lies S w (TV k' a' n' c' b' m' d') u) : Calls Try.prog 11 #[TV k a n c b m d, TV k' a' n' c' b' m' d'] w (RetT (New w) (vd t u).join w) := by
  have H1 := Lib.hid h
  have H2 := Lib.hid h'
  have HA := hold_any t
  unfold HoldsFor at HA
  replace HA := Lib.hid (HA u)
  clear h h'
  have CO := Lib.hid (copied_any (vd t u).join)
  unfold CopiesFor at CO
  have fd := field2
  go_enter Try.func11, Try.ntmps11
  go_wp2_with (first
    | (go_at_call 34; (with_reducible refine (HA.out _ _ _ _ _ _ _ _ _ _ _ _ _ _ _ _ (H1.out.on ?_) (H2.out.on ?_)).mono ?_); (· (repeat' (first | (with_reducible assumption) | (with_reducible exact Below.refl _ _) | (with_reducible refine Below.drew ?_) | (with_reducible refine ballD1 ?_ _) | (with_reducible refine Below.set1 ?_ _ _ ?_ _) | (show _ ≤ _; (try simp only [World.size_alloc, World.size_drew]); omega)))); (· (repeat' (first | (with_reducible assumption) | (with_reducible exact Below.refl _ _) | (with_reducible refine Below.drew ?_) | (with_reducible refine ballD1 ?_ _) | (with_reducible refine Below.set1 ?_ _ _ ?_ _) | (show _ ≤ _; (try simp only [World.size_alloc, World.size_drew]); omega)))); rintro e w1 ⟨k1, a1, n1, c1, b1, m1, d1, rfl, L1, hb1⟩; have sz1 := hb1.size; (try simp only [World.size_alloc, World.size_drew] at sz1); obtain ⟨hc1, hf1⟩ := bcell (hb1); have z1_0 : w.heap.size < w1.heap.size := (by omega); have z1_1 : w.heap.size + 1 < w1.heap.size := (by omega); have z1_2 : w.heap.size + 1 + 1 < w1.heap.size := (by omega))
    | (go_at_call 35; (with_reducible refine (CO.out _ _ _ _ _ _ _ _ _ L1).mono ?_); rintro e w2 ⟨k2, a2, n2, c2, b2, m2, d2, rfl, L2, hb2⟩; have sz2 := hb2.size; (try simp only [World.size_alloc, World.size_drew] at sz2); obtain ⟨hc2, hf2⟩ := bcell (hb2); have z2_0 : w.heap.size < w2.heap.size := (by omega); have z2_1 : w.heap.size + 1 < w2.heap.size := (by omega); have z2_2 : w.heap.size + 1 + 1 < w2.heap.size := (by omega)))
  have BB : Below w.heap.size w w2 := (by (repeat' (first | (with_reducible assumption) | (with_reducible exact Below.refl _ _) | (with_reducible refine Below.drew ?_) | (with_reducible refine ballD1 ?_ _) | (with_reducible refine Below.set1 ?_ _ _ ?_ _) | (show _ ≤ _; (try simp only [World.size_alloc, World.size_drew]); omega) | (refine bstep ?_ hb2) | (refine bstep ?_ hb1))))
  have L3 := Lies.frm (N := w.heap.size + 1 + 1 + 1) L2 (by omega)
  refine bodyPost_ret (v := TV k2 a2 n2 c2 b2 m2 d2) (by simp [results, Try.results11, go_sem, *]) rfl ⟨k2, a2, n2, c2, b2, m2, d2, rfl, ?_, ?_⟩
  · refine Lies.wide (S := From (w.heap.size + 1 + 1 + 1)) ?_ (fun g _ s => by have s' : w.heap.size + 1 + 1 + 1 ≤ g := s; show w.heap.size ≤ g; omega)
    repeat' (first | (with_reducible exact L3) | (with_reducible refine Lies.set ?_ _ _ _ (not_from (by omega))))
  · (repeat' (first | (with_reducible assumption) | (with_reducible exact Below.refl _ _) | (with_reducible refine Below.drew ?_) | (with_reducible refine ballD1 ?_ _) | (with_reducible refine Below.set1 ?_ _ _ ?_ _) | (show _ ≤ _; (try simp only [World.size_alloc, World.size_drew]); omega) | (with_reducible exact BB)))
theorem loose_walk (k : Int) (w : World) : Calls Try.prog 45 #[.int .i64 k] w (Ret (.bool (k == 14 || k == 1)) w) := by
  go_enter Try.func45, Try.ntmps45
  go_wp2
  all_goals
    go_ret
    exact ⟨by simp [*], by go_grown⟩
set_option linter.unusedSimpArgs false in
set_option linter.unusedVariables false in
set_option maxRecDepth 100000 in
set_option maxHeartbeats 1000000 in
theorem meets_walk (w : World) (k : Int) (a : Option Addr) (n c : Nat) (b : Option Addr) (m d : Nat) (k' : Int) (a' : Option Addr) (n' c' : Nat) (b' : Option Addr) (m' d' : Nat) : Calls Try.prog 25 #[TV k a n c b m d, TV k' a' n' c' b' m' d'] w (Ret (.bool (k == k' || (k == 14 || k == 1) || (k' == 14 || k' == 1))) w) := by
  have W1 := Lib.hid (loose_walk k)
  have W2 := Lib.hid (loose_walk k')
  obtain ⟨q0, h0⟩ : ∃ q, q = (k == k') := ⟨_, rfl⟩
  obtain ⟨q1, h1⟩ : ∃ q, q = (k == 14 || k == 1) := ⟨_, rfl⟩
  obtain ⟨q2, h2⟩ : ∃ q, q = (k' == 14 || k' == 1) := ⟨_, rfl⟩
  rw [← h1] at W1
  rw [← h2] at W2
  rw [← h1, ← h2, ← h0]
  have g0 := h0.symm
  clear h0 h1 h2
  cases q0
  · cases q1
    · go_enter Try.func25, Try.ntmps25
      go_wp2_with (first
        | (go_at_call 45; (with_reducible refine (W1.out _).mono ?_); rintro e w1 ⟨rfl, hb1⟩; have sz1 := hb1.size; (try simp only [World.size_alloc, World.size_drew] at sz1); obtain ⟨hc1, hf1⟩ := bcell (hb1); have z1_0 : w.heap.size < w1.heap.size := (by omega); have z1_1 : w.heap.size + 1 < w1.heap.size := (by omega))
        | (go_at_call 45; (with_reducible refine (W2.out _).mono ?_); rintro e w2 ⟨rfl, hb2⟩))
      go_ret
      exact ⟨by simp, by (repeat' (first | (with_reducible assumption) | (with_reducible exact Below.refl _ _) | (with_reducible refine Below.drew ?_) | (with_reducible refine ballD1 ?_ _) | (with_reducible refine Below.set1 ?_ _ _ ?_ _) | (show _ ≤ _; (try simp only [World.size_alloc, World.size_drew]); omega) | (refine bstep ?_ hb2) | (refine bstep ?_ hb1)))⟩
    · go_enter Try.func25, Try.ntmps25
      go_wp2_with (go_at_call 45; (with_reducible refine (W1.out _).mono ?_); rintro e w1 ⟨rfl, hb1⟩; have sz1 := hb1.size; (try simp only [World.size_alloc, World.size_drew] at sz1); obtain ⟨hc1, hf1⟩ := bcell (hb1); have z1_0 : w.heap.size < w1.heap.size := (by omega); have z1_1 : w.heap.size + 1 < w1.heap.size := (by omega))
      go_ret
      exact ⟨by simp, by (repeat' (first | (with_reducible assumption) | (with_reducible exact Below.refl _ _) | (with_reducible refine Below.drew ?_) | (with_reducible refine ballD1 ?_ _) | (with_reducible refine Below.set1 ?_ _ _ ?_ _) | (show _ ≤ _; (try simp only [World.size_alloc, World.size_drew]); omega) | (refine bstep ?_ hb1)))⟩
  · go_enter Try.func25, Try.ntmps25
    go_wp2
    go_ret
    exact ⟨by simp, by go_grown⟩
end Go.Proofs.Ytielmfchbgajnaa

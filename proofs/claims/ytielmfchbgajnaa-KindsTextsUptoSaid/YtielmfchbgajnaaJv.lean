/-
  Text (layer 13), where write lays the text.
-/
import Derived.Test.YtielmfchbgajnaaJu
namespace Go.Proofs.Ytielmfchbgajnaa
open Go.RowKit Go.Shelf

set_option linter.unusedVariables false in
set_option linter.unusedSimpArgs false in
set_option maxHeartbeats 4000000 in
set_option maxRecDepth 100000 in
theorem text_walk (t : T) (HW : WritesFor t) (S : Nat → Prop) (w : World) (k : Int) (a : Option Addr) (n c : Nat) (b : Option Addr) (m d : Nat) (h : Lies S w (TV k a n c b m d) t) (hl : room t + 64 ≤ 140737488355328) :
    Calls Try.prog 13 #[TV k a n c b m d] w (Ret (.string ⟨(textL t).toArray⟩) w) := by
  have W2 : ∀ x y, Below w.heap.size w ((w.alloc x).alloc y) := fun x y => ((Below.refl _ _).alloc (Nat.le_refl _) _).alloc (by simp only [World.size_alloc]; omega) _
  have BB := W2 (.cells #[.int .i64 k, .slice a n c, .slice b m d] 26) (.cells #[.pointer none, .slice none 0 0] BT)
  have HB := fresh_b (w.alloc (.cells #[.int .i64 k, .slice a n c, .slice b m d] 26))
  have HN : (w.alloc (.cells #[.int .i64 k, .slice a n c, .slice b m d] 26)).heap.size ≤ ((w.alloc (.cells #[.int .i64 k, .slice a n c, .slice b m d] 26)).alloc (.cells #[.pointer none, .slice none 0 0] BT)).heap.size := by simp only [World.size_alloc]; omega
  have WR := Lib.hid (HW (Sb S w) _ k a n c b m d _ _ [] (h.sb.on BB) (fun g s => by have := s.2; simp only [World.size_alloc]; omega) HB HN (by rw [List.length_nil]; omega))
  rw [List.nil_append] at WR
  unfold BT at WR
  simp only [World.size_alloc] at WR HN
  clear hl HW h HB W2
  have BX := (Boxed.new w (.int .i64 k) (.slice a n c) (.slice b m d)).cells
  obtain ⟨x0, x1, x2⟩ := BX
  go_enter Try.func13, Try.ntmps13
  go_wp2_with (first
    | (go_at_call 36; (with_reducible refine WR.out.mono ?_); rintro e w1 ⟨rfl, h1, b1, k1⟩; have z1 := b1.size; (simp only [World.size_alloc] at z1); have z2 : w.heap.size + 1 ≤ w1.heap.size := (by omega))
    | (go_at_call 37; refine (String_k _ _ (textL t) _ h1 z2).mono ?_; rintro e w2 ⟨rfl, b2⟩))
  go_ret
  exact ⟨rfl, (BB.trans (b1.mono (by omega))).trans (b2.mono (by omega))⟩
end Go.Proofs.Ytielmfchbgajnaa

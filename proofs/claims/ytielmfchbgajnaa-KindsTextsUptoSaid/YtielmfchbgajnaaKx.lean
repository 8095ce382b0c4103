/-
  write and Text, whatever the type (layer 13).
-/
import Derived.Test.YtielmfchbgajnaaKw
namespace Go.Proofs.Ytielmfchbgajnaa
open Go.RowKit Go.Shelf
set_option linter.unusedSimpArgs false in
set_option linter.unusedVariables false in
set_option maxRecDepth 100000 in
set_option maxHeartbeats 4000000 in
theorem write_ctx (n : Nat) (it : Nat → T) (m : Nat) (nm : Nat → ByteArray) (HW : ∀ i, i < n → WritesFor (it i)) (S : Nat → Prop) (w : World) (a : Option Addr) (c : Nat) (b : Option Addr) (d : Nat) (B p : Nat) (acc : List UInt8) (h : Lies S w (TV 11 a n c b m d) (.mk 11 n it m nm)) (hS : ∀ g, S g → g < B) (hb : Lib.IsBuilderF BT BE B p (Lib.byteCells acc) w) (hB : B ≤ w.heap.size) (hl : acc.length + room (.mk 11 n it m nm) + 64 ≤ 140737488355328) :
    Calls Try.prog 36 #[.pointer (some ⟨p, 0, none⟩), TV 11 a n c b m d] w (Wrote B p (acc ++ textL (.mk 11 n it m nm)) w) := by
  have BA := Lib.hid (show Below B w (w.alloc (.cells #[.int .i64 11, .slice a n c, .slice b m d] 26)) from (Below.refl _ _).alloc hB _)
  have KA := Lib.hid ((Lib.OthersKept.refl BE (some p) w).alloc (.cells #[.int .i64 11, .slice a n c, .slice b m d] 26))
  have C1 := Lib.hid (writeContext_walk n it m nm HW S _ a c b d B p acc (h.alloc (.cells #[.int .i64 11, .slice a n c, .slice b m d] 26)) hS (hb.alloc _) (by simp only [World.size_alloc]; omega) hl)
  generalize textL (.mk 11 n it m nm) = tl at *
  clear h hS hb hB hl HW 
  go_enter Try.func36, Try.ntmps36
  go_wp2_with (go_at_call 56; (with_reducible refine (C1.out).mono ?_); rintro e w1 ⟨rfl, h1, b1, q1⟩)
  go_end0
  exact ⟨rfl, h1, BA.out.trans b1, KA.out.trans q1⟩
set_option linter.unusedSimpArgs false in
set_option linter.unusedVariables false in
set_option maxRecDepth 100000 in
set_option maxHeartbeats 4000000 in
theorem write_fun (n : Nat) (it : Nat → T) (m : Nat) (nm : Nat → ByteArray) (HW : ∀ i, i < n → WritesFor (it i)) (HG : WritesFor (T.gives (.mk 13 n it m nm))) (S : Nat → Prop) (w : World) (a : Option Addr) (c : Nat) (b : Option Addr) (d : Nat) (B p : Nat) (acc : List UInt8) (h : Lies S w (TV 13 a n c b m d) (.mk 13 n it m nm)) (hS : ∀ g, S g → g < B) (hb : Lib.IsBuilderF BT BE B p (Lib.byteCells acc) w) (hB : B ≤ w.heap.size) (hl : acc.length + room (.mk 13 n it m nm) + 64 ≤ 140737488355328) :
    Calls Try.prog 36 #[.pointer (some ⟨p, 0, none⟩), TV 13 a n c b m d] w (Wrote B p (acc ++ textL (.mk 13 n it m nm)) w) := by
  have BA := Lib.hid (show Below B w (w.alloc (.cells #[.int .i64 13, .slice a n c, .slice b m d] 26)) from (Below.refl _ _).alloc hB _)
  have KA := Lib.hid ((Lib.OthersKept.refl BE (some p) w).alloc (.cells #[.int .i64 13, .slice a n c, .slice b m d] 26))
  have C1 := Lib.hid (writeFunction_walk n it m nm HW HG S _ a c b d B p acc (h.alloc (.cells #[.int .i64 13, .slice a n c, .slice b m d] 26)) hS (hb.alloc _) (by simp only [World.size_alloc]; omega) hl)
  generalize textL (.mk 13 n it m nm) = tl at *
  clear h hS hb hB hl HW HG
  go_enter Try.func36, Try.ntmps36
  go_wp2_with (go_at_call 57; (with_reducible refine (C1.out).mono ?_); rintro e w1 ⟨rfl, h1, b1, q1⟩)
  go_end0
  exact ⟨rfl, h1, BA.out.trans b1, KA.out.trans q1⟩
theorem writes_zero : WritesFor T.zero := writes_simple T.zero (by decide)
theorem write_any : ∀ t, WritesFor t := by
  intro t
  induction t with
  | z => intro S w k a n c b m d B p acc h; cases h
  | mk k n it m nm ih =>
    intro S w k' a n' c b m' d B p acc h hS hb hB hl
    obtain rfl : k = k' := h.kk
    obtain rfl : n = n' := h.nn
    obtain rfl : m = m' := h.mm
    have HI : WritesFor (T.within (.mk k n it m nm)) := by
      show WritesFor (if n = 0 then T.zero else it 0)
      split
      · exact writes_zero
      · exact ih 0
    have HG : WritesFor (T.gives (.mk k n it m nm)) := by
      show WritesFor (if n = 0 then T.zero else it (n - 1))
      split
      · exact writes_zero
      · exact ih (n - 1)
    by_cases k0 : k = 10
    · subst k0; exact write_list _ HI S w a n c b m d B p acc h hS hb hB hl
    by_cases k1 : k = 11
    · subst k1; exact write_ctx n it m nm (fun i _ => ih i) S w a c b d B p acc h hS hb hB hl
    by_cases k2 : k = 12
    · subst k2; exact write_range _ HI S w a n c b m d B p acc h hS hb hB hl
    by_cases k3 : k = 13
    · subst k3; exact write_fun n it m nm (fun i _ => ih i) HG S w a c b d B p acc h hS hb hB hl
    exact write_word _ S w k a n c b m d B p acc h hb hB hl k0 k1 k2 k3
/-- Text, of any type whose text has room. -/
theorem text_any (t : T) (S : Nat → Prop) (w : World) (k : Int) (a : Option Addr) (n c : Nat) (b : Option Addr) (m d : Nat) (h : Lies S w (TV k a n c b m d) t) (hl : room t + 64 ≤ 140737488355328) :
    Calls Try.prog 13 #[TV k a n c b m d] w (Ret (.string ⟨(textL t).toArray⟩) w) := text_walk t (write_any t) S w k a n c b m d h hl
end Go.Proofs.Ytielmfchbgajnaa

/-
  A function's type made: FuncOf.
-/
import Derived.Test.YtielmfchbgajnaaJo
namespace Go.Proofs.Ytielmfchbgajnaa
open Go.RowKit

/-- A function's type. -/
def T.func (n : Nat) (it : Nat → T) (t : T) : T := .mk 13 (n + 1) (fun i => if i < n then it i else t) 0 (fun _ => ByteArray.empty)
/-- What FuncOf lays ahead of slices.Concat. -/
abbrev laid (w : World) (k : Int) (a : Option Addr) (n c : Nat) (b : Option Addr) (m d : Nat) (g2 o2 n2 c2 : Nat) : World := ((((w.alloc (.cells #[.int .i64 k, .slice a n c, .slice b m d] 26)).alloc (.cells #[.int .i64 0, .slice none 0 0, .slice none 0 0] 26)).alloc (.cells #[.int .i64 k, .slice a n c, .slice b m d] 26)).alloc (.cells #[.slice (some ⟨g2, o2, none⟩) n2 c2, .slice (some ⟨w.heap.size + 1 + 1, 0, none⟩) 1 1] 23))
theorem laid_row (S : Nat → Prop) (w : World) (k : Int) (a : Option Addr) (n c : Nat) (b : Option Addr) (m d : Nat) (t : T) (h : Lies S w (TV k a n c b m d) t) (g2 o2 n2 c2 : Nat) (jt : Nat → T) (i2 : ItemsAt S w (some ⟨g2, o2, none⟩) n2 jt) (h0 : 0 < n2) (hn : n2 + 1 ≤ 2513169434843) :
    Calls Try.prog 44 #[.slice (some ⟨w.heap.size + 1 + 1 + 1, 0, none⟩) 2 2] (laid w k a n c b m d g2 o2 n2 c2) fun e w' => ∃ (g cc : Nat), e = .returned (.slice (some ⟨g, 0, none⟩) (n2 + 1) cc) ∧ Lies (fun _ => True) w' (TV 13 (some ⟨g, 0, none⟩) (n2 + 1) cc none 0 0) (T.func n2 jt t) ∧ Below (laid w k a n c b m d g2 o2 n2 c2).heap.size (laid w k a n c b m d g2 o2 n2 c2) w' := by
  have B : Below w.heap.size w (laid w k a n c b m d g2 o2 n2 c2) := by
    unfold laid
    (repeat' (first | (with_reducible assumption) | (with_reducible exact Below.refl _ _) | (with_reducible refine Below.drew ?_) | (with_reducible refine ballD1 ?_ _) | (with_reducible refine Below.set1 ?_ _ _ ?_ _) | (show _ ≤ _; (try simp only [World.size_alloc, World.size_drew]); omega)))
  refine (concat_walk (fun _ => True) (laid w k a n c b m d g2 o2 n2 c2) (w.heap.size + 1 + 1 + 1) g2 o2 n2 c2 (w.heap.size + 1 + 1) 0 1 1 jt (fun _ => t) (by simp [laid, go_sem]) (by simp [laid, go_sem]) ((i2.wide (fun _ _ _ => trivial)).on B) (fun i hi => ?_) h0 hn).mono ?_
  · obtain rfl : i = 0 := by omega
    exact ⟨w.heap.size + 1 + 1, 0, rfl, trivial, k, a, n, c, b, m, d, ⟨by simp [laid, go_sem], by simp [laid, go_sem], by simp [laid, go_sem]⟩, (h.wide (fun _ _ _ => trivial)).on B⟩
  · rintro e w' ⟨g, c', rfl, I, C, hb⟩
    refine ⟨g, c', rfl, lies_mk ⟨by decide, by decide⟩ ⟨hn, Nat.zero_le _⟩ C ⟨Nat.le_refl _, Nat.zero_le _⟩ (fun e => by cases e) (fun _ => rfl) (I.wide (fun _ _ _ => trivial)) (fun i hi => absurd hi (Nat.not_lt_zero _)), hb⟩
set_option linter.unusedSimpArgs false in
set_option linter.unusedVariables false in
set_option maxRecDepth 100000 in
set_option maxHeartbeats 2000000 in
theorem funcof_walk (S : Nat → Prop) (w : World) (k : Int) (a : Option Addr) (n c : Nat) (b : Option Addr) (m d : Nat) (t : T) (h : Lies S w (TV k a n c b m d) t) (g2 o2 n2 c2 : Nat) (jt : Nat → T) (i2 : ItemsAt S w (some ⟨g2, o2, none⟩) n2 jt) (h0 : 0 < n2) (hn : n2 + 1 ≤ 2513169434843) :
    Calls Try.prog 22 #[TV k a n c b m d, .slice (some ⟨g2, o2, none⟩) n2 c2] w (RetT (New w) (T.func n2 jt t) w) := by
  have CO := Lib.hid (copied_any (T.func n2 jt t))
  unfold CopiesFor at CO
  have CC := Lib.hid (laid_row S w k a n c b m d t h g2 o2 n2 c2 jt i2 h0 hn)
  unfold laid at CC
  clear h i2 h0 hn
  go_enter Try.func22, Try.ntmps22
  go_wp2_with (first
    | (go_at_call 44; (with_reducible refine CC.out.mono ?_); rintro e w1 ⟨g1, c1, rfl, L1, hb1⟩; have sz1 := hb1.size; (try simp only [World.size_alloc, World.size_drew] at sz1); obtain ⟨hc1, hf1⟩ := bcell (hb1); have z1_0 : w.heap.size < w1.heap.size := (by omega); have z1_1 : w.heap.size + 1 < w1.heap.size := (by omega))
    | (go_at_call 35; (with_reducible refine (CO.out _ _ _ _ _ _ _ _ _ L1).mono ?_); rintro e w2 ⟨k2, a2, n2, c2, b2, m2, d2, rfl, L2, hb2⟩; have sz2 := hb2.size; (try simp only [World.size_alloc, World.size_drew] at sz2); obtain ⟨hc2, hf2⟩ := bcell (hb2); have z2_0 : w.heap.size < w2.heap.size := (by omega); have z2_1 : w.heap.size + 1 < w2.heap.size := (by omega)))
  have BB : Below w.heap.size w w2 := (by (repeat' (first | (with_reducible assumption) | (with_reducible exact Below.refl _ _) | (with_reducible refine Below.drew ?_) | (with_reducible refine ballD1 ?_ _) | (with_reducible refine Below.set1 ?_ _ _ ?_ _) | (show _ ≤ _; (try simp only [World.size_alloc, World.size_drew]); omega) | (refine bstep ?_ hb2) | (refine bstep ?_ hb1))))
  have L3 := Lies.frm (N := w.heap.size + 1 + 1) L2 (by omega)
  refine bodyPost_ret (v := TV k2 a2 n2 c2 b2 m2 d2) (by simp [results, Try.results22, go_sem, *]) rfl ⟨k2, a2, n2, c2, b2, m2, d2, rfl, ?_, ?_⟩
  · refine Lies.wide (S := From (w.heap.size + 1 + 1)) ?_ (fun g _ s => by have s' : w.heap.size + 1 + 1 ≤ g := s; show w.heap.size ≤ g; omega)
    repeat' (first | (with_reducible exact L3) | (with_reducible refine Lies.set ?_ _ _ _ (not_from (by omega))))
  · (repeat' (first | (with_reducible assumption) | (with_reducible exact Below.refl _ _) | (with_reducible refine Below.drew ?_) | (with_reducible refine ballD1 ?_ _) | (with_reducible refine Below.set1 ?_ _ _ ?_ _) | (show _ ≤ _; (try simp only [World.size_alloc, World.size_drew]); omega) | (with_reducible exact BB)))
end Go.Proofs.Ytielmfchbgajnaa

/-
  All walked (layer 13): the join of some types.
-/
import Derived.Test.YtielmfchbgajnaaKJoin
namespace Go.Proofs.Ytielmfchbgajnaa
open Go.RowKit Go.Shelf

/-- The join of so many types. -/
def allT (it : Nat → T) : Nat → T
  | 0 => T.of 1
  | i + 1 => J (allT it i) (it i)
theorem all_ok (it : Nat → T) : ∀ n, (∀ i, i < n → Ok (it i)) → Ok (allT it n)
  | 0, _ => show Ok (T.of 1) by decide
  | n + 1, h => (join_up _ (all_ok it n (fun i hi => h i (by omega))) _ (h n (by omega))).1
theorem all_up (it : Nat → T) : ∀ n, (∀ i, i < n → Ok (it i)) → ∀ i, i < n → C (it i) (allT it n)
  | n + 1, h, i, hi => by
    have h0 := all_ok it n (fun i hi => h i (by omega))
    obtain ⟨u1, u2, u3⟩ := join_up _ h0 _ (h n (by omega))
    rcases Nat.lt_or_ge i n with q | q
    · exact c_trans (h i hi) h0 u1 (all_up it n (fun i hi => h i (by omega)) i q) u2
    · obtain rfl : i = n := by omega
      exact u3
/-- All blocks but two. -/
def But (g g' : Nat) : Nat → Prop := fun x => x ≠ g ∧ x ≠ g'
theorem but_sn {g g' : Nat} {W V : World} {v : Value} {t : T} (h : Lies (Sn (But g g') W) V v t) (h1 : g < W.heap.size) (h2 : g' < W.heap.size) : Lies (But g g') V v t := h.wide fun x _ s => s.elim id fun q => ⟨fun e => by subst e; omega, fun e => by subst e; omega⟩
theorem but_set {g g' : Nat} : ¬ But g g' g' := fun q => q.2 rfl
theorem ItemsAt.but {w : World} {a : Option Addr} {n : Nat} {it : Nat → T} {g g' : Nat} (h : ItemsAt (Sb Tr w) w a n it) (h1 : w.heap.size ≤ g) (h2 : w.heap.size ≤ g') : ItemsAt (But g g') w a n it := h.wide fun x l _ => ⟨fun e => by subst e; omega, fun e => by subst e; omega⟩
theorem frozen3 {w : World} {g : Nat} {x y z : Value} (h : Boxed w g x y z) (i : Nat) : w.frozen? ⟨g, i, none⟩ = false := Lib.frozen_of_heap h i
set_option linter.unusedSimpArgs false in
set_option linter.unusedVariables false in
set_option maxRecDepth 100000 in
set_option maxHeartbeats 4000000 in
theorem all_walk (w : World) (a : Option Addr) (n c : Nat) (it : Nat → T) (hI : ItemsAt (Sb Tr w) w a n it) (hn : n ≤ 2513169434843) :
    Calls Try.prog 12 #[.slice a n c] w (RetT (New w) (allT it n) w) := by
  have NB : (n : Int) ≤ 9223372036854775806 := by omega
  have HI := Lib.hid hI
  have HO := Lib.hid (fun (A B : T) => hold_any A B)
  have CO := Lib.hid (fun (t : T) => copied_any t)
  have FD := field2
  clear hI hn
  go_enter Try.func12, Try.ntmps12
  go_upto_region 2 with (go_at_call 33; (with_reducible refine (of_walk 1 _).mono ?_); rintro e w1 ⟨rfl, hb1⟩)
  have bR : Boxed (w.alloc (.cells #[.int .i64 0, .slice none 0 0, .slice none 0 0] 26)) w.heap.size (.int .i64 0) (.slice none 0 0) (.slice none 0 0) := Boxed.new w _ _ _
  have zz := hb1.size
  rw [World.size_alloc] at zz
  obtain ⟨g3, hg3⟩ : ∃ g, g = w1.heap.size := ⟨_, rfl⟩
  have h3 : w.heap.size < g3 := by omega
  have BW0 := Lib.hid (show Below w.heap.size w (w1.alloc (.cells #[.int .i64 1, .slice none 0 0, .slice none 0 0] 26)) from (bstep ((Below.refl _ _).alloc (Nat.le_refl _) _) hb1).alloc (by omega) _)
  have bX : Boxed (w1.alloc (.cells #[.int .i64 1, .slice none 0 0, .slice none 0 0] 26)) g3 (.int .i64 1) (.slice none 0 0) (.slice none 0 0) := Boxed.new' hg3
  have bR1 := (bR.below hb1).alloc (.cells #[.int .i64 1, .slice none 0 0, .slice none 0 0] 26)
  have HX := Lib.hid (And.intro bR1 bX)
  change Code.wp _ _ _ _ (w1.alloc (.cells #[.int .i64 1, .slice none 0 0, .slice none 0 0] 26))
  rw [← hg3]
  generalize w1.alloc (.cells #[.int .i64 1, .slice none 0 0, .slice none 0 0] 26) = V at *
  have IB := Lib.hid (show ItemsAt (But w.heap.size g3) w a n it from HI.out.but (Nat.le_refl _) (by omega))
  clear bR bX bR1 hb1 zz hg3 HI
  go_wp2
  go_loopg [9] n (fun gg i wr => ∃ (kk : Nat) (k5 : Int) (a5 : Option Addr) (n5 c5 : Nat) (b5 : Option Addr) (m5 d5 : Nat), kk ≤ n ∧ n - kk ≤ gg ∧ i = .int .i64 (kk : Int) ∧ Hid (Boxed wr w.heap.size (.int .i64 0) (.slice none 0 0) (.slice none 0 0) ∧ Boxed wr g3 (.int .i64 k5) (.slice a5 n5 c5) (.slice b5 m5 d5)) ∧ Hid (Lies (But w.heap.size g3) wr (TV k5 a5 n5 c5 b5 m5 d5) (allT it kk)) ∧ Hid (Below w.heap.size w wr))
  case atStart => exact ⟨0, 1, none, 0, 0, none, 0, 0, Nat.zero_le _, Nat.le_refl _, rfl, HX, Lib.hid (lies_of ⟨by decide, by decide⟩), BW0⟩
  case round =>
    clear HX BW0
    obtain ⟨kk, k5, a5, n5, c5, b5, m5, d5, hkk, hg, rfl, HX, LL, HB⟩ := hrel
    obtain ⟨x0, x1, x2⟩ := HX.out.2.cells
    have gx := HX.out.2.lt
    by_cases hlt : kk < n
    · obtain ⟨g4, o4, rfl, -, k4, a4, n4, c4, b4, m4, d4, ⟨u0, u1, u2⟩, L4⟩ := (IB.out.on HB.out) kk hlt
      have hlti : (0 : Int) ≤ (kk : Int) ∧ (kk : Int) < (n : Int) := by omega
      have CH := Lib.hid (show ∀ X, Below wr.heap.size wr X → Calls Try.prog 34 #[TV k5 a5 n5 c5 b5 m5 d5, TV k4 a4 n4 c4 b4 m4 d4] X (RetV (Sn (But w.heap.size g3) X) (vd (allT it kk) (it kk)) X) from fun X hb => HO.out (allT it kk) (it kk) (But w.heap.size g3) X k5 a5 n5 c5 b5 m5 d5 k4 a4 n4 c4 b4 m4 d4 (LL.out.on hb) (L4.on hb))
      have BXr := Lib.hid HX.out
      clear L4 LL
      go_wp2_with (go_at_call 34; (with_reducible refine (CH.out _ ?_).mono ?_); (· (repeat' (first | (with_reducible assumption) | (with_reducible exact Below.refl _ _) | (with_reducible refine Below.drew ?_) | (with_reducible refine ballD1 ?_ _) | (with_reducible refine Below.set1 ?_ _ _ ?_ _) | (show _ ≤ _; (try simp only [World.size_alloc, World.size_drew]); omega)))); rintro e w5 ⟨k6, a6, n6, c6, b6, m6, d6, rfl, L6, hb5⟩; have bx5 := Boxed.below (Boxed.alloc BXr.out.2 _) hb5; have br5 := Boxed.below (Boxed.alloc BXr.out.1 _) hb5; obtain ⟨e0, e1, e2⟩ := bx5.cells; have f0 := frozen3 bx5 0; have f1 := frozen3 bx5 1; have f2 := frozen3 bx5 2; have B5 := Lib.hid (show Below w.heap.size w w5 from (by (repeat' (first | (with_reducible assumption) | (with_reducible exact Below.refl _ _) | (with_reducible refine Below.drew ?_) | (with_reducible refine ballD1 ?_ _) | (with_reducible refine Below.set1 ?_ _ _ ?_ _) | (show _ ≤ _; (try simp only [World.size_alloc, World.size_drew]); omega) | (with_reducible exact HB.out) | (refine bstep ?_ hb5))))); have L7 := Lib.hid (but_sn L6 (by simp only [World.size_alloc]; omega) (by simp only [World.size_alloc]; omega)))
      have NX := Lib.hid (And.intro (((br5.other (o := 0) (v := .int .i64 k6) (Nat.ne_of_lt h3)).other (o := 1) (v := .slice a6 n6 c6) (Nat.ne_of_lt h3)).other (o := 2) (v := .slice b6 m6 d6) (Nat.ne_of_lt h3)) (Boxed.sets (x' := .int .i64 k6) (y' := .slice a6 n6 c6) (z' := .slice b6 m6 d6) bx5))
      have NL := Lib.hid ((((L7.out).set g3 0 (.int .i64 k6) but_set).set g3 1 (.slice a6 n6 c6) but_set).set g3 2 (.slice b6 m6 d6) but_set)
      have NBl := Lib.hid (Below.set1 (Below.set1 (Below.set1 B5.out g3 0 (Nat.le_of_lt h3) (.int .i64 k6)) g3 1 (Nat.le_of_lt h3) (.slice a6 n6 c6)) g3 2 (Nat.le_of_lt h3) (.slice b6 m6 d6))
      clear L6 hb5 bx5 br5 e0 e1 e2 f0 f1 f2 x0 x1 x2 u0 u1 u2 L7 B5 HX BXr HB CH
      go_roundg (n - (kk + 1))
      case measure => omega
      case rel => exact ⟨kk + 1, k6, a6, n6, c6, b6, m6, d6, by omega, Nat.le_refl _, by go_num, NX, NL, NBl⟩
    · obtain rfl : kk = n := by omega
      have CP := Lib.hid (CO.out (allT it kk) _ wr k5 a5 n5 c5 b5 m5 d5 LL.out)
      have HR := Lib.hid HX.out.1
      go_wp2_with (go_at_call 35; (with_reducible refine (CP.out).mono ?_); rintro e w6 ⟨k6, a6, n6, c6, b6, m6, d6, rfl, L6, hb6⟩; have br6 := Boxed.below HR.out hb6; obtain ⟨e0, e1, e2⟩ := br6.cells; have f0 := frozen3 br6 0; have f1 := frozen3 br6 1; have f2 := frozen3 br6 2)
      have L7 := Lies.frm (N := w.heap.size + 1) L6 (by omega)
      have B6 := bstep HB.out hb6
      refine bodyPost_ret (v := TV k6 a6 n6 c6 b6 m6 d6) (by simp [results, Try.results12, go_sem, *]) rfl ⟨k6, a6, n6, c6, b6, m6, d6, rfl, ?_, ?_⟩
      · refine Lies.wide (S := From (w.heap.size + 1)) ?_ (fun g _ s => by have s' : w.heap.size + 1 ≤ g := s; show w.heap.size ≤ g; omega)
        repeat' (first | (with_reducible exact L7) | (with_reducible refine Lies.set ?_ _ _ _ (not_from (by omega))))
      · (repeat' (first | (with_reducible assumption) | (with_reducible exact Below.refl _ _) | (with_reducible refine Below.drew ?_) | (with_reducible refine ballD1 ?_ _) | (with_reducible refine Below.set1 ?_ _ _ ?_ _) | (show _ ≤ _; (try simp only [World.size_alloc, World.size_drew]); omega) | (with_reducible exact B6)))
end Go.Proofs.Ytielmfchbgajnaa

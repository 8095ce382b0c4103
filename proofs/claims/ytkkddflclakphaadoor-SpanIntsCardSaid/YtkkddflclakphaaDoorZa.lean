/-
  Durations as ints: whether one may be, sums, parts (May, Add, Parts of package span, may of the statements), each as a contract of its call.
-/
import Derived.Test.YtkkddflclakphaaDoorC0
namespace Go.Proofs.YtkkddflclakphaaDoor
open Go.RowKit

/-- May a duration be so long? -/
def spB (n : Int) : Bool := decide (-9007199254740992 ≤ n) && decide (n ≤ 9007199254740992)
theorem spB_yes {n : Int} : spB n = true ↔ -9007199254740992 ≤ n ∧ n ≤ 9007199254740992 := by
  unfold spB
  simp only [Bool.and_eq_true, decide_eq_true_eq]
set_option maxRecDepth 100000 in
set_option maxHeartbeats 1000000 in
theorem span_may (n : Int) (w : World) : Calls Tryd.prog 11 #[.int .i64 n] w (Ret (.bool (spB n)) w) := by
  unfold spB
  cases h1 : decide (-9007199254740992 ≤ n) <;> cases h2 : decide (n ≤ 9007199254740992)
  all_goals
    go_enter Tryd.func11, Tryd.ntmps11
    go_wp2
    go_ret
    exact ⟨rfl, by go_grown⟩
set_option maxRecDepth 100000 in
set_option maxHeartbeats 1000000 in
theorem law_may (n : Int) (w : World) : Calls Tryd.prog 10 #[.int .i64 n] w (Ret (.bool (spB n)) w) := by
  unfold spB
  cases h1 : decide (-9007199254740992 ≤ n) <;> cases h2 : decide (n ≤ 9007199254740992)
  all_goals
    go_enter Tryd.func10, Tryd.ntmps10
    go_wp2
    go_ret
    exact ⟨rfl, by go_grown⟩
/-- Whether there is a sum; which it is. -/
def sumB (a b : Int) : Bool := spB a && spB b && spB (a + b)
def sumV (a b : Int) : Int := if sumB a b then a + b else 0
set_option maxRecDepth 100000 in
set_option maxHeartbeats 2000000 in
theorem span_add (a b : Int) (w : World) : Calls Tryd.prog 9 #[.int .i64 a, .int .i64 b] w (Ret (.tuple #[.int .i64 (sumV a b), .bool (sumB a b)]) w) := by
  have MA0 := span_may a
  have MB0 := span_may b
  have MC0 := span_may (a + b)
  have hs : spB a = true → spB b = true → wrap64 (a + b) = a + b ∧ IntKind.i64.wrap (a + b) = a + b := by
    intro h k
    have h := spB_yes.1 h
    have k := spB_yes.1 k
    have r : I64 (a + b) := by unfold I64; omega
    exact ⟨r.wrap', r.wrap⟩
  have H := Lib.hid hs
  obtain ⟨Y, hY⟩ : ∃ Y, Y = sumB a b := ⟨_, rfl⟩
  obtain ⟨V, hV⟩ : ∃ V, V = sumV a b := ⟨_, rfl⟩
  rw [← hY, ← hV]
  unfold sumV at hV
  rw [← hY] at hV
  unfold sumB at hY
  generalize spB a = p at *
  generalize spB b = q at *
  generalize spB (a + b) = r at *
  have HY := Lib.hid hY
  have HV := Lib.hid hV
  clear hY hV
  have MA := Lib.hid MA0
  have MB := Lib.hid MB0
  have MC := Lib.hid MC0
  clear MA0 MB0 MC0 hs
  go_enter Tryd.func9, Tryd.ntmps9
  go_wp2_with fail
  refine (MA.out _).mono ?_
  rintro e w1 ⟨rfl, hb⟩
  have B : Below w.heap.size w w1 := bstep (by go_grown) hb
  clear hb MA
  cases p
  · go_wp2
    refine ret_via (v := .tuple #[.int .i64 0, .bool false]) (fun _ => True) (fun VF _ => ?_) trivial rfl ⟨by rw [HV.out, HY.out]; rfl, B⟩
    simp [results, Tryd.results9, go_sem, *]
  go_wp2_with fail
  refine (MB.out _).mono ?_
  rintro e w2 ⟨rfl, hb⟩
  replace B := bstep B hb
  clear hb MB
  cases q
  · go_wp2
    refine ret_via (v := .tuple #[.int .i64 0, .bool false]) (fun _ => True) (fun VF _ => ?_) trivial rfl ⟨by rw [HV.out, HY.out]; rfl, B⟩
    simp [results, Tryd.results9, go_sem, *]
  have h1 := (H.out (by trivial) (by trivial)).1
  have h2 := (H.out (by trivial) (by trivial)).2
  clear H
  go_wp2_with fail
  refine (MC.out _).mono ?_
  rintro e w3 ⟨rfl, hb⟩
  replace B := bstep B hb
  clear hb MC
  cases r
  · go_wp2
    refine ret_via (v := .tuple #[.int .i64 0, .bool false]) (fun _ => True) (fun VF _ => ?_) trivial rfl ⟨by rw [HV.out, HY.out]; rfl, B⟩
    simp [results, Tryd.results9, go_sem, *]
  · go_wp2
    refine ret_via (v := .tuple #[.int .i64 (a + b), .bool true]) (fun _ => True) (fun VF _ => ?_) trivial rfl ⟨by rw [HV.out, HY.out]; rfl, B⟩
    simp [results, Tryd.results9, go_sem, *]
/-- Days, hours, minutes and seconds of a duration. -/
def ptD (n : Int) : Int := n.tdiv 86400
def ptH (n : Int) : Int := (n.tmod 86400).tdiv 3600
def ptM (n : Int) : Int := (n.tmod 3600).tdiv 60
def ptS (n : Int) : Int := n.tmod 60
set_option maxRecDepth 100000 in
set_option maxHeartbeats 2000000 in
theorem span_parts (n : Int) (hn : I64 n) (w : World) : Calls Tryd.prog 12 #[.int .i64 n] w (Ret (.tuple #[.int .i64 (ptD n), .int .i64 (ptH n), .int .i64 (ptM n), .int .i64 (ptS n)]) w) := by
  have u1 : I64 (ptD n) := by unfold I64 at *; unfold ptD; have := Int.tdiv_mul_add_tmod n 86400; have := Int.lt_tmod_of_pos n (show (0 : Int) < 86400 by decide); have := Int.tmod_lt_of_pos n (show (0 : Int) < 86400 by decide); omega
  have b1 := And.intro (Int.lt_tmod_of_pos n (show (0 : Int) < 86400 by decide)) (Int.tmod_lt_of_pos n (show (0 : Int) < 86400 by decide))
  have b2 := And.intro (Int.lt_tmod_of_pos n (show (0 : Int) < 3600 by decide)) (Int.tmod_lt_of_pos n (show (0 : Int) < 3600 by decide))
  have b3 := And.intro (Int.lt_tmod_of_pos n (show (0 : Int) < 60 by decide)) (Int.tmod_lt_of_pos n (show (0 : Int) < 60 by decide))
  have u2 : I64 (n.tmod 86400) := by unfold I64; omega
  have u3 : I64 (n.tmod 3600) := by unfold I64; omega
  have u4 : I64 (n.tmod 60) := by unfold I64; omega
  have u5 : I64 (ptH n) := by unfold I64 ptH; have := Int.tdiv_mul_add_tmod (n.tmod 86400) 3600; have := Int.lt_tmod_of_pos (n.tmod 86400) (show (0 : Int) < 3600 by decide); have := Int.tmod_lt_of_pos (n.tmod 86400) (show (0 : Int) < 3600 by decide); omega
  have u6 : I64 (ptM n) := by unfold I64 ptM; have := Int.tdiv_mul_add_tmod (n.tmod 3600) 60; have := Int.lt_tmod_of_pos (n.tmod 3600) (show (0 : Int) < 60 by decide); have := Int.tmod_lt_of_pos (n.tmod 3600) (show (0 : Int) < 60 by decide); omega
  have f1 := u1.wrap
  have f2 := u2.wrap
  have f3 := u3.wrap
  have f4 := u4.wrap
  have f5 := u5.wrap
  have f6 := u6.wrap
  have g1 := u1.wrap'
  have g2 := u2.wrap'
  have g3 := u3.wrap'
  have g4 := u4.wrap'
  have g5 := u5.wrap'
  have g6 := u6.wrap'
  unfold ptD at *
  unfold ptH at *
  unfold ptM at *
  unfold ptS at *
  clear u1 u2 u3 u4 u5 u6 b1 b2 b3 hn
  go_enter Tryd.func12, Tryd.ntmps12
  go_wp2
  refine ret_via (v := .tuple #[.int .i64 (n.tdiv 86400), .int .i64 ((n.tmod 86400).tdiv 3600), .int .i64 ((n.tmod 3600).tdiv 60), .int .i64 (n.tmod 60)]) (fun _ => True) (fun VF _ => ?_) trivial rfl ⟨rfl, by go_grown⟩
  simp [results, Tryd.results12, go_sem, *]
end Go.Proofs.YtkkddflclakphaaDoor

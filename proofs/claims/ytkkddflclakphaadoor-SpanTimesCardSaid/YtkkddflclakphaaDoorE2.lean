/-
  What is dropped of a number, and whether that makes it one more (remnant of package dec), each as a contract of its call.
-/
import Derived.Test.YtkkddflclakphaaDoorE1
namespace Go.Proofs.YtkkddflclakphaaDoor
open Go.RowKit

abbrev Rm (d : Nat) (more : Bool) : Value := .agg #[.int .u64 (d : Int), .bool more]

set_option maxHeartbeats 400000 in
theorem nothing_any (d : Nat) (more : Bool) (w : World) : Calls Tryd.prog 97 #[Rm d more] w (RetB (decide (d = 0) && !more) w) := by
  by_cases z : d = 0
  · subst z
    go_enter Tryd.func97, Tryd.ntmps97
    go_wp2
    go_ret
    exact ⟨rfl, by go_grown⟩
  · have t : ((d : Int) == 0) = false := by rw [beq_eq_false_iff_ne]; omega
    rw [decide_eq_false z]
    go_enter Tryd.func97, Tryd.ntmps97
    go_wp2
    go_ret
    exact ⟨rfl, by go_grown⟩

/-- Whether a size is to be one more, where the digit d, and more or not, was dropped of it. -/
def goUp (m : Nat) (below odd : Bool) (d : Nat) (more : Bool) : Bool :=
  if decide (d = 0) && !more then false
  else if m ≤ 3 then (if decide (d = 5) && !more then decide (m = 2) || (decide (m = 1) && odd) else decide (5 ≤ d))
  else if m = 4 then true else if m = 6 then below else if m = 7 then !below else false

set_option maxRecDepth 100000 in
set_option maxHeartbeats 4000000 in
theorem goesUp_any (m : Nat) (hm : m = 1 ∨ m = 2 ∨ m = 3 ∨ m = 4 ∨ m = 5 ∨ m = 6 ∨ m = 7) (below odd : Bool) (d : Nat) (more : Bool) (w : World) :
    Calls Tryd.prog 92 #[Rm d more, .int .i64 (m : Int), .bool below, .bool odd] w (RetB (goUp m below odd d more) w) := by
  have NO := Lib.hid (nothing_any d more)
  cases nt : (decide (d = 0) && !more)
  · rw [nt] at NO
    have c5 : decide (d = 5) = ((d : Int) == 5) := by
      by_cases z : d = 5
      · subst z; rfl
      · rw [decide_eq_false z, eq_comm, beq_eq_false_iff_ne]; omega
    have cg : decide (5 ≤ d) = decide (5 ≤ (d : Int)) := by
      by_cases z : 5 ≤ d
      · rw [decide_eq_true z, decide_eq_true (by omega)]
      · rw [decide_eq_false z, decide_eq_false (by omega)]
    have e : goUp m below odd d more = (if m ≤ 3 then (if ((d : Int) == 5) && !more then decide (m = 2) || (decide (m = 1) && odd) else decide (5 ≤ (d : Int))) else if m = 4 then true else if m = 6 then below else if m = 7 then !below else false) := by
      unfold goUp
      rw [nt, c5, cg]
      rfl
    rw [e]
    cases t5 : ((d : Int) == 5) <;> cases tg : decide (5 ≤ (d : Int)) <;> cases more <;> rcases hm with rfl | rfl | rfl | rfl | rfl | rfl | rfl
    all_goals
      clear nt c5 cg e
      go_enter Tryd.func92, Tryd.ntmps92
      go_wp2_with fail
      refine (NO.out _).mono ?_
      rintro e w1 ⟨rfl, hb1⟩
      have B1 : Below w.heap.size w w1 := bstep (by go_grown) hb1
      have q0 : w1.cell? ⟨w.heap.size, 0, none⟩ = some (.int .u64 (d : Int)) := (hb1.cell (p := ⟨w.heap.size, 0, none⟩) (by simp)).trans (by simp [go_sem])
      have q1 := (hb1.cell (p := ⟨w.heap.size, 1, none⟩) (by simp)).trans (World.cell?_alloc_new _ _ _ _)
      simp only [List.getElem?_toArray, List.getElem?_cons_succ, List.getElem?_cons_zero] at q1
      clear hb1 NO
      go_wp2
      go_ret
      exact ⟨rfl, B1⟩
  · rw [nt] at NO
    have e : goUp m below odd d more = false := by unfold goUp; rw [nt]; rfl
    rw [e]
    go_enter Tryd.func92, Tryd.ntmps92
    go_wp2_with fail
    refine (NO.out _).mono ?_
    rintro e w1 ⟨rfl, hb1⟩
    go_wp2
    go_ret
    exact ⟨rfl, bstep (by go_grown) hb1⟩
end Go.Proofs.YtkkddflclakphaaDoor

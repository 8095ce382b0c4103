/-
  Moments of one offset: the months between them; the document's examples of layer 8 (awake of its statements): each as a contract of its call.
-/
import Derived.Test.YtkkddflclakphaaDoorMc
import Derived.Test.YtkkddflclakphaaDoorMd
import Derived.Deep.DeepCutAuto
import Derived.Deep.CutBlock
namespace Go.Proofs.YtkkddflclakphaaDoor
open Go.RowKit

theorem keepN {W w' : World} {g : Nat} {v0 v1 v2 v3 v4 v5 : Value} (h : W.cell? ⟨g, 0, none⟩ = some v0 ∧ W.cell? ⟨g, 1, none⟩ = some v1 ∧ W.cell? ⟨g, 2, none⟩ = some v2 ∧ W.cell? ⟨g, 3, none⟩ = some v3 ∧ W.cell? ⟨g, 4, none⟩ = some v4 ∧ W.cell? ⟨g, 5, none⟩ = some v5) (s : g < W.heap.size) (hb : Below W.heap.size W w') : w'.cell? ⟨g, 0, none⟩ = some v0 ∧ w'.cell? ⟨g, 1, none⟩ = some v1 ∧ w'.cell? ⟨g, 2, none⟩ = some v2 ∧ w'.cell? ⟨g, 3, none⟩ = some v3 ∧ w'.cell? ⟨g, 4, none⟩ = some v4 ∧ w'.cell? ⟨g, 5, none⟩ = some v5 ∧ Below W.heap.size W w' :=
  ⟨((bcell hb).1 _ _ s).trans h.1, ((bcell hb).1 _ _ s).trans h.2.1, ((bcell hb).1 _ _ s).trans h.2.2.1, ((bcell hb).1 _ _ s).trans h.2.2.2.1, ((bcell hb).1 _ _ s).trans h.2.2.2.2.1, ((bcell hb).1 _ _ s).trans h.2.2.2.2.2, hb⟩
/-- How many whole months a moment is behind another one of the same offset, where it is not ahead. -/
def mbV (y m d s y' m' d' s' : Int) : Int := if ahB d' s' d s then (y' - y) * 12 + m' - m - 1 else (y' - y) * 12 + m' - m
theorem Day.lims {y m d : Int} (h : Day y m d) : (-999999999 ≤ y ∧ y ≤ 999999999) ∧ (1 ≤ m ∧ m ≤ 12) ∧ 1 ≤ d ∧ d ≤ lenI y m := by
  obtain ⟨a, b, c, e⟩ := h
  exact ⟨a, b, c, e⟩
theorem inst_back {y m d s : Int} {z : Bool} {o : Int} (_h : Day y m d) (k : mayM s z o = true) : (instI y m d s o + o) / 86400 = numI y m d ∧ (instI y m d s o + o) % 86400 = s := by
  have := may_sec k
  unfold instI
  omega
theorem behind_same (y m d s : Int) (z : Bool) (o y' m' d' s' : Int) (h : Day y m d) (k : mayM s z o = true) (h' : Day y' m' d') (k' : mayM s' z o = true) (w : World) : Calls Tryd.prog 78 #[Mo y m d s z o, Mo y' m' d' s' z o] w (Ret (.tuple #[.int .i64 (mbV y m d s y' m' d' s'), .bool true]) w) := by
  have e := inst_back h' k'
  have r := inst_range h' k'
  have OF := ofN_yes (instI y' m' d' s' o) s z o y' m' d' k (by omega) h' e.1.symm
  rw [e.2] at OF
  have a := h.lims
  have b := h'.lims
  refine behind_of y m d s z o y' m' d' s' z o _ y' m' d' s' z o true true _ _ rfl (fun c => by cases c) (fun _ c => ?_) (fun _ c => ?_) (instant_yes y' m' d' s' z o h' k') OF ⟨a.1, b.1, ⟨by omega, by omega⟩, by omega, by omega⟩ w
  · unfold mbV; rw [c]; rfl
  · unfold mbV; rw [c]; rfl
/-- The months between two moments of the same offset. -/
def msV (y m d s o y' m' d' s' : Int) : Int := if 0 ≤ instI y' m' d' s' o - instI y m d s o then mbV y m d s y' m' d' s' else -(mbV y' m' d' s' y m d s)
theorem mbV_range {y m d s y' m' d' s' : Int} (h : Day y m d) (h' : Day y' m' d') : -24000000000 ≤ mbV y m d s y' m' d' s' ∧ mbV y m d s y' m' d' s' ≤ 24000000000 := by
  have a := h.lims
  have b := h'.lims
  unfold mbV
  split <;> omega
theorem months_same (y m d s : Int) (z : Bool) (o y' m' d' s' : Int) (h : Day y m d) (k : mayM s z o = true) (h' : Day y' m' d') (k' : mayM s' z o = true) (w : World) : Calls Tryd.prog 53 #[Mo y m d s z o, Mo y' m' d' s' z o] w (Ret (.tuple #[.int .i64 (msV y m d s o y' m' d' s'), .bool true]) w) := by
  have bt := btI_of h k h' k' rfl
  have BT := between_any y m d s z o y' m' d' s' z o
  rw [bt.1, bt.2] at BT
  unfold msV
  split
  · exact mb_up y m d s z o y' m' d' s' z o _ _ true BT (by assumption) (behind_same y m d s z o y' m' d' s' h k h' k') w
  · have r := mbV_range (s := s') (s' := s) h' h
    exact mb_down y m d s z o y' m' d' s' z o _ _ true BT (by omega) (by unfold I64; omega) (behind_same y' m' d' s' z o y m d s h' k' h k) w
end Go.Proofs.YtkkddflclakphaaDoor

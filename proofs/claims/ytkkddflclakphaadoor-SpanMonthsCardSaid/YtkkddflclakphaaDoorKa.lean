/-
  Package clock: which times may be, of an hour, a minute and a second, with an offset; their parts: each as a contract of its call.
-/
import Derived.Test.YtkkddflclakphaaDoorCo
import Derived.Deep.DeepCutAuto
import Derived.Deep.CutBlock
import Derived.Deep.LoopGhost
namespace Go.Proofs.YtkkddflclakphaaDoor
open Go.RowKit

/-- A time, as a value. -/
abbrev Tm (s : Int) (z : Bool) (o : Int) : Value := .agg #[.int .i64 s, .bool z, .int .i64 o]
abbrev TmC (s : Int) (z : Bool) (o : Int) : Obj := .cells #[.int .i64 s, .bool z, .int .i64 o] 52
/-- A block holds a time. -/
def HoldsM (W : World) (g : Nat) (s : Int) (z : Bool) (o : Int) : Prop := (W.cell? ⟨g, 0, none⟩ = some (.int .i64 s) ∧ W.cell? ⟨g, 1, none⟩ = some (.bool z) ∧ W.cell? ⟨g, 2, none⟩ = some (.int .i64 o)) ∧ (W.frozen? ⟨g, 0, none⟩ = false ∧ W.frozen? ⟨g, 1, none⟩ = false ∧ W.frozen? ⟨g, 2, none⟩ = false) ∧ g < W.heap.size
theorem HoldsM.below {W W' : World} {g : Nat} {s : Int} {z : Bool} {o : Int} (H : HoldsM W g s z o) (hb : Below W.heap.size W W') : HoldsM W' g s z o := by
  obtain ⟨⟨a, b, c⟩, ⟨a', b', c'⟩, s⟩ := H
  obtain ⟨hc, hf⟩ := bcell hb
  exact ⟨⟨(hc _ _ s).trans a, (hc _ _ s).trans b, (hc _ _ s).trans c⟩, ⟨(hf _ _ s).trans a', (hf _ _ s).trans b', (hf _ _ s).trans c'⟩, Nat.lt_of_lt_of_le s hb.size⟩
theorem HoldsM.alloc {W : World} {g : Nat} {s : Int} {z : Bool} {o : Int} (H : HoldsM W g s z o) (x : Obj) : HoldsM (W.alloc x) g s z o := H.below ((Below.refl _ _).alloc (Nat.le_refl _) x)
theorem HoldsM.drew {W : World} {g : Nat} {s : Int} {z : Bool} {o : Int} (H : HoldsM W g s z o) : HoldsM W.drew g s z o := H
theorem HoldsM.new {W : World} {g t : Nat} {s : Int} {z : Bool} {o : Int} (hg : g = W.heap.size) : HoldsM (W.alloc (.cells #[.int .i64 s, .bool z, .int .i64 o] t)) g s z o := by
  subst hg
  simp [HoldsM, go_sem]
theorem HoldsM.put {W : World} {g : Nat} {a c s o : Int} {b z : Bool} (H : HoldsM W g a b c) : HoldsM (((W.setCell ⟨g, 0, none⟩ (.int .i64 s)).setCell ⟨g, 1, none⟩ (.bool z)).setCell ⟨g, 2, none⟩ (.int .i64 o)) g s z o := by
  obtain ⟨⟨a, b, c⟩, ⟨a', b', c'⟩, s⟩ := H
  simp [HoldsM, go_sem, *]
theorem HoldsM.put0 {W : World} {g : Nat} {a c s : Int} {b : Bool} (H : HoldsM W g a b c) : HoldsM (W.setCell ⟨g, 0, none⟩ (.int .i64 s)) g s b c := by
  obtain ⟨⟨a, b, c⟩, ⟨a', b', c'⟩, s⟩ := H
  simp [HoldsM, go_sem, *]
theorem HoldsM.put1 {W : World} {g : Nat} {a c : Int} {b z : Bool} (H : HoldsM W g a b c) : HoldsM (W.setCell ⟨g, 1, none⟩ (.bool z)) g a z c := by
  obtain ⟨⟨a, b, c⟩, ⟨a', b', c'⟩, s⟩ := H
  simp [HoldsM, go_sem, *]
theorem HoldsM.put2 {W : World} {g : Nat} {a c o : Int} {b : Bool} (H : HoldsM W g a b c) : HoldsM (W.setCell ⟨g, 2, none⟩ (.int .i64 o)) g a b o := by
  obtain ⟨⟨a, b, c⟩, ⟨a', b', c'⟩, s⟩ := H
  simp [HoldsM, go_sem, *]
theorem HoldsM.far {W : World} {g : Nat} {s : Int} {z : Bool} {o : Int} (H : HoldsM W g s z o) {p : Addr} (hp : g ≠ p.block) (u : Value) : HoldsM (W.setCell p u) g s z o := by
  obtain ⟨⟨a, b, c⟩, ⟨a', b', c'⟩, s⟩ := H
  have k := Below.heap_setCell W p u g hp
  exact ⟨⟨(World.cell?_of_block (a := ⟨g, 0, none⟩) k).trans a, (World.cell?_of_block (a := ⟨g, 1, none⟩) k).trans b, (World.cell?_of_block (a := ⟨g, 2, none⟩) k).trans c⟩, ⟨(World.frozen?_of_block (a := ⟨g, 0, none⟩) k).trans a', (World.frozen?_of_block (a := ⟨g, 1, none⟩) k).trans b', (World.frozen?_of_block (a := ⟨g, 2, none⟩) k).trans c'⟩, by simpa using s⟩

/-! ### May -/
/-- Whether there is that time. -/
def mayM (s : Int) (z : Bool) (o : Int) : Bool := decide (0 ≤ s) && decide (s ≤ 86399) && decide (-64800 ≤ o) && decide (o ≤ 64800) && (z || o == 0)
set_option maxRecDepth 100000 in
set_option maxHeartbeats 1000000 in
theorem mayM_any (s : Int) (z : Bool) (o : Int) (w : World) : Calls Tryd.prog 74 #[Tm s z o] w (Ret (.bool (mayM s z o)) w) := by
  have key : ∀ p q r t u : Bool, decide (s < 0) = p → decide (86400 ≤ s) = q → decide (-64800 ≤ o) = r → decide (o ≤ 64800) = t → (o == 0) = u → Calls Tryd.prog 74 #[Tm s z o] w (Ret (.bool (if p || q then false else if z then r && t else u)) w) := by
    intro p q r t u hp hq hr ht hu
    cases p <;> cases q <;> cases z <;> cases r
    all_goals
      go_enter Tryd.func74, Tryd.ntmps74
      go_wp2
      go_ret
      exact ⟨congrArg Ending.returned (by simp [*]), by go_grown⟩
  have := key _ _ _ _ _ rfl rfl rfl rfl rfl
  have e : (if decide (s < 0) || decide (86400 ≤ s) then false else if z then decide (-64800 ≤ o) && decide (o ≤ 64800) else (o == 0)) = mayM s z o := by
    unfold mayM
    rw [Bool.eq_iff_iff]
    cases z
    all_goals
      simp
      omega
  rw [e] at this
  exact this
theorem may_sec {s : Int} {z : Bool} {o : Int} (h : mayM s z o = true) : 0 ≤ s ∧ s ≤ 86399 := by
  unfold mayM at h
  simp at h
  omega
theorem may_off {s : Int} {z : Bool} {o : Int} (h : mayM s z o = true) : -64800 ≤ o ∧ o ≤ 64800 := by
  unfold mayM at h
  simp at h
  omega
theorem may_unzoned {s o : Int} (h : mayM s false o = true) : o = 0 := by
  unfold mayM at h
  simp at h
  omega

/-! ### Of -/
/-- Whether there are that hour, minute and second. -/
def ofOk (h m s : Int) : Bool := decide (0 ≤ h) && decide (h < 24) && decide (0 ≤ m) && decide (m < 60) && decide (0 ≤ s) && decide (s < 60)
end Go.Proofs.YtkkddflclakphaaDoor

/-
  The document's answer of layer 16: hex, code, escape, as contracts of their calls.
-/
import Derived.Test.YtfelcneedpndiaaDoorIh
namespace Go.Proofs.YtfelcneedpndiaaDoor
open Go.RowKit Go.Lib

def hexI (r : Nat) : Int := match hexV r with | none => -1 | some d => (d : Int)
theorem hexV_lt {r d : Nat} (h : hexV r = some d) : d < 16 := by
  unfold hexV digR at h
  repeat' split at h
  all_goals first
    | (injection h with h; simp at *; omega)
    | simp at h
def RetCode (o : Option Nat) (w : World) (e : Ending) (w' : World) : Prop :=
  ∃ (x : Int) (ok : Bool), e = .returned (.tuple #[.int .i32 x, .bool ok]) ∧ w = w' ∧ (match o with | none => ok = false | some c => ok = true ∧ x = (c : Int))
theorem codeGo_step (m c : Nat) (S : List Nat) : codeGo (m + 1) c S = (match hexV (hd S) with | none => none | some d => codeGo m (16 * c + d) (S.drop 1)) := rfl
def RetEsc (o : Option (Nat × Nat)) (w : World) (e : Ending) (w' : World) : Prop :=
  ∃ (x y : Int) (ok : Bool), e = .returned (.tuple #[.int .i32 x, .int .i64 y, .bool ok]) ∧ w = w' ∧ (match o with | none => ok = false | some (r, m) => ok = true ∧ x = (r : Int) ∧ y = (m : Int))
end Go.Proofs.YtfelcneedpndiaaDoor

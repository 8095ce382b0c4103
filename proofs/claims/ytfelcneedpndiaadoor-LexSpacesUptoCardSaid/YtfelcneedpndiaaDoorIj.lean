/-
  The document's answer of layer 16: quoted, as a contract of its call.
-/
import Derived.Test.YtfelcneedpndiaaDoorIi
namespace Go.Proofs.YtfelcneedpndiaaDoor
open Go.RowKit Go.Lib

theorem hexV_pos {r d : Nat} (h : hexV r = some d) : r ≠ 0 := by
  rintro rfl
  simp [hexV, digR] at h
theorem codeGo_len : ∀ (n c : Nat) (S : List Nat) (x : Nat), codeGo n c S = some x → n ≤ S.length
  | 0, _, _, _, _ => Nat.zero_le _
  | n + 1, c, S, x, h => by
    rw [codeGo_step] at h
    cases hv : hexV (hd S) with
    | none => rw [hv] at h; cases h
    | some d =>
      rw [hv] at h
      have ih := codeGo_len n _ _ x h
      have ne : S ≠ [] := by
        rintro rfl
        exact hexV_pos hv rfl
      have := List.length_pos_iff.2 ne
      rw [List.length_drop] at ih
      omega
theorem codeS_len {n : Nat} {S : List Nat} {x : Nat} (h : codeS n S = some x) : n ≤ S.length := by
  unfold codeS at h
  cases hc : codeGo n 0 S with
  | none => rw [hc] at h; cases h
  | some c => exact codeGo_len n 0 S c hc
theorem hd_pos {S : List Nat} (h : hd S ≠ 0) : 1 ≤ S.length := by
  rcases S with _ | ⟨a, t⟩
  · exact absurd rfl h
  · simp
theorem escS_len {S : List Nat} {r m : Nat} (h : escS S = some (r, m)) : m ≤ S.length := by
  unfold escS at h
  split at h
  · next c => injection h with h; injection h with h1 h2; have := hd_pos (S := S) (by omega); omega
  split at h
  · next c => injection h with h; injection h with h1 h2; have := hd_pos (S := S) (by omega); omega
  split at h
  · next c => injection h with h; injection h with h1 h2; have := hd_pos (S := S) (by omega); omega
  split at h
  · next c => injection h with h; injection h with h1 h2; have := hd_pos (S := S) (by omega); omega
  split at h
  · next c =>
    cases hc : codeS 4 (S.drop 1) with
    | none => rw [hc] at h; cases h
    | some x =>
      rw [hc] at h
      injection h with h; injection h with h1 h2
      have a := codeS_len hc
      rw [List.length_drop] at a
      omega
  split at h
  · next c =>
    cases hc : codeS 6 (S.drop 1) with
    | none => rw [hc] at h; cases h
    | some x =>
      rw [hc] at h
      injection h with h; injection h with h1 h2
      have a := codeS_len hc
      rw [List.length_drop] at a
      omega
  · cases h
/-- What quoted answers. -/
def RetQ (L : List Nat) (q : Option (List Nat × List Nat)) (k : Nat) (w : World) (e : Ending) (w' : World) : Prop :=
  ∃ (s : ByteArray) (j : Nat) (ok : Bool), e = .returned (.tuple #[.string s, .int .i64 (j : Int), .bool ok]) ∧ Below w.heap.size w w' ∧ s.size ≤ 140737488355328 ∧
    (match q with | none => ok = false ∧ s = ⟨#[]⟩ ∧ j = 0 | some (T, R) => ok = true ∧ s = ⟨(enc T).toArray⟩ ∧ k ≤ j ∧ j ≤ L.length ∧ L.drop j = R)
theorem qmap (M _T : List Nat) (x : Nat) (o : Option (List Nat × List Nat)) : ((o.map fun y => (x :: y.1, y.2)).map fun y => (M ++ y.1, y.2)) = o.map fun y => ((M ++ [x]) ++ y.1, y.2) := by
  cases o with
  | none => rfl
  | some y => simp
end Go.Proofs.YtfelcneedpndiaaDoor

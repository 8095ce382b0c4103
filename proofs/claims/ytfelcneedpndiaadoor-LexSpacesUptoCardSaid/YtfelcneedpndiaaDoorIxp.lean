/-
  Plain: where a token stands in bytes (layer 16).
-/
import Derived.Test.YtfelcneedpndiaaDoorIu
namespace Go.Proofs.YtfelcneedpndiaaDoor
open Go.Lib

theorem suf_drop {R L : List Nat} (h : R <:+ L) : L.drop (L.length - R.length) = R := by
  obtain ⟨P, rfl⟩ := h
  rw [List.length_append, Nat.add_sub_cancel, List.drop_left]
theorem lineS_suf : ∀ S : List Nat, lineS S <:+ S
  | [] => List.suffix_refl _
  | c :: t => by
    have e : lineS (c :: t) = if c = 10 then c :: t else lineS t := rfl
    rw [e]
    split
    · exact List.suffix_refl _
    · exact (lineS_suf t).trans (List.suffix_cons c t)
theorem blockS_suf : ∀ (S R : List Nat), blockS S = some R → R <:+ S
  | [], R, h => by simp [blockS] at h
  | c :: t, R, h => by
    have e : blockS (c :: t) = if c = 42 ∧ hd t = 47 then some (t.drop 1) else blockS t := rfl
    rw [e] at h
    split at h
    · injection h with h
      subst h
      exact (List.drop_suffix 1 t).trans (List.suffix_cons c t)
    · exact (blockS_suf t R h).trans (List.suffix_cons c t)
theorem skipGo_suf : ∀ (n : Nat) (S R : List Nat), skipGo n S = some R → R <:+ S
  | 0, S, R, h => by simp [skipGo] at h
  | n + 1, [], R, h => by
    simp [skipGo] at h
    subst h
    exact List.suffix_refl _
  | n + 1, c :: t, R, h => by
    unfold skipGo at h
    split at h
    · exact (skipGo_suf n t R h).trans (List.suffix_cons c t)
    split at h
    · exact ((skipGo_suf n _ R h).trans (lineS_suf t)).trans (List.suffix_cons c t)
    split at h
    · cases hb : blockS (t.drop 1) with
      | none => rw [hb] at h; cases h
      | some r =>
        rw [hb] at h
        exact (((skipGo_suf n r R h).trans (blockS_suf _ _ hb)).trans (List.drop_suffix 1 t)).trans (List.suffix_cons c t)
    · injection h with h
      subst h
      exact List.suffix_refl _
theorem skipS_suf {S R : List Nat} (h : skipS S = some R) : R <:+ S := skipGo_suf _ S R h
theorem quoGo_suf : ∀ (n : Nat) (S T R : List Nat), quoGo n S = some (T, R) → R <:+ S
  | 0, S, T, R, h => by simp [quoGo] at h
  | n + 1, [], T, R, h => by simp [quoGo] at h
  | n + 1, c :: t, T, R, h => by
    unfold quoGo at h
    split at h
    · injection h with h
      injection h with h1 h2
      subst h2
      exact List.suffix_cons c t
    split at h
    · cases h
    split at h
    · cases he : escS t with
      | none => rw [he] at h; cases h
      | some x =>
        obtain ⟨r, m⟩ := x
        rw [he] at h
        simp only [Option.map_eq_some_iff] at h
        obtain ⟨⟨T', R'⟩, h, e⟩ := h
        injection e with e1 e2
        subst e2
        exact ((quoGo_suf n _ T' R' h).trans (List.drop_suffix m t)).trans (List.suffix_cons c t)
    · simp only [Option.map_eq_some_iff] at h
      obtain ⟨⟨T', R'⟩, h, e⟩ := h
      injection e with e1 e2
      subst e2
      exact (quoGo_suf n _ T' R' h).trans (List.suffix_cons c t)
theorem quoS_suf {S T R : List Nat} (h : quoS S = some (T, R)) : R <:+ S := quoGo_suf _ S T R h
/-- Where a token stands, in bytes. -/
def posB (L : List Nat) (left : Nat) : Nat := (enc (L.take (L.length - left))).length
theorem enc_take_add (L : List Nat) (a b : Nat) : enc (L.take (a + b)) = enc (L.take a) ++ enc ((L.drop a).take b) := by rw [List.take_add, enc_append]
theorem posB_lt (L : List Nat) {l m : Nat} (h : l < m) (hm : m ≤ L.length) : posB L m < posB L l := by
  unfold posB
  have e : L.length - l = (L.length - m) + (m - l) := by omega
  rw [e, enc_take_add, List.length_append]
  have a := (enc_length_le ((L.drop (L.length - m)).take (m - l))).1
  rw [List.length_take, List.length_drop] at a
  omega
/-- A plain token's text stands where it says. -/
theorem posB_text (L x R : List Nat) (left : Nat) (h : L.drop (L.length - left) = x ++ R) : enc L = enc (L.take (L.length - left)) ++ (enc x ++ enc R) := by
  rw [← enc_append, ← h, ← enc_append, List.take_append_drop]
end Go.Proofs.YtfelcneedpndiaaDoor

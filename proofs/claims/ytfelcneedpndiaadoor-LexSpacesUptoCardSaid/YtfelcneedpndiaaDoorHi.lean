/-
  Plain: how the program reads a string (layer 16): runs of runes that stand for themselves, and escapes between.
-/
import Derived.Test.YtfelcneedpndiaaDoorHh
namespace Go.Proofs.YtfelcneedpndiaaDoor
open Go.RowKit Go.Lib

theorem quo_it : ∀ Q : List Nat, quoS Q = (quoS (Q.dropWhile itR)).map fun x => (Q.takeWhile itR ++ x.1, x.2)
  | [] => rfl
  | c :: t => by
    rw [List.dropWhile_cons, List.takeWhile_cons]
    by_cases h : itR c = true
    · rw [if_pos h, if_pos h]
      have hc : c ≠ 34 ∧ c ≠ 92 ∧ c ≠ 10 ∧ c ≠ 13 := by simpa [itR, and_assoc] using h
      rw [quoS_cons, if_neg hc.1, if_neg (by omega), if_neg hc.2.1, quo_it t]
      cases quoS (t.dropWhile itR) <;> rfl
    · rw [if_neg h, if_neg h]
      cases quoS (c :: t) <;> rfl
theorem quo_end {A : List Nat} (h : hd A = 34) : quoS A = some ([], A.drop 1) := by
  have e := hd_cut h (by decide)
  conv => lhs; rw [e]
  rw [quoS_cons, if_pos rfl]
theorem quo_no {A : List Nat} (h : A = [] ∨ itR (hd A) = false) (h0 : hd A ≠ 34) (he : esS A = none) : quoS A = none := by
  rcases A with _ | ⟨c, t⟩
  · rfl
  · have hi : itR c = false := by
      rcases h with h | h
      · cases h
      · exact h
    have c34 : c ≠ 34 := h0
    rw [quoS_cons, if_neg c34]
    by_cases hn : c = 10 ∨ c = 13
    · rw [if_pos hn]
    · rw [if_neg hn]
      have c92 : c = 92 := by
        simp [itR] at hi
        omega
      subst c92
      rw [if_pos rfl]
      unfold esS at he
      rw [if_pos (show hd (92 :: t) = 92 from rfl)] at he
      have : escS t = none := by
        cases hx : escS t with
        | none => rfl
        | some x =>
          rw [show (92 :: t).drop 1 = t from rfl, hx] at he
          cases he
      rw [this]
theorem quo_esc1 {A : List Nat} {r m : Nat} (he : esS A = some (r, m)) : quoS A = (quoS (A.drop m)).map fun x => (r :: x.1, x.2) := by
  unfold esS at he
  split at he
  · next h =>
    have e := hd_cut h (by decide)
    cases hx : escS (A.drop 1) with
    | none => rw [hx] at he; cases he
    | some x =>
      obtain ⟨r', m'⟩ := x
      rw [hx] at he
      injection he with he
      injection he with e1 e2
      dsimp only at e1 e2
      subst e1 e2
      conv => lhs; rw [e]
      rw [quoS_cons, if_neg (by decide), if_neg (by decide), if_pos rfl, hx]
      dsimp only
      rw [List.drop_drop, Nat.add_comm 1 m']
  · cases he
theorem bz_drop1 {S : List Nat} {c : Nat} (h : hd S = c) (h0 : c ≠ 0) (hl : c < 128) (k : Nat) (hk : bz (S.drop 1) = bz ((S.drop 1).drop k) + k) : bz S = bz (S.drop (k + 1)) + (k + 1) := by
  rw [bz_hd h h0 hl, hk, List.drop_drop, Nat.add_comm 1 k]
  omega
theorem hexV_low {r d : Nat} (h : hexV r = some d) : r ≠ 0 ∧ r < 128 := by
  constructor
  · exact hexV_pos h
  · rcases Nat.lt_or_ge r 128 with x | x
    · exact x
    · rw [hexV_high x] at h
      cases h
theorem code_bytes : ∀ (n c : Nat) (S : List Nat) (x : Nat), codeGo n c S = some x → bz S = bz (S.drop n) + n
  | 0, _, S, _, _ => rfl
  | n + 1, c, S, x, h => by
    rw [codeGo_step] at h
    cases hv : hexV (hd S) with
    | none => rw [hv] at h; cases h
    | some d =>
      rw [hv] at h
      obtain ⟨h0, hl⟩ := hexV_low hv
      exact bz_drop1 rfl h0 hl n (code_bytes n _ _ x h)
theorem codeS_bytes {n : Nat} {S : List Nat} {x : Nat} (h : codeS n S = some x) : bz S = bz (S.drop n) + n := by
  unfold codeS at h
  cases hc : codeGo n 0 S with
  | none => rw [hc] at h; cases h
  | some c => exact code_bytes n 0 S c hc
theorem codeS_vr {n : Nat} {S : List Nat} {x : Nat} (h : codeS n S = some x) : Vr x := by
  unfold codeS at h
  cases hc : codeGo n 0 S with
  | none => rw [hc] at h; cases h
  | some c =>
    rw [hc] at h
    simp only at h
    split at h
    · next k =>
      injection h with h
      unfold Vr
      omega
    · cases h
theorem escS_bytes {S : List Nat} {r m : Nat} (h : escS S = some (r, m)) : bz S = bz (S.drop m) + m ∧ Vr r := by
  unfold escS at h
  split at h
  · next c => injection h with h; injection h with h1 h2; subst h1 h2; exact ⟨bz_drop1 c (by decide) (by decide) 0 rfl, by unfold Vr; omega⟩
  split at h
  · next c => injection h with h; injection h with h1 h2; subst h1 h2; exact ⟨bz_drop1 c (by decide) (by decide) 0 rfl, by unfold Vr; omega⟩
  split at h
  · next c => injection h with h; injection h with h1 h2; subst h1 h2; exact ⟨bz_drop1 c (by decide) (by decide) 0 rfl, by unfold Vr; omega⟩
  split at h
  · next c => injection h with h; injection h with h1 h2; subst h1 h2; exact ⟨bz_drop1 rfl (by omega) (by omega) 0 rfl, by unfold Vr; omega⟩
  split at h
  · next c =>
    cases hc : codeS 4 (S.drop 1) with
    | none => rw [hc] at h; cases h
    | some x =>
      rw [hc] at h
      injection h with h; injection h with h1 h2
      subst h1 h2
      exact ⟨bz_drop1 c (by decide) (by decide) 4 (codeS_bytes hc), codeS_vr hc⟩
  split at h
  · next c =>
    cases hc : codeS 6 (S.drop 1) with
    | none => rw [hc] at h; cases h
    | some x =>
      rw [hc] at h
      injection h with h; injection h with h1 h2
      subst h1 h2
      exact ⟨bz_drop1 c (by decide) (by decide) 6 (codeS_bytes hc), codeS_vr hc⟩
  · cases h
theorem esS_bytes {A : List Nat} {r m : Nat} (he : esS A = some (r, m)) : bz A = bz (A.drop m) + m ∧ Vr r ∧ 1 ≤ m ∧ m ≤ A.length := by
  unfold esS at he
  split at he
  · next h =>
    cases hx : escS (A.drop 1) with
    | none => rw [hx] at he; cases he
    | some x =>
      obtain ⟨r', m'⟩ := x
      rw [hx] at he
      injection he with he
      injection he with e1 e2
      dsimp only at e1 e2
      subst e1 e2
      obtain ⟨a, b⟩ := escS_bytes hx
      have l := escS_len hx
      rw [List.length_drop] at l
      have ne : 1 ≤ A.length := hd_pos (by omega)
      exact ⟨bz_drop1 h (by decide) (by decide) m' a, b, by omega, by omega⟩
  · cases he
/-- A string at the beginning. -/
def qtS (S : List Nat) : Option (List Nat × List Nat) := if hd S = 34 then quoS (S.drop 1) else none
theorem qtS_suf {S T R : List Nat} (h : qtS S = some (T, R)) : R <:+ S ∧ R.length < S.length := by
  unfold qtS at h
  split at h
  · next c =>
    have a := quoS_suf h
    have b := quoS_le h
    rw [List.length_drop] at b
    exact ⟨a.trans (List.drop_suffix 1 S), by omega⟩
  · cases h
end Go.Proofs.YtfelcneedpndiaaDoor

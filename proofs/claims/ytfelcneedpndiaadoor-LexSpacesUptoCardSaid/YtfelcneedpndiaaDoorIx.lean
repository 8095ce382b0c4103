/-
  Plain: a source's tokens rise, and stand where they say (layer 16).
-/
import Derived.Test.YtfelcneedpndiaaDoorIv
import Derived.Test.YtfelcneedpndiaaDoorIxp
namespace Go.Proofs.YtfelcneedpndiaaDoor
open Go.Lib

/-- What a token is. -/
theorem one_ok {S : List Nat} (hS : S ≠ []) {k : Nat} {x r : List Nat} (h : oneS S = some (k, x, r)) :
    r <:+ S ∧ (1 ≤ k ∧ k ≤ 5) ∧ (k = 1 ∨ k = 2 ∨ k = 5 → x ≠ [] ∧ S = x ++ r) ∧ (k = 2 → shapeL (enc x) = true) := by
  have lt := oneS_lt hS h
  unfold oneS at h
  split at h
  · injection h with h
    injection h with h1 h2
    injection h2 with h2 h3
    subst h1 h2 h3
    have sp : S = S.takeWhile wordR ++ S.dropWhile wordR := (List.takeWhile_append_dropWhile).symm
    refine ⟨⟨_, sp.symm⟩, by omega, fun _ => ⟨?_, sp⟩, fun e => by omega⟩
    intro e
    rw [e, List.nil_append] at sp
    rw [← sp] at lt
    omega
  split at h
  · next hl =>
    injection h with h
    injection h with h1 h2
    injection h2 with h2 h3
    subst h1 h2 h3
    obtain ⟨P, s', e1, -, -, -⟩ := num_shape hl
    have ln := congrArg List.length e1
    rw [List.length_append] at ln
    have eP : S.take (S.length - (numS S).length) = P := by
      have : S.length - (numS S).length = P.length := by omega
      rw [this]
      conv => lhs; rw [e1]
      exact List.take_left
    refine ⟨⟨P, e1.symm⟩, by omega, fun _ => ⟨?_, by rw [eP]; exact e1⟩, fun _ => num_shapeL hl⟩
    rw [eP]
    rintro rfl
    simp at ln
    omega
  split at h
  · simp only [Option.map_eq_some_iff] at h
    obtain ⟨⟨T', R'⟩, h, e⟩ := h
    injection e with e1 e2
    injection e2 with e2 e3
    subst e1 e2 e3
    exact ⟨(quoS_suf h).trans (List.drop_suffix 1 S), by omega, fun e => by omega, fun e => by omega⟩
  split at h
  · simp only [Option.map_eq_some_iff] at h
    obtain ⟨⟨T', R'⟩, h, e⟩ := h
    injection e with e1 e2
    injection e2 with e2 e3
    subst e1 e2 e3
    exact ⟨(quoS_suf h).trans (List.drop_suffix 2 S), by omega, fun e => by omega, fun e => by omega⟩
  split at h
  · next hl =>
    injection h with h
    injection h with h1 h2
    injection h2 with h2 h3
    subst h1 h2 h3
    refine ⟨List.drop_suffix _ S, by omega, fun _ => ⟨?_, (List.take_append_drop _ _).symm⟩, fun e => by omega⟩
    intro e
    have := congrArg List.length e
    rw [List.length_take, List.length_nil] at this
    have l := List.length_pos_iff.2 hS
    omega
  · cases h
/-- Tokens that rise, the last one is the end; each stands where it says. -/
def chain (L : List Nat) : List (Nat × List Nat × Nat) → Prop
  | [] => False
  | [t] => t = (0, [], 0)
  | t :: u :: r => u.2.2 < t.2.2 ∧ t.2.2 ≤ L.length ∧ (1 ≤ t.1 ∧ t.1 ≤ 5) ∧ (t.1 = 1 ∨ t.1 = 2 ∨ t.1 = 5 → t.2.1 ≠ [] ∧ ∃ R, L.drop (L.length - t.2.2) = t.2.1 ++ R) ∧ (t.1 = 2 → shapeL (enc t.2.1) = true) ∧ chain L (u :: r)
theorem tok_chain (L : List Nat) : ∀ (n : Nat) (S : List Nat) (ts : List (Nat × List Nat × Nat)), S.length ≤ n → S <:+ L → tokS S = some ts → chain L ts ∧ ∃ t r, ts = t :: r ∧ t.2.2 ≤ S.length := by
  intro n
  induction n with
  | zero =>
    intro S ts hn hs h
    obtain rfl : S = [] := List.eq_nil_of_length_eq_zero (by omega)
    injection h with h
    subst h
    exact ⟨rfl, _, _, rfl, Nat.zero_le _⟩
  | succ n ih =>
    intro S ts hn hs h
    rw [tokS_step] at h
    cases hk : skipS S with
    | none => rw [hk] at h; cases h
    | some R =>
      have rs := skipS_suf hk
      have rl := rs.length_le
      rw [hk] at h
      rcases R with _ | ⟨c, t⟩
      · injection h with h
        subst h
        exact ⟨rfl, _, _, rfl, Nat.zero_le _⟩
      · simp only at h
        cases ho : oneS (c :: t) with
        | none => rw [ho] at h; cases h
        | some x =>
          obtain ⟨k, x, r⟩ := x
          rw [ho] at h
          simp only [Option.map_eq_some_iff] at h
          obtain ⟨ts', h, rfl⟩ := h
          have lt := oneS_lt (by simp) ho
          obtain ⟨o1, o2, o3, o4⟩ := one_ok (by simp) ho
          have cs : (c :: t) <:+ L := rs.trans hs
          obtain ⟨c1, u, q, rfl, c2⟩ := ih r ts' (by omega) (o1.trans cs) h
          refine ⟨⟨by dsimp only; omega, cs.length_le, o2, fun e => ?_, o4, c1⟩, _, _, rfl, rl⟩
          obtain ⟨x1, x2⟩ := o3 e
          refine ⟨x1, r, ?_⟩
          rw [← x2]
          exact suf_drop cs
theorem chain_at {L : List Nat} : ∀ {ts : List (Nat × List Nat × Nat)} (i : Nat) {t u : Nat × List Nat × Nat}, chain L ts → ts[i]? = some t → ts[i + 1]? = some u →
    u.2.2 < t.2.2 ∧ t.2.2 ≤ L.length ∧ (1 ≤ t.1 ∧ t.1 ≤ 5) ∧ (t.1 = 1 ∨ t.1 = 2 ∨ t.1 = 5 → t.2.1 ≠ [] ∧ ∃ R, L.drop (L.length - t.2.2) = t.2.1 ++ R) ∧ (t.1 = 2 → shapeL (enc t.2.1) = true)
  | [], i, t, u, h, _, _ => h.elim
  | [a], i, t, u, h, _, h2 => by simp at h2
  | a :: b :: r, 0, t, u, h, h1, h2 => by
    obtain rfl : a = t := by simpa using h1
    obtain rfl : b = u := by simpa using h2
    exact ⟨h.1, h.2.1, h.2.2.1, h.2.2.2.1, h.2.2.2.2.1⟩
  | a :: b :: r, i + 1, t, u, h, h1, h2 => chain_at (ts := b :: r) i h.2.2.2.2.2 (by simpa using h1) (by simpa using h2)
theorem chain_last {L : List Nat} : ∀ {ts : List (Nat × List Nat × Nat)}, chain L ts → ts ≠ [] ∧ ts[ts.length - 1]? = some (0, [], 0)
  | [], h => h.elim
  | [a], h => by
    obtain rfl : a = (0, [], 0) := h
    exact ⟨by simp, rfl⟩
  | a :: b :: r, h => by
    have ih := chain_last (ts := b :: r) h.2.2.2.2.2
    refine ⟨by simp, ?_⟩
    have := ih.2
    simpa using this
end Go.Proofs.YtfelcneedpndiaaDoor

/-
  The document's answer of layer 16: Tokens, as a contract of its call.
-/
import Derived.Test.YtfelcneedpndiaaDoorIo
namespace Go.Proofs.YtfelcneedpndiaaDoor
open Go.RowKit Go.Lib

/-! ### Plain -/
theorem skipGo_le : ∀ (n : Nat) (S R : List Nat), skipGo n S = some R → R.length ≤ S.length
  | 0, S, R, h => by simp [skipGo] at h
  | n + 1, [], R, h => by
    simp [skipGo] at h
    subst h
    simp
  | n + 1, c :: t, R, h => by
    unfold skipGo at h
    rw [List.length_cons]
    split at h
    · have := skipGo_le n t R h; omega
    split at h
    · have a := skipGo_le n _ R h
      have b := lineS_le t
      omega
    split at h
    · cases hb : blockS (t.drop 1) with
      | none => rw [hb] at h; cases h
      | some r =>
        rw [hb] at h
        have a := skipGo_le n r R h
        have b := blockS_le _ _ hb
        rw [List.length_drop] at b
        omega
    · injection h with h
      subst h
      simp
theorem skipS_le {S R : List Nat} (h : skipS S = some R) : R.length ≤ S.length := skipGo_le _ S R h
theorem quoGo_le : ∀ (n : Nat) (S T R : List Nat), quoGo n S = some (T, R) → R.length + 1 ≤ S.length
  | 0, S, T, R, h => by simp [quoGo] at h
  | n + 1, [], T, R, h => by simp [quoGo] at h
  | n + 1, c :: t, T, R, h => by
    unfold quoGo at h
    rw [List.length_cons]
    split at h
    · injection h with h
      injection h with h1 h2
      subst h2
      omega
    split at h
    · cases h
    split at h
    · cases he : escS t with
      | none => rw [he] at h; cases h
      | some x =>
        obtain ⟨r, m⟩ := x
        rw [he] at h
        simp only [Option.map_eq_some_iff] at h
        obtain ⟨⟨T', R'⟩, h, e⟩ := h
        injection e with e1 e2
        subst e2
        have a := quoGo_le n _ T' R' h
        rw [List.length_drop] at a
        dsimp only
        omega
    · simp only [Option.map_eq_some_iff] at h
      obtain ⟨⟨T', R'⟩, h, e⟩ := h
      injection e with e1 e2
      subst e2
      have a := quoGo_le n _ T' R' h
      dsimp only
      omega
theorem quoS_le {S T R : List Nat} (h : quoS S = some (T, R)) : R.length + 1 ≤ S.length := quoGo_le _ S T R h
theorem oneS_lt {S : List Nat} {d : Nat} {T R : List Nat} (hS : S ≠ []) (h : oneS S = some (d, T, R)) : R.length < S.length := by
  have pos := List.length_pos_iff.2 hS
  unfold oneS at h
  split at h
  · next hl =>
    injection h with h
    injection h with h1 h2
    injection h2 with h2 h3
    subst h3
    rcases S with _ | ⟨c, t⟩
    · exact absurd rfl hS
    · rw [List.dropWhile_cons, if_pos (by unfold wordR; rw [show letR c = true from hl]; rfl), List.length_cons]
      have := dw_le wordR t
      omega
  split at h
  · next hl =>
    injection h with h
    injection h with h1 h2
    injection h2 with h2 h3
    subst h3
    exact numS_lt hl
  split at h
  · simp only [Option.map_eq_some_iff] at h
    obtain ⟨⟨T', R'⟩, h, e⟩ := h
    injection e with e1 e2
    injection e2 with e2 e3
    subst e3
    have a := quoS_le h
    rw [List.length_drop] at a
    dsimp only
    omega
  split at h
  · simp only [Option.map_eq_some_iff] at h
    obtain ⟨⟨T', R'⟩, h, e⟩ := h
    injection e with e1 e2
    injection e2 with e2 e3
    subst e3
    have a := quoS_le h
    rw [List.length_drop] at a
    dsimp only
    omega
  split at h
  · next hl =>
    injection h with h
    injection h with h1 h2
    injection h2 with h2 h3
    subst h3
    rw [List.length_drop]
    omega
  · cases h
theorem tokGo_fuel : ∀ (n m : Nat) (S : List Nat), S.length < n → S.length < m → tokGo n S = tokGo m S
  | 0, _, S, h, _ => by omega
  | _ + 1, 0, S, _, h => by omega
  | n + 1, m + 1, S, h1, h2 => by
    unfold tokGo
    cases hs : skipS S with
    | none => rfl
    | some R =>
      have a := skipS_le hs
      rcases R with _ | ⟨c, t⟩
      · rfl
      · simp only
        cases ho : oneS (c :: t) with
        | none => rfl
        | some x =>
          obtain ⟨d, T, r⟩ := x
          have b := oneS_lt (by simp) ho
          simp only
          rw [tokGo_fuel n m r (by omega) (by omega)]
theorem tokS_step (S : List Nat) : tokS S = match skipS S with
    | none => none
    | some [] => some [(0, [], 0)]
    | some (c :: t) => match oneS (c :: t) with
      | none => none
      | some (k, x, r) => (tokS r).map fun ts => (k, x, (c :: t).length) :: ts := by
  unfold tokS
  rw [tokGo]
  cases hs : skipS S with
  | none => rfl
  | some R =>
    have a := skipS_le hs
    rcases R with _ | ⟨c, t⟩
    · rfl
    · simp only
      cases ho : oneS (c :: t) with
      | none => rfl
      | some x =>
        obtain ⟨d, T, r⟩ := x
        have b := oneS_lt (by simp) ho
        simp only
        rw [tokGo_fuel S.length (r.length + 1) r (by omega) (by omega)]
/-- The cells of some tokens. -/
def tokC (n : Nat) (t : Nat × List Nat × Nat) : List Value := [.int .i64 (t.1 : Int), .string ⟨(enc t.2.1).toArray⟩, .int .i64 ((n - t.2.2 : Nat) : Int)]
def tokCs (n : Nat) (ts : List (Nat × List Nat × Nat)) : List Value := ts.flatMap (tokC n)
theorem tokCs_snoc (n : Nat) (ts : List (Nat × List Nat × Nat)) (t : Nat × List Nat × Nat) : tokCs n (ts ++ [t]) = tokCs n ts ++ tokC n t := by unfold tokCs; simp
theorem tmap (ts : List (Nat × List Nat × Nat)) (x : Nat × List Nat × Nat) (o : Option (List (Nat × List Nat × Nat))) : ((o.map fun y => x :: y).map fun y => ts ++ y) = o.map fun y => (ts ++ [x]) ++ y := by
  cases o with
  | none => rfl
  | some y => simp
theorem ownsRow_belowI {b : Nat} {W w1 : World} {e size n : Nat} {v : Value} {xs : List Value} (h : W.ownsRow b e size v n xs) (hb : Below W.heap.size W w1) : w1.ownsRow b e size v n xs := by
  refine ⟨h.1, ?_⟩
  rcases h.2 with h0 | ⟨g, cap, cur, rfl, hb0, hh, h1, h2, h3, h4⟩
  · exact .inl h0
  · refine .inr ⟨g, cap, cur, rfl, hb0, ?_, h1, h2, h3, h4⟩
    have : g < W.heap.size := by
      rcases Nat.lt_or_ge g W.heap.size with x | x
      · exact x
      · rw [Array.getElem?_eq_none x] at hh; cases hh
    exact (hb.block g this).trans hh
theorem cell3I (w : World) (x y z : Value) (t : TypeId) : ∀ j u, [x, y, z][j]? = some u → (w.alloc (.cells #[x, y, z] t)).cell? ((⟨w.heap.size, 0, none⟩ : Addr).add j) = some u := by
  intro j u hj
  match j, hj with
  | 0, hj => simp at hj; subst hj; simp [Addr.add]
  | 1, hj => simp at hj; subst hj; simp [Addr.add]
  | 2, hj => simp at hj; subst hj; simp [Addr.add]
  | (j + 3), hj => simp at hj
end Go.Proofs.YtfelcneedpndiaaDoor

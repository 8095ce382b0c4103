/-
  Plain: two sources with spaces and remarks between and around them (layer 16).
-/
import Derived.Test.YtfelcneedpndiaaDoorIt
namespace Go.Proofs.YtfelcneedpndiaaDoor

/-- Kinds and texts alone. -/
def ktL (ts : List (Nat × List Nat × Nat)) : List (Nat × List Nat) := ts.map fun t => (t.1, t.2.1)
def ktS (S : List Nat) : Option (List (Nat × List Nat)) := (tokS S).map ktL
theorem ktS_step (S : List Nat) : ktS S = match skipS S with
    | none => none
    | some [] => some [(0, [])]
    | some (c :: t) => match oneS (c :: t) with
      | none => none
      | some (k, x, r) => (ktS r).map fun ts => (k, x) :: ts := by
  unfold ktS
  rw [tokS_step]
  cases hs : skipS S with
  | none => rfl
  | some R =>
    rcases R with _ | ⟨c, t⟩
    · rfl
    · simp only
      cases ho : oneS (c :: t) with
      | none => rfl
      | some x =>
        obtain ⟨d, T, r⟩ := x
        simp only [Option.map_map]
        cases tokS r <;> rfl
/-- What has tokens, and then a separator and more: its tokens without the end, and those of the rest. -/
theorem kt_app {Z : List Nat} (hz : Sep Z) : ∀ (n : Nat) (S : List Nat) (ts : List (Nat × List Nat)), S.length ≤ n → ktS S = some ts → ∃ us, ts = us ++ [(0, [])] ∧ ktS (S ++ Z) = (ktS Z).map fun y => us ++ y := by
  intro n
  induction n with
  | zero =>
    intro S ts hn h
    obtain rfl : S = [] := List.eq_nil_of_length_eq_zero (by omega)
    injection h with h
    exact ⟨[], h.symm, by simp⟩
  | succ n ih =>
    intro S ts hn h
    rw [ktS_step] at h
    cases hs : skipS S with
    | none => rw [hs] at h; cases h
    | some R =>
      have sa := skip_app hz _ S R (Nat.le_refl _) hs
      have sl := skipS_le hs
      rw [hs] at h
      rcases R with _ | ⟨c, t⟩
      · injection h with h
        refine ⟨[], h.symm, ?_⟩
        rw [if_pos rfl] at sa
        rw [ktS_step (S ++ Z), sa, ← ktS_step Z]
        simp
      · simp only at h
        cases ho : oneS (c :: t) with
        | none => rw [ho] at h; cases h
        | some x =>
          obtain ⟨k, x, r⟩ := x
          rw [ho] at h
          simp only [Option.map_eq_some_iff] at h
          obtain ⟨ts', h, rfl⟩ := h
          have lt := oneS_lt (by simp) ho
          obtain ⟨us, rfl, e⟩ := ih r ts' (by omega) h
          refine ⟨(k, x) :: us, rfl, ?_⟩
          rw [if_neg (by simp)] at sa
          have oa := one_app hz (by simp) ho
          rw [ktS_step (S ++ Z), sa]
          rw [List.cons_append] at oa ⊢
          simp only [oa]
          rw [e, Option.map_map]
          cases ktS Z <;> rfl
/-- The statement's gap: a remark of each kind, a line's end, a tab, and some spaces. -/
def gapN (n : Nat) : List Nat := [32, 47, 42, 32, 43, 32, 42, 47, 32, 47, 47, 32, 34, 10, 9] ++ List.replicate n 32
theorem skip_spaces (n : Nat) (S : List Nat) : skipS (List.replicate n 32 ++ S) = skipS S := by
  induction n with
  | zero => rfl
  | succ n ih =>
    rw [List.replicate_succ, List.cons_append, skipS_cons, if_pos (by decide)]
    exact ih
theorem gap_skip (n : Nat) (S : List Nat) : skipS (gapN n ++ S) = skipS S := by
  rw [← skip_spaces n S]
  unfold gapN
  rw [List.append_assoc]
  generalize List.replicate n 32 ++ S = T
  show skipS (32 :: 47 :: 42 :: 32 :: 43 :: 32 :: 42 :: 47 :: 32 :: 47 :: 47 :: 32 :: 34 :: 10 :: 9 :: T) = _
  rw [skipS_cons, if_pos (by decide), skipS_cons, if_neg (by decide), if_neg (by simp [hd]), if_pos (by simp [hd])]
  have hb : blockS (List.drop 1 (42 :: 32 :: 43 :: 32 :: 42 :: 47 :: 32 :: 47 :: 47 :: 32 :: 34 :: 10 :: 9 :: T)) = some (32 :: 47 :: 47 :: 32 :: 34 :: 10 :: 9 :: T) := by
    simp [blockS, hd]
  rw [hb]
  show skipS (32 :: 47 :: 47 :: 32 :: 34 :: 10 :: 9 :: T) = _
  rw [skipS_cons, if_pos (by decide), skipS_cons, if_neg (by decide), if_pos (by simp [hd])]
  have hl : lineS (47 :: 32 :: 34 :: 10 :: 9 :: T) = 10 :: 9 :: T := by simp [lineS]
  rw [hl, skipS_cons, if_pos (by decide), skipS_cons, if_pos (by decide)]
theorem gap_sep (n : Nat) (S : List Nat) : Sep (gapN n ++ S) := by
  refine ⟨.inr rfl, by unfold gapN; simp, ?_⟩
  rw [gap_skip]
  have hl : lineS (gapN n ++ S) = 10 :: 9 :: (List.replicate n 32 ++ S) := by
    unfold gapN
    rw [List.append_assoc]
    simp [lineS]
  rw [hl, skipS_cons, if_pos (by decide), skipS_cons, if_pos (by decide), skip_spaces]
theorem line_sep (S : List Nat) : Sep (10 :: S) := ⟨.inl rfl, by simp, rfl⟩
theorem kt_of_skip {S T : List Nat} (h : skipS S = skipS T) : ktS S = ktS T := by rw [ktS_step S, ktS_step T, h]
theorem gap_end (n : Nat) : ktS (gapN n) = some [(0, [])] := by
  have := kt_of_skip (gap_skip n [])
  rw [List.append_nil] at this
  rw [this]
  rfl
/-- Spaces and remarks between two sources, and around them, change no kind and no text. -/
theorem spaces_same (n : Nat) (A B : List Nat) (xs ys : List (Nat × List Nat)) (hx : ktS A = some xs) (hy : ktS B = some ys) :
    ∃ us vs, xs = us ++ [(0, [])] ∧ ys = vs ++ [(0, [])] ∧ ktS (gapN n ++ A ++ [10] ++ gapN n ++ B ++ gapN n) = some (us ++ (vs ++ [(0, [])])) := by
  obtain ⟨us, hu, eu⟩ := kt_app (line_sep (gapN n ++ (B ++ gapN n))) _ A xs (Nat.le_refl _) hx
  obtain ⟨vs, hv, ev⟩ := kt_app (Z := gapN n) (by have := gap_sep n []; rwa [List.append_nil] at this) _ B ys (Nat.le_refl _) hy
  refine ⟨us, vs, hu, hv, ?_⟩
  have e : gapN n ++ A ++ [10] ++ gapN n ++ B ++ gapN n = gapN n ++ (A ++ (10 :: (gapN n ++ (B ++ gapN n)))) := by simp
  rw [e, kt_of_skip (gap_skip n _), eu]
  have s2 : ktS (10 :: (gapN n ++ (B ++ gapN n))) = ktS (B ++ gapN n) := by
    apply kt_of_skip
    rw [skipS_cons, if_pos (by decide), gap_skip]
  rw [s2, ev, gap_end]
  rfl
end Go.Proofs.YtfelcneedpndiaaDoor

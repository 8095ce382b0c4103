/-
  Plain: what stands between two sources (layer 16): spaces and remarks change no token.
-/
import Derived.Test.YtfelcneedpndiaaDoorIs
namespace Go.Proofs.YtfelcneedpndiaaDoor

/-- What may stand behind a source: it begins with a space or a line's end, and what follows its first line's end is skipped as it is. -/
def Sep (Z : List Nat) : Prop := (hd Z = 10 ∨ hd Z = 32) ∧ Z ≠ [] ∧ skipS (lineS Z) = skipS Z
theorem Sep.hd {Z : List Nat} (h : Sep Z) : hd Z = 10 ∨ hd Z = 32 := h.1
theorem hd_app (S Z : List Nat) (h : S ≠ []) : hd (S ++ Z) = hd S := by
  rcases S with _ | ⟨c, t⟩
  · exact absurd rfl h
  · rfl
/-- The first rune, behind which something stands that is a space. -/
theorem hd_sep {S Z : List Nat} (hz : Sep Z) {v : Nat} (h0 : v ≠ 0) (h10 : v ≠ 10) (h32 : v ≠ 32) : (hd (S ++ Z) = v) ↔ (hd S = v) := by
  rcases S with _ | ⟨c, t⟩
  · rw [List.nil_append]
    show hd Z = v ↔ 0 = v
    rcases hz.hd with e | e <;> rw [e] <;> omega
  · rfl
theorem dig_sep {S Z : List Nat} (hz : Sep Z) : digR (hd (S ++ Z)) = digR (hd S) := by
  rcases S with _ | ⟨c, t⟩
  · rw [List.nil_append]
    show digR (hd Z) = digR 0
    rcases hz.hd with e | e <;> rw [e] <;> rfl
  · rfl
theorem drop_app (S Z : List Nat) (n : Nat) (h : n ≤ S.length) : (S ++ Z).drop n = S.drop n ++ Z := List.drop_append_of_le_length h
theorem lineS_app : ∀ S Z : List Nat, lineS (S ++ Z) = if lineS S = [] then lineS Z else lineS S ++ Z
  | [], Z => by simp [lineS]
  | c :: t, Z => by
    have ih := lineS_app t Z
    rw [List.cons_append]
    have e1 : lineS (c :: t) = if c = 10 then c :: t else lineS t := rfl
    have e2 : lineS (c :: (t ++ Z)) = if c = 10 then c :: (t ++ Z) else lineS (t ++ Z) := rfl
    by_cases h : c = 10
    · rw [e1, e2, if_pos h, if_pos h]
      simp
    · rw [e1, e2, if_neg h, if_neg h]
      exact ih
theorem blockS_app {Z : List Nat} : ∀ {S R : List Nat}, blockS S = some R → blockS (S ++ Z) = some (R ++ Z)
  | [], R, h => by simp [blockS] at h
  | c :: t, R, h => by
    rw [List.cons_append]
    unfold blockS at h ⊢
    by_cases h1 : c = 42 ∧ hd t = 47
    · rw [if_pos h1] at h
      injection h with h
      subst h
      have ne : t ≠ [] := by
        rintro rfl
        exact absurd h1.2 (by decide)
      rw [if_pos ⟨h1.1, by rw [hd_app _ _ ne]; exact h1.2⟩, drop_app _ _ _ (List.length_pos_iff.2 ne)]
    · rw [if_neg h1] at h
      have ih := blockS_app (Z := Z) h
      by_cases h2 : c = 42 ∧ hd (t ++ Z) = 47
      · exfalso
        have ne : t ≠ [] := by
          rintro rfl
          simp [blockS] at h
        rw [hd_app _ _ ne] at h2
        exact h1 h2
      · rw [if_neg h2]
        exact ih
theorem skip_app {Z : List Nat} (hz : Sep Z) : ∀ (n : Nat) (S R : List Nat), S.length ≤ n → skipS S = some R → skipS (S ++ Z) = if R = [] then skipS Z else some (R ++ Z)
  | 0, S, R, hn, h => by
    obtain rfl : S = [] := List.eq_nil_of_length_eq_zero (by omega)
    rw [skipS_nil] at h
    injection h with h
    subst h
    simp
  | n + 1, [], R, hn, h => by
    rw [skipS_nil] at h
    injection h with h
    subst h
    simp
  | n + 1, c :: t, R, hn, h => by
    rw [List.length_cons] at hn
    rw [List.cons_append, skipS_cons]
    rw [skipS_cons] at h
    by_cases h1 : spR c = true
    · rw [if_pos h1] at h ⊢
      exact skip_app hz n t R (by omega) h
    rw [if_neg h1] at h ⊢
    by_cases h2 : c = 47 ∧ hd t = 47
    · rw [if_pos h2] at h
      rw [if_pos ⟨h2.1, (hd_sep hz (by decide) (by decide) (by decide)).2 h2.2⟩, lineS_app]
      by_cases h3 : lineS t = []
      · rw [h3, skipS_nil] at h
        injection h with h
        subst h
        rw [if_pos h3, if_pos rfl]
        exact hz.2.2
      · rw [if_neg h3]
        exact skip_app hz n (lineS t) R (by have := lineS_le t; omega) h
    rw [if_neg h2] at h
    rw [if_neg (fun x => h2 ⟨x.1, (hd_sep hz (by decide) (by decide) (by decide)).1 x.2⟩)]
    by_cases h4 : c = 47 ∧ hd t = 42
    · rw [if_pos h4] at h
      rw [if_pos ⟨h4.1, (hd_sep hz (by decide) (by decide) (by decide)).2 h4.2⟩]
      have ne : t ≠ [] := by
        rintro rfl
        exact absurd h4.2 (by decide)
      rw [drop_app _ _ _ (List.length_pos_iff.2 ne)]
      cases hb : blockS (t.drop 1) with
      | none => rw [hb] at h; cases h
      | some r =>
        rw [hb] at h
        rw [blockS_app hb]
        have a := blockS_le _ _ hb
        rw [List.length_drop] at a
        exact skip_app hz n r R (by omega) h
    · rw [if_neg h4] at h
      rw [if_neg (fun x => h4 ⟨x.1, (hd_sep hz (by decide) (by decide) (by decide)).1 x.2⟩)]
      injection h with h
      subst h
      simp
theorem dw_app (p : Nat → Bool) {Z : List Nat} (hz : p (hd Z) = false) (hne : Z ≠ []) : ∀ S : List Nat, (S ++ Z).dropWhile p = S.dropWhile p ++ Z
  | [] => by
    rcases Z with _ | ⟨c, t⟩
    · exact absurd rfl hne
    · rw [List.nil_append, List.dropWhile_cons, if_neg (by rw [show p c = false from hz]; decide)]
      rfl
  | c :: t => by
    rw [List.cons_append, List.dropWhile_cons, List.dropWhile_cons]
    split
    · exact dw_app p hz hne t
    · rfl
theorem tw_app (p : Nat → Bool) {Z : List Nat} (hz : p (hd Z) = false) (hne : Z ≠ []) : ∀ S : List Nat, (S ++ Z).takeWhile p = S.takeWhile p
  | [] => by
    rcases Z with _ | ⟨c, t⟩
    · exact absurd rfl hne
    · rw [List.nil_append, List.takeWhile_cons, if_neg (by rw [show p c = false from hz]; decide)]
      rfl
  | c :: t => by
    rw [List.cons_append, List.takeWhile_cons, List.takeWhile_cons]
    split
    · rw [tw_app p hz hne t]
    · rfl
theorem digS_app {S Z : List Nat} (hz : Sep Z) : digS (S ++ Z) = digS S ++ Z := dw_app _ (by rcases hz.hd with e | e <;> rw [e] <;> rfl) hz.2.1 S
theorem xpS_app {S Z : List Nat} (hz : Sep Z) : xpS (S ++ Z) = xpS S ++ Z := by
  unfold xpS
  by_cases h : hd S = 69
  · have ne : S ≠ [] := by
      rintro rfl
      exact absurd h (by decide)
    have h' : hd (S ++ Z) = 69 := (hd_sep hz (by decide) (by decide) (by decide)).2 h
    rw [if_pos h, if_pos h', drop_app _ _ _ (List.length_pos_iff.2 ne)]
    have c1 := hd_sep (S := S.drop 1) hz (v := 43) (by decide) (by decide) (by decide)
    have c2 := hd_sep (S := S.drop 1) hz (v := 45) (by decide) (by decide) (by decide)
    have he : (if hd (S.drop 1 ++ Z) = 43 ∨ hd (S.drop 1 ++ Z) = 45 then (S ++ Z).drop 2 else S.drop 1 ++ Z) = (if hd (S.drop 1) = 43 ∨ hd (S.drop 1) = 45 then S.drop 2 else S.drop 1) ++ Z := by
      by_cases k : hd (S.drop 1) = 43 ∨ hd (S.drop 1) = 45
      · rw [if_pos k, if_pos (k.elim (fun x => .inl (c1.2 x)) (fun x => .inr (c2.2 x)))]
        have l2 : 2 ≤ S.length := by
          rcases S with _ | ⟨a, _ | ⟨b, t⟩⟩
          · exact absurd rfl ne
          · exact absurd k (by show ¬ ((0 : Nat) = 43 ∨ (0 : Nat) = 45); decide)
          · simp
        exact drop_app _ _ _ l2
      · rw [if_neg k, if_neg (fun x => k (x.elim (fun y => .inl (c1.1 y)) (fun y => .inr (c2.1 y))))]
    rw [he]
    generalize (if hd (S.drop 1) = 43 ∨ hd (S.drop 1) = 45 then S.drop 2 else S.drop 1) = e at *
    dsimp only
    rw [digS_app hz, List.length_append, List.length_append]
    by_cases k : (digS e).length < e.length ∧ e.length ≤ (digS e).length + 6
    · rw [if_pos k, if_pos (by omega)]
    · rw [if_neg k, if_neg (by omega)]
  · rw [if_neg h, if_neg (fun x => h ((hd_sep hz (by decide) (by decide) (by decide)).1 x))]
theorem numS_app {S Z : List Nat} (hz : Sep Z) : numS (S ++ Z) = numS S ++ Z := by
  rw [numS_xp, numS_xp, digS_app hz, ← xpS_app hz]
  congr 1
  generalize digS S = a
  have c1 := hd_sep (S := a) hz (v := 46) (by decide) (by decide) (by decide)
  by_cases h : hd a = 46
  · have ne : a ≠ [] := by
      rintro rfl
      exact absurd h (by decide)
    rw [drop_app _ _ _ (List.length_pos_iff.2 ne), dig_sep hz]
    by_cases k : digR (hd (a.drop 1)) = true
    · rw [if_pos ⟨c1.2 h, k⟩, if_pos ⟨h, k⟩, digS_app hz]
    · rw [if_neg (fun x => k x.2), if_neg (fun x => k x.2)]
  · rw [if_neg (fun x => h (c1.1 x.1)), if_neg (fun x => h x.1)]
theorem code_app {Z : List Nat} : ∀ (n c : Nat) (S : List Nat) (x : Nat), codeGo n c S = some x → codeGo n c (S ++ Z) = some x
  | 0, _, _, _, h => h
  | n + 1, c, S, x, h => by
    rw [codeGo_step] at h ⊢
    cases hv : hexV (hd S) with
    | none => rw [hv] at h; cases h
    | some d =>
      rw [hv] at h
      have ne : S ≠ [] := by
        rintro rfl
        exact hexV_pos hv rfl
      rw [hd_app _ _ ne, hv, drop_app _ _ _ (List.length_pos_iff.2 ne)]
      exact code_app n _ _ x h
theorem codeS_app {n : Nat} {S Z : List Nat} {x : Nat} (h : codeS n S = some x) : codeS n (S ++ Z) = some x := by
  unfold codeS at h ⊢
  cases hc : codeGo n 0 S with
  | none => rw [hc] at h; cases h
  | some c => rw [hc] at h; rw [code_app n 0 S c hc]; exact h
theorem esc_app {S Z : List Nat} {r m : Nat} (h : escS S = some (r, m)) : escS (S ++ Z) = some (r, m) := by
  have ne : S ≠ [] := by
    rintro rfl
    simp [escS, hd] at h
  have l := List.length_pos_iff.2 ne
  unfold escS at h ⊢
  rw [hd_app _ _ ne, drop_app _ _ _ l]
  split at h
  · next k => rw [if_pos k]; exact h
  next k1 =>
  rw [if_neg k1]
  split at h
  · next k => rw [if_pos k]; exact h
  next k2 =>
  rw [if_neg k2]
  split at h
  · next k => rw [if_pos k]; exact h
  next k3 =>
  rw [if_neg k3]
  split at h
  · next k => rw [if_pos k]; exact h
  next k4 =>
  rw [if_neg k4]
  split at h
  · next k =>
    rw [if_pos k]
    cases hc : codeS 4 (S.drop 1) with
    | none => rw [hc] at h; cases h
    | some x => rw [hc] at h; rw [codeS_app hc]; exact h
  next k5 =>
  rw [if_neg k5]
  split at h
  · next k =>
    rw [if_pos k]
    cases hc : codeS 6 (S.drop 1) with
    | none => rw [hc] at h; cases h
    | some x => rw [hc] at h; rw [codeS_app hc]; exact h
  · cases h
theorem quo_app {Z : List Nat} : ∀ (n : Nat) (S T R : List Nat), S.length ≤ n → quoS S = some (T, R) → quoS (S ++ Z) = some (T, R ++ Z)
  | 0, S, T, R, hn, h => by
    obtain rfl : S = [] := List.eq_nil_of_length_eq_zero (by omega)
    cases h
  | n + 1, [], T, R, hn, h => by cases h
  | n + 1, c :: t, T, R, hn, h => by
    rw [List.length_cons] at hn
    rw [List.cons_append, quoS_cons]
    rw [quoS_cons] at h
    split at h
    · next k =>
      rw [if_pos k]
      injection h with h
      injection h with h1 h2
      subst h1 h2
      rfl
    next k1 =>
    rw [if_neg k1]
    split at h
    · cases h
    next k2 =>
    rw [if_neg k2]
    split at h
    · next k =>
      rw [if_pos k]
      cases he : escS t with
      | none => rw [he] at h; cases h
      | some x =>
        obtain ⟨r, m⟩ := x
        rw [he] at h
        rw [esc_app he]
        have l := escS_len he
        simp only [Option.map_eq_some_iff] at h ⊢
        obtain ⟨⟨T', R'⟩, h, e⟩ := h
        injection e with e1 e2
        subst e1 e2
        refine ⟨(T', R' ++ Z), ?_, rfl⟩
        rw [drop_app _ _ _ l]
        exact quo_app n _ T' R' (by rw [List.length_drop]; omega) h
    · next k =>
      rw [if_neg k]
      simp only [Option.map_eq_some_iff] at h ⊢
      obtain ⟨⟨T', R'⟩, h, e⟩ := h
      injection e with e1 e2
      subst e1 e2
      exact ⟨(T', R' ++ Z), quo_app n t T' R' (by omega) h, rfl⟩
theorem symS_app {S Z : List Nat} (hz : Sep Z) (ne : S ≠ []) : symS (S ++ Z) = symS S := by
  unfold symS
  dsimp only
  have l := List.length_pos_iff.2 ne
  rw [hd_app _ _ ne, drop_app _ _ _ l]
  have c1 := hd_sep (S := S.drop 1) hz (v := 46) (by decide) (by decide) (by decide)
  have c2 := hd_sep (S := S.drop 1) hz (v := 42) (by decide) (by decide) (by decide)
  have c3 := hd_sep (S := S.drop 1) hz (v := 61) (by decide) (by decide) (by decide)
  have c4 := hd_sep (S := S.drop 1) hz (v := 62) (by decide) (by decide) (by decide)
  simp only [c1, c2, c3, c4]
/-- A token is the same, whatever stands behind, if that begins with a space. -/
theorem one_app {S Z : List Nat} (hz : Sep Z) (ne : S ≠ []) {k : Nat} {x R : List Nat} (h : oneS S = some (k, x, R)) : oneS (S ++ Z) = some (k, x, R ++ Z) := by
  have l := List.length_pos_iff.2 ne
  have wz : wordR (hd Z) = false := by rcases hz.hd with e | e <;> rw [e] <;> rfl
  unfold oneS at h ⊢
  rw [hd_app _ _ ne, drop_app _ _ _ l]
  split at h
  · next k =>
    rw [if_pos k, tw_app _ wz hz.2.1, dw_app _ wz hz.2.1]
    injection h with h
    injection h with h1 h2
    injection h2 with h2 h3
    subst h1 h2 h3
    rfl
  next k1 =>
  rw [if_neg k1]
  split at h
  · next k =>
    have k' : digR (hd S) = true ∨ (hd S = 46 ∧ digR (hd (S.drop 1 ++ Z)) = true) := k.elim .inl (fun y => .inr ⟨y.1, by rw [dig_sep hz]; exact y.2⟩)
    rw [if_pos k', numS_app hz]
    injection h with h
    injection h with h1 h2
    injection h2 with h2 h3
    subst h1 h2 h3
    have a := numS_lt k
    rw [List.length_append, List.length_append, Nat.add_sub_add_right, List.take_append_of_le_length (by omega)]
  next k2 =>
  rw [if_neg (fun y => k2 (y.elim .inl (fun y => .inr ⟨y.1, by rw [dig_sep hz] at y; exact y.2⟩)))]
  split at h
  · next k =>
    rw [if_pos k]
    simp only [Option.map_eq_some_iff] at h ⊢
    obtain ⟨⟨T', R'⟩, h, e⟩ := h
    injection e with e1 e2
    injection e2 with e2 e3
    subst e1 e2 e3
    exact ⟨(T', R' ++ Z), quo_app _ _ T' R' (Nat.le_refl _) h, rfl⟩
  next k3 =>
  rw [if_neg k3]
  have c34 := hd_sep (S := S.drop 1) hz (v := 34) (by decide) (by decide) (by decide)
  split at h
  · next k =>
    have l2 : 2 ≤ S.length := by
      rcases S with _ | ⟨a, _ | ⟨b, t⟩⟩
      · exact absurd rfl ne
      · exact absurd k.2 (by show ¬ ((0 : Nat) = 34); decide)
      · simp
    rw [if_pos ⟨k.1, c34.2 k.2⟩, drop_app _ _ _ l2]
    simp only [Option.map_eq_some_iff] at h ⊢
    obtain ⟨⟨T', R'⟩, h, e⟩ := h
    injection e with e1 e2
    injection e2 with e2 e3
    subst e1 e2 e3
    exact ⟨(T', R' ++ Z), quo_app _ _ T' R' (Nat.le_refl _) h, rfl⟩
  next k4 =>
  rw [if_neg (fun y => k4 ⟨y.1, c34.1 y.2⟩), symS_app hz ne]
  split at h
  · next k =>
    rw [if_pos k]
    injection h with h
    injection h with h1 h2
    injection h2 with h2 h3
    subst h1 h2 h3
    have a := symS_le S
    rw [List.take_append_of_le_length a, drop_app _ _ _ a]
  · cases h
end Go.Proofs.YtfelcneedpndiaaDoor

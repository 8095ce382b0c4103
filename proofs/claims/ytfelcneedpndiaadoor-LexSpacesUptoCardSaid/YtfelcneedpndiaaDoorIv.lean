/-
  Plain: a number's token has a number's form (layer 16, layer 5).
-/
import Derived.Test.YtfelcneedpndiaaDoorNsh
import Derived.Test.YtfelcneedpndiaaDoorIn
namespace Go.Proofs.YtfelcneedpndiaaDoor
open Go.Lib

/-- Bytes of runes below 128. -/
theorem enc_low : ∀ L : List Nat, (∀ r ∈ L, r < 128) → enc L = L.map fun r => r.toUInt8
  | [], _ => rfl
  | r :: t, h => by
    have hr := h r (by simp)
    rw [enc_cons, enc_low t (fun x hx => h x (by simp [hx]))]
    unfold encodeRune
    rw [encodeRuneZ_one (by omega) (by omega)]
    rfl
/-- The number's form, of runes. -/
def runN : List Nat → RdT → Option RdT
  | [], s => some s
  | r :: t, s => if (takeS r s).2 = true then runN t (takeS r s).1 else none
theorem runN_low : ∀ (L : List Nat) (s : RdT), (∀ r ∈ L, r < 128) → runS (L.map fun r => r.toUInt8) s = runN L s
  | [], _, _ => rfl
  | r :: t, s, h => by
    have hr := h r (by simp)
    have e : (r.toUInt8).toNat = r := by simp; omega
    show (if (takeS (r.toUInt8).toNat s).2 = true then runS (t.map fun r => r.toUInt8) (takeS (r.toUInt8).toNat s).1 else none) = if (takeS r s).2 = true then runN t (takeS r s).1 else none
    rw [e, runN_low t _ (fun x hx => h x (by simp [hx]))]
theorem runN_app : ∀ (A B : List Nat) (s s' : RdT), runN A s = some s' → runN (A ++ B) s = runN B s'
  | [], B, s, s', h => by
    injection h with h
    subst h
    rfl
  | r :: t, B, s, s', h => by
    have e1 : runN (r :: t) s = if (takeS r s).2 = true then runN t (takeS r s).1 else none := rfl
    have e2 : runN (r :: (t ++ B)) s = if (takeS r s).2 = true then runN (t ++ B) (takeS r s).1 else none := rfl
    rw [List.cons_append, e2]
    rw [e1] at h
    split at h
    · next k =>
      rw [if_pos k]
      exact runN_app t B _ _ h
    · cases h
/-- How many digits of the power were read. -/
def pdOf (s : RdT) : Nat := s.2.2.2.2.2.2.2.1
theorem coef_at (a V kept dr : Nat) (more : Bool) (pl pw pd : Nat) (bl : Bool) (d : Nat) : (coefS a V kept dr more pl pw pd bl d).1 = a ∧ pdOf (coefS a V kept dr more pl pw pd bl d) = pd := by
  unfold coefS pdOf
  split <;> exact ⟨rfl, rfl⟩
theorem takeN_dig {r : Nat} (h : digR r = true) (s : RdT) : (takeS r s).2 = (decide (s.1 ≤ 3) || decide (pdOf s + 1 ≤ 6)) ∧ (takeS r s).1.1 = (if s.1 ≤ 1 then 1 else if s.1 ≤ 3 then 3 else 6) ∧ pdOf (takeS r s).1 = (if s.1 ≤ 3 then pdOf s else pdOf s + 1) := by
  obtain ⟨a, V, kept, dr, more, pl, pw, pd, bl⟩ := s
  have hr : 48 ≤ r ∧ r ≤ 57 := by simpa [digR] using h
  unfold takeS
  dsimp only
  rw [if_pos hr]
  by_cases h1 : a ≤ 1
  · rw [if_pos h1]
    have c := coef_at 1 V kept dr more pl pw pd bl (r - 48)
    refine ⟨?_, ?_, ?_⟩
    · simp; omega
    · rw [if_pos h1]; exact c.1
    · rw [if_pos (by omega)]; exact c.2
  · rw [if_neg h1]
    by_cases h2 : a ≤ 3
    · rw [if_pos h2]
      have c := coef_at 3 V kept dr more (pl + 1) pw pd bl (r - 48)
      refine ⟨?_, ?_, ?_⟩
      · simp [h2]
      · rw [if_neg h1, if_pos h2]; exact c.1
      · rw [if_pos h2]; exact c.2
    · rw [if_neg h2]
      refine ⟨?_, ?_, ?_⟩
      · simp [h2, pdOf]
      · rw [if_neg h1, if_neg h2]
      · rw [if_neg h2]; rfl
/-- Digits of the coefficient, ahead of the point or behind it. -/
theorem run_coef : ∀ (D : List Nat) (s : RdT), (∀ r ∈ D, digR r = true) → s.1 ≤ 3 → ∃ s', runN D s = some s' ∧ pdOf s' = pdOf s ∧ s'.1 = (if D = [] then s.1 else if s.1 ≤ 1 then 1 else 3)
  | [], s, _, _ => ⟨s, rfl, rfl, by simp⟩
  | r :: t, s, h, hs => by
    obtain ⟨t1, t2, t3⟩ := takeN_dig (h r (by simp)) s
    have a1 : (takeS r s).2 = true := by rw [t1]; simp [hs]
    rw [if_pos hs] at t3
    have a3 : (takeS r s).1.1 ≤ 3 := by rw [t2]; split <;> (try split) <;> omega
    obtain ⟨s', e1, e2, e3⟩ := run_coef t (takeS r s).1 (fun x hx => h x (by simp [hx])) a3
    refine ⟨s', ?_, e2.trans t3, ?_⟩
    · show (if (takeS r s).2 = true then runN t (takeS r s).1 else none) = _
      rw [if_pos a1]
      exact e1
    · rw [e3, t2]
      by_cases k : s.1 ≤ 1
      · by_cases n : t = [] <;> simp [k, n]
      · by_cases n : t = [] <;> simp [k, hs, n]
/-- Digits of the power. -/
theorem run_pow : ∀ (D : List Nat) (s : RdT), (∀ r ∈ D, digR r = true) → 4 ≤ s.1 → pdOf s + D.length ≤ 6 → ∃ s', runN D s = some s' ∧ s'.1 = (if D = [] then s.1 else 6)
  | [], s, _, _, _ => ⟨s, rfl, by simp⟩
  | r :: t, s, h, hs, hl => by
    rw [List.length_cons] at hl
    obtain ⟨t1, t2, t3⟩ := takeN_dig (h r (by simp)) s
    have a1 : (takeS r s).2 = true := by rw [t1]; simp; omega
    rw [if_neg (by omega)] at t3
    rw [if_neg (by omega), if_neg (by omega)] at t2
    obtain ⟨s', e1, e3⟩ := run_pow t (takeS r s).1 (fun x hx => h x (by simp [hx])) (by omega) (by omega)
    refine ⟨s', ?_, ?_⟩
    · show (if (takeS r s).2 = true then runN t (takeS r s).1 else none) = _
      rw [if_pos a1]
      exact e1
    · rw [e3, t2]
      by_cases n : t = [] <;> simp [n]
theorem takeN_point (s : RdT) (h : s.1 ≤ 1) : (takeS 46 s).2 = true ∧ (takeS 46 s).1.1 = 2 ∧ pdOf (takeS 46 s).1 = pdOf s := by
  obtain ⟨a, V, kept, dr, more, pl, pw, pd, bl⟩ := s
  exact ⟨decide_eq_true h, rfl, rfl⟩
theorem takeN_E (s : RdT) (h : s.1 = 1 ∨ s.1 = 3) : (takeS 69 s).2 = true ∧ (takeS 69 s).1.1 = 4 ∧ pdOf (takeS 69 s).1 = pdOf s := by
  obtain ⟨a, V, kept, dr, more, pl, pw, pd, bl⟩ := s
  exact ⟨decide_eq_true h, rfl, rfl⟩
theorem takeN_sign (r : Nat) (hr : r = 43 ∨ r = 45) (s : RdT) (h : s.1 = 4) : (takeS r s).2 = true ∧ (takeS r s).1.1 = 5 ∧ pdOf (takeS r s).1 = pdOf s := by
  obtain ⟨a, V, kept, dr, more, pl, pw, pd, bl⟩ := s
  rcases hr with rfl | rfl <;> exact ⟨decide_eq_true h, rfl, rfl⟩
/-- What stands ahead of what is left behind digits. -/
theorem digS_split (S : List Nat) : S = S.takeWhile digR ++ digS S := (List.takeWhile_append_dropWhile).symm
theorem tw_dig : ∀ S : List Nat, ∀ r ∈ S.takeWhile digR, digR r = true
  | [], r, h => by simp at h
  | c :: t, r, h => by
    rw [List.takeWhile_cons] at h
    split at h
    · next k =>
      rcases List.mem_cons.1 h with rfl | h
      · exact k
      · exact tw_dig t r h
    · simp at h
theorem hd_split {S : List Nat} {c : Nat} (h : hd S = c) (hc : c ≠ 0) : S = c :: S.drop 1 := by
  rcases S with _ | ⟨a, t⟩
  · exact absurd h.symm hc
  · obtain rfl : a = c := h
    rfl
theorem digR_low {r : Nat} (h : digR r = true) : r < 128 := by
  have hr : 48 ≤ r ∧ r ≤ 57 := by simpa [digR] using h
  omega
theorem tw_ne {S : List Nat} (h : digR (hd S) = true) : S.takeWhile digR ≠ [] := by
  rcases S with _ | ⟨c, t⟩
  · exact absurd h (by decide)
  · rw [List.takeWhile_cons, if_pos (show digR c = true from h)]
    simp
/-- The power behind a coefficient: from a place at which a text may end to one at which it may end. -/
theorem run_exp (b : List Nat) (s : RdT) (hs : s.1 = 1 ∨ s.1 = 3) (hp : pdOf s = 0) : ∃ (P : List Nat) (s' : RdT), b = P ++ xpS b ∧ (∀ r ∈ P, r < 128) ∧ runN P s = some s' ∧ endS s' = true := by
  have stay : ∃ (P : List Nat) (s' : RdT), b = P ++ b ∧ (∀ r ∈ P, r < 128) ∧ runN P s = some s' ∧ endS s' = true := ⟨[], s, rfl, by simp, rfl, by unfold endS; rcases hs with h | h <;> rw [h] <;> rfl⟩
  unfold xpS
  by_cases h : hd b = 69
  · rw [if_pos h]
    dsimp only
    by_cases k : hd (b.drop 1) = 43 ∨ hd (b.drop 1) = 45
    · rw [if_pos k]
      by_cases q : (digS (b.drop 2)).length < (b.drop 2).length ∧ (b.drop 2).length ≤ (digS (b.drop 2)).length + 6
      · rw [if_pos q]
        obtain ⟨t1, t2, t3⟩ := takeN_E s hs
        obtain ⟨u1, u2, u3⟩ := takeN_sign (hd (b.drop 1)) k (takeS 69 s).1 t2
        have sp := digS_split (b.drop 2)
        have ln := congrArg List.length sp
        rw [List.length_append] at ln
        obtain ⟨s', e1, e2⟩ := run_pow ((b.drop 2).takeWhile digR) (takeS (hd (b.drop 1)) (takeS 69 s).1).1 (tw_dig _) (by omega) (by rw [u3, t3, hp]; omega)
        have ne : (b.drop 2).takeWhile digR ≠ [] := by
          intro e
          rw [e, List.length_nil] at ln
          omega
        rw [if_neg ne] at e2
        refine ⟨69 :: hd (b.drop 1) :: (b.drop 2).takeWhile digR, s', ?_, ?_, ?_, by unfold endS; rw [e2]; rfl⟩
        · have b1 := hd_split h (by decide)
          have b2 := hd_split (S := b.drop 1) rfl (by omega)
          rw [List.drop_drop] at b2
          rw [List.cons_append, List.cons_append, ← sp, ← b2, ← b1]
        · intro r hr
          rcases List.mem_cons.1 hr with rfl | hr
          · decide
          rcases List.mem_cons.1 hr with rfl | hr
          · omega
          · exact digR_low (tw_dig _ r hr)
        · show (if (takeS 69 s).2 = true then (if (takeS (hd (b.drop 1)) (takeS 69 s).1).2 = true then runN ((b.drop 2).takeWhile digR) _ else none) else none) = _
          rw [if_pos t1, if_pos u1]
          exact e1
      · rw [if_neg q]
        exact stay
    · rw [if_neg k]
      by_cases q : (digS (b.drop 1)).length < (b.drop 1).length ∧ (b.drop 1).length ≤ (digS (b.drop 1)).length + 6
      · rw [if_pos q]
        obtain ⟨t1, t2, t3⟩ := takeN_E s hs
        have sp := digS_split (b.drop 1)
        have ln := congrArg List.length sp
        rw [List.length_append] at ln
        obtain ⟨s', e1, e2⟩ := run_pow ((b.drop 1).takeWhile digR) (takeS 69 s).1 (tw_dig _) (by omega) (by rw [t3, hp]; omega)
        have ne : (b.drop 1).takeWhile digR ≠ [] := by
          intro e
          rw [e, List.length_nil] at ln
          omega
        rw [if_neg ne] at e2
        refine ⟨69 :: (b.drop 1).takeWhile digR, s', ?_, ?_, ?_, by unfold endS; rw [e2]; rfl⟩
        · have b1 := hd_split h (by decide)
          rw [List.cons_append, ← sp, ← b1]
        · intro r hr
          rcases List.mem_cons.1 hr with rfl | hr
          · decide
          · exact digR_low (tw_dig _ r hr)
        · show (if (takeS 69 s).2 = true then runN ((b.drop 1).takeWhile digR) _ else none) = _
          rw [if_pos t1]
          exact e1
      · rw [if_neg q]
        exact stay
  · rw [if_neg h]
    exact stay
/-- A number's token has a number's form. -/
theorem num_shape {S : List Nat} (h : digR (hd S) = true ∨ (hd S = 46 ∧ digR (hd (S.drop 1)) = true)) : ∃ (P : List Nat) (s' : RdT), S = P ++ numS S ∧ (∀ r ∈ P, r < 128) ∧ runN P rd0 = some s' ∧ endS s' = true := by
  have sp := digS_split S
  obtain ⟨s1, e1, p1, a1⟩ := run_coef (S.takeWhile digR) rd0 (tw_dig _) (by decide)
  by_cases k : hd (digS S) = 46 ∧ digR (hd ((digS S).drop 1)) = true
  · have s1le : s1.1 ≤ 1 := by rw [a1]; split <;> decide
    obtain ⟨t1, t2, t3⟩ := takeN_point s1 s1le
    have sp2 := digS_split ((digS S).drop 1)
    obtain ⟨s2, e2, p2, a2⟩ := run_coef (((digS S).drop 1).takeWhile digR) (takeS 46 s1).1 (tw_dig _) (by omega)
    rw [if_neg (tw_ne k.2), if_neg (by omega)] at a2
    obtain ⟨P, s3, q1, q2, q3, q4⟩ := run_exp (digS ((digS S).drop 1)) s2 (.inr a2) (by rw [p2, t3, p1]; rfl)
    refine ⟨S.takeWhile digR ++ (46 :: ((digS S).drop 1).takeWhile digR ++ P), s3, ?_, ?_, ?_, q4⟩
    · rw [numS_xp, if_pos k, List.append_assoc, List.cons_append, List.cons_append, List.append_assoc, ← q1, ← sp2, ← hd_split k.1 (by decide)]
      exact sp
    · intro r hr
      rcases List.mem_append.1 hr with hr | hr
      · exact digR_low (tw_dig _ r hr)
      rcases List.mem_append.1 hr with hr | hr
      · rcases List.mem_cons.1 hr with rfl | hr
        · decide
        · exact digR_low (tw_dig _ r hr)
      · exact q2 r hr
    · rw [runN_app _ _ _ _ e1, List.cons_append]
      show (if (takeS 46 s1).2 = true then runN (((digS S).drop 1).takeWhile digR ++ P) (takeS 46 s1).1 else none) = _
      rw [if_pos t1, runN_app _ _ _ _ e2]
      exact q3
  · have hd0 : digR (hd S) = true := by
      rcases h with h | ⟨h1, h2⟩
      · exact h
      · exfalso
        apply k
        have e : digS S = S := by
          rw [hd_split h1 (by decide), digS_cons, if_neg (by decide)]
        rw [e]
        exact ⟨h1, h2⟩
    rw [if_neg (tw_ne hd0), if_pos (by decide)] at a1
    obtain ⟨P, s3, q1, q2, q3, q4⟩ := run_exp (digS S) s1 (.inl a1) (by rw [p1]; rfl)
    refine ⟨S.takeWhile digR ++ P, s3, ?_, ?_, ?_, q4⟩
    · rw [numS_xp, if_neg k, List.append_assoc, ← q1]
      exact sp
    · intro r hr
      rcases List.mem_append.1 hr with hr | hr
      · exact digR_low (tw_dig _ r hr)
      · exact q2 r hr
    · rw [runN_app _ _ _ _ e1]
      exact q3
/-- .. as bytes. -/
theorem num_shapeL {S : List Nat} (h : digR (hd S) = true ∨ (hd S = 46 ∧ digR (hd (S.drop 1)) = true)) : shapeL (enc (S.take (S.length - (numS S).length))) = true := by
  obtain ⟨P, s', e1, e2, e3, e4⟩ := num_shape h
  have ln := congrArg List.length e1
  rw [List.length_append] at ln
  have eP : S.take (S.length - (numS S).length) = P := by
    have : S.length - (numS S).length = P.length := by omega
    rw [this]
    conv => lhs; rw [e1]
    exact List.take_left
  rw [eP, enc_low P e2]
  unfold shapeL
  rw [runN_low P rd0 e2, e3]
  exact e4
end Go.Proofs.YtfelcneedpndiaaDoor

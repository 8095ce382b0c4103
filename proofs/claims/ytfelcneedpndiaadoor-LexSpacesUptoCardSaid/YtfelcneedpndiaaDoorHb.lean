/-
  Plain: what the program's own cuts come to (layer 16): numbers, escapes, strings, symbols, tokens.
-/
import Derived.Test.YtfelcneedpndiaaDoorHa
import Derived.Test.YtfelcneedpndiaaDoorIv
namespace Go.Proofs.YtfelcneedpndiaaDoor
open Go.RowKit Go.Lib

/-! ### Numbers -/
/-- Behind digits, with a point or without one. -/
def dgS (S : List Nat) : List Nat := if hd (digS S) = 46 ∧ digR (hd ((digS S).drop 1)) = true then digS ((digS S).drop 1) else digS S
/-- Behind an E and what stands ahead of its digits. -/
def epS (b : List Nat) : List Nat := if hd (b.drop 1) = 43 ∨ hd (b.drop 1) = 45 then b.drop 2 else b.drop 1
/-- Behind a power, however many digits it has. -/
def pwS (b : List Nat) : List Nat := if hd b = 69 then digS (epS b) else b
/-- Behind a number, if one stands there. -/
def nbS (S : List Nat) : List Nat := if digR (hd S) = true ∨ (hd S = 46 ∧ digR (hd (S.drop 1)) = true) then numS S else S
theorem numS_dg (S : List Nat) : numS S = xpS (dgS S) := by rw [numS_xp]; rfl
theorem xpS_ep (b : List Nat) : xpS b = if hd b = 69 then (if (digS (epS b)).length < (epS b).length ∧ (epS b).length ≤ (digS (epS b)).length + 6 then digS (epS b) else b) else b := rfl
theorem digS_suf (S : List Nat) : digS S <:+ S := dw_suf _ _
theorem dgS_suf (S : List Nat) : dgS S <:+ S := by
  unfold dgS
  split
  · exact ((digS_suf _).trans (List.drop_suffix 1 _)).trans (digS_suf _)
  · exact digS_suf _
theorem epS_suf (b : List Nat) : epS b <:+ b := by
  unfold epS
  split
  · exact List.drop_suffix _ _
  · exact List.drop_suffix _ _
theorem pwS_suf (b : List Nat) : pwS b <:+ b := by
  unfold pwS
  split
  · exact (digS_suf _).trans (epS_suf _)
  · exact List.suffix_refl _
theorem take_suf {R S : List Nat} (h : R <:+ S) : S = S.take (S.length - R.length) ++ R := by
  have e := suf_drop h
  conv => lhs; rw [← List.take_append_drop (S.length - R.length) S, e]
theorem take_app {P R : List Nat} : (P ++ R).take ((P ++ R).length - R.length) = P := by
  rw [List.length_append, Nat.add_sub_cancel, List.take_left]
theorem run_none : ∀ (D : List Nat) (s : RdT), (∀ r ∈ D, digR r = true) → 4 ≤ s.1 → 6 < pdOf s + D.length → pdOf s ≤ 6 → runN D s = none
  | [], s, _, _, h, h6 => by simp at h; omega
  | r :: t, s, h, hs, hl, h6 => by
    rw [List.length_cons] at hl
    obtain ⟨t1, t2, t3⟩ := takeN_dig (h r (by simp)) s
    rw [if_neg (by omega)] at t3
    rw [if_neg (by omega), if_neg (by omega)] at t2
    show (if (takeS r s).2 = true then runN t (takeS r s).1 else none) = none
    by_cases k : pdOf s + 1 ≤ 6
    · have a1 : (takeS r s).2 = true := by rw [t1]; simp; omega
      rw [if_pos a1]
      exact run_none t _ (fun x hx => h x (by simp [hx])) (by omega) (by omega) (by omega)
    · have a1 : (takeS r s).2 = false := by rw [t1]; simp; omega
      rw [if_neg (by rw [a1]; exact Bool.false_ne_true)]
/-- A coefficient is read, and the text may end behind it. -/
theorem run_front {S : List Nat} (h : digR (hd S) = true ∨ (hd S = 46 ∧ digR (hd (S.drop 1)) = true)) : ∃ (P : List Nat) (s : RdT), S = P ++ dgS S ∧ (∀ r ∈ P, r < 128) ∧ runN P rd0 = some s ∧ (s.1 = 1 ∨ s.1 = 3) ∧ pdOf s = 0 := by
  have sp := digS_split S
  obtain ⟨s1, e1, p1, a1⟩ := run_coef (S.takeWhile digR) rd0 (tw_dig _) (by decide)
  unfold dgS
  by_cases k : hd (digS S) = 46 ∧ digR (hd ((digS S).drop 1)) = true
  · rw [if_pos k]
    have s1le : s1.1 ≤ 1 := by rw [a1]; split <;> decide
    obtain ⟨t1, t2, t3⟩ := takeN_point s1 s1le
    have sp2 := digS_split ((digS S).drop 1)
    obtain ⟨s2, e2, p2, a2⟩ := run_coef (((digS S).drop 1).takeWhile digR) (takeS 46 s1).1 (tw_dig _) (by omega)
    rw [if_neg (tw_ne k.2), if_neg (by omega)] at a2
    refine ⟨S.takeWhile digR ++ (46 :: ((digS S).drop 1).takeWhile digR), s2, ?_, ?_, ?_, .inr a2, by rw [p2, t3, p1]; rfl⟩
    · rw [List.append_assoc, List.cons_append, ← sp2, ← hd_split k.1 (by decide)]
      exact sp
    · intro r hr
      rcases List.mem_append.1 hr with hr | hr
      · exact digR_low (tw_dig _ r hr)
      rcases List.mem_cons.1 hr with rfl | hr
      · decide
      · exact digR_low (tw_dig _ r hr)
    · rw [runN_app _ _ _ _ e1]
      show (if (takeS 46 s1).2 = true then runN (((digS S).drop 1).takeWhile digR) (takeS 46 s1).1 else none) = _
      rw [if_pos t1]
      exact e2
  · have hd0 : digR (hd S) = true := by
      rcases h with h | ⟨h1, h2⟩
      · exact h
      · exfalso
        apply k
        have e : digS S = S := by
          rw [hd_split h1 (by decide), digS_cons, if_neg (by decide)]
        rw [e]
        exact ⟨h1, h2⟩
    rw [if_neg (tw_ne hd0), if_pos (by decide)] at a1
    rw [if_neg k]
    exact ⟨S.takeWhile digR, s1, sp, fun r hr => digR_low (tw_dig _ r hr), e1, .inl a1, by rw [p1]; rfl⟩
theorem dgS_stay {S : List Nat} (h : ¬ (digR (hd S) = true ∨ (hd S = 46 ∧ digR (hd (S.drop 1)) = true))) : dgS S = S := by
  have e : digS S = S := dw_none (by simpa using fun x => h (.inl x))
  unfold dgS
  rw [e, if_neg (fun x => h (.inr x))]
theorem shape_enc {P : List Nat} (h : ∀ r ∈ P, r < 128) : shapeL (enc P) = match runN P rd0 with | none => false | some t => endS t := by
  unfold shapeL
  rw [enc_low P h, runN_low P rd0 h]
  rfl
/-- How much of a text that begins with digits is a number's, by its form. -/
theorem shape_pw (S : List Nat) : nbS S = if shapeL (enc (S.take (S.length - (pwS (dgS S)).length))) = true then pwS (dgS S) else dgS S := by
  by_cases h : digR (hd S) = true ∨ (hd S = 46 ∧ digR (hd (S.drop 1)) = true)
  · obtain ⟨P, s, e1, e2, e3, e4, e5⟩ := run_front h
    unfold nbS
    rw [if_pos h, numS_dg]
    generalize dgS S = b at *
    subst e1
    unfold pwS
    rw [xpS_ep]
    by_cases c : hd b = 69
    · rw [if_pos c, if_pos c]
      obtain ⟨t1, t2, t3⟩ := takeN_E s e4
      have sp := digS_split (epS b)
      have ln := congrArg List.length sp
      rw [List.length_append] at ln
      -- what stands between
      obtain ⟨M, s', m1, m2, m3, m4, m5⟩ : ∃ (M : List Nat) (s' : RdT), b = M ++ epS b ∧ (∀ r ∈ M, r < 128) ∧ runN M s = some s' ∧ (s'.1 = 4 ∨ s'.1 = 5) ∧ pdOf s' = 0 := by
        have b1 := hd_split c (by decide)
        by_cases k : hd (b.drop 1) = 43 ∨ hd (b.drop 1) = 45
        · obtain ⟨u1, u2, u3⟩ := takeN_sign (hd (b.drop 1)) k (takeS 69 s).1 t2
          refine ⟨[69, hd (b.drop 1)], (takeS (hd (b.drop 1)) (takeS 69 s).1).1, ?_, ?_, ?_, .inr u2, by rw [u3, t3, e5]⟩
          · have b2 := hd_split (S := b.drop 1) rfl (by omega)
            rw [List.drop_drop] at b2
            unfold epS
            rw [if_pos k]
            show b = 69 :: hd (b.drop 1) :: b.drop 2
            rw [← b2, ← b1]
          · intro r hr
            simp only [List.mem_cons, List.not_mem_nil, or_false] at hr
            rcases hr with rfl | rfl
            · decide
            · omega
          · show (if (takeS 69 s).2 = true then (if (takeS (hd (b.drop 1)) (takeS 69 s).1).2 = true then some _ else none) else none) = _
            rw [if_pos t1, if_pos u1]
        · refine ⟨[69], (takeS 69 s).1, ?_, ?_, ?_, .inl t2, by rw [t3, e5]⟩
          · unfold epS
            rw [if_neg k]
            exact b1
          · intro r hr
            simp only [List.mem_cons, List.not_mem_nil, or_false] at hr
            subst hr
            decide
          · show (if (takeS 69 s).2 = true then some _ else none) = _
            rw [if_pos t1]
      generalize epS b = z at *
      have TK : (P ++ b).take ((P ++ b).length - (digS z).length) = P ++ (M ++ z.takeWhile digR) := by
        have : P ++ b = (P ++ (M ++ z.takeWhile digR)) ++ digS z := by
          rw [List.append_assoc, List.append_assoc, ← sp, ← m1]
        rw [this, take_app]
      have LW : ∀ r ∈ P ++ (M ++ z.takeWhile digR), r < 128 := by
        intro r hr
        rcases List.mem_append.1 hr with hr | hr
        · exact e2 r hr
        rcases List.mem_append.1 hr with hr | hr
        · exact m2 r hr
        · exact digR_low (tw_dig _ r hr)
      rw [TK, shape_enc LW, runN_app _ _ _ _ e3, runN_app _ _ _ _ m3]
      by_cases q : (digS z).length < z.length ∧ z.length ≤ (digS z).length + 6
      · rw [if_pos q]
        obtain ⟨s2, r1, r2⟩ := run_pow (z.takeWhile digR) s' (tw_dig _) (by omega) (by omega)
        have ne : z.takeWhile digR ≠ [] := by
          intro e
          rw [e, List.length_nil] at ln
          omega
        rw [if_neg ne] at r2
        rw [r1]
        have : endS s2 = true := by unfold endS; rw [r2]; rfl
        simp [this]
      · rw [if_neg q]
        rcases Nat.lt_or_ge (digS z).length z.length with x | x
        · rw [run_none (z.takeWhile digR) s' (tw_dig _) (by omega) (by omega) (by omega)]
          simp
        · have ne : z.takeWhile digR = [] := List.eq_nil_of_length_eq_zero (by omega)
          rw [ne]
          have : endS s' = false := by
            unfold endS
            rcases m4 with m4 | m4 <;> rw [m4] <;> rfl
          show b = if (match some s' with | none => false | some t => endS t) = true then _ else _
          simp [this]
    · rw [if_neg c, if_neg c]
      simp
  · have e := dgS_stay h
    unfold nbS
    rw [if_neg h, e]
    unfold pwS
    by_cases c : hd S = 69
    · rw [if_pos c]
      have b1 := hd_split c (by decide)
      have sf : digS (epS S) <:+ S.drop 1 := by
        refine (digS_suf _).trans ?_
        unfold epS
        split
        · rw [show S.drop 2 = (S.drop 1).drop 1 by rw [List.drop_drop]]
          exact List.drop_suffix _ _
        · exact List.suffix_refl _
      obtain ⟨M, hM⟩ := sf
      have TK : S.take (S.length - (digS (epS S)).length) = 69 :: M := by
        have : S = (69 :: M) ++ digS (epS S) := by rw [List.cons_append, hM]; exact b1
        generalize digS (epS S) = z at *
        rw [this, take_app]
      rw [TK]
      have : shapeL (enc (69 :: M)) = false := by
        rw [enc_one 69 M (by decide)]
        rfl
      rw [this]
      simp
    · rw [if_neg c]
      simp
/-- digits: what the program makes of a text. -/
theorem dg_places (S : List Nat) : (hd (digS S) = 46 ∧ digS (if hd (digS S) = 46 then (digS S).drop 1 else digS S) ≠ (digS S).drop 1 ∧ dgS S = digS ((digS S).drop 1)) ∨ (digS (if hd (digS S) = 46 then (digS S).drop 1 else digS S) = (if hd (digS S) = 46 then (digS S).drop 1 else digS S) ∧ dgS S = digS S) := by
  unfold dgS
  by_cases h : hd (digS S) = 46
  · rw [if_pos h]
    by_cases k : digR (hd ((digS S).drop 1)) = true
    · refine .inl ⟨h, ?_, by rw [if_pos ⟨h, k⟩]⟩
      intro e
      have ne : (digS S).drop 1 ≠ [] := by
        intro x
        rw [x] at k
        exact absurd k (by decide)
      have := dw_lt ne k
      unfold digS at e this
      rw [e] at this
      omega
    · exact .inr ⟨dw_none (by simpa using k), by rw [if_neg (fun x => k x.2)]⟩
  · rw [if_neg h]
    refine .inr ⟨?_, by rw [if_neg (fun x => h x.1)]⟩
    rcases dw_hd digR S with e | e
    · unfold digS
      rw [e]
      rfl
    · exact dw_none e
theorem nbS_suf (S : List Nat) : nbS S <:+ S := by
  rw [shape_pw]
  split
  · exact (pwS_suf _).trans (dgS_suf _)
  · exact dgS_suf _
end Go.Proofs.YtfelcneedpndiaaDoor

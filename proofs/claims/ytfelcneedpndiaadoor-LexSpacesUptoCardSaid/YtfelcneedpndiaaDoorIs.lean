/-
  Plain: tokens of words, of numbers, of quoted texts (layer 16).
-/
import Derived.Test.YtfelcneedpndiaaDoorIp
import Derived.Test.YtfelcneedpndiaaDoorIn
namespace Go.Proofs.YtfelcneedpndiaaDoor

theorem tw_all (p : Nat → Bool) : ∀ S : List Nat, (∀ r ∈ S, p r = true) → S.takeWhile p = S
  | [], _ => rfl
  | c :: t, h => by rw [List.takeWhile_cons, if_pos (h c (by simp)), tw_all p t (fun r hr => h r (by simp [hr]))]
theorem dw_all (p : Nat → Bool) : ∀ S : List Nat, (∀ r ∈ S, p r = true) → S.dropWhile p = []
  | [], _ => rfl
  | c :: t, h => by rw [List.dropWhile_cons, if_pos (h c (by simp)), dw_all p t (fun r hr => h r (by simp [hr]))]
theorem hd_cons (c : Nat) (t : List Nat) : hd (c :: t) = c := rfl
theorem let_not (c : Nat) (h : letR c = true) : spR c = false ∧ c ≠ 47 := by
  simp only [letR, spR, Bool.or_eq_true, Bool.and_eq_true, decide_eq_true_eq, beq_iff_eq] at *
  refine ⟨?_, by omega⟩
  simp
  omega
theorem dig_not (c : Nat) (h : digR c = true) : spR c = false ∧ c ≠ 47 ∧ letR c = false := by
  simp only [letR, digR, spR, Bool.and_eq_true, decide_eq_true_eq] at *
  refine ⟨?_, by omega, ?_⟩ <;> simp <;> omega
theorem skip_stay (c : Nat) (t : List Nat) (h : spR c = false) (h2 : c ≠ 47) : skipS (c :: t) = some (c :: t) := by
  rw [skipS_cons, if_neg (by rw [h]; decide), if_neg (fun x => h2 x.1), if_neg (fun x => h2 x.1)]
theorem tokS_nil : tokS [] = some [(0, [], 0)] := rfl
theorem tok_one (S : List Nat) (k : Nat) (x R : List Nat) (hS : S ≠ []) (hs : skipS S = some S) (ho : oneS S = some (k, x, R)) : tokS S = (tokS R).map fun ts => (k, x, S.length) :: ts := by
  rcases S with _ | ⟨c, t⟩
  · exact absurd rfl hS
  · rw [tokS_step, hs]
    simp only [ho]
/-- A run of letters and digits that begins with a letter is one word. -/
theorem tok_word (c : Nat) (t : List Nat) (hc : letR c = true) (ht : ∀ r ∈ t, wordR r = true) : tokS (c :: t) = some [(1, c :: t, (c :: t).length), (0, [], 0)] := by
  have hn := let_not c hc
  have hw : ∀ r ∈ c :: t, wordR r = true := by
    intro r hr
    rcases List.mem_cons.1 hr with rfl | hr
    · unfold wordR; rw [hc]; rfl
    · exact ht r hr
  have a1 : (c :: t).takeWhile wordR = c :: t := tw_all _ _ hw
  have a2 : (c :: t).dropWhile wordR = [] := dw_all _ _ hw
  rw [tok_one (c :: t) 1 (c :: t) [] (by simp) (skip_stay c t hn.1 hn.2) (by rw [oneS_letter (show letR (hd (c :: t)) = true from hc), a1, a2]), tokS_nil]
  rfl
/-- A run of digits is one number. -/
theorem tok_digits (c : Nat) (t : List Nat) (hc : digR c = true) (ht : ∀ r ∈ t, digR r = true) : tokS (c :: t) = some [(2, c :: t, (c :: t).length), (0, [], 0)] := by
  have hn := dig_not c hc
  have hw : ∀ r ∈ c :: t, digR r = true := by
    intro r hr
    rcases List.mem_cons.1 hr with rfl | hr
    · exact hc
    · exact ht r hr
  have a2 : digS (c :: t) = [] := dw_all _ _ hw
  have nm : numS (c :: t) = [] := by
    rw [numS_xp, a2]
    rfl
  rw [tok_one (c :: t) 2 (c :: t) [] (by simp) (skip_stay c t hn.1 hn.2.1) (by
    rw [oneS_number (show letR (hd (c :: t)) = false from hn.2.2) (.inl hc), nm]
    simp), tokS_nil]
  rfl
/-- A rune within a string of the language, as runes. -/
def escN (r : Nat) : List Nat := if r = 10 then [92, 110] else if r = 13 then [92, 114] else if r = 9 then [92, 116] else if r = 92 ∨ r = 34 then [92, r] else [r]
/-- A text as a string of the language, as runes. -/
def quoN (L : List Nat) : List Nat := 34 :: (L.flatMap escN ++ [34])
theorem quo_esc : ∀ (L T : List Nat), quoS (L.flatMap escN ++ 34 :: T) = some (L, T)
  | [], T => by
    rw [List.flatMap_nil, List.nil_append, quoS_cons, if_pos rfl]
  | r :: L, T => by
    have ih := quo_esc L T
    rw [List.flatMap_cons, List.append_assoc]
    generalize hX : L.flatMap escN ++ 34 :: T = X at *
    unfold escN
    by_cases h1 : r = 10
    · subst h1
      show quoS (92 :: 110 :: X) = _
      rw [quoS_cons, if_neg (by decide), if_neg (by decide), if_pos rfl, show escS (110 :: X) = some (10, 1) from by simp [escS, hd]]
      simp [ih]
    rw [if_neg h1]
    by_cases h2 : r = 13
    · subst h2
      show quoS (92 :: 114 :: X) = _
      rw [quoS_cons, if_neg (by decide), if_neg (by decide), if_pos rfl, show escS (114 :: X) = some (13, 1) from by simp [escS, hd]]
      simp [ih]
    rw [if_neg h2]
    by_cases h3 : r = 9
    · subst h3
      show quoS (92 :: 116 :: X) = _
      rw [quoS_cons, if_neg (by decide), if_neg (by decide), if_pos rfl, show escS (116 :: X) = some (9, 1) from by simp [escS, hd]]
      simp [ih]
    rw [if_neg h3]
    by_cases h4 : r = 92 ∨ r = 34
    · rw [if_pos h4]
      show quoS (92 :: r :: X) = _
      rw [quoS_cons, if_neg (by decide), if_neg (by decide), if_pos rfl, show escS (r :: X) = some (r, 1) from by rcases h4 with rfl | rfl <;> simp [escS, hd]]
      simp [ih]
    · rw [if_neg h4]
      show quoS (r :: X) = _
      rw [quoS_cons, if_neg (fun h => h4 (.inr h)), if_neg (fun h => h.elim h1 h2), if_neg (fun h => h4 (.inl h)), ih]
      rfl
/-- A text, quoted, is one string that stands for it. -/
theorem tok_quote (L : List Nat) : tokS (quoN L) = some [(3, L, (quoN L).length), (0, [], 0)] := by
  have ho : oneS (quoN L) = some (3, L, []) := by
    rw [oneS_quote (show hd (quoN L) = 34 from rfl)]
    show (quoS (L.flatMap escN ++ 34 :: [])).map _ = _
    rw [quo_esc]
    rfl
  rw [tok_one (quoN L) 3 L [] (by unfold quoN; simp) (skip_stay 34 _ (by decide) (by decide)) ho, tokS_nil]
  rfl
theorem tok_temp (L : List Nat) : tokS (64 :: quoN L) = some [(4, L, (64 :: quoN L).length), (0, [], 0)] := by
  have ho : oneS (64 :: quoN L) = some (4, L, []) := by
    rw [oneS_temp (show hd (64 :: quoN L) = 64 from rfl) (show hd ((64 :: quoN L).drop 1) = 34 from rfl)]
    show (quoS (L.flatMap escN ++ 34 :: [])).map _ = _
    rw [quo_esc]
    rfl
  rw [tok_one (64 :: quoN L) 4 L [] (by simp) (skip_stay 64 _ (by decide) (by decide)) ho, tokS_nil]
  rfl
end Go.Proofs.YtfelcneedpndiaaDoor

/-
  Plain: runes as a string's bytes: how these begin, where signs of one byte stand in them (layer 16).
-/
import Derived.Test.YtfelcneedpndiaaDoorIxp
import Derived.Test.YtfelcneedpndiaaDoorIe
import Derived.Lib.IndexMore
namespace Go.Proofs.YtfelcneedpndiaaDoor
open Go.RowKit Go.Lib

/-- Runes as a string. -/
def tx (S : List Nat) : ByteArray := ⟨(enc S).toArray⟩
/-- How many bytes runes take. -/
def bz (S : List Nat) : Nat := (enc S).length
theorem tx_size (S : List Nat) : (tx S).size = bz S := sizeI _
theorem tx_list (S : List Nat) : (tx S).data.toList = enc S := by simp [tx]
theorem tx_nil : tx [] = ⟨#[]⟩ := rfl
theorem tx_of {s : ByteArray} (h : validD s.data.toList = true) : s = tx (rnS s) := by
  have e := (validD_iff _).1 h
  unfold val at e
  unfold tx rnS
  rw [e, bytesI]
theorem bz_append (A B : List Nat) : bz (A ++ B) = bz A + bz B := by unfold bz; rw [enc_append, List.length_append]
theorem bz_nil : bz [] = 0 := rfl
theorem bz_pos {S : List Nat} (h : S ≠ []) : 1 ≤ bz S := by
  have := (enc_length_le S).1
  have := List.length_pos_iff.2 h
  unfold bz
  omega
theorem bz_le {R S : List Nat} (h : R <:+ S) : bz R ≤ bz S := by
  obtain ⟨P, rfl⟩ := h
  rw [bz_append]
  omega
theorem bz_lt {R S : List Nat} (h : R <:+ S) (hl : R.length < S.length) : bz R < bz S := by
  obtain ⟨P, rfl⟩ := h
  rw [bz_append]
  rw [List.length_append] at hl
  have : P ≠ [] := by
    rintro rfl
    simp at hl
  have := bz_pos this
  omega
theorem suf_len {R S : List Nat} (h : R <:+ S) : R.length ≤ S.length := h.length_le
/-- What stands behind. -/
theorem tx_behind {R S : List Nat} (h : R <:+ S) : (tx S).extract (bz S - bz R) (bz S) = tx R := by
  obtain ⟨P, rfl⟩ := h
  apply ByteArray.ext
  apply Array.ext'
  rw [extract_data, tx_list, tx_list, bz_append, enc_append, show bz P + bz R - bz R = (enc P).length from by unfold bz; omega, List.drop_left]
  apply List.take_of_length_le
  unfold bz
  omega
/-- What stands ahead. -/
theorem tx_ahead {R S : List Nat} (h : R <:+ S) : (tx S).extract 0 (bz S - bz R) = tx (S.take (S.length - R.length)) := by
  obtain ⟨P, rfl⟩ := h
  apply ByteArray.ext
  apply Array.ext'
  rw [extract_data, tx_list, tx_list, bz_append, enc_append, List.length_append, show P.length + R.length - R.length = P.length by omega, List.take_left, List.drop_zero, show bz P + bz R - bz R - 0 = (enc P).length from by unfold bz; omega, List.take_left]
theorem encodeRune_low (c : Nat) (h : c < 128) : encodeRune (c : Int) = [c.toUInt8] := by
  unfold encodeRune
  rw [encodeRuneZ_one (by omega) (by omega)]
  simp
theorem encodeRune_high (c : Nat) (h : 128 ≤ c) : ∀ b ∈ encodeRune (c : Int), 128 ≤ b.toNat := by
  by_cases hb : (55296 ≤ c ∧ c ≤ 57343) ∨ 1114111 < c
  · intro b m
    unfold encodeRune at m
    rw [encodeRuneZ_bad (r := (c : Int)) (by omega)] at m
    simp at m
    rcases m with rfl | rfl | rfl <;> decide
  unfold encodeRune
  by_cases h2 : c ≤ 2047
  · rw [encodeRuneZ_two (by omega) (by omega)]
    intro b m
    simp only [List.map_cons, List.map_nil, List.mem_cons, List.not_mem_nil, or_false] at m
    rcases m with rfl | rfl <;> (simp [Nat.toUInt8]; omega)
  by_cases h3 : c ≤ 65535
  · rw [encodeRuneZ_three (by omega)]
    intro b m
    simp only [List.map_cons, List.map_nil, List.mem_cons, List.not_mem_nil, or_false] at m
    rcases m with rfl | rfl | rfl <;> (simp [Nat.toUInt8]; omega)
  · rw [encodeRuneZ_four (by omega) (by omega)]
    intro b m
    simp only [List.map_cons, List.map_nil, List.mem_cons, List.not_mem_nil, or_false] at m
    rcases m with rfl | rfl | rfl | rfl <;> (simp [Nat.toUInt8]; omega)
theorem enc_one (c : Nat) (t : List Nat) (h : c < 128) : enc (c :: t) = c.toUInt8 :: enc t := by rw [enc_cons, encodeRune_low c h]; rfl
theorem bz_one (c : Nat) (t : List Nat) (h : c < 128) : bz (c :: t) = bz t + 1 := by unfold bz; rw [enc_one c t h]; rfl
theorem u8_of (c : Nat) (h : c < 128) : (c.toUInt8).toNat = c := by simp; omega
/-- The first byte: the first rune, where that is of one byte. -/
theorem first_byte (S : List Nat) : (∃ c t, S = c :: t ∧ c < 128 ∧ enc S = c.toUInt8 :: enc t) ∨ S = [] ∨ ∃ c t b u, S = c :: t ∧ 128 ≤ c ∧ enc S = b :: u ∧ 128 ≤ b.toNat := by
  rcases S with _ | ⟨c, t⟩
  · exact .inr (.inl rfl)
  · rcases Nat.lt_or_ge c 128 with h | h
    · exact .inl ⟨c, t, rfl, h, enc_one c t h⟩
    · refine .inr (.inr ?_)
      have k := encodeRune_high c h
      have ne := encodeRune_ne (c : Int)
      cases e : encodeRune (c : Int) with
      | nil => exact absurd e ne
      | cons b u =>
        refine ⟨c, t, b, u ++ enc t, rfl, h, by rw [enc_cons, e]; rfl, k b (by rw [e]; exact List.mem_cons_self ..)⟩
/-- Whether a text begins with a sign of one byte. -/
theorem pre_one (S : List Nat) (p : Nat) (hp : p < 128) (h0 : p ≠ 0) : hasPrefix (enc S) [p.toUInt8] = decide (hd S = p) := by
  unfold hasPrefix
  rcases first_byte S with ⟨c, t, rfl, h, e⟩ | rfl | ⟨c, t, b, u, rfl, h, e, hb⟩
  · rw [e]
    simp only [List.isPrefixOf, Bool.and_true]
    rw [Bool.eq_iff_iff, beq_iff_eq, decide_eq_true_iff]
    constructor
    · intro x
      have := congrArg UInt8.toNat x
      rw [u8_of p hp, u8_of c h] at this
      exact this.symm
    · intro x
      rw [show c = p from x]
  · simp [hd, Ne.symm h0]
  · rw [e]
    simp only [List.isPrefixOf, Bool.and_true]
    rw [Bool.eq_iff_iff, beq_iff_eq, decide_eq_true_iff]
    constructor
    · intro x
      have := congrArg UInt8.toNat x
      rw [u8_of p hp] at this
      omega
    · intro x
      have : c = p := x
      omega
theorem pre_two (S : List Nat) (p q : Nat) (hp : p < 128) (h0 : p ≠ 0) (hq : q < 128) (h1 : q ≠ 0) : hasPrefix (enc S) [p.toUInt8, q.toUInt8] = decide (hd S = p ∧ hd (S.drop 1) = q) := by
  have A := pre_one S p hp h0
  have B := pre_one (S.drop 1) q hq h1
  unfold hasPrefix at *
  rcases first_byte S with ⟨c, t, rfl, h, e⟩ | rfl | ⟨c, t, b, u, rfl, h, e, hb⟩
  · rw [e] at A ⊢
    simp only [List.isPrefixOf, Bool.and_true] at A
    show (p.toUInt8 == c.toUInt8 && List.isPrefixOf [q.toUInt8] (enc t)) = _
    rw [A, show List.isPrefixOf [q.toUInt8] (enc t) = decide (hd t = q) from B, ← Bool.decide_and]
    rfl
  · simp [hd, Ne.symm h0]
  · rw [e] at A ⊢
    simp only [List.isPrefixOf, Bool.and_true] at A
    show (p.toUInt8 == b && List.isPrefixOf [q.toUInt8] u) = _
    have : c ≠ p := by omega
    rw [A]
    simp [show hd (c :: t) = c from rfl, this]
theorem hd_cut {S : List Nat} {c : Nat} (h : hd S = c) (hc : c ≠ 0) : S = c :: S.drop 1 := by
  rcases S with _ | ⟨a, t⟩
  · exact absurd h.symm hc
  · obtain rfl : a = c := h
    rfl
theorem bz_hd {S : List Nat} {c : Nat} (h : hd S = c) (hc : c ≠ 0) (hl : c < 128) : bz S = bz (S.drop 1) + 1 := by
  conv => lhs; rw [hd_cut h hc]
  exact bz_one _ _ hl
theorem enc_hd {S : List Nat} {c : Nat} (h : hd S = c) (hc : c ≠ 0) (hl : c < 128) : enc S = c.toUInt8 :: enc (S.drop 1) := by
  conv => lhs; rw [hd_cut h hc]
  exact enc_one _ _ hl
theorem trim_one (S : List Nat) (p : Nat) (hp : p < 128) (h0 : p ≠ 0) : (⟨(trimPrefix (enc S) [p.toUInt8]).toArray⟩ : ByteArray) = tx (if hd S = p then S.drop 1 else S) := by
  unfold trimPrefix
  rw [pre_one S p hp h0]
  by_cases h : hd S = p
  · rw [if_pos (decide_eq_true h), if_pos h, enc_hd h h0 hp]
    rfl
  · rw [if_neg (by simpa using h), if_neg h]
    rfl
theorem index_cons (b : UInt8) (l sub : List UInt8) : index (b :: l) sub = if sub.isPrefixOf (b :: l) then 0 else if index l sub == -1 then -1 else index l sub + 1 := rfl
/-- The index of a text of two signs of one byte each passes over bytes of greater runes. -/
theorem index_high : ∀ (B l : List UInt8) (p q : UInt8), p.toNat < 128 → (∀ b ∈ B, 128 ≤ b.toNat) → index (B ++ l) [p, q] = if index l [p, q] = -1 then -1 else index l [p, q] + B.length
  | [], l, p, q, _, _ => by
    simp
  | b :: B, l, p, q, hp, h => by
    have ih := index_high B l p q hp (fun x hx => h x (by simp [hx]))
    have hb := h b (by simp)
    have ne : (p == b) = false := by
      rw [beq_eq_false_iff_ne]
      rintro rfl
      omega
    rw [List.cons_append, index_cons, if_neg (by simp [List.isPrefixOf, ne]), ih]
    by_cases k : index l [p, q] = -1
    · rw [if_pos k, if_pos (by decide), if_pos k]
    · have g := index_ge l [p, q]
      rw [if_neg k, if_neg (by simp; omega), if_neg k, List.length_cons]
      push_cast
      omega
/-- Where the next end of a remark stands. -/
theorem index_enc : ∀ S : List Nat, (blockS S = none ∧ index (enc S) [42, 47] = -1) ∨ ∃ (R : List Nat) (i : Nat), blockS S = some R ∧ index (enc S) [42, 47] = (i : Int) ∧ (enc S).drop (i + 2) = enc R
  | [] => .inl ⟨rfl, rfl⟩
  | c :: t => by
    have ih := index_enc t
    have e : blockS (c :: t) = if c = 42 ∧ hd t = 47 then some (t.drop 1) else blockS t := rfl
    rcases Nat.lt_or_ge c 128 with h | h
    · by_cases k : c = 42 ∧ hd t = 47
      · refine .inr ⟨t.drop 1, 0, by rw [e, if_pos k], ?_, ?_⟩
        · obtain ⟨rfl, k⟩ := k
          rw [enc_one 42 t h, enc_hd k (by decide) (by decide)]
          rfl
        · obtain ⟨rfl, k⟩ := k
          rw [enc_one 42 t h, enc_hd k (by decide) (by decide)]
          rfl
      · have P := pre_two (c :: t) 42 47 (by decide) (by decide) (by decide) (by decide)
        have PF : hasPrefix (enc (c :: t)) [42, 47] = false := by
          refine Eq.trans P ?_
          rw [decide_eq_false_iff_not]
          exact k
        rw [enc_one c t h] at PF ⊢
        rw [e, if_neg k]
        rcases ih with ⟨i1, i2⟩ | ⟨R, i, i1, i2, i3⟩
        · refine .inl ⟨i1, ?_⟩
          rw [index_cons, if_neg (by unfold hasPrefix at PF; rw [PF]; exact Bool.false_ne_true), i2]
          rfl
        · refine .inr ⟨R, i + 1, i1, ?_, ?_⟩
          · rw [index_cons, if_neg (by unfold hasPrefix at PF; rw [PF]; exact Bool.false_ne_true), i2, if_neg (by simp)]
            rfl
          · rw [show i + 1 + 2 = (i + 2) + 1 by omega, List.drop_succ_cons]
            exact i3
    · have hc : ¬ (c = 42 ∧ hd t = 47) := fun x => by omega
      rw [e, if_neg hc, enc_cons]
      have ix := index_high (encodeRune (c : Int)) (enc t) 42 47 (by decide) (encodeRune_high c h)
      rcases ih with ⟨i1, i2⟩ | ⟨R, i, i1, i2, i3⟩
      · refine .inl ⟨i1, ?_⟩
        rw [ix, i2]
        rfl
      · refine .inr ⟨R, i + (encodeRune (c : Int)).length, i1, ?_, ?_⟩
        · rw [ix, i2, if_neg (by omega)]
          push_cast
          rfl
        · rw [show i + (encodeRune (c : Int)).length + 2 = (encodeRune (c : Int)).length + (i + 2) by omega, ← List.drop_drop, List.drop_left]
          exact i3
theorem cut_none {S : List Nat} (h : blockS S = none) : (cut (enc S) [42, 47]).2.1 = [] ∧ (cut (enc S) [42, 47]).2.2 = false := by
  rcases index_enc S with ⟨i1, i2⟩ | ⟨R, i, i1, i2, i3⟩
  · unfold cut
    rw [i2]
    exact ⟨rfl, rfl⟩
  · rw [h] at i1
    cases i1
theorem cut_some {S R : List Nat} (h : blockS S = some R) : (cut (enc S) [42, 47]).2.1 = enc R ∧ (cut (enc S) [42, 47]).2.2 = true := by
  rcases index_enc S with ⟨i1, i2⟩ | ⟨R', i, i1, i2, i3⟩
  · rw [h] at i1
    cases i1
  · rw [h] at i1
    injection i1 with i1
    subst i1
    unfold cut
    rw [i2, if_pos (by omega)]
    refine ⟨?_, rfl⟩
    rw [show ((i : Int).toNat + [(42 : UInt8), 47].length) = i + 2 from rfl]
    exact i3
theorem dw_suf (p : Nat → Bool) (S : List Nat) : S.dropWhile p <:+ S := List.dropWhile_suffix p
theorem tw_take (p : Nat → Bool) (S : List Nat) : S.take (S.length - (S.dropWhile p).length) = S.takeWhile p := by
  have e : S = S.takeWhile p ++ S.dropWhile p := List.takeWhile_append_dropWhile.symm
  have l := congrArg List.length e
  rw [List.length_append] at l
  rw [show S.length - (S.dropWhile p).length = (S.takeWhile p).length by omega]
  generalize S.takeWhile p = A at *
  generalize S.dropWhile p = B at *
  subst e
  rw [List.take_left]
/-! ### Spaces and remarks -/
theorem skip_sp : ∀ S : List Nat, skipS (S.dropWhile spR) = skipS S
  | [] => rfl
  | c :: t => by
    rw [List.dropWhile_cons]
    by_cases h : spR c = true
    · rw [if_pos h, skip_sp t, skipS_cons c t, if_pos h]
    · rw [if_neg h]
theorem lineS_dw : ∀ S : List Nat, lineS S = S.dropWhile fun r => r != 10
  | [] => rfl
  | c :: t => by
    have e : lineS (c :: t) = if c = 10 then c :: t else lineS t := rfl
    rw [e, List.dropWhile_cons]
    by_cases h : c = 10
    · rw [if_pos h, if_neg (by simp [h])]
    · rw [if_neg h, if_pos (by simp [h])]
      exact lineS_dw t
theorem skip_line {S : List Nat} (h : hd S = 47) (h2 : hd (S.drop 1) = 47) : skipS S = skipS (S.dropWhile fun r => r != 10) := by
  have e := hd_cut h (by decide)
  rw [← lineS_dw]
  conv => lhs; rw [e]
  conv => rhs; rw [e]
  rw [skipS_cons, if_neg (by decide), if_pos ⟨rfl, h2⟩]
  rfl
theorem skip_block {S : List Nat} (h : hd S = 47) (h2 : hd (S.drop 1) = 42) : skipS S = match blockS (S.drop 2) with | none => none | some r => skipS r := by
  have e := hd_cut h (by decide)
  conv => lhs; rw [e]
  rw [skipS_cons, if_neg (by decide), if_neg (by rw [h2]; decide), if_pos ⟨rfl, h2⟩, List.drop_drop]
  rfl
theorem skip_here {S : List Nat} (h : S = [] ∨ spR (hd S) = false) (h1 : ¬ (hd S = 47 ∧ hd (S.drop 1) = 47)) (h2 : ¬ (hd S = 47 ∧ hd (S.drop 1) = 42)) : skipS S = some S := by
  rcases S with _ | ⟨c, t⟩
  · rfl
  · have hs : spR c = false := by
      rcases h with h | h
      · cases h
      · exact h
    have h1' : ¬ (c = 47 ∧ hd t = 47) := h1
    have h2' : ¬ (c = 47 ∧ hd t = 42) := h2
    rw [skipS_cons, if_neg (by rw [hs]; exact Bool.false_ne_true), if_neg h1', if_neg h2']
theorem dw_hd (p : Nat → Bool) : ∀ S : List Nat, S.dropWhile p = [] ∨ p (hd (S.dropWhile p)) = false
  | [] => .inl rfl
  | c :: t => by
    rw [List.dropWhile_cons]
    by_cases h : p c = true
    · rw [if_pos h]
      exact dw_hd p t
    · rw [if_neg h]
      exact .inr (show p c = false from by simpa using h)
/-! ### Words -/
theorem dw_two : ∀ S : List Nat, (S.dropWhile letR).dropWhile wordR = S.dropWhile wordR
  | [] => rfl
  | c :: t => by
    rw [List.dropWhile_cons]
    by_cases h : letR c = true
    · rw [if_pos h, dw_two t, List.dropWhile_cons (p := wordR), if_pos (by unfold wordR; rw [h]; rfl)]
    · rw [if_neg h]
theorem dw_none {p : Nat → Bool} {S : List Nat} (h : p (hd S) = false) : S.dropWhile p = S := by
  rcases S with _ | ⟨c, t⟩
  · rfl
  · rw [List.dropWhile_cons, if_neg (by rw [show p c = false from h]; exact Bool.false_ne_true)]
theorem dw_lt {p : Nat → Bool} {S : List Nat} (hs : S ≠ []) (h : p (hd S) = true) : (S.dropWhile p).length < S.length := by
  rcases S with _ | ⟨c, t⟩
  · exact absurd rfl hs
  · rw [List.dropWhile_cons, if_pos (show p c = true from h), List.length_cons]
    have := suf_len (dw_suf p t)
    omega
end Go.Proofs.YtfelcneedpndiaaDoor

/-
  Plain: a text's runes (rn), runes as a text (enc), which runes there are (Vr): layer 15.
-/
import Derived.Lib.ValidLaws
namespace Go.Proofs.YtfelcneedpndiaaDoor
open Go.Lib
/-- There is such a rune. -/
def Vr (r : Nat) : Prop := r < 55296 ∨ (57344 ≤ r ∧ r ≤ 1114111)
def Vrs (L : List Nat) : Prop := ∀ r ∈ L, Vr r
def rnGo : Nat → List UInt8 → List Nat
  | 0, _ => []
  | n + 1, l => if l = [] then [] else (decodeL l).1 :: rnGo n (l.drop (decodeL l).2)
/-- A text's runes. -/
def rn (l : List UInt8) : List Nat := rnGo l.length l
/-- Runes as a text. -/
def enc : List Nat → List UInt8
  | [] => []
  | r :: t => encodeRune (r : Int) ++ enc t
theorem rnGo_nil : ∀ n, rnGo n [] = []
  | 0 => rfl
  | _ + 1 => by simp [rnGo]
theorem rnGo_fuel : ∀ (n m : Nat) (l : List UInt8), l.length ≤ n → l.length ≤ m → rnGo n l = rnGo m l
  | 0, m, l, hn, _ => by
    have : l = [] := List.eq_nil_of_length_eq_zero (by omega)
    subst this
    rw [rnGo_nil, rnGo_nil]
  | n + 1, 0, l, _, hm => by
    have : l = [] := List.eq_nil_of_length_eq_zero (by omega)
    subst this
    rw [rnGo_nil, rnGo_nil]
  | n + 1, m + 1, l, hn, hm => by
    by_cases hne : l = []
    · subst hne
      rw [rnGo_nil, rnGo_nil]
    · have hw := decodeL_width l
      have hl : 0 < l.length := List.length_pos_iff.2 hne
      simp only [rnGo, if_neg hne]
      rw [rnGo_fuel n m _ (by rw [List.length_drop]; omega) (by rw [List.length_drop]; omega)]
@[simp] theorem rn_nil : rn [] = [] := rfl
theorem rn_step (l : List UInt8) (hne : l ≠ []) : rn l = (decodeL l).1 :: rn (l.drop (decodeL l).2) := by
  have hw := decodeL_width l
  have hl : 0 < l.length := List.length_pos_iff.2 hne
  unfold rn
  obtain ⟨n, hn⟩ : ∃ n, l.length = n + 1 := ⟨l.length - 1, by omega⟩
  rw [hn]
  simp only [rnGo, if_neg hne]
  rw [rnGo_fuel n _ _ (by rw [List.length_drop]; omega) (Nat.le_refl _)]
@[simp] theorem enc_nil : enc [] = [] := rfl
@[simp] theorem enc_cons (r : Nat) (t : List Nat) : enc (r :: t) = encodeRune (r : Int) ++ enc t := rfl
theorem enc_append : ∀ a b : List Nat, enc (a ++ b) = enc a ++ enc b
  | [], b => rfl
  | r :: a, b => by
    show encodeRune (r : Int) ++ enc (a ++ b) = (encodeRune (r : Int) ++ enc a) ++ enc b
    rw [enc_append a b, List.append_assoc]
theorem encodeRune_size (r : Int) : 1 ≤ (encodeRune r).length ∧ (encodeRune r).length ≤ 4 := by
  have := encodeRuneZ_length r
  simpa [encodeRune] using this
theorem enc_length_le : ∀ L : List Nat, L.length ≤ (enc L).length ∧ (enc L).length ≤ 4 * L.length
  | [] => by simp
  | r :: t => by
    have h := encodeRune_size (r : Int)
    have ih := enc_length_le t
    simp only [enc_cons, List.length_append, List.length_cons]
    omega
theorem rn_length_le : ∀ (n : Nat) (l : List UInt8), l.length ≤ n → (rn l).length ≤ l.length
  | 0, l, h => by
    have : l = [] := List.eq_nil_of_length_eq_zero (by omega)
    subst this
    simp
  | n + 1, l, h => by
    by_cases hne : l = []
    · subst hne; simp
    · have hw := decodeL_width l
      have hl : 0 < l.length := List.length_pos_iff.2 hne
      rw [rn_step l hne, List.length_cons]
      have ih := rn_length_le n (l.drop (decodeL l).2) (by rw [List.length_drop]; omega)
      rw [List.length_drop] at ih
      omega
theorem rn_len (l : List UInt8) : (rn l).length ≤ l.length := rn_length_le _ l (Nat.le_refl _)
theorem decode_vr (l : List UInt8) : Vr (decodeL l).1 := by
  have k0 := (l.getD 0 0).toNat_lt
  have k1 := (l.getD 1 0).toNat_lt
  have k2 := (l.getD 2 0).toNat_lt
  have k3 := (l.getD 3 0).toNat_lt
  rw [decodeL_N]
  unfold Vr
  rcases decodeN_shape l.length (l.getD 0 0).toNat (l.getD 1 0).toNat (l.getD 2 0).toNat (l.getD 3 0).toNat with ⟨c, e⟩ | ⟨c1, c2, c3, cv, e⟩ | ⟨c1, c2, c3, c4, cv, cs, e⟩ | ⟨c1, c2, c3, c4, c5, cv, cw, e⟩ | e
  all_goals (rw [e]; dsimp only; omega)
theorem rnGo_vr : ∀ (n : Nat) (l : List UInt8), Vrs (rnGo n l)
  | 0, l => by intro r h; simp [rnGo] at h
  | n + 1, l => by
    intro r h
    by_cases hne : l = []
    · simp [rnGo, hne] at h
    · simp only [rnGo, if_neg hne, List.mem_cons] at h
      rcases h with rfl | h
      · exact decode_vr l
      · exact rnGo_vr n _ r h
theorem rn_vr (l : List UInt8) : Vrs (rn l) := rnGo_vr _ l
set_option maxHeartbeats 1000000 in
/-- What a rune's bytes are read as. -/
theorem decode_enc (r : Nat) (hr : Vr r) (t : List UInt8) : decodeL (encodeRune (r : Int) ++ t) = (r, (encodeRune (r : Int)).length) := by
  unfold Vr at hr
  rw [decodeL_N]
  have k1 := (t.getD 0 0).toNat_lt
  have k2 := (t.getD 1 0).toNat_lt
  have k3 := (t.getD 2 0).toNat_lt
  by_cases a : r ≤ 127
  · unfold encodeRune
    rw [encodeRuneZ_one (by omega) (by omega)]
    have f : (UInt8.ofNat r).toNat = r := by simp; omega
    simp only [List.map_cons, List.map_nil, List.cons_append, List.nil_append, Int.toNat_natCast, List.getD_cons_zero, List.length_cons, List.length_nil]
    unfold decodeN
    rw [show (Nat.toUInt8 r).toNat = r from f, if_pos (by omega)]
  by_cases b : r ≤ 2047
  · unfold encodeRune
    rw [encodeRuneZ_two (by omega) (by omega)]
    have f1 : (Nat.toUInt8 ((192 + (r : Int) / 64).toNat)).toNat = 192 + r / 64 := by simp [Nat.toUInt8]; omega
    have f2 : (Nat.toUInt8 ((128 + (r : Int) % 64).toNat)).toNat = 128 + r % 64 := by simp [Nat.toUInt8]; omega
    simp only [List.map_cons, List.map_nil, List.cons_append, List.nil_append, List.getD_cons_zero, List.getD_cons_succ, List.length_cons, List.length_nil]
    rw [f1, f2]
    unfold decodeN
    rw [if_neg (by omega), if_pos (by omega), if_pos (by omega)]
    congr 1
    omega
  by_cases c : r ≤ 65535
  · unfold encodeRune
    rw [encodeRuneZ_three (by omega)]
    have f1 : (Nat.toUInt8 ((224 + (r : Int) / 4096).toNat)).toNat = 224 + r / 4096 := by simp [Nat.toUInt8]; omega
    have f2 : (Nat.toUInt8 ((128 + (r : Int) / 64 % 64).toNat)).toNat = 128 + r / 64 % 64 := by simp [Nat.toUInt8]; omega
    have f3 : (Nat.toUInt8 ((128 + (r : Int) % 64).toNat)).toNat = 128 + r % 64 := by simp [Nat.toUInt8]; omega
    simp only [List.map_cons, List.map_nil, List.cons_append, List.nil_append, List.getD_cons_zero, List.getD_cons_succ, List.length_cons, List.length_nil]
    rw [f1, f2, f3]
    have e : (224 + r / 4096) % 16 * 4096 + (128 + r / 64 % 64) % 64 * 64 + (128 + r % 64) % 64 = r := by omega
    unfold decodeN
    rw [if_neg (by omega), if_neg (by omega), if_pos (by omega), e, if_pos (by omega)]
  · unfold encodeRune
    rw [encodeRuneZ_four (by omega) (by omega)]
    have f1 : (Nat.toUInt8 ((240 + (r : Int) / 262144).toNat)).toNat = 240 + r / 262144 := by simp [Nat.toUInt8]; omega
    have f2 : (Nat.toUInt8 ((128 + (r : Int) / 4096 % 64).toNat)).toNat = 128 + r / 4096 % 64 := by simp [Nat.toUInt8]; omega
    have f3 : (Nat.toUInt8 ((128 + (r : Int) / 64 % 64).toNat)).toNat = 128 + r / 64 % 64 := by simp [Nat.toUInt8]; omega
    have f4 : (Nat.toUInt8 ((128 + (r : Int) % 64).toNat)).toNat = 128 + r % 64 := by simp [Nat.toUInt8]; omega
    simp only [List.map_cons, List.map_nil, List.cons_append, List.nil_append, List.getD_cons_zero, List.getD_cons_succ, List.length_cons, List.length_nil]
    rw [f1, f2, f3, f4]
    have e : (240 + r / 262144) % 8 * 262144 + (128 + r / 4096 % 64) % 64 * 4096 + (128 + r / 64 % 64) % 64 * 64 + (128 + r % 64) % 64 = r := by omega
    unfold decodeN
    rw [if_neg (by omega), if_neg (by omega), if_neg (by omega), if_pos (by omega), e, if_pos (by omega)]
theorem encodeRune_ne (r : Int) : encodeRune r ≠ [] := by
  intro h
  have := encodeRune_size r
  rw [h] at this
  simp at this
/-- What runes make as a text is read as these, whatever stands behind. -/
theorem rn_enc_app : ∀ (L : List Nat) (t : List UInt8), Vrs L → rn (enc L ++ t) = L ++ rn t
  | [], t, _ => by simp
  | r :: L, t, h => by
    have hr : Vr r := h r (by simp)
    have hd := decode_enc r hr (enc L ++ t)
    rw [enc_cons, List.append_assoc, rn_step _ (by intro e; exact encodeRune_ne _ (List.append_eq_nil_iff.1 e).1), hd]
    rw [List.drop_left, rn_enc_app L t (fun x hx => h x (by simp [hx]))]
    rfl
theorem rn_enc (L : List Nat) (h : Vrs L) : rn (enc L) = L := by
  have := rn_enc_app L [] h
  simpa using this
/-- A text as it is where it is UTF-8; each byte that begins no rune as U+FFFD. -/
def val (l : List UInt8) : List UInt8 := enc (rn l)
theorem rn_val (l : List UInt8) : rn (val l) = rn l := rn_enc _ (rn_vr l)
theorem val_val (l : List UInt8) : val (val l) = val l := by unfold val; rw [show rn (enc (rn l)) = rn l from rn_val l]
theorem valid_val : ∀ (n : Nat) (l : List UInt8), l.length ≤ n → validD l = true → val l = l
  | 0, l, h, _ => by
    have : l = [] := List.eq_nil_of_length_eq_zero (by omega)
    subst this
    rfl
  | n + 1, l, h, hv => by
    by_cases hne : l = []
    · subst hne; rfl
    · have hw := decodeL_width l
      have hl : 0 < l.length := List.length_pos_iff.2 hne
      rw [validD_step l hne] at hv
      split at hv
      · simp at hv
      · next hb =>
        have ih := valid_val n (l.drop (decodeL l).2) (by rw [List.length_drop]; omega) hv
        unfold val at ih ⊢
        rw [rn_step l hne, enc_cons, ih, encode_decode l hne hb, List.take_append_drop]
theorem valid_enc : ∀ (L : List Nat), Vrs L → validD (enc L) = true
  | [], _ => rfl
  | r :: L, h => by
    have hr : Vr r := h r (by simp)
    have hd := decode_enc r hr (enc L)
    rw [enc_cons, validD_step _ (by intro e; exact encodeRune_ne _ (List.append_eq_nil_iff.1 e).1), hd]
    have hne : ¬ (r = 65533 ∧ (encodeRune (r : Int)).length = 1) := by
      rintro ⟨rfl, h1⟩
      simp [encodeRune, encodeRuneZ] at h1
    rw [if_neg hne, List.drop_left]
    exact valid_enc L (fun x hx => h x (by simp [hx]))
/-- A text is UTF-8 just if it is what its runes make. -/
theorem validD_iff (l : List UInt8) : validD l = true ↔ val l = l :=
  ⟨valid_val _ l (Nat.le_refl _), fun h => by rw [← h]; exact valid_enc _ (rn_vr l)⟩
theorem val_len (l : List UInt8) : (val l).length ≤ 4 * l.length := by
  have h1 := (enc_length_le (rn l)).2
  have h2 := rn_len l
  unfold val
  omega
end Go.Proofs.YtfelcneedpndiaaDoor

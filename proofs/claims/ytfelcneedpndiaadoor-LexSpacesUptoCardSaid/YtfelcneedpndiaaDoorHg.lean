/-
  The program's escapes (layer 16): ParseUint of up to six hexadecimal digits, coded, escape, as contracts of their calls.
-/
import Derived.Test.YtfelcneedpndiaaDoorHe
import Derived.Test.YtfelcneedpndiaaDoorHb
import Derived.Lib.ConvBytes
import Derived.Lib.AtoiErrMem
import Derived.Lib.Walk
import Derived.Laws.Closers25b
namespace Go.Proofs.YtfelcneedpndiaaDoor
open Go.RowKit Go.Lib Go.Shelf

/-- Hexadecimal digits as a number. -/
def hexL : Nat → List UInt8 → Option Nat
  | c, [] => some c
  | c, b :: u => match hexV b.toNat with
    | none => none
    | some d => hexL (16 * c + d) u
theorem hexL_cons (c : Nat) (b : UInt8) (u : List UInt8) : hexL c (b :: u) = match hexV b.toNat with | none => none | some d => hexL (16 * c + d) u := rfl
theorem hexV_le15 {r d : Nat} (h : hexV r = some d) : d ≤ 15 := by
  unfold hexV at h
  split at h
  · next k =>
    have hr : 48 ≤ r ∧ r ≤ 57 := by simpa [digR] using k
    injection h with h
    omega
  split at h
  · injection h with h
    omega
  split at h
  · injection h with h
    omega
  · cases h
theorem hexV_high {r : Nat} (h : 128 ≤ r) : hexV r = none := by
  unfold hexV
  rw [if_neg (by simp [digR]; omega), if_neg (by omega), if_neg (by omega)]
theorem hex_low : ∀ c : Fin 256, (48 ≤ c.val ∧ c.val ≤ 57) ∨
    (97 ≤ bits .or .u8 (c.val : Int) 32 ∧ bits .or .u8 (c.val : Int) 32 ≤ 102 ∧ hexV c.val = some ((bits .or .u8 (c.val : Int) 32).toNat - 87)) ∨
    (103 ≤ bits .or .u8 (c.val : Int) 32 ∧ bits .or .u8 (c.val : Int) 32 ≤ 122 ∧ hexV c.val = none) ∨
    ((bits .or .u8 (c.val : Int) 32 < 97 ∨ 122 < bits .or .u8 (c.val : Int) 32) ∧ hexV c.val = none) := by decide +kernel
theorem hexV_dig {r : Nat} (h : 48 ≤ r ∧ r ≤ 57) : hexV r = some (r - 48) := by
  unfold hexV
  rw [if_pos (by simp [digR]; omega)]
theorem bytesWorld_belowI (w : World) (e : TypeId) (s : ByteArray) : Below w.heap.size w (bytesWorld w e s) := Go.Lib.bytesWorld_below w e s
set_option linter.unusedVariables false in
set_option linter.unusedSimpArgs false in
set_option maxHeartbeats 32000000 in
set_option maxRecDepth 100000 in
theorem parse16_any (t : ByteArray) (hne : t.size ≠ 0) (h6 : t.size ≤ 6) (w : World) :
    Calls Tryd.prog 70 #[.string t, .int .i64 16, .int .i64 32] w fun e w' => Below w.heap.size w w' ∧ ((hexL 0 t.data.toList = none ∧ e = .returned (.tuple #[.int .u64 0, .iface 103 (.int .i64 2)])) ∨ ∃ n : Nat, hexL 0 t.data.toList = some n ∧ n < 16777216 ∧ e = .returned (.tuple #[.int .u64 (n : Int), .nilIface])) := by
  have hemp : t.toList.isEmpty = false := by
    rw [← decide_eq_emptyBytes]
    exact decide_eq_false (fun h => hne (by rw [h]; rfl))
  have hcv := Lib.run_convert_string_bytes (P := Tryd.prog) w 9 49 5 t (u := .string) Tryd.underlying9 Tryd.underlying49 Tryd.underlying5
  have hB : ∀ j, j < t.size → (Lib.bytesWorld w 5 t).cell? ⟨w.heap.size, j, none⟩ = some (.int .u8 (t.data.toList.getD j 0).toNat) := fun j hj => Lib.bytesWorld_cell w 5 t j hj
  have BW := bytesWorld_belowI w 5 t
  obtain ⟨W1, hW1⟩ : ∃ W1, W1 = Lib.bytesWorld w 5 t := ⟨_, rfl⟩
  rw [← hW1] at hcv hB BW
  clear hW1
  obtain ⟨bs, hL⟩ : ∃ bs, bs = t.data.toList := ⟨_, rfl⟩
  have hLn : bs.length = t.size := by rw [hL, Lib.size_eq]
  rw [← hL] at hB ⊢
  clear hL
  have CL := Lib.hid (fun (c : Int) W => Tryd.internal_strconv_lower c W)
  go_enter Tryd.func70, Tryd.ntmps70
  go_wp2
  go_loop [12, 13, 101] (fun vu vn vi => ∃ (k acc : Nat) (a : Int), vu = .bool false ∧ vn = .int .u64 a ∧ vi = .int .i64 k ∧ k ≤ t.size ∧ Hid (a = (acc : Int) ∧ acc < 16 ^ k ∧ hexL 0 bs = hexL acc (bs.drop k)))
    (fun _ _ vi => t.size - (RowKit.intOf vi).toNat)
  case atStart => exact ⟨0, 0, 0, rfl, rfl, rfl, by omega, rfl, by decide, rfl⟩
  case round =>
    obtain ⟨k, acc, a, rfl, rfl, rfl, hk, hh⟩ := hrel
    obtain ⟨ha, hacc, hdec⟩ := hh.out
    clear hh
    have pk : 16 ^ k ≤ 16777216 := Nat.le_trans (Nat.pow_le_pow_right (by decide) (show k ≤ 6 by omega)) (by decide)
    have a0 : 0 ≤ a := by omega
    have a1 : a < 16777216 := by omega
    by_cases hkn : k < t.size
    · have hc := hB k hkn
      have hdrop : bs.drop k = bs[k]'(by omega) :: bs.drop (k + 1) := List.drop_eq_getElem_cons (by omega)
      have hget : bs.getD k 0 = bs[k]'(by omega) := by simp [List.getD, List.getElem?_eq_getElem (show k < bs.length by omega)]
      rw [hdrop, hexL_cons] at hdec
      rw [hget] at hc
      generalize bs[k]'(by omega) = c0 at hc hdec
      have hc256 : c0.toNat < 256 := c0.toNat_lt
      generalize c0.toNat = c at *
      clear hB hdrop hget
      have NXT : ∀ d, hexV c = some d → 16 * acc + d < 16 ^ (k + 1) ∧ hexL 0 bs = hexL (16 * acc + d) (bs.drop (k + 1)) := by
        intro d hd
        have := hexV_le15 hd
        refine ⟨by rw [Nat.pow_succ]; omega, by rw [hdec, hd]⟩
      have STP : hexV c = none → hexL 0 bs = none := fun hd => by rw [hdec, hd]
      rcases hex_low ⟨c, hc256⟩ with hdig | ⟨l1, l2, l3⟩ | ⟨l1, l2, l3⟩ | ⟨l1, l3⟩
      · obtain ⟨n1, n2⟩ := NXT _ (hexV_dig hdig)
        obtain ⟨hd0, hd1⟩ := hdig
        dsimp only at hd0 hd1
        have HN : Hid (a * 16 + ((c : Int) - 48) = ((16 * acc + (c - 48) : Nat) : Int) ∧ 16 * acc + (c - 48) < 16 ^ (k + 1) ∧ hexL 0 bs = hexL (16 * acc + (c - 48)) (bs.drop (k + 1))) := Lib.hid ⟨by omega, n1, n2⟩
        clear n1 n2 NXT STP hdec hacc ha pk
        go_wp2
        refine ⟨⟨k + 1, 16 * acc + (c - 48), a * 16 + ((c : Int) - 48), rfl, (by first | rfl | (congr 1; omega)), (by first | rfl | (congr 1; omega)), by omega, HN⟩, by simp [RowKit.intOf]; omega⟩
      · dsimp only at l1 l2 l3
        have n95 : c ≠ 95 := by
          rintro rfl
          revert l1 l2
          decide
        have hv0 := bits_lo_u8 .or (c : Int) 32
        have hv1 := bits_hi_u8 .or (c : Int) 32
        have CLc := Lib.hid (fun W => CL.out (c : Int) W)
        obtain ⟨n1, n2⟩ := NXT _ l3
        have nd : ¬ (48 ≤ c ∧ c ≤ 57) := by
          rintro ⟨x, y⟩
          have := hexV_dig (r := c) ⟨x, y⟩
          rw [l3] at this
          injection this with this
          omega
        generalize bits .or .u8 (c : Int) 32 = lw at *
        have HN : Hid (a * 16 + (lw - 97 + 10) = ((16 * acc + (lw.toNat - 87) : Nat) : Int) ∧ 16 * acc + (lw.toNat - 87) < 16 ^ (k + 1) ∧ hexL 0 bs = hexL (16 * acc + (lw.toNat - 87)) (bs.drop (k + 1))) := Lib.hid ⟨by omega, n1, n2⟩
        clear n1 n2 NXT STP hdec hacc ha pk l3
        rcases (show c < 48 ∨ 57 < c by omega) with nd' | nd' <;> (
          clear nd
          go_wp2_with (go_at_call 75; (with_reducible refine (CLc.out _).mono ?_); rintro e w' ⟨rfl, rfl⟩)
          refine ⟨⟨k + 1, 16 * acc + (lw.toNat - 87), a * 16 + (lw - 97 + 10), rfl, (by first | rfl | (congr 1; omega)), (by first | rfl | (congr 1; omega)), by omega, HN⟩, by simp [RowKit.intOf]; omega⟩)
      · dsimp only at l1 l2 l3
        have n95 : c ≠ 95 := by
          rintro rfl
          revert l1 l2
          decide
        have hv0 := bits_lo_u8 .or (c : Int) 32
        have hv1 := bits_hi_u8 .or (c : Int) 32
        have CLc := Lib.hid (fun W => CL.out (c : Int) W)
        have ST := Lib.hid (STP l3)
        have nd : ¬ (48 ≤ c ∧ c ≤ 57) := by
          rintro ⟨x, y⟩
          have := hexV_dig (r := c) ⟨x, y⟩
          rw [l3] at this
          cases this
        generalize bits .or .u8 (c : Int) 32 = lw at *
        clear NXT STP hdec hacc ha pk l3
        rcases (show c < 48 ∨ 57 < c by omega) with nd' | nd' <;> (
          clear nd
          go_wp2_with (go_at_call 75; (with_reducible refine (CLc.out _).mono ?_); rintro e w' ⟨rfl, rfl⟩)
          go_ret2
          exact ⟨BW, .inl ⟨ST.out, rfl⟩⟩)
      · dsimp only at l1 l3
        by_cases c95 : c = 95
        · subst c95
          have ST := Lib.hid (STP l3)
          have CLc := Lib.hid (fun W => CL.out 95 W)
          rw [show bits .or .u8 95 32 = 127 from by decide] at CLc
          clear NXT STP hdec hacc ha pk l3 l1
          go_wp2_with (go_at_call 75; (with_reducible refine (CLc.out _).mono ?_); rintro e w' ⟨rfl, rfl⟩)
          go_ret2
          exact ⟨BW, .inl ⟨ST.out, rfl⟩⟩
        have hv0 := bits_lo_u8 .or (c : Int) 32
        have hv1 := bits_hi_u8 .or (c : Int) 32
        have CLc := Lib.hid (fun W => CL.out (c : Int) W)
        have ST := Lib.hid (STP l3)
        have nd : ¬ (48 ≤ c ∧ c ≤ 57) := by
          rintro ⟨x, y⟩
          have := hexV_dig (r := c) ⟨x, y⟩
          rw [l3] at this
          cases this
        generalize bits .or .u8 (c : Int) 32 = lw at *
        clear NXT STP hdec hacc ha pk l3
        rcases (show c < 48 ∨ 57 < c by omega) with nd' | nd' <;> rcases l1 with l1 | l1 <;> (
          clear nd
          go_wp2_with (go_at_call 75; (with_reducible refine (CLc.out _).mono ?_); rintro e w' ⟨rfl, rfl⟩)
          go_ret2
          exact ⟨BW, .inl ⟨ST.out, rfl⟩⟩)
    · have hkk : k = t.size := by omega
      subst hkk
      have hF : bs.drop t.size = [] := List.drop_eq_nil_of_le (by omega)
      rw [hF] at hdec
      have ST := Lib.hid (show hexL 0 bs = some acc from hdec)
      have AC := Lib.hid (show acc < 16777216 from by omega)
      subst ha
      clear hdec hF hacc pk a0 a1
      go_wp2
      go_ret2
      exact ⟨BW, .inr ⟨acc, ST.out, AC.out, rfl⟩⟩
end Go.Proofs.YtfelcneedpndiaaDoor

/-
  The program's temporals and symbols (layer 16), as contracts of their calls.
-/
import Derived.Test.YtfelcneedpndiaaDoorHj
namespace Go.Proofs.YtfelcneedpndiaaDoor
open Go.RowKit Go.Lib

def tmS (S : List Nat) : Option (List Nat × List Nat) := if hd S = 64 then qtS (S.drop 1) else none
theorem tmS_suf {S T R : List Nat} (h : tmS S = some (T, R)) : R <:+ S ∧ R.length < S.length := by
  unfold tmS at h
  split at h
  · obtain ⟨a, b⟩ := qtS_suf h
    rw [List.length_drop] at b
    exact ⟨a.trans (List.drop_suffix 1 S), by omega⟩
  · cases h
set_option linter.unusedVariables false in
set_option linter.unusedSimpArgs false in
set_option maxRecDepth 100000 in
set_option maxHeartbeats 4000000 in
theorem temporal_any16 (S : List Nat) (hV : Vrs S) (hz : bz S < 4294967281) (w : World) (hT : TabL w) :
    Calls Tryd.prog 31 #[.string (tx S)] w (RetQu S (tmS S) w) := by
  have CC := Lib.hid (fun W => cutP S 64 [64] rfl (by decide) (by decide) W)
  by_cases h : hd S = 64
  · rw [if_pos h, decide_eq_true h] at CC
    have z1 := bz_hd h (by decide) (by decide)
    have CQ := Lib.hid (fun W (hW : TabL W) => quoted_any16 (S.drop 1) (hV.suf (List.drop_suffix 1 S)) (by omega) W hW)
    have E : tmS S = qtS (S.drop 1) := by unfold tmS; rw [if_pos h]
    rw [E]
    cases hq : qtS (S.drop 1) with
    | none =>
      rw [hq] at CQ
      clear h hV z1 E hq
      generalize tx (S.drop 1) = s2 at *
      generalize tx S = s at *
      go_enter Tryd.func31, Tryd.ntmps31
      go_wp2_with (first
        | (go_at_call 43; (with_reducible refine (CC.out _).mono ?_); rintro e w3 ⟨rfl, rfl⟩)
        | (go_at_call 30; (with_reducible refine (CQ.out _ hT).mono ?_); rintro e w4 ⟨b4, rfl⟩))
      go_ret2
      exact ⟨b4, rfl⟩
    | some x =>
      obtain ⟨T, R⟩ := x
      rw [hq] at CQ
      obtain ⟨q1, q2⟩ := qtS_suf hq
      have l1 := bz_lt q1 q2
      obtain ⟨n, hn⟩ : ∃ n, n = bz (S.drop 1) - bz R := ⟨_, rfl⟩
      have CQ' := Lib.hid (show ∀ W (hW : TabL W), Calls Tryd.prog 30 #[.string (tx (S.drop 1))] W fun e w' => Below W.heap.size W w' ∧ e = .returned (.tuple #[.string (tx T), .int .i64 (n : Int)]) from fun W hW => by rw [hn]; exact CQ.out W hW)
      have NX := Lib.hid (show ((bz S - bz R : Nat) : Int) = 1 + (n : Int) from by omega)
      have n1 : n ≤ 4294967281 := by omega
      have n0 : n ≠ 0 := by omega
      clear h hV z1 E hq CQ q1 q2 l1 hn
      have RS : RetQu S (some (T, R)) w = fun e w' => Below w.heap.size w w' ∧ e = .returned (.tuple #[.string (tx T), .int .i64 ((bz S - bz R : Nat) : Int)]) := rfl
      rw [RS, NX.out]
      clear RS
      generalize tx (S.drop 1) = s2 at *
      generalize tx S = s at *
      generalize tx T = t at *
      go_enter Tryd.func31, Tryd.ntmps31
      go_wp2_with (first
        | (go_at_call 43; (with_reducible refine (CC.out _).mono ?_); rintro e w3 ⟨rfl, rfl⟩)
        | (go_at_call 30; (with_reducible refine (CQ'.out _ hT).mono ?_); rintro e w4 ⟨b4, rfl⟩))
      go_ret2
      exact ⟨b4, rfl⟩
  · rw [if_neg h, decide_eq_false h] at CC
    have E : tmS S = none := by unfold tmS; rw [if_neg h]
    rw [E]
    clear E h
    generalize tx S = s at *
    go_enter Tryd.func31, Tryd.ntmps31
    go_wp2_with (go_at_call 43; (with_reducible refine (CC.out _).mono ?_); rintro e w3 ⟨rfl, rfl⟩)
    go_ret2
    exact ⟨Below.refl _ _, rfl⟩
/-- The signs of one byte that are symbols. -/
def sigL : List UInt8 := [40, 41, 91, 93, 123, 125, 44, 58, 46, 43, 45, 42, 47, 61, 60, 62, 39]
theorem sig_idx : ∀ b : Fin 256, (indexByte sigL b.val.toUInt8 < 0) ↔ ¬ (b.val = 40 ∨ b.val = 41 ∨ b.val = 91 ∨ b.val = 93 ∨ b.val = 123 ∨ b.val = 125 ∨ b.val = 44 ∨ b.val = 58 ∨ b.val = 46 ∨ b.val = 43 ∨ b.val = 45 ∨ b.val = 42 ∨ b.val = 47 ∨ b.val = 61 ∨ b.val = 60 ∨ b.val = 62 ∨ b.val = 39) := by decide +kernel
theorem two_eq (S : List Nat) (p q : Nat) (hp : p < 128) (h0 : p ≠ 0) (hq : q < 128) (h1 : q ≠ 0) : (((tx S).extract 0 (min 2 ((tx S).size : Int)).toNat).toList == [p.toUInt8, q.toUInt8]) = decide (hd S = p ∧ hd (S.drop 1) = q) := by
  rw [← pre_two S p q hp h0 hq h1, extract_toList, tx_list, List.drop_zero, Nat.sub_zero, tx_size]
  have e : (enc S).take (min 2 ((bz S : Nat) : Int)).toNat = (enc S).take 2 := by
    unfold bz
    rcases Nat.lt_or_ge (enc S).length 2 with x | x
    · rw [show (min 2 (((enc S).length : Nat) : Int)).toNat = (enc S).length by omega, List.take_length, List.take_of_length_le (by omega)]
    · rw [show (min 2 (((enc S).length : Nat) : Int)).toNat = 2 by omega]
  rw [e]
  unfold hasPrefix
  rcases enc S with _ | ⟨a, _ | ⟨b, t⟩⟩
  · rfl
  · simp [List.isPrefixOf]
  · rw [Bool.eq_iff_iff]
    simp [List.isPrefixOf]
    constructor
    · rintro ⟨rfl, rfl⟩; exact ⟨rfl, rfl⟩
    · rintro ⟨rfl, rfl⟩; exact ⟨rfl, rfl⟩
/-- Where one of the signs stands. -/
def sg1 (a : Nat) : Prop := a = 40 ∨ a = 41 ∨ a = 91 ∨ a = 93 ∨ a = 123 ∨ a = 125 ∨ a = 44 ∨ a = 58 ∨ a = 46 ∨ a = 43 ∨ a = 45 ∨ a = 42 ∨ a = 47 ∨ a = 61 ∨ a = 60 ∨ a = 62 ∨ a = 39
instance (a : Nat) : Decidable (sg1 a) := by unfold sg1; infer_instance
theorem symS_two {S : List Nat} (h : (hd S = 46 ∧ hd (S.drop 1) = 46) ∨ (hd S = 42 ∧ hd (S.drop 1) = 42) ∨ (hd S = 60 ∧ hd (S.drop 1) = 61) ∨ (hd S = 62 ∧ hd (S.drop 1) = 61) ∨ (hd S = 33 ∧ hd (S.drop 1) = 61) ∨ (hd S = 45 ∧ hd (S.drop 1) = 62)) : symS S = 2 := by
  unfold symS
  dsimp only
  rw [if_pos (by omega)]
theorem symS_one {S : List Nat} (h : ¬ ((hd S = 46 ∧ hd (S.drop 1) = 46) ∨ (hd S = 42 ∧ hd (S.drop 1) = 42) ∨ (hd S = 60 ∧ hd (S.drop 1) = 61) ∨ (hd S = 62 ∧ hd (S.drop 1) = 61) ∨ (hd S = 33 ∧ hd (S.drop 1) = 61) ∨ (hd S = 45 ∧ hd (S.drop 1) = 62))) : symS S = if sg1 (hd S) then 1 else 0 := by
  unfold symS
  dsimp only
  rw [if_neg (by omega)]
  rfl
set_option linter.unusedVariables false in
set_option linter.unusedSimpArgs false in
set_option maxRecDepth 100000 in
set_option maxHeartbeats 4000000 in
theorem symbol_any16 (S : List Nat) (hS : S ≠ []) (w : World) :
    Calls Tryd.prog 32 #[.string (tx S)] w (Ret (.int .i64 ((symS S : Nat) : Int)) w) := by
  have f0 := two_eq S 46 46 (by decide) (by decide) (by decide) (by decide)
  rw [show [(46 : Nat).toUInt8, (46 : Nat).toUInt8] = [(46 : UInt8), 46] from rfl] at f0
  have f1 := two_eq S 42 42 (by decide) (by decide) (by decide) (by decide)
  rw [show [(42 : Nat).toUInt8, (42 : Nat).toUInt8] = [(42 : UInt8), 42] from rfl] at f1
  have f2 := two_eq S 60 61 (by decide) (by decide) (by decide) (by decide)
  rw [show [(60 : Nat).toUInt8, (61 : Nat).toUInt8] = [(60 : UInt8), 61] from rfl] at f2
  have f3 := two_eq S 62 61 (by decide) (by decide) (by decide) (by decide)
  rw [show [(62 : Nat).toUInt8, (61 : Nat).toUInt8] = [(62 : UInt8), 61] from rfl] at f3
  have f4 := two_eq S 33 61 (by decide) (by decide) (by decide) (by decide)
  rw [show [(33 : Nat).toUInt8, (61 : Nat).toUInt8] = [(33 : UInt8), 61] from rfl] at f4
  have f5 := two_eq S 45 62 (by decide) (by decide) (by decide) (by decide)
  rw [show [(45 : Nat).toUInt8, (62 : Nat).toUInt8] = [(45 : UInt8), 62] from rfl] at f5
  have z1 := bz_pos hS
  have ZS := tx_size S
  have hp : 0 < (tx S).size := by omega
  obtain ⟨B, hB⟩ : ∃ B, ((tx S)[0]'hp).toNat = B := ⟨_, rfl⟩
  have B256 : B < 256 := by rw [← hB]; exact UInt8.toNat_lt _
  have BC : ∀ c, c ≠ 0 → c < 128 → (B = c ↔ hd S = c) := by
    intro c h0 hc
    constructor
    · intro x
      rcases Nat.decEq (hd S) c with y | y
      · exact absurd (hB.trans x) (byte0_not c h0 hc y hp)
      · exact y
    · intro x
      rw [← hB]
      exact byte0 x h0 hc hp
  have SG : ¬ (B = 40 ∨ B = 41 ∨ B = 91 ∨ B = 93 ∨ B = 123 ∨ B = 125 ∨ B = 44 ∨ B = 58 ∨ B = 46 ∨ B = 43 ∨ B = 45 ∨ B = 42 ∨ B = 47 ∨ B = 61 ∨ B = 60 ∨ B = 62 ∨ B = 39) ↔ ¬ sg1 (hd S) := by
    unfold sg1
    rw [BC 40 (by decide) (by decide), BC 41 (by decide) (by decide), BC 91 (by decide) (by decide), BC 93 (by decide) (by decide), BC 123 (by decide) (by decide), BC 125 (by decide) (by decide), BC 44 (by decide) (by decide), BC 58 (by decide) (by decide), BC 46 (by decide) (by decide), BC 43 (by decide) (by decide), BC 45 (by decide) (by decide), BC 42 (by decide) (by decide), BC 47 (by decide) (by decide), BC 61 (by decide) (by decide), BC 60 (by decide) (by decide), BC 62 (by decide) (by decide), BC 39 (by decide) (by decide)]
  have CI := Lib.hid (show ∀ W, Calls Tryd.prog 46 #[.string ⟨sigL.toArray⟩, .int .u8 (B : Int)] W (RetSm (.int .i64 (indexByte sigL B.toUInt8)) W) from fun W => by
    refine (Tryd.strings_IndexByte ⟨sigL.toArray⟩ (B : Int) W).mono ?_
    rintro e w' ⟨rfl, rfl⟩
    exact ⟨by rw [Int.toNat_natCast, show (⟨sigL.toArray⟩ : ByteArray).data.toList = sigL from by simp], rfl⟩)
  have IX := (sig_idx ⟨B, B256⟩).trans SG
  dsimp only at IX
  generalize indexByte sigL B.toUInt8 = x at *
  clear BC SG ZS z1
  unfold sigL at CI
  by_cases g : ((hd S = 46 ∧ hd (S.drop 1) = 46) ∨ (hd S = 42 ∧ hd (S.drop 1) = 42) ∨ (hd S = 60 ∧ hd (S.drop 1) = 61) ∨ (hd S = 62 ∧ hd (S.drop 1) = 61) ∨ (hd S = 33 ∧ hd (S.drop 1) = 61) ∨ (hd S = 45 ∧ hd (S.drop 1) = 62))
  · rw [symS_two g]
    clear IX
    have gg := Lib.hid g
    rcases g with g | g | g | g | g | g
    all_goals
      obtain ⟨g1, g2⟩ := g
      rw [g1, g2] at f0 f1 f2 f3 f4 f5
      simp only [Nat.reduceEqDiff, and_self, and_true, and_false, false_and, decide_true, decide_false] at f0 f1 f2 f3 f4 f5
      clear g1 g2 gg
      generalize tx S = s at *
      go_enter Tryd.func32, Tryd.ntmps32
      go_wp2
      go_ret
      exact ⟨rfl, Below.refl _ _⟩
  · rw [symS_one g]
    rw [decide_eq_false (by omega)] at f0 f1 f2 f3 f4 f5
    clear g
    by_cases k : sg1 (hd S)
    · rw [if_pos k]
      have x0 : 0 ≤ x := by
        rcases Int.lt_or_le x 0 with y | y
        · exact absurd k (IX.1 y)
        · exact y
      clear k IX
      generalize tx S = s at *
      go_enter Tryd.func32, Tryd.ntmps32
      go_wp2_with (go_at_call 46; (with_reducible refine (CI.out _).mono ?_); rintro e w3 ⟨rfl, rfl⟩)
      go_ret
      exact ⟨rfl, Below.refl _ _⟩
    · rw [if_neg k]
      have x0 : x < 0 := IX.2 k
      clear k IX
      generalize tx S = s at *
      go_enter Tryd.func32, Tryd.ntmps32
      go_wp2_with (go_at_call 46; (with_reducible refine (CI.out _).mono ?_); rintro e w3 ⟨rfl, rfl⟩)
      go_ret
      exact ⟨rfl, Below.refl _ _⟩
end Go.Proofs.YtfelcneedpndiaaDoor

/-
  The program's tokens (layer 16): first, as a contract of its call.
-/
import Derived.Test.YtfelcneedpndiaaDoorHk
import Derived.Test.YtfelcneedpndiaaDoorHf
import Derived.Test.YtfelcneedpndiaaDoorIo
namespace Go.Proofs.YtfelcneedpndiaaDoor
open Go.RowKit Go.Lib

/-- A token as it lies in a block. -/
abbrev TkL (c : Int) (s : ByteArray) (q : Int) : Value := .agg #[.int .i64 c, .string s, .int .i64 q]
abbrev TkO (c : Int) (s : ByteArray) (q : Int) : Obj := .cells #[.int .i64 c, .string s, .int .i64 q] 28
/-- What first answers: the token, its place left out, and of how many bytes it is; of none, if none stands there. -/
def RetFi (S : List Nat) (o : Option (Nat × List Nat × List Nat)) (w : World) (e : Ending) (w' : World) : Prop :=
  Below w.heap.size w w' ∧ ∃ (k : Nat) (T : ByteArray) (n : Nat), e = .returned (.tuple #[TkL k T 0, .int .i64 (n : Int)]) ∧ (match o with | none => n = 0 | some x => k = x.1 ∧ T = tx x.2.1 ∧ n = bz S - bz x.2.2)
/-! ### Plain -/
theorem nbS_yes {S : List Nat} (h : digR (hd S) = true ∨ (hd S = 46 ∧ digR (hd (S.drop 1)) = true)) : nbS S = numS S ∧ (numS S).length < S.length := by
  refine ⟨by unfold nbS; rw [if_pos h], ?_⟩
  exact numS_lt h
theorem nbS_no {S : List Nat} (h : ¬ (digR (hd S) = true ∨ (hd S = 46 ∧ digR (hd (S.drop 1)) = true))) : nbS S = S := by unfold nbS; rw [if_neg h]
theorem oneS_q {S : List Nat} (h1 : letR (hd S) = false) (h2 : ¬ (digR (hd S) = true ∨ (hd S = 46 ∧ digR (hd (S.drop 1)) = true))) {T R : List Nat} (h : qtS S = some (T, R)) : oneS S = some (3, T, R) := by
  unfold qtS at h
  split at h
  · next c =>
    unfold oneS
    rw [if_neg (by rw [h1]; exact Bool.false_ne_true), if_neg h2, if_pos c, h]
    rfl
  · cases h
theorem oneS_t {S : List Nat} (h1 : letR (hd S) = false) (h2 : ¬ (digR (hd S) = true ∨ (hd S = 46 ∧ digR (hd (S.drop 1)) = true))) (_hq : qtS S = none) {T R : List Nat} (h : tmS S = some (T, R)) : oneS S = some (4, T, R) := by
  unfold tmS at h
  split at h
  · next c =>
    unfold qtS at h
    split at h
    · next c2 =>
      rw [List.drop_drop] at h
      unfold oneS
      rw [if_neg (by rw [h1]; exact Bool.false_ne_true), if_neg h2, if_neg (by rw [c]; decide), if_pos ⟨c, c2⟩, h]
      rfl
    · cases h
  · cases h
theorem oneS_s {S : List Nat} (h1 : letR (hd S) = false) (h2 : ¬ (digR (hd S) = true ∨ (hd S = 46 ∧ digR (hd (S.drop 1)) = true))) (hq : qtS S = none) (ht : tmS S = none) : oneS S = if 0 < symS S then some (5, S.take (symS S), S.drop (symS S)) else none := by
  unfold oneS
  rw [if_neg (by rw [h1]; exact Bool.false_ne_true), if_neg h2]
  by_cases c : hd S = 34
  · have e : quoS (S.drop 1) = none := by unfold qtS at hq; rw [if_pos c] at hq; exact hq
    have s0 : symS S = 0 := by
      unfold symS
      rw [c]
      simp
    rw [if_pos c, e, s0]
    rfl
  · rw [if_neg c]
    by_cases c2 : hd S = 64 ∧ hd (S.drop 1) = 34
    · have e : quoS (S.drop 2) = none := by
        unfold tmS at ht
        rw [if_pos c2.1] at ht
        unfold qtS at ht
        rw [if_pos c2.2, List.drop_drop] at ht
        exact ht
      have s0 : symS S = 0 := by
        unfold symS
        rw [c2.1]
        simp
      rw [if_pos c2, e, s0]
      rfl
    · rw [if_neg c2]
theorem symS_bytes (S : List Nat) : bz S = bz (S.drop (symS S)) + symS S ∧ symS S ≤ S.length := by
  unfold symS
  dsimp only
  split
  · next h =>
    have z := bz_two (S := S) rfl rfl (by omega) (by omega) (by omega) (by omega)
    have l := len_two (S := S) rfl rfl (by omega) (by omega)
    exact ⟨z, l⟩
  split
  · next h =>
    have z := bz_hd (S := S) rfl (by omega) (by omega)
    have l := hd_pos (S := S) (by omega)
    exact ⟨z, l⟩
  · exact ⟨rfl, Nat.zero_le _⟩
set_option linter.unusedVariables false in
set_option linter.unusedSimpArgs false in
set_option maxRecDepth 100000 in
set_option maxHeartbeats 8000000 in
theorem first_word (S : List Nat) (hS : S ≠ []) (hV : Vrs S) (hz : bz S < 4294967281) (h : letR (hd S) = true) (w : World) (hT : TabL w) :
    Calls Tryd.prog 16 #[.string (tx S)] w (RetFi S (oneS S) w) := by
  have CW := Lib.hid (fun W => word_any S hV (by omega) W)
  rw [if_pos h] at CW
  have s1 := dw_suf wordR S
  have lt := bz_lt s1 (dw_lt hS (show wordR (hd S) = true from by unfold wordR; rw [h]; rfl))
  have CA := Lib.hid (cut_ahead (s := tx S) rfl s1)
  rw [tw_take] at CA
  have ZS := tx_size S
  have E : oneS S = some (1, S.takeWhile wordR, S.dropWhile wordR) := by unfold oneS; rw [if_pos h]
  rw [E]
  obtain ⟨n, hn⟩ : ∃ n, n = bz S - bz (S.dropWhile wordR) := ⟨_, rfl⟩
  rw [← hn] at CW CA
  have HN := Lib.hid hn
  have n0 : n ≠ 0 := by omega
  have n1 : n ≤ bz S := by omega
  clear E h lt s1 hn hV hS
  obtain ⟨x, hx⟩ : ∃ x, x = tx (S.takeWhile wordR) := ⟨_, rfl⟩
  rw [← hx] at CA
  have HX := Lib.hid hx
  clear hx
  generalize tx S = s at *
  go_enter Tryd.func16, Tryd.ntmps16
  go_upto_region 1 with fail
  have TK := Lib.hid (HoldsTk.new rfl : HoldsTk (w.alloc (TkO 0 ⟨#[]⟩ 0)) w.heap.size 0 ⟨#[]⟩ 0)
  have B0 := ballD1 (Below.refl w.heap.size w) (TkO 0 ⟨#[]⟩ 0)
  have T0 := Lib.hid (hT.below ((Below.refl _ _).alloc (Nat.le_refl _) (TkO 0 ⟨#[]⟩ 0)))
  change Code.wp _ _ _ _ (w.alloc (TkO 0 ⟨#[]⟩ 0))
  generalize w.alloc (TkO 0 ⟨#[]⟩ 0) = w0 at *
  go_wp2_with (go_at_call 28; (with_reducible refine (CW.out _).mono ?_); rintro e w1 ⟨rfl, b1⟩; have B1 := bstep B0 b1; have TK2 := Lib.hid (TK.out.below b1); obtain ⟨⟨t0, t1, t2⟩, ⟨f0, f1, f2⟩, tz⟩ := TK2.out)
  rw [CA.out]
  refine ret_via (v := .tuple #[TkL 1 x 0, .int .i64 ((n : Nat) : Int)]) (fun V => HoldsTk V w.heap.size 1 x 0) (fun VF hq => ?_) TK2.out.put rfl ⟨BI3 B1 (Nat.le_refl _) _ _ _, 1, x, (n : Nat), rfl, ?_⟩
  · obtain ⟨⟨x0, x1, x2⟩, -, -⟩ := hq
    simp [results, Tryd.results16, go_sem, x0, x1, x2, *]
  · exact ⟨rfl, HX.out, HN.out⟩
set_option linter.unusedVariables false in
set_option linter.unusedSimpArgs false in
set_option maxRecDepth 100000 in
set_option maxHeartbeats 8000000 in
theorem first_number (S : List Nat) (hS : S ≠ []) (hV : Vrs S) (hz : bz S < 4294967281) (h0 : letR (hd S) = false) (h : digR (hd S) = true ∨ (hd S = 46 ∧ digR (hd (S.drop 1)) = true)) (w : World) (hT : TabL w) :
    Calls Tryd.prog 16 #[.string (tx S)] w (RetFi S (oneS S) w) := by
  have CW := Lib.hid (fun W => word_any S hV (by omega) W)
  rw [if_neg (by rw [h0]; exact Bool.false_ne_true)] at CW
  have CN := Lib.hid (fun W => number_any16 S hV hz W)
  obtain ⟨e1, e2⟩ := nbS_yes h
  have s1 := nbS_suf S
  rw [e1] at CN s1
  have lt := bz_lt s1 e2
  have CA := Lib.hid (cut_ahead (s := tx S) rfl s1)
  have ZS := tx_size S
  have E : oneS S = some (2, S.take (S.length - (numS S).length), numS S) := by unfold oneS; rw [if_neg (by rw [h0]; exact Bool.false_ne_true), if_pos h]
  rw [E]
  obtain ⟨n, hn⟩ : ∃ n, n = bz S - bz (numS S) := ⟨_, rfl⟩
  rw [← hn] at CN CA
  have HN := Lib.hid hn
  have n0 : n ≠ 0 := by omega
  have n1 : n ≤ bz S := by omega
  clear E h h0 lt s1 e1 e2 hn hV hS
  obtain ⟨x, hx⟩ : ∃ x, x = tx (S.take (S.length - (numS S).length)) := ⟨_, rfl⟩
  rw [← hx] at CA
  have HX := Lib.hid hx
  clear hx
  generalize tx S = s at *
  go_enter Tryd.func16, Tryd.ntmps16
  go_upto_region 1 with fail
  have TK := Lib.hid (HoldsTk.new rfl : HoldsTk (w.alloc (TkO 0 ⟨#[]⟩ 0)) w.heap.size 0 ⟨#[]⟩ 0)
  have B0 := ballD1 (Below.refl w.heap.size w) (TkO 0 ⟨#[]⟩ 0)
  have T0 := Lib.hid (hT.below ((Below.refl _ _).alloc (Nat.le_refl _) (TkO 0 ⟨#[]⟩ 0)))
  change Code.wp _ _ _ _ (w.alloc (TkO 0 ⟨#[]⟩ 0))
  generalize w.alloc (TkO 0 ⟨#[]⟩ 0) = w0 at *
  go_wp2_with (first
    | (go_at_call 28; (with_reducible refine (CW.out _).mono ?_); rintro e w1 ⟨rfl, b1⟩; have B1 := bstep B0 b1; have TK2 := Lib.hid (TK.out.below b1))
    | (go_at_call 29; (with_reducible refine (CN.out _).mono ?_); rintro e w2 ⟨rfl, b2⟩; have B2 := bstep B1 b2; have TK3 := Lib.hid (TK2.out.below b2); obtain ⟨⟨t0, t1, t2⟩, ⟨f0, f1, f2⟩, tz⟩ := TK3.out))
  rw [CA.out]
  refine ret_via (v := .tuple #[TkL 2 x 0, .int .i64 ((n : Nat) : Int)]) (fun V => HoldsTk V w.heap.size 2 x 0) (fun VF hq => ?_) TK3.out.put rfl ⟨BI3 B2 (Nat.le_refl _) _ _ _, 2, x, (n : Nat), rfl, ?_⟩
  · obtain ⟨⟨x0, x1, x2⟩, -, -⟩ := hq
    simp [results, Tryd.results16, go_sem, x0, x1, x2, *]
  · exact ⟨rfl, HX.out, HN.out⟩
set_option linter.unusedVariables false in
set_option linter.unusedSimpArgs false in
set_option maxRecDepth 100000 in
set_option maxHeartbeats 8000000 in
theorem first_quoted (S : List Nat) (hV : Vrs S) (hz : bz S < 4294967281) (h0 : letR (hd S) = false) (h : ¬ (digR (hd S) = true ∨ (hd S = 46 ∧ digR (hd (S.drop 1)) = true))) (T R : List Nat) (hq : qtS S = some (T, R)) (w : World) (hT : TabL w) :
    Calls Tryd.prog 16 #[.string (tx S)] w (RetFi S (oneS S) w) := by
  have CW := Lib.hid (fun W => word_any S hV (by omega) W)
  rw [if_neg (by rw [h0]; exact Bool.false_ne_true)] at CW
  have CN := Lib.hid (fun W => number_any16 S hV hz W)
  rw [nbS_no h, Nat.sub_self] at CN
  obtain ⟨s1, l1⟩ := qtS_suf hq
  have lt := bz_lt s1 l1
  obtain ⟨n, hn⟩ : ∃ n, n = bz S - bz R := ⟨_, rfl⟩
  have CQ := Lib.hid (show ∀ W (hW : TabL W), Calls Tryd.prog 30 #[.string (tx S)] W fun e w' => Below W.heap.size W w' ∧ e = .returned (.tuple #[.string (tx T), .int .i64 (n : Int)]) from fun W hW => by
    have q := quoted_any16 S hV hz W hW
    rw [hq] at q
    rw [hn]
    exact q)
  rw [oneS_q h0 h hq]
  have HN := Lib.hid hn
  have n0 : n ≠ 0 := by omega
  have n1 : n ≤ bz S := by omega
  clear h h0 lt s1 l1 hq hn hV
  obtain ⟨x, hx⟩ : ∃ x, x = tx T := ⟨_, rfl⟩
  rw [← hx] at CQ
  have HX := Lib.hid hx
  clear hx
  generalize tx S = s at *
  go_enter Tryd.func16, Tryd.ntmps16
  go_upto_region 1 with fail
  have TK := Lib.hid (HoldsTk.new rfl : HoldsTk (w.alloc (TkO 0 ⟨#[]⟩ 0)) w.heap.size 0 ⟨#[]⟩ 0)
  have B0 := ballD1 (Below.refl w.heap.size w) (TkO 0 ⟨#[]⟩ 0)
  have T0 := Lib.hid (hT.below ((Below.refl _ _).alloc (Nat.le_refl _) (TkO 0 ⟨#[]⟩ 0)))
  change Code.wp _ _ _ _ (w.alloc (TkO 0 ⟨#[]⟩ 0))
  generalize w.alloc (TkO 0 ⟨#[]⟩ 0) = w0 at *
  go_wp2_with (first
    | (go_at_call 28; (with_reducible refine (CW.out _).mono ?_); rintro e w1 ⟨rfl, b1⟩; have B1 := bstep B0 b1; have TK2 := Lib.hid (TK.out.below b1))
    | (go_at_call 29; (with_reducible refine (CN.out _).mono ?_); rintro e w2 ⟨rfl, b2⟩; have B2 := bstep B1 b2; have TK3 := Lib.hid (TK2.out.below b2); have T3 := Lib.hid ((T0.out.below b1).below b2))
    | (go_at_call 30; (with_reducible refine (CQ.out _ T3.out).mono ?_); rintro e w3 ⟨b3, rfl⟩; have B3 := bstep B2 b3; have TK4 := Lib.hid (TK3.out.below b3); obtain ⟨⟨t0, t1, t2⟩, ⟨f0, f1, f2⟩, tz⟩ := TK4.out))
  refine ret_via (v := .tuple #[TkL 3 x 0, .int .i64 ((n : Nat) : Int)]) (fun V => HoldsTk V w.heap.size 3 x 0) (fun VF hq => ?_) TK4.out.put rfl ⟨BI3 B3 (Nat.le_refl _) _ _ _, 3, x, (n : Nat), rfl, ?_⟩
  · obtain ⟨⟨x0, x1, x2⟩, -, -⟩ := hq
    simp [results, Tryd.results16, go_sem, x0, x1, x2, *]
  · exact ⟨rfl, HX.out, HN.out⟩
set_option linter.unusedVariables false in
set_option linter.unusedSimpArgs false in
set_option maxRecDepth 100000 in
set_option maxHeartbeats 8000000 in
theorem first_temp (S : List Nat) (hV : Vrs S) (hz : bz S < 4294967281) (h0 : letR (hd S) = false) (h : ¬ (digR (hd S) = true ∨ (hd S = 46 ∧ digR (hd (S.drop 1)) = true))) (hq : qtS S = none) (T R : List Nat) (ht : tmS S = some (T, R)) (w : World) (hT : TabL w) :
    Calls Tryd.prog 16 #[.string (tx S)] w (RetFi S (oneS S) w) := by
  have CW := Lib.hid (fun W => word_any S hV (by omega) W)
  rw [if_neg (by rw [h0]; exact Bool.false_ne_true)] at CW
  have CN := Lib.hid (fun W => number_any16 S hV hz W)
  rw [nbS_no h, Nat.sub_self] at CN
  have CQ := Lib.hid (show ∀ W (hW : TabL W), Calls Tryd.prog 30 #[.string (tx S)] W fun e w' => Below W.heap.size W w' ∧ e = .returned (.tuple #[.string ⟨#[]⟩, .int .i64 0]) from fun W hW => by
    have q := quoted_any16 S hV hz W hW
    rw [hq] at q
    exact q)
  obtain ⟨s1, l1⟩ := tmS_suf ht
  have lt := bz_lt s1 l1
  obtain ⟨n, hn⟩ : ∃ n, n = bz S - bz R := ⟨_, rfl⟩
  have CT := Lib.hid (show ∀ W (hW : TabL W), Calls Tryd.prog 31 #[.string (tx S)] W fun e w' => Below W.heap.size W w' ∧ e = .returned (.tuple #[.string (tx T), .int .i64 (n : Int)]) from fun W hW => by
    have q := temporal_any16 S hV hz W hW
    rw [ht] at q
    rw [hn]
    exact q)
  rw [oneS_t h0 h hq ht]
  have HN := Lib.hid hn
  have n0 : n ≠ 0 := by omega
  have n1 : n ≤ bz S := by omega
  clear h h0 lt s1 l1 hq ht hn hV
  obtain ⟨x, hx⟩ : ∃ x, x = tx T := ⟨_, rfl⟩
  rw [← hx] at CT
  have HX := Lib.hid hx
  clear hx
  generalize tx S = s at *
  go_enter Tryd.func16, Tryd.ntmps16
  go_upto_region 1 with fail
  have TK := Lib.hid (HoldsTk.new rfl : HoldsTk (w.alloc (TkO 0 ⟨#[]⟩ 0)) w.heap.size 0 ⟨#[]⟩ 0)
  have B0 := ballD1 (Below.refl w.heap.size w) (TkO 0 ⟨#[]⟩ 0)
  have T0 := Lib.hid (hT.below ((Below.refl _ _).alloc (Nat.le_refl _) (TkO 0 ⟨#[]⟩ 0)))
  change Code.wp _ _ _ _ (w.alloc (TkO 0 ⟨#[]⟩ 0))
  generalize w.alloc (TkO 0 ⟨#[]⟩ 0) = w0 at *
  go_wp2_with (first
    | (go_at_call 28; (with_reducible refine (CW.out _).mono ?_); rintro e w1 ⟨rfl, b1⟩; have B1 := bstep B0 b1; have TK2 := Lib.hid (TK.out.below b1))
    | (go_at_call 29; (with_reducible refine (CN.out _).mono ?_); rintro e w2 ⟨rfl, b2⟩; have B2 := bstep B1 b2; have TK3 := Lib.hid (TK2.out.below b2); have T3 := Lib.hid ((T0.out.below b1).below b2))
    | (go_at_call 30; (with_reducible refine (CQ.out _ T3.out).mono ?_); rintro e w3 ⟨b3, rfl⟩; have B3 := bstep B2 b3; have TK4 := Lib.hid (TK3.out.below b3); have T4 := Lib.hid (T3.out.below b3))
    | (go_at_call 31; (with_reducible refine (CT.out _ T4.out).mono ?_); rintro e w4 ⟨b4, rfl⟩; have B4 := bstep B3 b4; have TK5 := Lib.hid (TK4.out.below b4); obtain ⟨⟨t0, t1, t2⟩, ⟨f0, f1, f2⟩, tz⟩ := TK5.out))
  refine ret_via (v := .tuple #[TkL 4 x 0, .int .i64 ((n : Nat) : Int)]) (fun V => HoldsTk V w.heap.size 4 x 0) (fun VF hq => ?_) TK5.out.put rfl ⟨BI3 B4 (Nat.le_refl _) _ _ _, 4, x, (n : Nat), rfl, ?_⟩
  · obtain ⟨⟨x0, x1, x2⟩, -, -⟩ := hq
    simp [results, Tryd.results16, go_sem, x0, x1, x2, *]
  · exact ⟨rfl, HX.out, HN.out⟩
set_option linter.unusedVariables false in
set_option linter.unusedSimpArgs false in
set_option maxRecDepth 100000 in
set_option maxHeartbeats 8000000 in
theorem first_symbol (S : List Nat) (hS : S ≠ []) (hV : Vrs S) (hz : bz S < 4294967281) (h0 : letR (hd S) = false) (h : ¬ (digR (hd S) = true ∨ (hd S = 46 ∧ digR (hd (S.drop 1)) = true))) (hq : qtS S = none) (ht : tmS S = none) (w : World) (hT : TabL w) :
    Calls Tryd.prog 16 #[.string (tx S)] w (RetFi S (oneS S) w) := by
  have CW := Lib.hid (fun W => word_any S hV (by omega) W)
  rw [if_neg (by rw [h0]; exact Bool.false_ne_true)] at CW
  have CN := Lib.hid (fun W => number_any16 S hV hz W)
  rw [nbS_no h, Nat.sub_self] at CN
  have CQ := Lib.hid (show ∀ W (hW : TabL W), Calls Tryd.prog 30 #[.string (tx S)] W fun e w' => Below W.heap.size W w' ∧ e = .returned (.tuple #[.string ⟨#[]⟩, .int .i64 0]) from fun W hW => by
    have q := quoted_any16 S hV hz W hW
    rw [hq] at q
    exact q)
  have CT := Lib.hid (show ∀ W (hW : TabL W), Calls Tryd.prog 31 #[.string (tx S)] W fun e w' => Below W.heap.size W w' ∧ e = .returned (.tuple #[.string ⟨#[]⟩, .int .i64 0]) from fun W hW => by
    have q := temporal_any16 S hV hz W hW
    rw [ht] at q
    exact q)
  have CS := Lib.hid (fun W => symbol_any16 S hS W)
  obtain ⟨b1, b2⟩ := symS_bytes S
  have s1 : S.drop (symS S) <:+ S := List.drop_suffix _ _
  have CA := Lib.hid (show (tx S).extract 0 (symS S) = tx (S.take (symS S)) from by
    have := cut_ahead (s := tx S) rfl s1
    rw [show bz S - bz (S.drop (symS S)) = symS S by omega, show S.length - (S.drop (symS S)).length = symS S by rw [List.length_drop]; omega] at this
    exact this)
  have ZS := tx_size S
  have s2 := symS_le S
  have n1 : symS S ≤ bz S := by omega
  have RS := Lib.hid (show (match oneS S with | none => symS S = 0 | some y => 5 = y.1 ∧ tx (S.take (symS S)) = tx y.2.1 ∧ symS S = bz S - bz y.2.2) from by
    rw [oneS_s h0 h hq ht]
    by_cases p : 0 < symS S
    · rw [if_pos p]
      exact ⟨rfl, rfl, by dsimp only; omega⟩
    · rw [if_neg p]
      show symS S = 0
      omega)
  clear h h0 hq ht hV hS b1 b2 s1
  generalize symS S = n at *
  obtain ⟨x, hx⟩ : ∃ x, x = tx (S.take n) := ⟨_, rfl⟩
  rw [← hx] at CA RS
  clear hx
  generalize tx S = s at *
  go_enter Tryd.func16, Tryd.ntmps16
  go_upto_region 1 with fail
  have TK := Lib.hid (HoldsTk.new rfl : HoldsTk (w.alloc (TkO 0 ⟨#[]⟩ 0)) w.heap.size 0 ⟨#[]⟩ 0)
  have B0 := ballD1 (Below.refl w.heap.size w) (TkO 0 ⟨#[]⟩ 0)
  have T0 := Lib.hid (hT.below ((Below.refl _ _).alloc (Nat.le_refl _) (TkO 0 ⟨#[]⟩ 0)))
  change Code.wp _ _ _ _ (w.alloc (TkO 0 ⟨#[]⟩ 0))
  generalize w.alloc (TkO 0 ⟨#[]⟩ 0) = w0 at *
  go_wp2_with (first
    | (go_at_call 28; (with_reducible refine (CW.out _).mono ?_); rintro e w1 ⟨rfl, b1⟩; have B1 := bstep B0 b1; have TK2 := Lib.hid (TK.out.below b1))
    | (go_at_call 29; (with_reducible refine (CN.out _).mono ?_); rintro e w2 ⟨rfl, b2⟩; have B2 := bstep B1 b2; have TK3 := Lib.hid (TK2.out.below b2); have T3 := Lib.hid ((T0.out.below b1).below b2))
    | (go_at_call 30; (with_reducible refine (CQ.out _ T3.out).mono ?_); rintro e w3 ⟨b3, rfl⟩; have B3 := bstep B2 b3; have TK4 := Lib.hid (TK3.out.below b3); have T4 := Lib.hid (T3.out.below b3))
    | (go_at_call 31; (with_reducible refine (CT.out _ T4.out).mono ?_); rintro e w4 ⟨b4, rfl⟩; have B4 := bstep B3 b4; have TK5 := Lib.hid (TK4.out.below b4))
    | (go_at_call 32; (with_reducible refine (CS.out _).mono ?_); rintro e w5 ⟨rfl, b5⟩; have B5 := bstep B4 b5; have TK6 := Lib.hid (TK5.out.below b5); obtain ⟨⟨t0, t1, t2⟩, ⟨f0, f1, f2⟩, tz⟩ := TK6.out))
  rw [CA.out]
  refine ret_via (v := .tuple #[TkL 5 x 0, .int .i64 ((n : Nat) : Int)]) (fun V => HoldsTk V w.heap.size 5 x 0) (fun VF hq => ?_) TK6.out.put rfl ⟨BI3 B5 (Nat.le_refl _) _ _ _, 5, x, (n : Nat), rfl, ?_⟩
  · obtain ⟨⟨x0, x1, x2⟩, -, -⟩ := hq
    simp [results, Tryd.results16, go_sem, x0, x1, x2, *]
  · exact RS.out
theorem first_any16 (S : List Nat) (hS : S ≠ []) (hV : Vrs S) (hz : bz S < 4294967281) (w : World) (hT : TabL w) :
    Calls Tryd.prog 16 #[.string (tx S)] w (RetFi S (oneS S) w) := by
  cases h0 : letR (hd S) with
  | true => exact first_word S hS hV hz h0 w hT
  | false =>
    by_cases h : digR (hd S) = true ∨ (hd S = 46 ∧ digR (hd (S.drop 1)) = true)
    · exact first_number S hS hV hz h0 h w hT
    · cases hq : qtS S with
      | some x => exact first_quoted S hV hz h0 h x.1 x.2 hq w hT
      | none =>
        cases ht : tmS S with
        | some x => exact first_temp S hV hz h0 h hq x.1 x.2 ht w hT
        | none => exact first_symbol S hS hV hz h0 h hq ht w hT
end Go.Proofs.YtfelcneedpndiaaDoor

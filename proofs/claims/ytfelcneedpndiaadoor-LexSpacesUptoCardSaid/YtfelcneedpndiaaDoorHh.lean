/-
  The program's escapes (layer 16): coded, escape, as contracts of their calls.
-/
import Derived.Test.YtfelcneedpndiaaDoorHg
namespace Go.Proofs.YtfelcneedpndiaaDoor
open Go.RowKit Go.Lib

theorem toErr_any (fn t : ByteArray) (ht : t.size ≤ 6) (W : World) (hW : TabL W) : Calls Tryd.prog 71 #[.string fn, .string t, .int .i64 16, .int .i64 32, .iface 103 (.int .i64 2)] W fun e w' => Below W.heap.size W w' ∧ ∃ te pe, e = .returned (.iface te pe) := by
  obtain ⟨-, ev, h2, h3⟩ := hW
  refine (Tryd.strconv_toError_syntax fn t 16 32 ev W (by omega) h2 h3).mono ?_
  rintro e w' ⟨N, rfl, -, -, b⟩
  exact ⟨b, _, _, rfl⟩
set_option linter.unusedVariables false in
set_option linter.unusedSimpArgs false in
set_option maxRecDepth 100000 in
set_option maxHeartbeats 4000000 in
theorem parseU_no (t : ByteArray) (hne : t.size ≠ 0) (h6 : t.size ≤ 6) (hx : hexL 0 t.data.toList = none) (w : World) (hT : TabL w) :
    Calls Tryd.prog 62 #[.string t, .int .i64 16, .int .i64 32] w fun e w' => Below w.heap.size w w' ∧ ∃ te pe, e = .returned (.tuple #[.int .u64 0, .iface te pe]) := by
  have CP := Lib.hid (fun W => parse16_any t hne h6 W)
  have HX := Lib.hid hx
  have CE := Lib.hid (fun (fn : ByteArray) W (hW : TabL W) => toErr_any fn t h6 W hW)
  have HT := Lib.hid hT
  clear hT hx
  go_enter Tryd.func62, Tryd.ntmps62
  go_wp2_with (first
    | (go_at_call 70; (with_reducible refine (CP.out _).mono ?_); rintro e w1 ⟨b1, hh⟩; rcases hh with ⟨-, rfl⟩ | ⟨n, hn, -, rfl⟩; rotate_left; exact absurd (HX.out.symm.trans hn) (by simp))
    | (go_at_call 71; (with_reducible refine (CE.out _ _ (HT.out.below b1)).mono ?_); rintro e w2 ⟨b2, te, pe, rfl⟩))
  go_ret2
  exact ⟨bstep b1 b2, _, _, rfl⟩
set_option linter.unusedVariables false in
set_option linter.unusedSimpArgs false in
set_option maxRecDepth 100000 in
set_option maxHeartbeats 4000000 in
theorem parseU_yes (t : ByteArray) (n : Nat) (hne : t.size ≠ 0) (h6 : t.size ≤ 6) (hx : hexL 0 t.data.toList = some n) (w : World) :
    Calls Tryd.prog 62 #[.string t, .int .i64 16, .int .i64 32] w fun e w' => Below w.heap.size w w' ∧ n < 16777216 ∧ e = .returned (.tuple #[.int .u64 (n : Int), .nilIface]) := by
  have CP := Lib.hid (show ∀ W, Calls Tryd.prog 70 #[.string t, .int .i64 16, .int .i64 32] W fun e w' => Below W.heap.size W w' ∧ n < 16777216 ∧ e = .returned (.tuple #[.int .u64 (n : Int), .nilIface]) from fun W => by
    refine (parse16_any t hne h6 W).mono ?_
    rintro e w' ⟨b, hh⟩
    rcases hh with ⟨h0, -⟩ | ⟨m, hm, hl, rfl⟩
    · rw [hx] at h0
      cases h0
    · rw [hx] at hm
      injection hm with hm
      subst hm
      exact ⟨b, hl, rfl⟩)
  go_enter Tryd.func62, Tryd.ntmps62
  go_wp2_with (go_at_call 70; (with_reducible refine (CP.out _).mono ?_); rintro e w1 ⟨b1, nl, rfl⟩)
  go_ret2
  exact ⟨b1, nl, rfl⟩
/-- The digits at a text's beginning, as bytes. -/
theorem hex_enc : ∀ (k c : Nat) (S : List Nat), k ≤ (enc S).length → hexL c ((enc S).take k) = codeGo k c S
  | 0, c, S, _ => by rw [List.take_zero]; rfl
  | k + 1, c, S, h => by
    rcases first_byte S with ⟨r, t, rfl, h1, e⟩ | rfl | ⟨r, t, b, u, rfl, h1, e, hb⟩
    · rw [e] at h ⊢
      rw [List.take_succ_cons, hexL_cons, u8_of r h1]
      rw [List.length_cons] at h
      show _ = match hexV r with | none => none | some d => codeGo k (16 * c + d) t
      cases hexV r with
      | none => rfl
      | some d => exact hex_enc k _ t (by omega)
    · simp at h
    · rw [e] at h ⊢
      rw [List.take_succ_cons, hexL_cons, hexV_high hb]
      show _ = match hexV r with | none => none | some d => codeGo k (16 * c + d) t
      rw [hexV_high h1]
theorem take_bytes (S : List Nat) (k : Nat) : ((tx S).extract 0 k).data.toList = (enc S).take k := by
  rw [extract_data, tx_list, List.drop_zero, Nat.sub_zero]
theorem validI (n : Nat) : Lib.validRune (n : Int) = decide (n ≤ 1114111 ∧ (n < 55296 ∨ 57343 < n)) := by
  unfold Lib.validRune
  rw [Bool.eq_iff_iff, decide_eq_true_iff, decide_eq_true_iff]
  omega
theorem codeS_hex (k : Nat) (S : List Nat) (h : k ≤ bz S) : codeS k S = match hexL 0 ((enc S).take k) with | none => none | some c => if c ≤ 1114111 ∧ (c < 55296 ∨ 57343 < c) then some c else none := by
  rw [hex_enc k 0 S h]
  rfl
theorem codeS_bz {k : Nat} {S : List Nat} {x : Nat} (h : codeS k S = some x) : k ≤ bz S := by
  have := codeS_len h
  have := (enc_length_le S).1
  unfold bz
  omega
/-- What coded and escape answer. -/
def RetCo (o : Option (Nat × Nat)) (w : World) (e : Ending) (w' : World) : Prop :=
  Below w.heap.size w w' ∧ e = .returned (.tuple (match o with | none => #[.int .i32 0, .int .i64 0] | some x => #[.int .i32 (x.1 : Int), .int .i64 (x.2 : Int)]))
set_option linter.unusedVariables false in
set_option linter.unusedSimpArgs false in
set_option maxRecDepth 100000 in
set_option maxHeartbeats 4000000 in
theorem coded_any16 (S : List Nat) (k : Nat) (k1 : 1 ≤ k) (k6 : k ≤ 6) (w : World) (hT : TabL w) :
    Calls Tryd.prog 53 #[.string (tx S), .int .i64 (k : Int)] w (RetCo ((codeS k S).map fun c => (c, k + 2)) w) := by
  have ZS := tx_size S
  rcases Nat.lt_or_ge (bz S) k with h | h
  · have e : codeS k S = none := by
      cases hc : codeS k S with
      | none => rfl
      | some x => have := codeS_bz hc; omega
    rw [e]
    generalize tx S = s at *
    generalize bz S = z at *
    go_enter Tryd.func53, Tryd.ntmps53
    go_wp2
    go_ret2
    exact ⟨Below.refl _ _, rfl⟩
  · have TB := take_bytes S k
    have TZ : ((tx S).extract 0 k).size = k := by
      rw [Lib.size_eq, TB, List.length_take]
      unfold bz at h
      omega
    rw [codeS_hex k S h, ← TB]
    obtain ⟨t, ht⟩ : ∃ t, t = (tx S).extract 0 k := ⟨_, rfl⟩
    rw [← ht] at TB TZ ⊢
    have CB := Lib.hid ht.symm
    clear ht TB
    cases hx : hexL 0 t.data.toList with
    | none =>
      have CP := Lib.hid (fun W (hW : TabL W) => parseU_no t (by omega) (by omega) hx W hW)
      clear hx
      generalize tx S = s at *
      generalize bz S = z at *
      go_enter Tryd.func53, Tryd.ntmps53
      go_wp2_with ((try rw [CB.out]); go_at_call 62; (with_reducible refine (CP.out _ hT).mono ?_); rintro e w1 ⟨b1, te, pe, rfl⟩)
      go_ret2
      exact ⟨b1, rfl⟩
    | some n =>
      have CP := Lib.hid (fun W => parseU_yes t n (by omega) (by omega) hx W)
      have CV := Lib.hid (show ∀ W, Calls Tryd.prog 63 #[.int .i32 (n : Int)] W (RetSm (.bool (decide (n ≤ 1114111 ∧ (n < 55296 ∨ 57343 < n)))) W) from fun W => by
        refine (Tryd.utf8_ValidRune (n : Int) W).mono ?_
        rintro e w' ⟨rfl, rfl⟩
        rw [validI]
        exact ⟨rfl, rfl⟩)
      clear hx
      generalize tx S = s at *
      generalize bz S = z at *
      by_cases hv : n ≤ 1114111 ∧ (n < 55296 ∨ 57343 < n)
      · rw [decide_eq_true hv] at CV
        dsimp only
        rw [if_pos hv]
        have n1 : n ≤ 1114111 := hv.1
        clear hv
        go_enter Tryd.func53, Tryd.ntmps53
        go_wp2_with (first
          | ((try rw [CB.out]); go_at_call 62; (with_reducible refine (CP.out _).mono ?_); rintro e w1 ⟨b1, nl, rfl⟩)
          | (go_at_call 63; (with_reducible refine (CV.out _).mono ?_); rintro e w2 ⟨rfl, rfl⟩))
        go_ret2
        refine ⟨b1, ?_⟩
        show Ending.returned (Value.tuple #[Value.int .i32 (n : Int), Value.int .i64 (2 + (k : Int))]) = Ending.returned (Value.tuple #[Value.int .i32 (n : Int), Value.int .i64 ((k + 2 : Nat) : Int)])
        rw [show ((k + 2 : Nat) : Int) = 2 + (k : Int) from by omega]
      · rw [decide_eq_false hv] at CV
        dsimp only
        rw [if_neg hv]
        clear hv
        go_enter Tryd.func53, Tryd.ntmps53
        go_wp2_with (first
          | ((try rw [CB.out]); go_at_call 62; (with_reducible refine (CP.out _).mono ?_); rintro e w1 ⟨b1, nl, rfl⟩)
          | (go_at_call 63; (with_reducible refine (CV.out _).mono ?_); rintro e w2 ⟨rfl, rfl⟩))
        go_ret2
        exact ⟨b1, rfl⟩
/-- What escape is told of a text. -/
def esS (S : List Nat) : Option (Nat × Nat) := if hd S = 92 then (escS (S.drop 1)).map fun x => (x.1, x.2 + 1) else none
/-- The first byte of a text. -/
theorem byte0 {S : List Nat} {c : Nat} (h : hd S = c) (h0 : c ≠ 0) (hc : c < 128) (hp : 0 < (tx S).size) : ((tx S)[0]'hp).toNat = c := by
  have e : (tx S).data.toList = c.toUInt8 :: enc (S.drop 1) := by rw [tx_list]; exact enc_hd h h0 hc
  have e2 : ((tx S)[0]'hp) = c.toUInt8 := by
    have : (tx S).data.toList[0]'(by rw [e]; simp) = c.toUInt8 := by simp [e]
    exact (show (tx S).data[0] = c.toUInt8 from by simpa using this)
  rw [e2, u8_of c hc]
theorem byte0_not {S : List Nat} (c : Nat) (h0 : c ≠ 0) (hc : c < 128) (h : hd S ≠ c) (hp : 0 < (tx S).size) : ((tx S)[0]'hp).toNat ≠ c := by
  intro x
  rcases first_byte S with ⟨r, t, rfl, h1, e⟩ | rfl | ⟨r, t, b, u, rfl, h1, e, hb⟩
  · by_cases hr : r = 0
    · subst hr
      have e' : (tx (0 :: t)).data.toList = (0 : Nat).toUInt8 :: enc t := by rw [tx_list]; exact e
      have e2 : ((tx (0 :: t))[0]'hp) = (0 : Nat).toUInt8 := by
        have : (tx (0 :: t)).data.toList[0]'(by rw [e']; simp) = (0 : Nat).toUInt8 := by simp [e']
        exact (show (tx (0 :: t)).data[0] = (0 : Nat).toUInt8 from by simpa using this)
      rw [e2, u8_of 0 (by decide)] at x
      exact h0 x.symm
    · have := byte0 (S := r :: t) (c := r) rfl hr h1 hp
      rw [this] at x
      exact h x
  · rw [tx_size] at hp
    exact absurd hp (by decide)
  · have e' : (tx (r :: t)).data.toList = b :: u := by rw [tx_list]; exact e
    have e2 : ((tx (r :: t))[0]'hp) = b := by
      have : (tx (r :: t)).data.toList[0]'(by rw [e']; simp) = b := by simp [e']
      exact (show (tx (r :: t)).data[0] = b from by simpa using this)
    rw [e2] at x
    omega
set_option linter.unusedVariables false in
set_option linter.unusedSimpArgs false in
set_option maxRecDepth 100000 in
set_option maxHeartbeats 4000000 in
theorem escape_not (S : List Nat) (h : hd S ≠ 92) (w : World) :
    Calls Tryd.prog 45 #[.string (tx S)] w (RetCo (esS S) w) := by
  have CC := Lib.hid (fun W => cutP S 92 [92] rfl (by decide) (by decide) W)
  rw [if_neg h, decide_eq_false h] at CC
  have E : esS S = none := by unfold esS; rw [if_neg h]
  rw [E]
  clear h E
  generalize tx S = s at *
  go_enter Tryd.func45, Tryd.ntmps45
  go_wp2_with (go_at_call 43; (with_reducible refine (CC.out _).mono ?_); rintro e w3 ⟨rfl, rfl⟩)
  go_ret2
  exact ⟨Below.refl _ _, rfl⟩
set_option linter.unusedVariables false in
set_option linter.unusedSimpArgs false in
set_option maxRecDepth 100000 in
set_option maxHeartbeats 4000000 in
theorem escape_end (S : List Nat) (h : hd S = 92) (h1 : S.drop 1 = []) (w : World) :
    Calls Tryd.prog 45 #[.string (tx S)] w (RetCo (esS S) w) := by
  have CC := Lib.hid (fun W => cutP S 92 [92] rfl (by decide) (by decide) W)
  rw [if_pos h, decide_eq_true h, h1, tx_nil] at CC
  have E : esS S = none := by unfold esS; rw [if_pos h, h1]; rfl
  rw [E]
  clear h E h1
  generalize tx S = s at *
  go_enter Tryd.func45, Tryd.ntmps45
  go_wp2_with (go_at_call 43; (with_reducible refine (CC.out _).mono ?_); rintro e w3 ⟨rfl, rfl⟩)
  go_ret2
  exact ⟨Below.refl _ _, rfl⟩
set_option linter.unusedVariables false in
set_option linter.unusedSimpArgs false in
set_option maxRecDepth 100000 in
set_option maxHeartbeats 4000000 in
/-- .. where one rune stands behind the sign that tells what is meant. -/
theorem escape_one (S : List Nat) (c r : Nat) (h : hd S = 92) (hc : hd (S.drop 1) = c) (hr : (c = 110 ∧ r = 10) ∨ (c = 114 ∧ r = 13) ∨ (c = 116 ∧ r = 9) ∨ ((c = 34 ∨ c = 39 ∨ c = 92) ∧ r = c)) (w : World) :
    Calls Tryd.prog 45 #[.string (tx S)] w (RetCo (some (r, 2)) w) := by
  have CC := Lib.hid (fun W => cutP S 92 [92] rfl (by decide) (by decide) W)
  rw [if_pos h, decide_eq_true h] at CC
  have ne : S.drop 1 ≠ [] := by
    intro x
    rw [x] at hc
    have : c = 0 := hc.symm
    omega
  have z1 := bz_pos ne
  have ZS := tx_size (S.drop 1)
  have hp : 0 < (tx (S.drop 1)).size := by omega
  have B := byte0 hc (by omega) (by omega) hp
  have hemp : (tx (S.drop 1)).toList.isEmpty = false := by
    rw [← decide_eq_emptyBytes]
    exact decide_eq_false (fun x => by rw [x] at hp; exact absurd hp (by decide))
  clear ne h hc
  generalize tx (S.drop 1) = s2 at *
  generalize tx S = s at *
  generalize bz (S.drop 1) = z at *
  rcases hr with ⟨rfl, rfl⟩ | ⟨rfl, rfl⟩ | ⟨rfl, rfl⟩ | ⟨rfl | rfl | rfl, rfl⟩
  all_goals
    go_enter Tryd.func45, Tryd.ntmps45
    go_wp2_with (go_at_call 43; (with_reducible refine (CC.out _).mono ?_); rintro e w3 ⟨rfl, rfl⟩)
    go_ret2
    exact ⟨Below.refl _ _, rfl⟩
set_option linter.unusedVariables false in
set_option linter.unusedSimpArgs false in
set_option maxRecDepth 100000 in
set_option maxHeartbeats 4000000 in
/-- .. a code of so many digits. -/
theorem escape_code (S : List Nat) (c k : Nat) (h : hd S = 92) (hc : hd (S.drop 1) = c) (hk : (c = 117 ∧ k = 4) ∨ (c = 85 ∧ k = 6)) (w : World) (hT : TabL w) :
    Calls Tryd.prog 45 #[.string (tx S)] w (RetCo ((codeS k (S.drop 2)).map fun x => (x, k + 2)) w) := by
  have CC := Lib.hid (fun W => cutP S 92 [92] rfl (by decide) (by decide) W)
  rw [if_pos h, decide_eq_true h] at CC
  have ne : S.drop 1 ≠ [] := by
    intro x
    rw [x] at hc
    have : c = 0 := hc.symm
    omega
  have z1 := bz_pos ne
  have ZS := tx_size (S.drop 1)
  have hp : 0 < (tx (S.drop 1)).size := by omega
  have B := byte0 hc (by omega) (by omega) hp
  have hemp : (tx (S.drop 1)).toList.isEmpty = false := by
    rw [← decide_eq_emptyBytes]
    exact decide_eq_false (fun x => by rw [x] at hp; exact absurd hp (by decide))
  have z2 : bz (S.drop 1) = bz (S.drop 2) + 1 := by rw [bz_hd hc (by omega) (by omega), List.drop_drop]
  have CB := Lib.hid (show (tx (S.drop 1)).extract 1 (bz (S.drop 1)) = tx (S.drop 2) from by
    have := cut_behind (s := tx (S.drop 1)) rfl (show S.drop 2 <:+ S.drop 1 by rw [show S.drop 2 = (S.drop 1).drop 1 by rw [List.drop_drop]]; exact List.drop_suffix _ _)
    rw [show bz (S.drop 1) - bz (S.drop 2) = 1 by omega] at this
    exact this)
  have CO := Lib.hid (fun W (hW : TabL W) => coded_any16 (S.drop 2) k (by omega) (by omega) W hW)
  generalize ((codeS k (S.drop 2)).map fun x => (x, k + 2)) = R at *
  have HT := Lib.hid hT
  clear ne h hc z2 hT
  generalize tx (S.drop 2) = s3 at *
  generalize tx (S.drop 1) = s2 at *
  generalize tx S = s at *
  generalize bz (S.drop 1) = z at *
  rcases hk with ⟨rfl, rfl⟩ | ⟨rfl, rfl⟩
  all_goals
    simp only [Int.cast_ofNat_Int] at CO
    cases R
    all_goals
      go_enter Tryd.func45, Tryd.ntmps45
      go_wp2_with (first
        | (go_at_call 43; (with_reducible refine (CC.out _).mono ?_); rintro e w3 ⟨rfl, rfl⟩)
        | ((try rw [CB.out]); go_at_call 53; (with_reducible refine (CO.out _ HT.out).mono ?_); rintro e w1 ⟨b1, rfl⟩))
      go_ret2
      exact ⟨b1, rfl⟩
set_option linter.unusedVariables false in
set_option linter.unusedSimpArgs false in
set_option maxRecDepth 100000 in
set_option maxHeartbeats 4000000 in
/-- .. anything else. -/
theorem escape_other (S : List Nat) (h : hd S = 92) (h1 : S.drop 1 ≠ []) (n0 : hd (S.drop 1) ≠ 110) (n1 : hd (S.drop 1) ≠ 114) (n2 : hd (S.drop 1) ≠ 116) (n3 : hd (S.drop 1) ≠ 34) (n4 : hd (S.drop 1) ≠ 92) (n5 : hd (S.drop 1) ≠ 39) (n6 : hd (S.drop 1) ≠ 117) (n7 : hd (S.drop 1) ≠ 85) (w : World) :
    Calls Tryd.prog 45 #[.string (tx S)] w (RetCo none w) := by
  have CC := Lib.hid (fun W => cutP S 92 [92] rfl (by decide) (by decide) W)
  rw [if_pos h, decide_eq_true h] at CC
  have z1 := bz_pos h1
  have ZS := tx_size (S.drop 1)
  have hp : 0 < (tx (S.drop 1)).size := by omega
  have hemp : (tx (S.drop 1)).toList.isEmpty = false := by
    rw [← decide_eq_emptyBytes]
    exact decide_eq_false (fun x => by rw [x] at hp; exact absurd hp (by decide))
  obtain ⟨B, hB⟩ : ∃ B, ((tx (S.drop 1))[0]'hp).toNat = B := ⟨_, rfl⟩
  have m0 := neI (show B ≠ 110 from hB ▸ byte0_not 110 (by decide) (by decide) n0 hp)
  have m1 := neI (show B ≠ 114 from hB ▸ byte0_not 114 (by decide) (by decide) n1 hp)
  have m2 := neI (show B ≠ 116 from hB ▸ byte0_not 116 (by decide) (by decide) n2 hp)
  have m3 := neI (show B ≠ 34 from hB ▸ byte0_not 34 (by decide) (by decide) n3 hp)
  have m4 := neI (show B ≠ 92 from hB ▸ byte0_not 92 (by decide) (by decide) n4 hp)
  have m5 := neI (show B ≠ 39 from hB ▸ byte0_not 39 (by decide) (by decide) n5 hp)
  have m6 := neI (show B ≠ 117 from hB ▸ byte0_not 117 (by decide) (by decide) n6 hp)
  have m7 := neI (show B ≠ 85 from hB ▸ byte0_not 85 (by decide) (by decide) n7 hp)
  simp only [Int.cast_ofNat_Int] at m0 m1 m2 m3 m4 m5 m6 m7
  clear h h1 n0 n1 n2 n3 n4 n5 n6 n7
  generalize tx (S.drop 1) = s2 at *
  generalize tx S = s at *
  generalize bz (S.drop 1) = z at *
  go_enter Tryd.func45, Tryd.ntmps45
  go_wp2_with (go_at_call 43; (with_reducible refine (CC.out _).mono ?_); rintro e w3 ⟨rfl, rfl⟩)
  go_ret2
  exact ⟨Below.refl _ _, rfl⟩
theorem escape_any16 (S : List Nat) (w : World) (hT : TabL w) : Calls Tryd.prog 45 #[.string (tx S)] w (RetCo (esS S) w) := by
  by_cases h : hd S = 92
  · by_cases h1 : S.drop 1 = []
    · exact escape_end S h h1 w
    · by_cases n0 : hd (S.drop 1) = 110
      · have e : esS S = some (10, 2) := by unfold esS escS; rw [if_pos h, if_pos n0]; rfl
        rw [e]; exact escape_one S _ 10 h n0 (.inl ⟨rfl, rfl⟩) w
      by_cases n1 : hd (S.drop 1) = 114
      · have e : esS S = some (13, 2) := by unfold esS escS; rw [if_pos h, if_neg n0, if_pos n1]; rfl
        rw [e]; exact escape_one S _ 13 h n1 (.inr (.inl ⟨rfl, rfl⟩)) w
      by_cases n2 : hd (S.drop 1) = 116
      · have e : esS S = some (9, 2) := by unfold esS escS; rw [if_pos h, if_neg n0, if_neg n1, if_pos n2]; rfl
        rw [e]; exact escape_one S _ 9 h n2 (.inr (.inr (.inl ⟨rfl, rfl⟩))) w
      by_cases n3 : hd (S.drop 1) = 34 ∨ hd (S.drop 1) = 39 ∨ hd (S.drop 1) = 92
      · have e : esS S = some (hd (S.drop 1), 2) := by unfold esS escS; rw [if_pos h, if_neg n0, if_neg n1, if_neg n2, if_pos n3]; rfl
        rw [e]; exact escape_one S _ _ h rfl (.inr (.inr (.inr ⟨n3, rfl⟩))) w
      by_cases n6 : hd (S.drop 1) = 117
      · have e : esS S = (codeS 4 (S.drop 2)).map fun x => (x, 4 + 2) := by
          unfold esS escS
          rw [if_pos h, if_neg n0, if_neg n1, if_neg n2, if_neg n3, if_pos n6, List.drop_drop]
          cases codeS 4 (S.drop (1 + 1)) <;> rfl
        rw [e]; exact escape_code S _ 4 h n6 (.inl ⟨rfl, rfl⟩) w hT
      by_cases n7 : hd (S.drop 1) = 85
      · have e : esS S = (codeS 6 (S.drop 2)).map fun x => (x, 6 + 2) := by
          unfold esS escS
          rw [if_pos h, if_neg n0, if_neg n1, if_neg n2, if_neg n3, if_neg n6, if_pos n7, List.drop_drop]
          cases codeS 6 (S.drop (1 + 1)) <;> rfl
        rw [e]; exact escape_code S _ 6 h n7 (.inr ⟨rfl, rfl⟩) w hT
      · have e : esS S = none := by
          unfold esS escS
          rw [if_pos h, if_neg n0, if_neg n1, if_neg n2, if_neg n3, if_neg n6, if_neg n7]
          rfl
        rw [e]
        exact escape_other S h h1 n0 n1 n2 (fun x => n3 (.inl x)) (fun x => n3 (.inr (.inr x))) (fun x => n3 (.inr (.inl x))) n6 n7 w
  · exact escape_not S h w
end Go.Proofs.YtfelcneedpndiaaDoor

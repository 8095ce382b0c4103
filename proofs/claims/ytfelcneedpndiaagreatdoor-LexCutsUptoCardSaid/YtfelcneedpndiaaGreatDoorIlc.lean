/-
  LexCuts walked (layer 16).
-/
import Derived.Test.YtfelcneedpndiaaGreatDoorIlk
namespace Go.Proofs.YtfelcneedpndiaaGreatDoor
open Go.RowKit Go.Lib
abbrev o13_0 : Oper := { dst := some 50, op := Op.move (Operand.tmp 3), type := 23, pos := "law.go:38", after := #[], guard := none }
abbrev o13_1 : Oper := { dst := some 51, op := Op.move (Operand.tmp 8), type := 3, pos := "law.go:38", after := #[], guard := none }
abbrev o13_2 : Oper := { dst := some 52, op := Op.indexAddr 23 (Operand.tmp 50) (Operand.tmp 51), type := 0, pos := "law.go:38", after := #[{ on := 0, ground := Ground.data }, { on := 1, ground := Ground.data }], guard := none }
abbrev o13_3 : Oper := { dst := some 53, op := Op.fieldAddr 34 (Operand.tmp 52) 0, type := 0, pos := "law.go:38", after := #[{ on := 2, ground := Ground.data }], guard := none }
abbrev o13_4 : Oper := { dst := some 54, op := Op.load 32 (Operand.tmp 53), type := 32, pos := "law.go:38", after := #[{ on := 3, ground := Ground.data }], guard := none }
abbrev o13_5 : Oper := { dst := some 55, op := Op.move (Operand.tmp 6), type := 29, pos := "law.go:38", after := #[], guard := none }
abbrev o13_6 : Oper := { dst := some 56, op := Op.move (Operand.tmp 8), type := 3, pos := "law.go:38", after := #[], guard := none }
abbrev o13_7 : Oper := { dst := some 57, op := Op.indexAddr 29 (Operand.tmp 55) (Operand.tmp 56), type := 0, pos := "law.go:38", after := #[{ on := 5, ground := Ground.data }, { on := 6, ground := Ground.data }], guard := none }
abbrev o13_8 : Oper := { dst := some 58, op := Op.fieldAddr 36 (Operand.tmp 57) 0, type := 0, pos := "law.go:38", after := #[{ on := 7, ground := Ground.data }], guard := none }
abbrev o13_9 : Oper := { dst := some 59, op := Op.load 3 (Operand.tmp 58), type := 3, pos := "law.go:38", after := #[{ on := 8, ground := Ground.data }], guard := none }
abbrev o13_10 : Oper := { dst := some 60, op := Op.binOp BinOp.neq 3 (Operand.tmp 54) (Operand.tmp 59) 3, type := 4, pos := "law.go:38", after := #[{ on := 4, ground := Ground.data }, { on := 9, ground := Ground.data }], guard := none }
abbrev o13_11 : Oper := { dst := some 61, op := Op.move (Operand.tmp 60), type := 4, pos := "law.go:38", after := #[{ on := 10, ground := Ground.data }], guard := none }
abbrev o13_12 : Oper := { dst := some 62, op := Op.move (Operand.tmp 3), type := 23, pos := "law.go:38", after := #[{ on := 11, ground := Ground.guard }], guard := some (11, false) }
abbrev o13_13 : Oper := { dst := some 63, op := Op.move (Operand.tmp 8), type := 3, pos := "law.go:38", after := #[{ on := 11, ground := Ground.guard }], guard := some (11, false) }
abbrev o13_14 : Oper := { dst := some 64, op := Op.indexAddr 23 (Operand.tmp 62) (Operand.tmp 63), type := 0, pos := "law.go:38", after := #[{ on := 12, ground := Ground.data }, { on := 13, ground := Ground.data }, { on := 11, ground := Ground.guard }], guard := some (11, false) }
abbrev o13_15 : Oper := { dst := some 65, op := Op.fieldAddr 34 (Operand.tmp 64) 1, type := 0, pos := "law.go:38", after := #[{ on := 14, ground := Ground.data }, { on := 11, ground := Ground.guard }], guard := some (11, false) }
abbrev o13_16 : Oper := { dst := some 66, op := Op.load 9 (Operand.tmp 65), type := 9, pos := "law.go:38", after := #[{ on := 15, ground := Ground.data }, { on := 11, ground := Ground.guard }], guard := some (11, false) }
abbrev o13_17 : Oper := { dst := some 67, op := Op.move (Operand.tmp 6), type := 29, pos := "law.go:38", after := #[{ on := 11, ground := Ground.guard }], guard := some (11, false) }
abbrev o13_18 : Oper := { dst := some 68, op := Op.move (Operand.tmp 8), type := 3, pos := "law.go:38", after := #[{ on := 11, ground := Ground.guard }], guard := some (11, false) }
abbrev o13_19 : Oper := { dst := some 69, op := Op.indexAddr 29 (Operand.tmp 67) (Operand.tmp 68), type := 0, pos := "law.go:38", after := #[{ on := 17, ground := Ground.data }, { on := 18, ground := Ground.data }, { on := 11, ground := Ground.guard }], guard := some (11, false) }
abbrev o13_20 : Oper := { dst := some 70, op := Op.fieldAddr 36 (Operand.tmp 69) 1, type := 0, pos := "law.go:38", after := #[{ on := 19, ground := Ground.data }, { on := 11, ground := Ground.guard }], guard := some (11, false) }
abbrev o13_21 : Oper := { dst := some 71, op := Op.load 9 (Operand.tmp 70), type := 9, pos := "law.go:38", after := #[{ on := 20, ground := Ground.data }, { on := 11, ground := Ground.guard }], guard := some (11, false) }
abbrev o13_22 : Oper := { dst := some 72, op := Op.binOp BinOp.neq 9 (Operand.tmp 66) (Operand.tmp 71) 9, type := 4, pos := "law.go:38", after := #[{ on := 16, ground := Ground.data }, { on := 21, ground := Ground.data }, { on := 11, ground := Ground.guard }], guard := some (11, false) }
abbrev o13_23 : Oper := { dst := some 73, op := Op.pick (Operand.tmp 61) (Operand.const (Value.bool true)) (Operand.tmp 72), type := 4, pos := "law.go:38", after := #[{ on := 11, ground := Ground.data }, { on := 22, ground := Ground.data }], guard := none }
abbrev o13_24 : Oper := { dst := some 74, op := Op.move (Operand.tmp 73), type := 4, pos := "law.go:38", after := #[{ on := 23, ground := Ground.data }, { on := 11, ground := Ground.chain }], guard := none }
abbrev o13_25 : Oper := { dst := some 75, op := Op.move (Operand.tmp 3), type := 23, pos := "law.go:38", after := #[{ on := 24, ground := Ground.guard }], guard := some (24, false) }
abbrev o13_26 : Oper := { dst := some 76, op := Op.move (Operand.tmp 8), type := 3, pos := "law.go:38", after := #[{ on := 24, ground := Ground.guard }], guard := some (24, false) }
abbrev o13_27 : Oper := { dst := some 77, op := Op.indexAddr 23 (Operand.tmp 75) (Operand.tmp 76), type := 0, pos := "law.go:38", after := #[{ on := 25, ground := Ground.data }, { on := 26, ground := Ground.data }, { on := 24, ground := Ground.guard }], guard := some (24, false) }
abbrev o13_28 : Oper := { dst := some 78, op := Op.fieldAddr 34 (Operand.tmp 77) 2, type := 0, pos := "law.go:38", after := #[{ on := 27, ground := Ground.data }, { on := 24, ground := Ground.guard }], guard := some (24, false) }
abbrev o13_29 : Oper := { dst := some 79, op := Op.load 3 (Operand.tmp 78), type := 3, pos := "law.go:38", after := #[{ on := 28, ground := Ground.data }, { on := 24, ground := Ground.guard }], guard := some (24, false) }
abbrev o13_30 : Oper := { dst := some 80, op := Op.move (Operand.tmp 5), type := 26, pos := "law.go:38", after := #[{ on := 24, ground := Ground.guard }], guard := some (24, false) }
abbrev o13_31 : Oper := { dst := some 81, op := Op.move (Operand.tmp 6), type := 29, pos := "law.go:38", after := #[{ on := 24, ground := Ground.guard }], guard := some (24, false) }
abbrev o13_32 : Oper := { dst := some 82, op := Op.move (Operand.tmp 8), type := 3, pos := "law.go:38", after := #[{ on := 24, ground := Ground.guard }], guard := some (24, false) }
abbrev o13_33 : Oper := { dst := some 83, op := Op.indexAddr 29 (Operand.tmp 81) (Operand.tmp 82), type := 0, pos := "law.go:38", after := #[{ on := 31, ground := Ground.data }, { on := 32, ground := Ground.data }, { on := 24, ground := Ground.guard }], guard := some (24, false) }
abbrev o13_34 : Oper := { dst := some 84, op := Op.fieldAddr 36 (Operand.tmp 83) 2, type := 0, pos := "law.go:38", after := #[{ on := 33, ground := Ground.data }, { on := 24, ground := Ground.guard }], guard := some (24, false) }
abbrev o13_35 : Oper := { dst := some 85, op := Op.load 3 (Operand.tmp 84), type := 3, pos := "law.go:38", after := #[{ on := 34, ground := Ground.data }, { on := 24, ground := Ground.guard }], guard := some (24, false) }
abbrev o13_36 : Oper := { dst := some 86, op := Op.slice 26 (Operand.tmp 80) none (some (Operand.tmp 85)) none, type := 26, pos := "law.go:38", after := #[{ on := 30, ground := Ground.data }, { on := 35, ground := Ground.data }, { on := 24, ground := Ground.guard }], guard := some (24, false) }
abbrev o13_37 : Oper := { dst := some 87, op := Op.call { callee := Callee.value (Operand.func 7), args := #[Operand.tmp 86], argTypes := #[26] }, type := 9, pos := "law.go:38", after := #[{ on := 36, ground := Ground.data }, { on := 24, ground := Ground.chain }, { on := 24, ground := Ground.guard }], guard := some (24, false) }
abbrev o13_38 : Oper := { dst := some 88, op := Op.call { callee := Callee.builtin Builtin.len, args := #[Operand.tmp 87], argTypes := #[9] }, type := 3, pos := "law.go:38", after := #[{ on := 37, ground := Ground.data }, { on := 24, ground := Ground.guard }], guard := some (24, false) }
abbrev o13_39 : Oper := { dst := some 89, op := Op.binOp BinOp.neq 3 (Operand.tmp 79) (Operand.tmp 88) 3, type := 4, pos := "law.go:38", after := #[{ on := 29, ground := Ground.data }, { on := 38, ground := Ground.data }, { on := 24, ground := Ground.guard }], guard := some (24, false) }
abbrev o13_40 : Oper := { dst := some 90, op := Op.pick (Operand.tmp 74) (Operand.const (Value.bool true)) (Operand.tmp 89), type := 4, pos := "law.go:38", after := #[{ on := 24, ground := Ground.data }, { on := 39, ground := Ground.data }], guard := none }
set_option linter.unusedVariables false in
set_option linter.unusedSimpArgs false in
set_option maxRecDepth 100000 in
set_option maxHeartbeats 16000000 in
theorem lex_cuts (s : ByteArray) (w : World) (hs : s.size ≤ 1048576) (hTb : Tab16 w) : Calls Tryz.prog 3 #[.string s] w (Ret (.bool true) w) := by
  have LX := Lib.hid (fun W (hW : Below w.heap.size w W) => ltokens_any s (by omega) W (hTb.below hW))
  have RN := Lib.hid (fun W => runes_any s W (by omega))
  have hL := rnS_le s
  have hV : Hid (Vrs (rnS s)) := Lib.hid (rn_vr _)
  cases hv : validD s.data.toList with
  | false =>
    have LS := Lib.hid (show lexS s = none from by unfold lexS; rw [hv]; rfl)
    obtain ⟨S2, hS2⟩ : ∃ S2 : ByteArray, S2 = ⟨(enc (rnS s)).toArray⟩ := ⟨_, rfl⟩
    have NE := strne2 (show S2 ≠ s from by rw [hS2]; exact valS_ne hv)
    have TX := Lib.hid (show ∀ (b : Nat) (v : Value) (W : World), RowN b W v (rnS s) → Calls Tryz.prog 7 #[v] W (Ret (.string S2) W) from fun b v W h => by rw [hS2]; exact textR_any b v (rnS s) W (by omega) h)
    clear hv hS2
    generalize rnS s = L at *
    go_enter Tryz.func3, Tryz.ntmps3
    go_wp2_with (first
      | (go_at_call 4; (with_reducible refine (awake16 _ hTb).mono ?_); rintro e w1 ⟨rfl, b1⟩)
      | (go_at_call 5; (with_reducible refine (LX.out _ b1).mono ?_); rintro e w2 hx; obtain ⟨rfl, b2⟩ := retlex_no LS.out hx)
      | (go_at_call 6; (with_reducible refine (RN.out _).mono ?_); rintro e w3 ⟨v3, rfl, R3, b3⟩; have CT := Lib.hid (TX.out _ v3 _ R3); clear R3)
      | (go_at_call 7; (with_reducible refine (CT.out).mono ?_); rintro e w4 ⟨rfl, b4⟩))
    go_ret
    exact ⟨rfl, bstep (bstep (bstep b1 b2) b3) b4⟩
  | true =>
    have LS := Lib.hid (show lexS s = tokS (rnS s) from by unfold lexS; rw [hv]; rfl)
    have TX := Lib.hid (show ∀ (b : Nat) (v : Value) (W : World), RowN b W v (rnS s) → Calls Tryz.prog 7 #[v] W (Ret (.string s) W) from fun b v W h => (textR_any b v (rnS s) W (by omega) h).mono fun e w' h => rett_lit2 (valS_same hv) h)
    clear hv
    have RL : ∀ (w0 : World) (e : Ending) (w1 : World), RetLex s w0 e w1 → ∃ (v : Value) (ok : Bool), e = .returned (.tuple #[v, .bool ok]) ∧ Below w0.heap.size w0 w1 ∧ (match tokS (rnS s) with | none => ok = false ∧ v = .slice none 0 0 | some ts => ok = true ∧ LexAt w1 v (rnS s) ts) := by
      intro w0 e w1 h
      unfold RetLex at h
      rw [LS.out] at h
      exact h
    have RL' := Lib.hid RL
    clear RL
    generalize rnS s = L at *
    cases hT : tokS L with
    | none =>
      have HT := Lib.hid hT
      go_enter Tryz.func3, Tryz.ntmps3
      go_wp2_with (first
        | (go_at_call 4; (with_reducible refine (awake16 _ hTb).mono ?_); rintro e w1 ⟨rfl, b1⟩)
        | (go_at_call 5; (with_reducible refine (LX.out _ b1).mono ?_); rintro e w2 hx; obtain ⟨v2, ok2, rfl, b2, hx⟩ := RL'.out _ _ _ hx; rw [HT.out] at hx; obtain ⟨rfl, rfl⟩ := hx)
        | (go_at_call 6; (with_reducible refine (RN.out _).mono ?_); rintro e w3 ⟨v3, rfl, R3, b3⟩; have CT := Lib.hid (TX.out _ v3 _ R3); have R3' := Lib.hid R3; clear R3)
        | (go_at_call 7; (with_reducible refine (CT.out).mono ?_); rintro e w4 ⟨rfl, b4⟩; have TK := Lib.hid (tokens_ref _ v3 L hV.out (by omega) w4 (R3'.out.below b4)))
        | (go_at_call 8; (with_reducible refine (TK.out).mono ?_); rintro e w5 ⟨v5, ok5, rfl, b5, hy⟩; rw [HT.out] at hy; obtain ⟨rfl, rfl⟩ := hy))
      refine wp_loop_rounds 1 ?_
      rw [rounds_succ]
      go_wp2
      go_ret
      exact ⟨rfl, bstep (bstep (bstep (bstep b1 b2) b3) b4) b5⟩
    | some ts =>
      have HT := Lib.hid hT
      have tl := tok_len hT
      have CH := Lib.hid (tok_chain L _ L ts (Nat.le_refl _) (List.suffix_refl _) hT).1
      clear hT
      go_enter Tryz.func3, Tryz.ntmps3
      go_wp2_with (first
        | (go_at_call 4; (with_reducible refine (awake16 _ hTb).mono ?_); rintro e w1 ⟨rfl, b1⟩))
      refine (LX.out _ b1).mono ?_
      rintro e w2 hx0
      obtain ⟨v2, ok2, he2, b2, hx1⟩ := RL'.out _ _ _ hx0
      clear hx0
      subst he2
      rw [HT.out] at hx1
      obtain ⟨hok, hx2⟩ := hx1
      subst hok
      obtain ⟨A2, c2, hv2, c2a, c2b⟩ := hx2.sl
      subst hv2
      have LA := Lib.hid hx2
      clear hx2
      go_wp2_with (first
        | (go_at_call 6; (with_reducible refine (RN.out _).mono ?_); rintro e w3 ⟨v3, rfl, R3, b3⟩; obtain ⟨A3, c3, rfl⟩ := R3.sl; have CT := Lib.hid (TX.out _ _ _ R3); have R3' := Lib.hid R3; clear R3)
        | (go_at_call 7; (with_reducible refine (CT.out).mono ?_); rintro e w4 ⟨rfl, b4⟩; have TK := Lib.hid (tokens_ref _ _ L hV.out (by omega) w4 (R3'.out.below b4))))
      refine (TK.out).mono ?_
      rintro e w5 ⟨v5, ok5, rfl, b5, hy1⟩
      rw [HT.out] at hy1
      obtain ⟨hok, hy2⟩ := hy1
      subst hok
      obtain ⟨A5, c5, hv5⟩ := hy2.sl
      subst hv5
      have KA := Lib.hid hy2
      clear hy2
      go_wp2_with fail
      have LA5 := Lib.hid ((((LA.out.below b3).below b4)).below b5)
      have R5 := Lib.hid ((R3'.out.below b4).below b5)
      have BB := Lib.hid (bstep (bstep (bstep (bstep b1 b2) b3) b4) b5)
      clear b1 b2 b3 b4 b5 LA R3' TK CT
      go_loopg [8] ts.length (fun gg i wr => ∃ kk : Nat, kk + gg = ts.length ∧ i = .int .i64 (kk : Int) ∧ Hid (Below w5.heap.size w5 wr))
      case atStart => exact ⟨0, by omega, rfl, Lib.hid (Below.refl _ _)⟩
      case round =>
        obtain ⟨kk, hkk, rfl, HB⟩ := hrel
        have NB : (ts.length : Int) ≤ 9223372036854775806 := by omega
        by_cases hlt : kk < ts.length
        · obtain ⟨t, ht⟩ : ∃ t, ts[kk]? = some t := ⟨_, List.getElem?_eq_getElem hlt⟩
          obtain ⟨g, o, rfl, gl, x0, x1, x2⟩ := (LA5.out.below HB.out).tok kk t ht
          obtain ⟨h, rfl, k5a, k5b, y0, y1, y2⟩ := (KA.out.below HB.out).tok kk t ht
          obtain ⟨a, ha⟩ : ∃ a, a = L.length - t.2.2 := ⟨_, rfl⟩
          obtain ⟨P, hP⟩ : ∃ P, P = posB L t.2.2 := ⟨_, rfl⟩
          rw [← ha] at y2
          rw [← hP] at x2
          have aL : a ≤ L.length := by omega
          have PE : (enc (L.take a)).length = P := by rw [hP, ha]; rfl
          have TX2 := Lib.hid (show ∀ W, Below wr.heap.size wr W → Calls Tryz.prog 7 #[.slice A3 a c3] W (RetTx (enc (L.take a)) W) from fun W hW => text_pre _ A3 c3 L a aL (by omega) W ((R5.out.below HB.out).below hW))
          obtain ⟨cc3, hc3⟩ := R5.out.capL
          have ac : a ≤ c3 := Nat.le_trans aL cc3
          have zY := (enc_length_le (L.take a)).2
          rw [List.length_take] at zY
          generalize enc (L.take a) = Y at *
          generalize enc t.2.1 = X at *
          subst PE
          go_upto_region 13 with fail
          have CV : wr.cell? ⟨g, o + kk * 3, none⟩ = some (.int .i64 (t.1 : Int)) ∧ wr.cell? ⟨g, o + kk * 3 + 1, none⟩ = some (.string ⟨X.toArray⟩) ∧ wr.cell? ⟨g, o + kk * 3 + 2, none⟩ = some (.int .i64 ((Y.length : Nat) : Int)) ∧ wr.cell? ⟨h, kk * 3, none⟩ = some (.int .i64 (t.1 : Int)) ∧ wr.cell? ⟨h, kk * 3 + 1, none⟩ = some (.string ⟨X.toArray⟩) ∧ wr.cell? ⟨h, kk * 3 + 2, none⟩ = some (.int .i64 (a : Int)) := ⟨x0, x1, x2, y0, y1, y2⟩
          have HB' := Lib.hid HB.out
          have HA := Lib.hid (And.intro ha hP)
          have HT2 := Lib.hid ht
          clear ha hP ht
          clear x0 x1 x2 y0 y1 y2
          refine wp_region_held_drew (S := fun w' => w'.cell? ⟨g, o + kk * 3, none⟩ = some (.int .i64 (t.1 : Int)) ∧ w'.cell? ⟨g, o + kk * 3 + 1, none⟩ = some (.string ⟨X.toArray⟩) ∧ w'.cell? ⟨g, o + kk * 3 + 2, none⟩ = some (.int .i64 ((Y.length : Nat) : Int)) ∧ w'.cell? ⟨h, kk * 3, none⟩ = some (.int .i64 (t.1 : Int)) ∧ w'.cell? ⟨h, kk * 3 + 1, none⟩ = some (.string ⟨X.toArray⟩) ∧ w'.cell? ⟨h, kk * 3 + 2, none⟩ = some (.int .i64 (a : Int)) ∧ Below wr.heap.size wr w') (by kernel_rfl) ?_ (fun hHeld => ?_)
          · exact (km6 CV ((Below.refl _ _).drew))
          refine wpAnyH_take (i := 0) (oi := o13_0) (v := ?_) rfl (by kernel_rfl) (by kernel_rfl) (by kernel_rfl) (fun _ _ _ h => h) (Or.inl ⟨by rfl, ?_⟩) (by assumption) ?_
          rotate_left
          · intro w hSw
            try dsimp only at hSw
            go_simp
            try with_reducible rfl
          try simp only [Act.put, List.setIfInBounds_toArray, List.set_cons_zero, List.set_cons_succ]
          refine wpAnyH_take (i := 1) (oi := o13_1) (v := ?_) rfl (by kernel_rfl) (by kernel_rfl) (by kernel_rfl) (fun _ _ _ h => h) (Or.inl ⟨by rfl, ?_⟩) (by assumption) ?_
          rotate_left
          · intro w hSw
            try dsimp only at hSw
            go_simp
            try with_reducible rfl
          try simp only [Act.put, List.setIfInBounds_toArray, List.set_cons_zero, List.set_cons_succ]
          refine wpAnyH_take (i := 5) (oi := o13_5) (v := ?_) rfl (by kernel_rfl) (by kernel_rfl) (by kernel_rfl) (fun _ _ _ h => h) (Or.inl ⟨by rfl, ?_⟩) (by assumption) ?_
          rotate_left
          · intro w hSw
            try dsimp only at hSw
            go_simp
            try with_reducible rfl
          try simp only [Act.put, List.setIfInBounds_toArray, List.set_cons_zero, List.set_cons_succ]
          refine wpAnyH_take (i := 6) (oi := o13_6) (v := ?_) rfl (by kernel_rfl) (by kernel_rfl) (by kernel_rfl) (fun _ _ _ h => h) (Or.inl ⟨by rfl, ?_⟩) (by assumption) ?_
          rotate_left
          · intro w hSw
            try dsimp only at hSw
            go_simp
            try with_reducible rfl
          try simp only [Act.put, List.setIfInBounds_toArray, List.set_cons_zero, List.set_cons_succ]
          refine wpAnyH_take (i := 2) (oi := o13_2) (v := ?_) rfl (by kernel_rfl) (by kernel_rfl) (by kernel_rfl) (fun _ _ _ h => h) (Or.inl ⟨by rfl, ?_⟩) (by assumption) ?_
          rotate_left
          · intro w hSw
            try dsimp only at hSw
            go_simp
            try with_reducible rfl
          try simp only [Act.put, List.setIfInBounds_toArray, List.set_cons_zero, List.set_cons_succ]
          refine wpAnyH_take (i := 7) (oi := o13_7) (v := ?_) rfl (by kernel_rfl) (by kernel_rfl) (by kernel_rfl) (fun _ _ _ h => h) (Or.inl ⟨by rfl, ?_⟩) (by assumption) ?_
          rotate_left
          · intro w hSw
            try dsimp only at hSw
            go_simp
            try with_reducible rfl
          try simp only [Act.put, List.setIfInBounds_toArray, List.set_cons_zero, List.set_cons_succ]
          refine wpAnyH_take (i := 3) (oi := o13_3) (v := ?_) rfl (by kernel_rfl) (by kernel_rfl) (by kernel_rfl) (fun _ _ _ h => h) (Or.inl ⟨by rfl, ?_⟩) (by assumption) ?_
          rotate_left
          · intro w hSw
            try dsimp only at hSw
            go_simp
            try with_reducible rfl
          try simp only [Act.put, List.setIfInBounds_toArray, List.set_cons_zero, List.set_cons_succ]
          refine wpAnyH_take (i := 8) (oi := o13_8) (v := ?_) rfl (by kernel_rfl) (by kernel_rfl) (by kernel_rfl) (fun _ _ _ h => h) (Or.inl ⟨by rfl, ?_⟩) (by assumption) ?_
          rotate_left
          · intro w hSw
            try dsimp only at hSw
            go_simp
            try with_reducible rfl
          try simp only [Act.put, List.setIfInBounds_toArray, List.set_cons_zero, List.set_cons_succ]
          refine wpAnyH_take (i := 4) (oi := o13_4) (v := ?_) rfl (by kernel_rfl) (by kernel_rfl) (by kernel_rfl) (fun _ _ _ h => h) (Or.inl ⟨by rfl, ?_⟩) (by assumption) ?_
          rotate_left
          · intro w hSw
            try dsimp only at hSw
            go_simp
            try with_reducible rfl
          try simp only [Act.put, List.setIfInBounds_toArray, List.set_cons_zero, List.set_cons_succ]
          refine wpAnyH_take (i := 9) (oi := o13_9) (v := ?_) rfl (by kernel_rfl) (by kernel_rfl) (by kernel_rfl) (fun _ _ _ h => h) (Or.inl ⟨by rfl, ?_⟩) (by assumption) ?_
          rotate_left
          · intro w hSw
            try dsimp only at hSw
            go_simp
            try with_reducible rfl
          try simp only [Act.put, List.setIfInBounds_toArray, List.set_cons_zero, List.set_cons_succ]
          refine wpAnyH_take (i := 10) (oi := o13_10) (v := ?_) rfl (by kernel_rfl) (by kernel_rfl) (by kernel_rfl) (fun _ _ _ h => h) (Or.inl ⟨by rfl, ?_⟩) (by assumption) ?_
          rotate_left
          · intro w hSw
            try dsimp only at hSw
            go_simp
            try with_reducible rfl
          try simp only [Act.put, List.setIfInBounds_toArray, List.set_cons_zero, List.set_cons_succ]
          refine wpAnyH_take (i := 11) (oi := o13_11) (v := ?_) rfl (by kernel_rfl) (by kernel_rfl) (by kernel_rfl) (fun _ _ _ h => h) (Or.inl ⟨by rfl, ?_⟩) (by assumption) ?_
          rotate_left
          · intro w hSw
            try dsimp only at hSw
            go_simp
            try with_reducible rfl
          try simp only [Act.put, List.setIfInBounds_toArray, List.set_cons_zero, List.set_cons_succ]
          refine wpAnyH_take (i := 12) (oi := o13_12) (v := ?_) rfl (by kernel_rfl) (by kernel_rfl) (by kernel_rfl) (fun _ _ _ h => h) (Or.inl ⟨by rfl, ?_⟩) (by assumption) ?_
          rotate_left
          · intro w hSw
            try dsimp only at hSw
            go_simp
            try with_reducible rfl
          try simp only [Act.put, List.setIfInBounds_toArray, List.set_cons_zero, List.set_cons_succ]
          refine wpAnyH_take (i := 13) (oi := o13_13) (v := ?_) rfl (by kernel_rfl) (by kernel_rfl) (by kernel_rfl) (fun _ _ _ h => h) (Or.inl ⟨by rfl, ?_⟩) (by assumption) ?_
          rotate_left
          · intro w hSw
            try dsimp only at hSw
            go_simp
            try with_reducible rfl
          try simp only [Act.put, List.setIfInBounds_toArray, List.set_cons_zero, List.set_cons_succ]
          refine wpAnyH_take (i := 17) (oi := o13_17) (v := ?_) rfl (by kernel_rfl) (by kernel_rfl) (by kernel_rfl) (fun _ _ _ h => h) (Or.inl ⟨by rfl, ?_⟩) (by assumption) ?_
          rotate_left
          · intro w hSw
            try dsimp only at hSw
            go_simp
            try with_reducible rfl
          try simp only [Act.put, List.setIfInBounds_toArray, List.set_cons_zero, List.set_cons_succ]
          refine wpAnyH_take (i := 18) (oi := o13_18) (v := ?_) rfl (by kernel_rfl) (by kernel_rfl) (by kernel_rfl) (fun _ _ _ h => h) (Or.inl ⟨by rfl, ?_⟩) (by assumption) ?_
          rotate_left
          · intro w hSw
            try dsimp only at hSw
            go_simp
            try with_reducible rfl
          try simp only [Act.put, List.setIfInBounds_toArray, List.set_cons_zero, List.set_cons_succ]
          refine wpAnyH_take (i := 14) (oi := o13_14) (v := ?_) rfl (by kernel_rfl) (by kernel_rfl) (by kernel_rfl) (fun _ _ _ h => h) (Or.inl ⟨by rfl, ?_⟩) (by assumption) ?_
          rotate_left
          · intro w hSw
            try dsimp only at hSw
            go_simp
            try with_reducible rfl
          try simp only [Act.put, List.setIfInBounds_toArray, List.set_cons_zero, List.set_cons_succ]
          refine wpAnyH_take (i := 19) (oi := o13_19) (v := ?_) rfl (by kernel_rfl) (by kernel_rfl) (by kernel_rfl) (fun _ _ _ h => h) (Or.inl ⟨by rfl, ?_⟩) (by assumption) ?_
          rotate_left
          · intro w hSw
            try dsimp only at hSw
            go_simp
            try with_reducible rfl
          try simp only [Act.put, List.setIfInBounds_toArray, List.set_cons_zero, List.set_cons_succ]
          refine wpAnyH_take (i := 15) (oi := o13_15) (v := ?_) rfl (by kernel_rfl) (by kernel_rfl) (by kernel_rfl) (fun _ _ _ h => h) (Or.inl ⟨by rfl, ?_⟩) (by assumption) ?_
          rotate_left
          · intro w hSw
            try dsimp only at hSw
            go_simp
            try with_reducible rfl
          try simp only [Act.put, List.setIfInBounds_toArray, List.set_cons_zero, List.set_cons_succ]
          refine wpAnyH_take (i := 20) (oi := o13_20) (v := ?_) rfl (by kernel_rfl) (by kernel_rfl) (by kernel_rfl) (fun _ _ _ h => h) (Or.inl ⟨by rfl, ?_⟩) (by assumption) ?_
          rotate_left
          · intro w hSw
            try dsimp only at hSw
            go_simp
            try with_reducible rfl
          try simp only [Act.put, List.setIfInBounds_toArray, List.set_cons_zero, List.set_cons_succ]
          refine wpAnyH_take (i := 16) (oi := o13_16) (v := ?_) rfl (by kernel_rfl) (by kernel_rfl) (by kernel_rfl) (fun _ _ _ h => h) (Or.inl ⟨by rfl, ?_⟩) (by assumption) ?_
          rotate_left
          · intro w hSw
            try dsimp only at hSw
            go_simp
            try with_reducible rfl
          try simp only [Act.put, List.setIfInBounds_toArray, List.set_cons_zero, List.set_cons_succ]
          refine wpAnyH_take (i := 21) (oi := o13_21) (v := ?_) rfl (by kernel_rfl) (by kernel_rfl) (by kernel_rfl) (fun _ _ _ h => h) (Or.inl ⟨by rfl, ?_⟩) (by assumption) ?_
          rotate_left
          · intro w hSw
            try dsimp only at hSw
            go_simp
            try with_reducible rfl
          try simp only [Act.put, List.setIfInBounds_toArray, List.set_cons_zero, List.set_cons_succ]
          refine wpAnyH_take (i := 22) (oi := o13_22) (v := ?_) rfl (by kernel_rfl) (by kernel_rfl) (by kernel_rfl) (fun _ _ _ h => h) (Or.inl ⟨by rfl, ?_⟩) (by assumption) ?_
          rotate_left
          · intro w hSw
            try dsimp only at hSw
            go_simp
            try with_reducible rfl
          try simp only [Act.put, List.setIfInBounds_toArray, List.set_cons_zero, List.set_cons_succ]
          refine wpAnyH_take (i := 23) (oi := o13_23) (v := ?_) rfl (by kernel_rfl) (by kernel_rfl) (by kernel_rfl) (fun _ _ _ h => h) (Or.inl ⟨by rfl, ?_⟩) (by assumption) ?_
          rotate_left
          · intro w hSw
            try dsimp only at hSw
            go_simp
            try with_reducible rfl
          try simp only [Act.put, List.setIfInBounds_toArray, List.set_cons_zero, List.set_cons_succ]
          refine wpAnyH_take (i := 24) (oi := o13_24) (v := ?_) rfl (by kernel_rfl) (by kernel_rfl) (by kernel_rfl) (fun _ _ _ h => h) (Or.inl ⟨by rfl, ?_⟩) (by assumption) ?_
          rotate_left
          · intro w hSw
            try dsimp only at hSw
            go_simp
            try with_reducible rfl
          try simp only [Act.put, List.setIfInBounds_toArray, List.set_cons_zero, List.set_cons_succ]
          refine wpAnyH_take (i := 25) (oi := o13_25) (v := ?_) rfl (by kernel_rfl) (by kernel_rfl) (by kernel_rfl) (fun _ _ _ h => h) (Or.inl ⟨by rfl, ?_⟩) (by assumption) ?_
          rotate_left
          · intro w hSw
            try dsimp only at hSw
            go_simp
            try with_reducible rfl
          try simp only [Act.put, List.setIfInBounds_toArray, List.set_cons_zero, List.set_cons_succ]
          refine wpAnyH_take (i := 26) (oi := o13_26) (v := ?_) rfl (by kernel_rfl) (by kernel_rfl) (by kernel_rfl) (fun _ _ _ h => h) (Or.inl ⟨by rfl, ?_⟩) (by assumption) ?_
          rotate_left
          · intro w hSw
            try dsimp only at hSw
            go_simp
            try with_reducible rfl
          try simp only [Act.put, List.setIfInBounds_toArray, List.set_cons_zero, List.set_cons_succ]
          refine wpAnyH_take (i := 30) (oi := o13_30) (v := ?_) rfl (by kernel_rfl) (by kernel_rfl) (by kernel_rfl) (fun _ _ _ h => h) (Or.inl ⟨by rfl, ?_⟩) (by assumption) ?_
          rotate_left
          · intro w hSw
            try dsimp only at hSw
            go_simp
            try with_reducible rfl
          try simp only [Act.put, List.setIfInBounds_toArray, List.set_cons_zero, List.set_cons_succ]
          refine wpAnyH_take (i := 31) (oi := o13_31) (v := ?_) rfl (by kernel_rfl) (by kernel_rfl) (by kernel_rfl) (fun _ _ _ h => h) (Or.inl ⟨by rfl, ?_⟩) (by assumption) ?_
          rotate_left
          · intro w hSw
            try dsimp only at hSw
            go_simp
            try with_reducible rfl
          try simp only [Act.put, List.setIfInBounds_toArray, List.set_cons_zero, List.set_cons_succ]
          refine wpAnyH_take (i := 32) (oi := o13_32) (v := ?_) rfl (by kernel_rfl) (by kernel_rfl) (by kernel_rfl) (fun _ _ _ h => h) (Or.inl ⟨by rfl, ?_⟩) (by assumption) ?_
          rotate_left
          · intro w hSw
            try dsimp only at hSw
            go_simp
            try with_reducible rfl
          try simp only [Act.put, List.setIfInBounds_toArray, List.set_cons_zero, List.set_cons_succ]
          refine wpAnyH_take (i := 27) (oi := o13_27) (v := ?_) rfl (by kernel_rfl) (by kernel_rfl) (by kernel_rfl) (fun _ _ _ h => h) (Or.inl ⟨by rfl, ?_⟩) (by assumption) ?_
          rotate_left
          · intro w hSw
            try dsimp only at hSw
            go_simp
            try with_reducible rfl
          try simp only [Act.put, List.setIfInBounds_toArray, List.set_cons_zero, List.set_cons_succ]
          refine wpAnyH_take (i := 33) (oi := o13_33) (v := ?_) rfl (by kernel_rfl) (by kernel_rfl) (by kernel_rfl) (fun _ _ _ h => h) (Or.inl ⟨by rfl, ?_⟩) (by assumption) ?_
          rotate_left
          · intro w hSw
            try dsimp only at hSw
            go_simp
            try with_reducible rfl
          try simp only [Act.put, List.setIfInBounds_toArray, List.set_cons_zero, List.set_cons_succ]
          refine wpAnyH_take (i := 28) (oi := o13_28) (v := ?_) rfl (by kernel_rfl) (by kernel_rfl) (by kernel_rfl) (fun _ _ _ h => h) (Or.inl ⟨by rfl, ?_⟩) (by assumption) ?_
          rotate_left
          · intro w hSw
            try dsimp only at hSw
            go_simp
            try with_reducible rfl
          try simp only [Act.put, List.setIfInBounds_toArray, List.set_cons_zero, List.set_cons_succ]
          refine wpAnyH_take (i := 34) (oi := o13_34) (v := ?_) rfl (by kernel_rfl) (by kernel_rfl) (by kernel_rfl) (fun _ _ _ h => h) (Or.inl ⟨by rfl, ?_⟩) (by assumption) ?_
          rotate_left
          · intro w hSw
            try dsimp only at hSw
            go_simp
            try with_reducible rfl
          try simp only [Act.put, List.setIfInBounds_toArray, List.set_cons_zero, List.set_cons_succ]
          refine wpAnyH_take (i := 29) (oi := o13_29) (v := ?_) rfl (by kernel_rfl) (by kernel_rfl) (by kernel_rfl) (fun _ _ _ h => h) (Or.inl ⟨by rfl, ?_⟩) (by assumption) ?_
          rotate_left
          · intro w hSw
            try dsimp only at hSw
            go_simp
            try with_reducible rfl
          try simp only [Act.put, List.setIfInBounds_toArray, List.set_cons_zero, List.set_cons_succ]
          refine wpAnyH_take (i := 35) (oi := o13_35) (v := ?_) rfl (by kernel_rfl) (by kernel_rfl) (by kernel_rfl) (fun _ _ _ h => h) (Or.inl ⟨by rfl, ?_⟩) (by assumption) ?_
          rotate_left
          · intro w hSw
            try dsimp only at hSw
            go_simp
            try with_reducible rfl
          try simp only [Act.put, List.setIfInBounds_toArray, List.set_cons_zero, List.set_cons_succ]
          refine wpAnyH_take (i := 36) (oi := o13_36) (v := ?_) rfl (by kernel_rfl) (by kernel_rfl) (by kernel_rfl) (fun _ _ _ h => h) (Or.inl ⟨by rfl, ?_⟩) (by assumption) ?_
          rotate_left
          · intro w hSw
            try dsimp only at hSw
            go_simp
            try with_reducible rfl
          try simp only [Act.put, List.setIfInBounds_toArray, List.set_cons_zero, List.set_cons_succ]
          refine wpAnyH_ready (rs := [37]) (by kernel_rfl) (by simp) ?_
          refine AllReadyH.cons (o := o13_37) rfl (fun K hK => ?_) AllReadyH.nil
          go_simp
          refine (TX2.out _ (hHeld.2.2.2.2.2.2)).mono ?_
          rintro e v1 ⟨rfl, hb1⟩
          have HBx := Lib.hid (bstep hHeld.2.2.2.2.2.2 hb1)
          clear hHeld hb1
          refine hK.out _ _ ?_ (fun hHeld => ?_)
          · exact (km6 CV (HBx.out))
          clear hK K HBx
          try simp only [Act.put, List.setIfInBounds_toArray, List.set_cons_zero, List.set_cons_succ]
          refine wpAnyH_take (i := 38) (oi := o13_38) (v := ?_) rfl (by kernel_rfl) (by kernel_rfl) (by kernel_rfl) (fun _ _ _ h => h) (Or.inl ⟨by rfl, ?_⟩) (by assumption) ?_
          rotate_left
          · intro w hSw
            try dsimp only at hSw
            go_simp
            try with_reducible rfl
          try simp only [Act.put, List.setIfInBounds_toArray, List.set_cons_zero, List.set_cons_succ]
          refine wpAnyH_take (i := 39) (oi := o13_39) (v := ?_) rfl (by kernel_rfl) (by kernel_rfl) (by kernel_rfl) (fun _ _ _ h => h) (Or.inl ⟨by rfl, ?_⟩) (by assumption) ?_
          rotate_left
          · intro w hSw
            try dsimp only at hSw
            go_simp
            try with_reducible rfl
          try simp only [Act.put, List.setIfInBounds_toArray, List.set_cons_zero, List.set_cons_succ]
          refine wpAnyH_take (i := 40) (oi := o13_40) (v := ?_) rfl (by kernel_rfl) (by kernel_rfl) (by kernel_rfl) (fun _ _ _ h => h) (Or.inl ⟨by rfl, ?_⟩) (by assumption) ?_
          rotate_left
          · intro w hSw
            try dsimp only at hSw
            go_simp
            try with_reducible rfl
          try simp only [Act.put, List.setIfInBounds_toArray, List.set_cons_zero, List.set_cons_succ]
          refine wpAnyH_done (by kernel_rfl) ?_ _
          go_wp2
          go_roundg (ts.length - (kk + 1))
          case measure => omega
          case rel => exact ⟨kk + 1, by omega, by go_num, Lib.hid (bstep HB'.out hHeld.2.2.2.2.2.2)⟩
        · go_wp2
          go_ret
          exact ⟨rfl, bstep BB.out HB.out⟩
end Go.Proofs.YtfelcneedpndiaaGreatDoor

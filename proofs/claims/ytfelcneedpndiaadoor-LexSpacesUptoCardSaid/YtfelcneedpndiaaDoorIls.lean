/-
  LexSpaces walked (layer 16).
-/
import Derived.Test.YtfelcneedpndiaaDoorIlw
import Derived.Test.YtfelcneedpndiaaDoorIld
namespace Go.Proofs.YtfelcneedpndiaaDoor
open Go.RowKit Go.Lib
abbrev q22_0 : Oper := { dst := some 96, op := Op.move (Operand.tmp 13), type := 23, pos := "law.go:103", after := #[], guard := none }
abbrev q22_1 : Oper := { dst := some 97, op := Op.move (Operand.tmp 15), type := 3, pos := "law.go:103", after := #[], guard := none }
abbrev q22_2 : Oper := { dst := some 98, op := Op.indexAddr 23 (Operand.tmp 96) (Operand.tmp 97), type := 0, pos := "law.go:103", after := #[{ on := 0, ground := Ground.data }, { on := 1, ground := Ground.data }], guard := none }
abbrev q22_3 : Oper := { dst := some 99, op := Op.fieldAddr 28 (Operand.tmp 98) 0, type := 0, pos := "law.go:103", after := #[{ on := 2, ground := Ground.data }], guard := none }
abbrev q22_4 : Oper := { dst := some 100, op := Op.load 26 (Operand.tmp 99), type := 26, pos := "law.go:103", after := #[{ on := 3, ground := Ground.data }], guard := none }
abbrev q22_5 : Oper := { dst := some 101, op := Op.fieldAddr 28 (Operand.tmp 16) 0, type := 0, pos := "law.go:103", after := #[], guard := none }
abbrev q22_6 : Oper := { dst := some 102, op := Op.load 26 (Operand.tmp 101), type := 26, pos := "law.go:103", after := #[{ on := 5, ground := Ground.data }], guard := none }
abbrev q22_7 : Oper := { dst := some 103, op := Op.binOp BinOp.neq 26 (Operand.tmp 100) (Operand.tmp 102) 26, type := 4, pos := "law.go:103", after := #[{ on := 4, ground := Ground.data }, { on := 6, ground := Ground.data }], guard := none }
abbrev q22_8 : Oper := { dst := some 104, op := Op.move (Operand.tmp 103), type := 4, pos := "law.go:103", after := #[{ on := 7, ground := Ground.data }], guard := none }
abbrev q22_9 : Oper := { dst := some 105, op := Op.move (Operand.tmp 13), type := 23, pos := "law.go:103", after := #[{ on := 8, ground := Ground.guard }], guard := some (8, false) }
abbrev q22_10 : Oper := { dst := some 106, op := Op.move (Operand.tmp 15), type := 3, pos := "law.go:103", after := #[{ on := 8, ground := Ground.guard }], guard := some (8, false) }
abbrev q22_11 : Oper := { dst := some 107, op := Op.indexAddr 23 (Operand.tmp 105) (Operand.tmp 106), type := 0, pos := "law.go:103", after := #[{ on := 9, ground := Ground.data }, { on := 10, ground := Ground.data }, { on := 8, ground := Ground.guard }], guard := some (8, false) }
abbrev q22_12 : Oper := { dst := some 108, op := Op.fieldAddr 28 (Operand.tmp 107) 1, type := 0, pos := "law.go:103", after := #[{ on := 11, ground := Ground.data }, { on := 8, ground := Ground.guard }], guard := some (8, false) }
abbrev q22_13 : Oper := { dst := some 109, op := Op.load 9 (Operand.tmp 108), type := 9, pos := "law.go:103", after := #[{ on := 12, ground := Ground.data }, { on := 8, ground := Ground.guard }], guard := some (8, false) }
abbrev q22_14 : Oper := { dst := some 110, op := Op.fieldAddr 28 (Operand.tmp 16) 1, type := 0, pos := "law.go:103", after := #[{ on := 8, ground := Ground.guard }], guard := some (8, false) }
abbrev q22_15 : Oper := { dst := some 111, op := Op.load 9 (Operand.tmp 110), type := 9, pos := "law.go:103", after := #[{ on := 14, ground := Ground.data }, { on := 8, ground := Ground.guard }], guard := some (8, false) }
abbrev q22_16 : Oper := { dst := some 112, op := Op.binOp BinOp.neq 9 (Operand.tmp 109) (Operand.tmp 111) 9, type := 4, pos := "law.go:103", after := #[{ on := 13, ground := Ground.data }, { on := 15, ground := Ground.data }, { on := 8, ground := Ground.guard }], guard := some (8, false) }
abbrev q22_17 : Oper := { dst := some 113, op := Op.pick (Operand.tmp 104) (Operand.const (Value.bool true)) (Operand.tmp 112), type := 4, pos := "law.go:103", after := #[{ on := 8, ground := Ground.data }, { on := 16, ground := Ground.data }], guard := none }
theorem km4s {V w' : World} {bt g o kk : Nat} {kd : Nat} {X : ByteArray} (q : V.cell? ⟨bt, 0, none⟩ = some (.int .i64 (kd : Int)) ∧ V.cell? ⟨bt, 1, none⟩ = some (.string X) ∧ V.cell? ⟨g, o + kk * 3, none⟩ = some (.int .i64 (kd : Int)) ∧ V.cell? ⟨g, o + kk * 3 + 1, none⟩ = some (.string X)) (hb : Below V.heap.size V w') : w'.cell? ⟨bt, 0, none⟩ = some (.int .i64 (kd : Int)) ∧ w'.cell? ⟨bt, 1, none⟩ = some (.string X) ∧ w'.cell? ⟨g, o + kk * 3, none⟩ = some (.int .i64 (kd : Int)) ∧ w'.cell? ⟨g, o + kk * 3 + 1, none⟩ = some (.string X) ∧ Below V.heap.size V w' :=
  ⟨cell_belowI q.1 hb, cell_belowI q.2.1 hb, cell_belowI q.2.2.1 hb, cell_belowI q.2.2.2 hb, hb⟩
theorem gapN_succ (n : Nat) : enc (gapN (n + 1)) = enc (gapN n) ++ [32] := by
  have e : gapN (n + 1) = gapN n ++ [32] := by unfold gapN; rw [List.replicate_succ', List.append_assoc]
  rw [e, enc_append]
  rfl
theorem gapN_len (n : Nat) (h : n ≤ 4) : (enc (gapN n)).length ≤ 80 := by
  have a := (enc_length_le (gapN n)).2
  have b : (gapN n).length = 15 + n := by unfold gapN; simp; omega
  omega
theorem gapN_vr (n : Nat) : Vrs (gapN n) := by
  intro x hx
  unfold gapN at hx
  rcases List.mem_append.1 hx with hx | hx
  · simp at hx
    unfold Vr
    omega
  · obtain rfl : x = 32 := List.eq_of_mem_replicate hx
    exact .inl (by decide)
theorem ktL_at {ts : List (Nat × List Nat × Nat)} {us : List (Nat × List Nat)} (h : ktL ts = us) (i : Nat) : us[i]? = (ts[i]?).map fun t => (t.1, t.2.1) := by
  rw [← h]
  unfold ktL
  rw [List.getElem?_map]
theorem vrs_app {A B : List Nat} (h : Vrs A) (k : Vrs B) : Vrs (A ++ B) := fun r hr => (List.mem_append.1 hr).elim (h r) (k r)
set_option linter.unusedVariables false in
set_option linter.unusedSimpArgs false in
set_option maxRecDepth 100000 in
set_option maxHeartbeats 16000000 in
theorem lex_spaces (a b : ByteArray) (nv : Nat) (hn : nv < 256) (w : World) (ha : a.size ≤ 1048576) (hb : b.size ≤ 1048576) (hTb : Tab16 w) : Calls Tryd.prog 5 #[.string a, .string b, .int .u8 (nv : Int)] w (Ret (.bool true) w) := by
  have LA := Lib.hid (fun W (hW : Below w.heap.size w W) => ltokens_any a (by omega) W (hTb.below hW))
  have LB := Lib.hid (fun W (hW : Below w.heap.size w W) => ltokens_any b (by omega) W (hTb.below hW))
  cases hA : lexS a with
  | none =>
    have HA := Lib.hid hA
    go_enter Tryd.func5, Tryd.ntmps5
    go_wp2_with (first
      | (go_at_call 7; (with_reducible refine (awake16 _ hTb).mono ?_); rintro e w1 ⟨rfl, b1⟩))
    refine (LA.out _ b1).mono ?_
    rintro e w2 hx
    obtain ⟨he, b2⟩ := retlex_no HA.out hx
    subst he
    clear hx
    go_wp2_with fail
    refine (LB.out _ (bstep b1 b2)).mono ?_
    rintro e w3 ⟨v3, ok3, rfl, b3, -⟩
    go_wp2
    go_ret
    exact ⟨rfl, bstep (bstep b1 b2) b3⟩
  | some xs =>
    have HA := Lib.hid hA
    cases hB : lexS b with
    | none =>
      have HB := Lib.hid hB
      go_enter Tryd.func5, Tryd.ntmps5
      go_wp2_with (first
        | (go_at_call 7; (with_reducible refine (awake16 _ hTb).mono ?_); rintro e w1 ⟨rfl, b1⟩))
      refine (LA.out _ b1).mono ?_
      rintro e w2 hx
      obtain ⟨v2, he, b2, -⟩ := retlex_yes HA.out hx
      subst he
      clear hx
      go_wp2_with fail
      refine (LB.out _ (bstep b1 b2)).mono ?_
      rintro e w3 hx
      obtain ⟨he, b3⟩ := retlex_no HB.out hx
      subst he
      clear hx
      go_wp2
      go_ret
      exact ⟨rfl, bstep (bstep b1 b2) b3⟩
    | some ys =>
      have HB := Lib.hid hB
      obtain ⟨m, hm⟩ : ∃ m, m = nv % 4 := ⟨_, rfl⟩
      have m4 : m < 4 := by omega
      have rem : Int.tmod (nv : Int) 4 = (m : Int) := by rw [hm]; rfl
      obtain ⟨tA, eA⟩ := lexS_some hA
      obtain ⟨tB, eB⟩ := lexS_some hB
      have lA := rnS_le a
      have lB := rnS_le b
      have nA := tok_len tA
      have nB := tok_len tB
      have vA : Vrs (rnS a) := rn_vr _
      have vB : Vrs (rnS b) := rn_vr _
      obtain ⟨us, vs, hu, hv, hz⟩ := spaces_same m (rnS a) (rnS b) (ktL xs) (ktL ys) (by unfold ktS; rw [tA]; rfl) (by unfold ktS; rw [tB]; rfl)
      obtain ⟨Z, hZ⟩ : ∃ Z, Z = gapN m ++ rnS a ++ [10] ++ gapN m ++ rnS b ++ gapN m := ⟨_, rfl⟩
      rw [← hZ] at hz
      have vZ : Vrs Z := by
        rw [hZ]
        exact vrs_app (vrs_app (vrs_app (vrs_app (vrs_app (gapN_vr m) vA) (fun r hr => .inl (by have : r = 10 := by simpa using hr
                                                                                                omega))) (gapN_vr m)) vB) (gapN_vr m)
      obtain ⟨zs, tZ, kZ⟩ : ∃ zs, tokS Z = some zs ∧ ktL zs = us ++ (vs ++ [(0, [])]) := by
        unfold ktS at hz
        cases q : tokS Z with
        | none => rw [q] at hz; cases hz
        | some zs => rw [q] at hz; exact ⟨zs, rfl, by injection hz⟩
      have lz : zs.length + 1 = xs.length + ys.length := by
        have e1 := congrArg List.length kZ
        have e2 := congrArg List.length hu
        have e3 := congrArg List.length hv
        simp [ktL] at e1 e2 e3
        omega
      have xl : us.length + 1 = xs.length := by
        have e2 := congrArg List.length hu
        simp [ktL] at e2
        omega
      have yl : vs.length + 1 = ys.length := by
        have e3 := congrArg List.length hv
        simp [ktL] at e3
        omega
      have gl := gapN_len m (by omega)
      have CAT : ((((((⟨(enc (gapN m)).toArray⟩ : ByteArray) ++ a) ++ ⟨#[10]⟩) ++ ⟨(enc (gapN m)).toArray⟩) ++ b) ++ ⟨(enc (gapN m)).toArray⟩) = ⟨(enc Z).toArray⟩ := by
        have q : ∀ x y : ByteArray, x = ⟨(enc (rnS a)).toArray⟩ → y = ⟨(enc (rnS b)).toArray⟩ → ((((((⟨(enc (gapN m)).toArray⟩ : ByteArray) ++ x) ++ ⟨#[10]⟩) ++ ⟨(enc (gapN m)).toArray⟩) ++ y) ++ ⟨(enc (gapN m)).toArray⟩) = ⟨(enc Z).toArray⟩ := by
          intro x y hx hy
          rw [hx, hy, show (⟨#[10]⟩ : ByteArray) = ⟨(enc [10]).toArray⟩ from rfl]
          simp only [appI, ← enc_append]
          rw [hZ]
        exact q a b eA eB
      have zZ : (enc Z).length < 4294967281 := by
        have e := congrArg ByteArray.size CAT
        have sz2 : ∀ S T : ByteArray, (S ++ T).size = S.size + T.size := fun S T => by
          show (S ++ T).data.size = _
          rw [ByteArray.data_append, Array.size_append]
          rfl
        have t10 : (⟨#[10]⟩ : ByteArray).size = 1 := rfl
        have gsz : (⟨(enc (gapN m)).toArray⟩ : ByteArray).size = (enc (gapN m)).length := sizeI _
        have zsz : (⟨(enc Z).toArray⟩ : ByteArray).size = (enc Z).length := sizeI _
        rw [sz2, sz2, sz2, sz2, sz2, t10, gsz, zsz] at e
        omega
      have LZ := Lib.hid (fun W (hW : Below w.heap.size w W) => (ltokens_any ⟨(enc Z).toArray⟩ (by rw [sizeI]; exact zZ) W (hTb.below hW)).mono fun e w' h => retlex_yes ((lexS_enc vZ).1.trans tZ) h)
      have gz := gl
      have CATh := Lib.hid CAT
      have KZ := Lib.hid kZ
      have HU := Lib.hid hu
      have HVs := Lib.hid hv
      have TZ := Lib.hid (tok_len tZ)
      have HM := Lib.hid hm
      clear hA hB tA tB eA eB vA vB hZ hz vZ tZ kZ hu hv CAT hm
      go_enter Tryd.func5, Tryd.ntmps5
      go_wp2_with (first
        | (go_at_call 7; (with_reducible refine (awake16 _ hTb).mono ?_); rintro e w1 ⟨rfl, b1⟩))
      refine (LA.out _ b1).mono ?_
      rintro e w2 hx
      obtain ⟨v2, he, b2, x2⟩ := retlex_yes HA.out hx
      subst he
      clear hx
      obtain ⟨A2, c2, hv2, c2a, c2b⟩ := x2.sl
      subst hv2
      have XA := Lib.hid x2
      clear x2
      go_wp2_with fail
      refine (LB.out _ (bstep b1 b2)).mono ?_
      rintro e w3 hx
      obtain ⟨v3, he, b3, x3⟩ := retlex_yes HB.out hx
      subst he
      clear hx
      obtain ⟨A3, c3, hv3, c3a, c3b⟩ := x3.sl
      subst hv3
      have YB := Lib.hid x3
      clear x3
      have XA3 := Lib.hid (XA.out.below b3)
      have B3 := Lib.hid (bstep (bstep b1 b2) b3)
      clear b1 b2 b3 XA
      go_wp2_with fail
      go_loopg [11, 12] m (fun gg s i wr => ∃ kk : Nat, w3 = wr ∧ kk + gg = m ∧ s = .string ⟨(enc (gapN kk)).toArray⟩ ∧ i = .int .i64 (kk : Int))
      case atStart => exact ⟨0, rfl, by omega, rfl, rfl⟩
      case round =>
        obtain ⟨kk, rfl, hkk, rfl, rfl⟩ := hrel
        by_cases hlt : kk < m
        · have gk4 := gapN_len kk (by omega)
          have SU := Lib.hid (gapN_succ kk)
          have HLT := Lib.hid hlt
          generalize enc (gapN kk) = G at *
          go_wp2
          go_roundg (m - (kk + 1))
          case measure => have := HLT.out; omega
          case rel => exact ⟨kk + 1, rfl, by have := HLT.out; omega, by rw [SU.out, show (⟨#[32]⟩ : ByteArray) = ⟨[32].toArray⟩ from rfl, appI], by go_num⟩
        · obtain rfl : kk = m := by omega
          go_wp2_with fail
          rw [CATh.out]
          refine (LZ.out _ B3.out).mono ?_
          rintro e w5 ⟨v5, rfl, b5, x5⟩
          obtain ⟨A5, c5, hv5, c5a, c5b⟩ := x5.sl
          subst hv5
          have ZZ := Lib.hid x5
          have XA5 := Lib.hid (XA3.out.below b5)
          have YB5 := Lib.hid (YB.out.below b5)
          have B5 := Lib.hid (bstep B3.out b5)
          have tz := TZ.out
          clear x5 b5 XA3 YB B3 TZ
          obtain ⟨p, hp⟩ : ∃ p, p = us.length := ⟨_, rfl⟩
          obtain ⟨q, hq⟩ : ∃ q, q = vs.length := ⟨_, rfl⟩
          have xp : xs.length = p + 1 := by omega
          have yq : ys.length = q + 1 := by omega
          have zpq : zs.length = p + q + 1 := by omega
          have IX := Lib.hid (show ∀ k, k < p → ∃ tz tx, zs[k]? = some tz ∧ xs[k]? = some tx ∧ tz.1 = tx.1 ∧ tz.2.1 = tx.2.1 from fun k hk => by
            have i1 : k < zs.length := by omega
            have i2 : k < xs.length := by omega
            refine ⟨zs[k], xs[k], List.getElem?_eq_getElem i1, List.getElem?_eq_getElem i2, ?_⟩
            have e1 := ktL_at KZ.out k
            have e2 := ktL_at HU.out k
            rw [List.getElem?_append_left (by omega), List.getElem?_eq_getElem (show k < us.length by omega)] at e1 e2
            rw [List.getElem?_eq_getElem i1] at e1
            rw [List.getElem?_eq_getElem i2] at e2
            have e3 := e1.symm.trans e2
            simp only [Option.map_some, Option.some.injEq, Prod.mk.injEq] at e3
            exact e3)
          have IY := Lib.hid (show ∀ k, p ≤ k → k < p + q → ∃ tz ty, zs[k]? = some tz ∧ ys[k - p]? = some ty ∧ tz.1 = ty.1 ∧ tz.2.1 = ty.2.1 from fun k hk hk2 => by
            have i1 : k < zs.length := by omega
            have i2 : k - p < ys.length := by omega
            refine ⟨zs[k], ys[k - p], List.getElem?_eq_getElem i1, List.getElem?_eq_getElem i2, ?_⟩
            have e1 := ktL_at KZ.out k
            have e2 := ktL_at HVs.out (k - p)
            rw [List.getElem?_append_right (by omega), ← hp, List.getElem?_append_left (by omega), List.getElem?_eq_getElem (show k - p < vs.length by omega)] at e1
            rw [List.getElem?_append_left (by omega), List.getElem?_eq_getElem (show k - p < vs.length by omega)] at e2
            rw [List.getElem?_eq_getElem i1] at e1
            rw [List.getElem?_eq_getElem i2] at e2
            have e3 := e1.symm.trans e2
            simp only [Option.map_some, Option.some.injEq, Prod.mk.injEq] at e3
            exact e3)
          rw [xp] at XA5 c2a ⊢
          rw [yq] at YB5 c3a ⊢
          rw [zpq] at ZZ c5a ⊢
          have pq1 : p + q ≤ 1099511627776 := by omega
          clear KZ HU HVs hp hq xp yq zpq lz xl yl nA nB lA lB zZ tz gl gz CATh
          go_wp2_with fail
          go_loopg [15] (p + q) (fun gg i wr => ∃ kk : Nat, kk + gg = p + q ∧ i = .int .i64 (kk : Int) ∧ Hid (Below w5.heap.size w5 wr))
          case atStart => exact ⟨0, by omega, rfl, Lib.hid (Below.refl _ _)⟩
          case round =>
            obtain ⟨kk, hkk, rfl, HBr⟩ := hrel
            by_cases hlt : kk < p + q
            · have HLT := Lib.hid hlt
              obtain ⟨j, hj⟩ : ∃ j, j = kk + 1 := ⟨_, rfl⟩
              have HJ := Lib.hid hj
              clear hj
              have jn : (kk : Int) < (p : Int) + (q : Int) + 1 := by omega
              have jn2 : kk < p + q + 1 := by omega
              by_cases hx : kk < p
              · obtain ⟨tz, tx, z1, z2, z3, z4⟩ := IX.out kk hx
                obtain ⟨g, o, rfl, gl, x0, x1, -⟩ := (ZZ.out.below HBr.out).tok kk tz z1
                obtain ⟨g', o', rfl, gl', y0, y1, y2⟩ := (XA5.out.below HBr.out).tok kk tx z2
                rw [z3] at x0
                rw [z4] at x1
                obtain ⟨X, hX⟩ : ∃ X : ByteArray, X = ⟨(enc tx.2.1).toArray⟩ := ⟨_, rfl⟩
                rw [← hX] at x1 y1
                obtain ⟨kd, hkd⟩ : ∃ kd, kd = tx.1 := ⟨_, rfl⟩
                rw [← hkd] at x0 y0
                clear z1 z2 z3 z4 hX hkd
                obtain ⟨P, hP⟩ : ∃ P, P = posB (rnS a) tx.2.2 := ⟨_, rfl⟩
                rw [← hP] at y2
                clear hP
                go_upto_region 22 with fail
                have TK := (HoldsTk.new rfl : HoldsTk (wr.alloc (.cells #[.int .i64 (kd : Int), .string X, .int .i64 (P : Int)] 28)) wr.heap.size (kd : Int) X (P : Int))
                have BA := ballD1 HBr.out (.cells #[.int .i64 (kd : Int), .string X, .int .i64 (P : Int)] 28)
                have x2 := cell_belowI x0 (ballD1 (Below.refl _ _) (.cells #[.int .i64 (kd : Int), .string X, .int .i64 (P : Int)] 28))
                have x3 := cell_belowI x1 (ballD1 (Below.refl _ _) (.cells #[.int .i64 (kd : Int), .string X, .int .i64 (P : Int)] 28))
                change Code.wp _ _ _ _ (wr.alloc (.cells #[.int .i64 (kd : Int), .string X, .int .i64 (P : Int)] 28))
                obtain ⟨bt, hbt⟩ : ∃ bt, bt = wr.heap.size := ⟨_, rfl⟩
                rw [← hbt] at TK ⊢
                generalize wr.alloc (.cells #[.int .i64 (kd : Int), .string X, .int .i64 (P : Int)] 28) = V at *
                have CV : V.cell? ⟨bt, 0, none⟩ = some (.int .i64 (kd : Int)) ∧ V.cell? ⟨bt, 1, none⟩ = some (.string X) ∧ V.cell? ⟨g, o + kk * 3, none⟩ = some (.int .i64 (kd : Int)) ∧ V.cell? ⟨g, o + kk * 3 + 1, none⟩ = some (.string X) := ⟨TK.1.1, TK.1.2.1, x2, x3⟩
                have BA' := Lib.hid BA
                clear TK hbt x0 x1 x2 x3 y0 y1 y2 BA HBr
                refine wp_region_held_drew (S := fun w' => w'.cell? ⟨bt, 0, none⟩ = some (.int .i64 (kd : Int)) ∧ w'.cell? ⟨bt, 1, none⟩ = some (.string X) ∧ w'.cell? ⟨g, o + kk * 3, none⟩ = some (.int .i64 (kd : Int)) ∧ w'.cell? ⟨g, o + kk * 3 + 1, none⟩ = some (.string X) ∧ Below V.heap.size V w') (by kernel_rfl) ?_ (fun hHeld => ?_)
                · exact (km4s CV ((Below.refl _ _).drew))
                refine wpAnyH_take (i := 0) (oi := q22_0) (v := ?_) rfl (by kernel_rfl) (by kernel_rfl) (by kernel_rfl) (fun _ _ _ h => h) (Or.inl ⟨by rfl, ?_⟩) (by assumption) ?_
                rotate_left
                · intro w hSw
                  try dsimp only at hSw
                  go_simp
                  try with_reducible rfl
                try simp only [Act.put, List.setIfInBounds_toArray, List.set_cons_zero, List.set_cons_succ]
                refine wpAnyH_take (i := 1) (oi := q22_1) (v := ?_) rfl (by kernel_rfl) (by kernel_rfl) (by kernel_rfl) (fun _ _ _ h => h) (Or.inl ⟨by rfl, ?_⟩) (by assumption) ?_
                rotate_left
                · intro w hSw
                  try dsimp only at hSw
                  go_simp
                  try with_reducible rfl
                try simp only [Act.put, List.setIfInBounds_toArray, List.set_cons_zero, List.set_cons_succ]
                refine wpAnyH_take (i := 5) (oi := q22_5) (v := ?_) rfl (by kernel_rfl) (by kernel_rfl) (by kernel_rfl) (fun _ _ _ h => h) (Or.inl ⟨by rfl, ?_⟩) (by assumption) ?_
                rotate_left
                · intro w hSw
                  try dsimp only at hSw
                  go_simp
                  try with_reducible rfl
                try simp only [Act.put, List.setIfInBounds_toArray, List.set_cons_zero, List.set_cons_succ]
                refine wpAnyH_take (i := 2) (oi := q22_2) (v := ?_) rfl (by kernel_rfl) (by kernel_rfl) (by kernel_rfl) (fun _ _ _ h => h) (Or.inl ⟨by rfl, ?_⟩) (by assumption) ?_
                rotate_left
                · intro w hSw
                  try dsimp only at hSw
                  go_simp
                  try with_reducible rfl
                try simp only [Act.put, List.setIfInBounds_toArray, List.set_cons_zero, List.set_cons_succ]
                refine wpAnyH_take (i := 6) (oi := q22_6) (v := ?_) rfl (by kernel_rfl) (by kernel_rfl) (by kernel_rfl) (fun _ _ _ h => h) (Or.inl ⟨by rfl, ?_⟩) (by assumption) ?_
                rotate_left
                · intro w hSw
                  try dsimp only at hSw
                  go_simp
                  try with_reducible rfl
                try simp only [Act.put, List.setIfInBounds_toArray, List.set_cons_zero, List.set_cons_succ]
                refine wpAnyH_take (i := 3) (oi := q22_3) (v := ?_) rfl (by kernel_rfl) (by kernel_rfl) (by kernel_rfl) (fun _ _ _ h => h) (Or.inl ⟨by rfl, ?_⟩) (by assumption) ?_
                rotate_left
                · intro w hSw
                  try dsimp only at hSw
                  go_simp
                  try with_reducible rfl
                try simp only [Act.put, List.setIfInBounds_toArray, List.set_cons_zero, List.set_cons_succ]
                refine wpAnyH_take (i := 4) (oi := q22_4) (v := ?_) rfl (by kernel_rfl) (by kernel_rfl) (by kernel_rfl) (fun _ _ _ h => h) (Or.inl ⟨by rfl, ?_⟩) (by assumption) ?_
                rotate_left
                · intro w hSw
                  try dsimp only at hSw
                  go_simp
                  try with_reducible rfl
                try simp only [Act.put, List.setIfInBounds_toArray, List.set_cons_zero, List.set_cons_succ]
                refine wpAnyH_take (i := 7) (oi := q22_7) (v := ?_) rfl (by kernel_rfl) (by kernel_rfl) (by kernel_rfl) (fun _ _ _ h => h) (Or.inl ⟨by rfl, ?_⟩) (by assumption) ?_
                rotate_left
                · intro w hSw
                  try dsimp only at hSw
                  go_simp
                  try with_reducible rfl
                try simp only [Act.put, List.setIfInBounds_toArray, List.set_cons_zero, List.set_cons_succ]
                refine wpAnyH_take (i := 8) (oi := q22_8) (v := ?_) rfl (by kernel_rfl) (by kernel_rfl) (by kernel_rfl) (fun _ _ _ h => h) (Or.inl ⟨by rfl, ?_⟩) (by assumption) ?_
                rotate_left
                · intro w hSw
                  try dsimp only at hSw
                  go_simp
                  try with_reducible rfl
                try simp only [Act.put, List.setIfInBounds_toArray, List.set_cons_zero, List.set_cons_succ]
                refine wpAnyH_take (i := 9) (oi := q22_9) (v := ?_) rfl (by kernel_rfl) (by kernel_rfl) (by kernel_rfl) (fun _ _ _ h => h) (Or.inl ⟨by rfl, ?_⟩) (by assumption) ?_
                rotate_left
                · intro w hSw
                  try dsimp only at hSw
                  go_simp
                  try with_reducible rfl
                try simp only [Act.put, List.setIfInBounds_toArray, List.set_cons_zero, List.set_cons_succ]
                refine wpAnyH_take (i := 10) (oi := q22_10) (v := ?_) rfl (by kernel_rfl) (by kernel_rfl) (by kernel_rfl) (fun _ _ _ h => h) (Or.inl ⟨by rfl, ?_⟩) (by assumption) ?_
                rotate_left
                · intro w hSw
                  try dsimp only at hSw
                  go_simp
                  try with_reducible rfl
                try simp only [Act.put, List.setIfInBounds_toArray, List.set_cons_zero, List.set_cons_succ]
                refine wpAnyH_take (i := 14) (oi := q22_14) (v := ?_) rfl (by kernel_rfl) (by kernel_rfl) (by kernel_rfl) (fun _ _ _ h => h) (Or.inl ⟨by rfl, ?_⟩) (by assumption) ?_
                rotate_left
                · intro w hSw
                  try dsimp only at hSw
                  go_simp
                  try with_reducible rfl
                try simp only [Act.put, List.setIfInBounds_toArray, List.set_cons_zero, List.set_cons_succ]
                refine wpAnyH_take (i := 11) (oi := q22_11) (v := ?_) rfl (by kernel_rfl) (by kernel_rfl) (by kernel_rfl) (fun _ _ _ h => h) (Or.inl ⟨by rfl, ?_⟩) (by assumption) ?_
                rotate_left
                · intro w hSw
                  try dsimp only at hSw
                  go_simp
                  try with_reducible rfl
                try simp only [Act.put, List.setIfInBounds_toArray, List.set_cons_zero, List.set_cons_succ]
                refine wpAnyH_take (i := 15) (oi := q22_15) (v := ?_) rfl (by kernel_rfl) (by kernel_rfl) (by kernel_rfl) (fun _ _ _ h => h) (Or.inl ⟨by rfl, ?_⟩) (by assumption) ?_
                rotate_left
                · intro w hSw
                  try dsimp only at hSw
                  go_simp
                  try with_reducible rfl
                try simp only [Act.put, List.setIfInBounds_toArray, List.set_cons_zero, List.set_cons_succ]
                refine wpAnyH_take (i := 12) (oi := q22_12) (v := ?_) rfl (by kernel_rfl) (by kernel_rfl) (by kernel_rfl) (fun _ _ _ h => h) (Or.inl ⟨by rfl, ?_⟩) (by assumption) ?_
                rotate_left
                · intro w hSw
                  try dsimp only at hSw
                  go_simp
                  try with_reducible rfl
                try simp only [Act.put, List.setIfInBounds_toArray, List.set_cons_zero, List.set_cons_succ]
                refine wpAnyH_take (i := 13) (oi := q22_13) (v := ?_) rfl (by kernel_rfl) (by kernel_rfl) (by kernel_rfl) (fun _ _ _ h => h) (Or.inl ⟨by rfl, ?_⟩) (by assumption) ?_
                rotate_left
                · intro w hSw
                  try dsimp only at hSw
                  go_simp
                  try with_reducible rfl
                try simp only [Act.put, List.setIfInBounds_toArray, List.set_cons_zero, List.set_cons_succ]
                refine wpAnyH_take (i := 16) (oi := q22_16) (v := ?_) rfl (by kernel_rfl) (by kernel_rfl) (by kernel_rfl) (fun _ _ _ h => h) (Or.inl ⟨by rfl, ?_⟩) (by assumption) ?_
                rotate_left
                · intro w hSw
                  try dsimp only at hSw
                  go_simp
                  try with_reducible rfl
                try simp only [Act.put, List.setIfInBounds_toArray, List.set_cons_zero, List.set_cons_succ]
                refine wpAnyH_take (i := 17) (oi := q22_17) (v := ?_) rfl (by kernel_rfl) (by kernel_rfl) (by kernel_rfl) (fun _ _ _ h => h) (Or.inl ⟨by rfl, ?_⟩) (by assumption) ?_
                rotate_left
                · intro w hSw
                  try dsimp only at hSw
                  go_simp
                  try with_reducible rfl
                try simp only [Act.put, List.setIfInBounds_toArray, List.set_cons_zero, List.set_cons_succ]
                refine wpAnyH_done (by kernel_rfl) ?_ _
                go_wp2
                go_roundg (p + q - (kk + 1))
                case measure => have := HLT.out; omega
                case rel => exact ⟨kk + 1, by have := HLT.out; omega, by go_num, Lib.hid (bstep BA'.out hHeld.2.2.2.2)⟩
              · have hx2 : p ≤ kk := by omega
                obtain ⟨tz, ty, z1, z2, z3, z4⟩ := IY.out kk hx2 hlt
                obtain ⟨i, hi⟩ : ∃ i, kk = p + i := ⟨kk - p, by omega⟩
                rw [show kk - p = i by omega] at z2
                obtain ⟨g, o, rfl, gl, x0, x1, -⟩ := (ZZ.out.below HBr.out).tok kk tz z1
                obtain ⟨g', o', rfl, gl', y0, y1, y2⟩ := (YB5.out.below HBr.out).tok i ty z2
                rw [z3] at x0
                rw [z4] at x1
                obtain ⟨X, hX⟩ : ∃ X : ByteArray, X = ⟨(enc ty.2.1).toArray⟩ := ⟨_, rfl⟩
                rw [← hX] at x1 y1
                obtain ⟨kd, hkd⟩ : ∃ kd, kd = ty.1 := ⟨_, rfl⟩
                rw [← hkd] at x0 y0
                have iq : i < q := by omega
                have w1' : ((kk : Int) - ((p : Int) + 1) + 1) = (i : Int) := by omega
                have w2' : IntKind.i64.wrap ((kk : Int) - ((p : Int) + 1)) = (kk : Int) - ((p : Int) + 1) := by rw [IntKind.wrap_i64]; omega
                have dx : decide ((kk : Int) < (p : Int)) = false := by simp; omega
                clear z1 z2 z3 z4 hX hkd hi
                obtain ⟨P, hP⟩ : ∃ P, P = posB (rnS b) ty.2.2 := ⟨_, rfl⟩
                rw [← hP] at y2
                clear hP
                go_upto_region 22 with fail
                have TK := (HoldsTk.new rfl : HoldsTk (wr.alloc (.cells #[.int .i64 (kd : Int), .string X, .int .i64 (P : Int)] 28)) wr.heap.size (kd : Int) X (P : Int))
                have BA := ballD1 HBr.out (.cells #[.int .i64 (kd : Int), .string X, .int .i64 (P : Int)] 28)
                have x2 := cell_belowI x0 (ballD1 (Below.refl _ _) (.cells #[.int .i64 (kd : Int), .string X, .int .i64 (P : Int)] 28))
                have x3 := cell_belowI x1 (ballD1 (Below.refl _ _) (.cells #[.int .i64 (kd : Int), .string X, .int .i64 (P : Int)] 28))
                change Code.wp _ _ _ _ (wr.alloc (.cells #[.int .i64 (kd : Int), .string X, .int .i64 (P : Int)] 28))
                obtain ⟨bt, hbt⟩ : ∃ bt, bt = wr.heap.size := ⟨_, rfl⟩
                rw [← hbt] at TK ⊢
                generalize wr.alloc (.cells #[.int .i64 (kd : Int), .string X, .int .i64 (P : Int)] 28) = V at *
                have CV : V.cell? ⟨bt, 0, none⟩ = some (.int .i64 (kd : Int)) ∧ V.cell? ⟨bt, 1, none⟩ = some (.string X) ∧ V.cell? ⟨g, o + kk * 3, none⟩ = some (.int .i64 (kd : Int)) ∧ V.cell? ⟨g, o + kk * 3 + 1, none⟩ = some (.string X) := ⟨TK.1.1, TK.1.2.1, x2, x3⟩
                have BA' := Lib.hid BA
                clear TK hbt x0 x1 x2 x3 y0 y1 y2 BA HBr
                refine wp_region_held_drew (S := fun w' => w'.cell? ⟨bt, 0, none⟩ = some (.int .i64 (kd : Int)) ∧ w'.cell? ⟨bt, 1, none⟩ = some (.string X) ∧ w'.cell? ⟨g, o + kk * 3, none⟩ = some (.int .i64 (kd : Int)) ∧ w'.cell? ⟨g, o + kk * 3 + 1, none⟩ = some (.string X) ∧ Below V.heap.size V w') (by kernel_rfl) ?_ (fun hHeld => ?_)
                · exact (km4s CV ((Below.refl _ _).drew))
                refine wpAnyH_take (i := 0) (oi := q22_0) (v := ?_) rfl (by kernel_rfl) (by kernel_rfl) (by kernel_rfl) (fun _ _ _ h => h) (Or.inl ⟨by rfl, ?_⟩) (by assumption) ?_
                rotate_left
                · intro w hSw
                  try dsimp only at hSw
                  go_simp
                  try with_reducible rfl
                try simp only [Act.put, List.setIfInBounds_toArray, List.set_cons_zero, List.set_cons_succ]
                refine wpAnyH_take (i := 1) (oi := q22_1) (v := ?_) rfl (by kernel_rfl) (by kernel_rfl) (by kernel_rfl) (fun _ _ _ h => h) (Or.inl ⟨by rfl, ?_⟩) (by assumption) ?_
                rotate_left
                · intro w hSw
                  try dsimp only at hSw
                  go_simp
                  try with_reducible rfl
                try simp only [Act.put, List.setIfInBounds_toArray, List.set_cons_zero, List.set_cons_succ]
                refine wpAnyH_take (i := 5) (oi := q22_5) (v := ?_) rfl (by kernel_rfl) (by kernel_rfl) (by kernel_rfl) (fun _ _ _ h => h) (Or.inl ⟨by rfl, ?_⟩) (by assumption) ?_
                rotate_left
                · intro w hSw
                  try dsimp only at hSw
                  go_simp
                  try with_reducible rfl
                try simp only [Act.put, List.setIfInBounds_toArray, List.set_cons_zero, List.set_cons_succ]
                refine wpAnyH_take (i := 2) (oi := q22_2) (v := ?_) rfl (by kernel_rfl) (by kernel_rfl) (by kernel_rfl) (fun _ _ _ h => h) (Or.inl ⟨by rfl, ?_⟩) (by assumption) ?_
                rotate_left
                · intro w hSw
                  try dsimp only at hSw
                  go_simp
                  try with_reducible rfl
                try simp only [Act.put, List.setIfInBounds_toArray, List.set_cons_zero, List.set_cons_succ]
                refine wpAnyH_take (i := 6) (oi := q22_6) (v := ?_) rfl (by kernel_rfl) (by kernel_rfl) (by kernel_rfl) (fun _ _ _ h => h) (Or.inl ⟨by rfl, ?_⟩) (by assumption) ?_
                rotate_left
                · intro w hSw
                  try dsimp only at hSw
                  go_simp
                  try with_reducible rfl
                try simp only [Act.put, List.setIfInBounds_toArray, List.set_cons_zero, List.set_cons_succ]
                refine wpAnyH_take (i := 3) (oi := q22_3) (v := ?_) rfl (by kernel_rfl) (by kernel_rfl) (by kernel_rfl) (fun _ _ _ h => h) (Or.inl ⟨by rfl, ?_⟩) (by assumption) ?_
                rotate_left
                · intro w hSw
                  try dsimp only at hSw
                  go_simp
                  try with_reducible rfl
                try simp only [Act.put, List.setIfInBounds_toArray, List.set_cons_zero, List.set_cons_succ]
                refine wpAnyH_take (i := 4) (oi := q22_4) (v := ?_) rfl (by kernel_rfl) (by kernel_rfl) (by kernel_rfl) (fun _ _ _ h => h) (Or.inl ⟨by rfl, ?_⟩) (by assumption) ?_
                rotate_left
                · intro w hSw
                  try dsimp only at hSw
                  go_simp
                  try with_reducible rfl
                try simp only [Act.put, List.setIfInBounds_toArray, List.set_cons_zero, List.set_cons_succ]
                refine wpAnyH_take (i := 7) (oi := q22_7) (v := ?_) rfl (by kernel_rfl) (by kernel_rfl) (by kernel_rfl) (fun _ _ _ h => h) (Or.inl ⟨by rfl, ?_⟩) (by assumption) ?_
                rotate_left
                · intro w hSw
                  try dsimp only at hSw
                  go_simp
                  try with_reducible rfl
                try simp only [Act.put, List.setIfInBounds_toArray, List.set_cons_zero, List.set_cons_succ]
                refine wpAnyH_take (i := 8) (oi := q22_8) (v := ?_) rfl (by kernel_rfl) (by kernel_rfl) (by kernel_rfl) (fun _ _ _ h => h) (Or.inl ⟨by rfl, ?_⟩) (by assumption) ?_
                rotate_left
                · intro w hSw
                  try dsimp only at hSw
                  go_simp
                  try with_reducible rfl
                try simp only [Act.put, List.setIfInBounds_toArray, List.set_cons_zero, List.set_cons_succ]
                refine wpAnyH_take (i := 9) (oi := q22_9) (v := ?_) rfl (by kernel_rfl) (by kernel_rfl) (by kernel_rfl) (fun _ _ _ h => h) (Or.inl ⟨by rfl, ?_⟩) (by assumption) ?_
                rotate_left
                · intro w hSw
                  try dsimp only at hSw
                  go_simp
                  try with_reducible rfl
                try simp only [Act.put, List.setIfInBounds_toArray, List.set_cons_zero, List.set_cons_succ]
                refine wpAnyH_take (i := 10) (oi := q22_10) (v := ?_) rfl (by kernel_rfl) (by kernel_rfl) (by kernel_rfl) (fun _ _ _ h => h) (Or.inl ⟨by rfl, ?_⟩) (by assumption) ?_
                rotate_left
                · intro w hSw
                  try dsimp only at hSw
                  go_simp
                  try with_reducible rfl
                try simp only [Act.put, List.setIfInBounds_toArray, List.set_cons_zero, List.set_cons_succ]
                refine wpAnyH_take (i := 14) (oi := q22_14) (v := ?_) rfl (by kernel_rfl) (by kernel_rfl) (by kernel_rfl) (fun _ _ _ h => h) (Or.inl ⟨by rfl, ?_⟩) (by assumption) ?_
                rotate_left
                · intro w hSw
                  try dsimp only at hSw
                  go_simp
                  try with_reducible rfl
                try simp only [Act.put, List.setIfInBounds_toArray, List.set_cons_zero, List.set_cons_succ]
                refine wpAnyH_take (i := 11) (oi := q22_11) (v := ?_) rfl (by kernel_rfl) (by kernel_rfl) (by kernel_rfl) (fun _ _ _ h => h) (Or.inl ⟨by rfl, ?_⟩) (by assumption) ?_
                rotate_left
                · intro w hSw
                  try dsimp only at hSw
                  go_simp
                  try with_reducible rfl
                try simp only [Act.put, List.setIfInBounds_toArray, List.set_cons_zero, List.set_cons_succ]
                refine wpAnyH_take (i := 15) (oi := q22_15) (v := ?_) rfl (by kernel_rfl) (by kernel_rfl) (by kernel_rfl) (fun _ _ _ h => h) (Or.inl ⟨by rfl, ?_⟩) (by assumption) ?_
                rotate_left
                · intro w hSw
                  try dsimp only at hSw
                  go_simp
                  try with_reducible rfl
                try simp only [Act.put, List.setIfInBounds_toArray, List.set_cons_zero, List.set_cons_succ]
                refine wpAnyH_take (i := 12) (oi := q22_12) (v := ?_) rfl (by kernel_rfl) (by kernel_rfl) (by kernel_rfl) (fun _ _ _ h => h) (Or.inl ⟨by rfl, ?_⟩) (by assumption) ?_
                rotate_left
                · intro w hSw
                  try dsimp only at hSw
                  go_simp
                  try with_reducible rfl
                try simp only [Act.put, List.setIfInBounds_toArray, List.set_cons_zero, List.set_cons_succ]
                refine wpAnyH_take (i := 13) (oi := q22_13) (v := ?_) rfl (by kernel_rfl) (by kernel_rfl) (by kernel_rfl) (fun _ _ _ h => h) (Or.inl ⟨by rfl, ?_⟩) (by assumption) ?_
                rotate_left
                · intro w hSw
                  try dsimp only at hSw
                  go_simp
                  try with_reducible rfl
                try simp only [Act.put, List.setIfInBounds_toArray, List.set_cons_zero, List.set_cons_succ]
                refine wpAnyH_take (i := 16) (oi := q22_16) (v := ?_) rfl (by kernel_rfl) (by kernel_rfl) (by kernel_rfl) (fun _ _ _ h => h) (Or.inl ⟨by rfl, ?_⟩) (by assumption) ?_
                rotate_left
                · intro w hSw
                  try dsimp only at hSw
                  go_simp
                  try with_reducible rfl
                try simp only [Act.put, List.setIfInBounds_toArray, List.set_cons_zero, List.set_cons_succ]
                refine wpAnyH_take (i := 17) (oi := q22_17) (v := ?_) rfl (by kernel_rfl) (by kernel_rfl) (by kernel_rfl) (fun _ _ _ h => h) (Or.inl ⟨by rfl, ?_⟩) (by assumption) ?_
                rotate_left
                · intro w hSw
                  try dsimp only at hSw
                  go_simp
                  try with_reducible rfl
                try simp only [Act.put, List.setIfInBounds_toArray, List.set_cons_zero, List.set_cons_succ]
                refine wpAnyH_done (by kernel_rfl) ?_ _
                go_wp2
                go_roundg (p + q - (kk + 1))
                case measure => have := HLT.out; omega
                case rel => exact ⟨kk + 1, by have := HLT.out; omega, by go_num, Lib.hid (bstep BA'.out hHeld.2.2.2.2)⟩
            · go_wp2
              go_ret
              exact ⟨rfl, bstep B5.out HBr.out⟩
theorem u8_lit {x : Int} (h : (Lit.int .u8 x).wf = true) : ∃ n : Nat, x = (n : Int) ∧ n < 256 := by
  simp [Lit.wf, IntKind.min, IntKind.max, IntKind.signed, IntKind.bits] at h
  exact ⟨x.toNat, by omega, by omega⟩
theorem lex_spaces_card (a b : ByteArray) (n : Int) (za : a.size ≤ 1048576) (zb : b.size ≤ 1048576) (wf : (Lit.int .u8 n).wf = true) (W : World) (hT : Tab16 W) : Calls Tryd.prog 5 #[.string a, .string b, .int .u8 n] W (Ret (.bool true) W) := by
  obtain ⟨k, rfl, hk⟩ := u8_lit wf
  exact lex_spaces a b k hk W za zb hT
end Go.Proofs.YtfelcneedpndiaaDoor

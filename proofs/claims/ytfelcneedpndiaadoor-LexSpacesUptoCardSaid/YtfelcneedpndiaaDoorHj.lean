/-
  The program's strings (layer 16): quoted, temporal, as contracts of their calls.
-/
import Derived.Test.YtfelcneedpndiaaDoorHi
namespace Go.Proofs.YtfelcneedpndiaaDoor
open Go.RowKit Go.Lib

theorem builder_belowI {B b : Nat} {bs : List Value} {w W : World} (h : Lib.IsBuilderF BT BE B b bs w) (hb : Below w.heap.size w W) : Lib.IsBuilderF BT BE B b bs W := by
  have key : ∀ p, Lib.BuilderAtF BT BE B b p bs w → Lib.BuilderAtF BT BE B b p bs W := by
    rintro p ⟨hB, v, hbk, hown, hne⟩
    refine ⟨hB, v, (hb.block b (Array.getElem?_eq_some_iff.1 hbk).1).trans hbk, ⟨hown.1, ?_⟩, hne⟩
    rcases hown.2 with hn | ⟨g, cap, cur, fz, hv, hbg, hg, rest⟩
    · exact .inl hn
    · exact .inr ⟨g, cap, cur, fz, hv, hbg, (hb.block g (Array.getElem?_eq_some_iff.1 hg).1).trans hg, rest⟩
  exact h.elim (fun x => .inl (key _ x)) (fun x => .inr (key _ x))
theorem strCells_tx (T : List Nat) : strCells (tx T) = byteCells (enc T) := by
  unfold strCells byteCells
  rw [tx_list]
theorem runeCells_enc (r : Nat) : runeCells (r : Int) = byteCells (enc [r]) := by
  rw [enc_cons, enc_nil, List.append_nil, byteCells_encodeRune]
theorem cells_app (A B : List Nat) : byteCells (enc A) ++ byteCells (enc B) = byteCells (enc (A ++ B)) := by rw [enc_append, byteCells_append]
/-- What quoted and temporal answer of a text. -/
def RetQu (S : List Nat) (o : Option (List Nat × List Nat)) (w : World) (e : Ending) (w' : World) : Prop :=
  Below w.heap.size w w' ∧ e = .returned (.tuple (match o with | none => #[.string ⟨#[]⟩, .int .i64 0] | some x => #[.string (tx x.1), .int .i64 ((bz S - bz x.2 : Nat) : Int)]))
set_option linter.unusedVariables false in
set_option linter.unusedSimpArgs false in
set_option maxRecDepth 100000 in
set_option maxHeartbeats 8000000 in
theorem quoted_any16 (S : List Nat) (hV : Vrs S) (hz : bz S < 4294967281) (w : World) (hT : TabL w) :
    Calls Tryd.prog 30 #[.string (tx S)] w (RetQu S (qtS S) w) := by
  have CC := Lib.hid (fun W => cutP S 34 [34] rfl (by decide) (by decide) W)
  have ZS := tx_size S
  by_cases h : hd S = 34
  · rw [if_pos h, decide_eq_true h] at CC
    have z1 := Lib.hid (bz_hd h (by decide) (by decide))
    have E := Lib.hid (show qtS S = quoS (S.drop 1) from by unfold qtS; rw [if_pos h])
    have HT := Lib.hid hT
    have V1 := Lib.hid (hV.suf (List.drop_suffix 1 S))
    have LS := (enc_length_le S).1
    have LS1 : S.length ≤ bz S := LS
    have LD : (S.drop 1).length ≤ S.length := by rw [List.length_drop]; omega
    obtain ⟨q1, hq1⟩ : ∃ q, q = tx (S.drop 1) := ⟨_, rfl⟩
    rw [← hq1] at CC
    have HQ1 := Lib.hid hq1
    clear hT h hV hq1 LS
    generalize tx S = s at *
    go_enter Tryd.func30, Tryd.ntmps30
    go_wp2_with (go_at_call 43; (with_reducible refine (CC.out _).mono ?_); rintro e w3 ⟨rfl, rfl⟩)
    go_loopg [4] (S.drop 1).length (fun gg o wr => ∃ (Q : List Nat) (q : ByteArray) (M : List Nat), o = .string q ∧ Hid (q = tx Q) ∧ Hid (Q <:+ S.drop 1 ∧ quoS (S.drop 1) = (quoS Q).map fun x => (M ++ x.1, x.2)) ∧ M.length + Q.length ≤ (S.drop 1).length ∧ Q.length = gg ∧ Hid (IsBuilderF BT BE w.heap.size w.heap.size (byteCells (enc M)) wr) ∧ Hid (Below w.heap.size w wr))
    case atStart => exact ⟨S.drop 1, q1, [], rfl, HQ1, Lib.hid ⟨List.suffix_refl _, by simp⟩, by simp, rfl, Lib.hid (Lib.IsBuilderF.of (Lib.fresh_isBuilder BT BE w)), Lib.hid ((Below.refl _ w).alloc (Nat.le_refl _) _)⟩
    case round =>
      obtain ⟨Q, q, M, rfl, hq, hQ, hM, hgg, HI, HB⟩ := hrel
      have qz : bz Q < 4294967281 := Nat.lt_of_le_of_lt (Nat.le_trans (bz_le hQ.out.1) (bz_le (List.drop_suffix 1 S))) hz
      have QV := V1.out.suf hQ.out.1
      have s1 := dw_suf itR Q
      have CL := Lib.hid (fun W => lead_itself Q QV (by omega) W)
      have CB := Lib.hid (cut_behind (s := q) hq.out s1)
      have CA := Lib.hid (cut_ahead (s := q) hq.out s1)
      rw [tw_take] at CA
      have ZQ := tx_size Q
      rw [← hq.out] at CL ZQ
      have K := Lib.hid (show Q.dropWhile itR <:+ S.drop 1 ∧ quoS (S.drop 1) = (quoS (Q.dropWhile itR)).map fun x => ((M ++ Q.takeWhile itR) ++ x.1, x.2) from ⟨s1.trans hQ.out.1, by
        rw [hQ.out.2, quo_it Q]
        cases quoS (Q.dropWhile itR) <;> simp⟩)
      have HD := Lib.hid (dw_hd itR Q)
      have l1 := bz_le s1
      have LT : (Q.takeWhile itR).length + (Q.dropWhile itR).length = Q.length := by
        have e := congrArg List.length (List.takeWhile_append_dropWhile (p := itR) (l := Q))
        rw [List.length_append] at e
        exact e
      have V2 := Lib.hid (QV.suf s1)
      have MT : (M ++ Q.takeWhile itR).length ≤ (S.drop 1).length := by rw [List.length_append]; omega
      have ML := (enc_length_le M).2
      have TL := (enc_length_le (Q.takeWhile itR)).2
      have MTL := (enc_length_le (M ++ Q.takeWhile itR)).2
      have WS := Lib.hid (fun (W : World) (h1 : IsBuilderF BT BE w.heap.size w.heap.size (byteCells (enc M)) W) (h2 : w.heap.size ≤ W.heap.size) => WriteString_k w.heap.size w.heap.size (byteCells (enc M)) (tx (Q.takeWhile itR)) W h1 (by rw [byteCells_length, tx_size]; unfold bz; omega) h2)
      rw [strCells_tx, cells_app] at WS
      clear hq hQ s1 QV ML TL
      generalize hA : Q.dropWhile itR = A at *
      generalize Q.takeWhile itR = T at *
      clear hA
      have HP := Lib.hid (fun W => hasP A [34] _ (pre_one A 34 (by decide) (by decide)) W)
      have az : bz A < 4294967281 := Nat.lt_of_le_of_lt l1 qz
      have ZA := tx_size A
      obtain ⟨a, ha⟩ : ∃ a, a = tx A := ⟨_, rfl⟩
      obtain ⟨t, ht⟩ : ∃ t, t = tx T := ⟨_, rfl⟩
      rw [← ha] at CB HP ZA
      rw [← ht] at CA WS
      have HAa := Lib.hid ha
      obtain ⟨n, hn⟩ : ∃ n, n = bz Q - bz A := ⟨_, rfl⟩
      rw [← hn] at CL CB CA
      have n1 : n ≤ bz Q := by omega
      clear ha ht l1 hn
      by_cases c1 : hd A = 34
      · rw [decide_eq_true c1] at HP
        have RS := Lib.hid (show qtS S = some (M ++ T, A.drop 1) from by
          rw [E.out, K.out.2, quo_end c1]
          simp)
        have za := bz_hd c1 (by decide) (by decide)
        have ya := bz_le (K.out.1)
        have SB := Lib.hid (fun W h1 h2 => Tryd.Builder_String_any_k w.heap.size w.heap.size (enc (M ++ T)) W h1 h2)
        have NX := Lib.hid (show ((bz S - bz (A.drop 1) : Nat) : Int) = (bz S : Int) - (bz A : Int) + 1 from by have := z1.out; omega)
        have ya2 : bz A ≤ bz S := by have := z1.out; omega
        clear c1 HD K V2 za ya
        go_wp2_with (first
          | (go_at_call 23; (with_reducible refine (CL.out _).mono ?_); rintro e w1 ⟨rfl, b1⟩; have B1 := bstep HB.out b1; have I1 := builder_belowI HI.out b1)
          | ((try rw [CA.out]); go_at_call 35; (with_reducible refine (WS.out _ I1 B1.size).mono ?_); rintro e w2 ⟨rfl, h2, b2, -⟩; have B2 := B1.trans b2; have I2 : IsBuilderF BT BE w.heap.size w.heap.size (byteCells (enc (M ++ T))) w2 := Or.inr h2; clear h2)
          | ((try rw [CB.out]); go_at_call 25; (with_reducible refine (HP.out _).mono ?_); rintro e w3 ⟨rfl, rfl⟩)
          | (go_at_call 21; (with_reducible refine (SB.out _ I2 B2.size).mono ?_); rintro e w4 ⟨rfl, -, b4, -⟩))
        go_ret2
        refine ⟨B2.trans b4, ?_⟩
        rw [RS.out]
        show Ending.returned (Value.tuple #[_, _]) = Ending.returned (Value.tuple #[Value.string (tx (M ++ T)), Value.int .i64 ((bz S - bz (A.drop 1) : Nat) : Int)])
        rw [NX.out]
        rfl
      · rw [decide_eq_false c1] at HP
        have CE := Lib.hid (fun W (hW : TabL W) => escape_any16 A W hW)
        rw [← HAa.out] at CE
        cases he : esS A with
        | none =>
          rw [he] at CE
          have RS := Lib.hid (show qtS S = none from by
            rw [E.out, K.out.2, quo_no HD.out c1 he]
            rfl)
          clear c1 HD K V2 he
          go_wp2_with (first
            | (go_at_call 23; (with_reducible refine (CL.out _).mono ?_); rintro e w1 ⟨rfl, b1⟩; have B1 := bstep HB.out b1; have I1 := builder_belowI HI.out b1)
            | ((try rw [CA.out]); go_at_call 35; (with_reducible refine (WS.out _ I1 B1.size).mono ?_); rintro e w2 ⟨rfl, h2, b2, -⟩; have B2 := B1.trans b2; have I2 : IsBuilderF BT BE w.heap.size w.heap.size (byteCells (enc (M ++ T))) w2 := Or.inr h2; clear h2)
            | ((try rw [CB.out]); go_at_call 25; (with_reducible refine (HP.out _).mono ?_); rintro e w3 ⟨rfl, rfl⟩)
            | ((try rw [CB.out]); go_at_call 45; (with_reducible refine (CE.out _ (HT.out.below B2)).mono ?_); rintro e w4 ⟨b4, rfl⟩; have B4 := B2.trans (b4.mono B2.size)))
          go_ret2
          refine ⟨B4, ?_⟩
          rw [RS.out]
          rfl
        | some x =>
          obtain ⟨r, m⟩ := x
          rw [he] at CE
          obtain ⟨e1, e2, e3, e4⟩ := esS_bytes he
          have s2 : A.drop m <:+ A := List.drop_suffix m A
          have K2 := Lib.hid (show A.drop m <:+ S.drop 1 ∧ quoS (S.drop 1) = (quoS (A.drop m)).map fun x => (((M ++ T) ++ [r]) ++ x.1, x.2) from ⟨s2.trans K.out.1, by
            rw [K.out.2, quo_esc1 he]
            cases quoS (A.drop m) <;> simp⟩)
          have CD := Lib.hid (show a.extract m (bz A) = tx (A.drop m) from by
            have := cut_behind (s := a) HAa.out s2
            rw [show bz A - bz (A.drop m) = m by omega] at this
            exact this)
          have r1 : r ≤ 1114111 := by unfold Vr at e2; omega
          have WR := Lib.hid (fun (W : World) (h1 : IsBuilderF BT BE w.heap.size w.heap.size (byteCells (enc (M ++ T))) W) (h2 : w.heap.size ≤ W.heap.size) => WriteRune_k w.heap.size w.heap.size (byteCells (enc (M ++ T))) (r : Int) (by omega) (by omega) W h1 (by rw [byteCells_length]; omega) h2)
          rw [runeCells_enc, cells_app] at WR
          have m1 : m ≤ bz A := by omega
          have m0 : m ≠ 0 := by omega
          have AD : (A.drop m).length + m = A.length := by rw [List.length_drop]; omega
          rw [List.length_append] at MT
          obtain ⟨d, hd1⟩ : ∃ d, d = tx (A.drop m) := ⟨_, rfl⟩
          rw [← hd1] at CD
          have HDd := Lib.hid hd1
          clear c1 HD K V2 he e1 e2 s2 hd1
          go_wp2_with (first
            | (go_at_call 23; (with_reducible refine (CL.out _).mono ?_); rintro e w1 ⟨rfl, b1⟩; have B1 := bstep HB.out b1; have I1 := builder_belowI HI.out b1)
            | ((try rw [CA.out]); go_at_call 35; (with_reducible refine (WS.out _ I1 B1.size).mono ?_); rintro e w2 ⟨rfl, h2, b2, -⟩; have B2 := B1.trans b2; have I2 : IsBuilderF BT BE w.heap.size w.heap.size (byteCells (enc (M ++ T))) w2 := Or.inr h2; clear h2)
            | ((try rw [CB.out]); go_at_call 25; (with_reducible refine (HP.out _).mono ?_); rintro e w3 ⟨rfl, rfl⟩)
            | ((try rw [CB.out]); go_at_call 45; (with_reducible refine (CE.out _ (HT.out.below B2)).mono ?_); rintro e w4 ⟨b4, rfl⟩; have B4 := B2.trans (b4.mono B2.size))
            | (go_at_call 36; (with_reducible refine (WR.out _ (builder_belowI I2 b4) B4.size).mono ?_); rintro e w5 ⟨rfl, h5, b5, -⟩))
          go_roundg (A.drop m).length
          case measure => omega
          case rel => exact ⟨A.drop m, d, (M ++ T) ++ [r], by rw [CD.out], HDd, K2, by rw [List.length_append, List.length_append, List.length_singleton]; omega, rfl, Lib.hid (Or.inr h5), Lib.hid (B4.trans b5)⟩
  · rw [if_neg h, decide_eq_false h] at CC
    have E : qtS S = none := by unfold qtS; rw [if_neg h]
    rw [E]
    clear E h
    generalize tx S = s at *
    go_enter Tryd.func30, Tryd.ntmps30
    go_wp2_with (go_at_call 43; (with_reducible refine (CC.out _).mono ?_); rintro e w3 ⟨rfl, rfl⟩)
    go_ret2
    exact ⟨Below.refl _ _, rfl⟩
end Go.Proofs.YtfelcneedpndiaaDoor

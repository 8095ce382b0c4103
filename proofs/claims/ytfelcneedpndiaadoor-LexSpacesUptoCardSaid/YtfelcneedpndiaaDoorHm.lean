/-
  The program's Tokens (layer 16), as a contract of its call.
-/
import Derived.Test.YtfelcneedpndiaaDoorHl
import Derived.Test.YtfelcneedpndiaaDoorIn
import Derived.Test.YtfelcneedpndiaaDoorIla
import Derived.Test.YtfelcneedpndiaaDoorIwr
namespace Go.Proofs.YtfelcneedpndiaaDoor
open Go.RowKit Go.Lib

/-- What is laid: the tables of UTF-8; the variables that strings' search and a failed number name. -/
def Tab16 (w : World) : Prop := TabU w ∧ TabL w
theorem Tab16.below {w w' : World} (h : Tab16 w) (hb : Below w.heap.size w w') : Tab16 w' := ⟨h.1.below hb, h.2.below hb⟩
theorem Tab16.u {w : World} (h : Tab16 w) : TabU w := h.1
theorem Tab16.l {w : World} (h : Tab16 w) : TabL w := h.2
/-- The tokens behind spaces that were passed. -/
def tokB (Q : List Nat) : Option (List (Nat × List Nat × Nat)) := match Q with
  | [] => some [(0, [], 0)]
  | c :: t => match oneS (c :: t) with
    | none => none
    | some (k, x, r) => (tokS r).map fun ts => (k, x, (c :: t).length) :: ts
theorem tokS_B (S : List Nat) : tokS S = match skipS S with | none => none | some Q => tokB Q := by
  rw [tokS_step]
  cases skipS S with
  | none => rfl
  | some Q => rcases Q with _ | ⟨c, t⟩ <;> rfl
theorem tokB_none {c : Nat} {t : List Nat} (h : oneS (c :: t) = none) : tokB (c :: t) = none := by
  show (match oneS (c :: t) with | none => none | some (k, x, r) => (tokS r).map fun ts => (k, x, (c :: t).length) :: ts) = none
  rw [h]
theorem tokB_some {c : Nat} {t : List Nat} {d : Nat} {X R : List Nat} (h : oneS (c :: t) = some (d, X, R)) : tokB (c :: t) = (tokS R).map fun ts => (d, X, (c :: t).length) :: ts := by
  show (match oneS (c :: t) with | none => none | some (k, x, r) => (tokS r).map fun ts => (k, x, (c :: t).length) :: ts) = _
  rw [h]
theorem HoldsTk.put2 {W : World} {g : Nat} {c : Int} {s : ByteArray} {p p' : Int} (H : HoldsTk W g c s p) : HoldsTk (W.setCell ⟨g, 2, none⟩ (.int .i64 p')) g c s p' := by
  obtain ⟨⟨a, b, c⟩, ⟨a', b', c'⟩, s⟩ := H
  simp [HoldsTk, go_sem, *]
def tokCl (L : List Nat) (t : Nat × List Nat × Nat) : List Value := [.int .i64 (t.1 : Int), .string (tx t.2.1), .int .i64 ((posB L t.2.2 : Nat) : Int)]
def tokCls (L : List Nat) (ts : List (Nat × List Nat × Nat)) : List Value := ts.flatMap (tokCl L)
theorem tokCls_snoc (L : List Nat) (ts : List (Nat × List Nat × Nat)) (t : Nat × List Nat × Nat) : tokCls L (ts ++ [t]) = tokCls L ts ++ tokCl L t := by unfold tokCls; simp
theorem tokCls_at (L : List Nat) : ∀ (ts : List (Nat × List Nat × Nat)) (i : Nat) (t : Nat × List Nat × Nat), ts[i]? = some t → (tokCls L ts)[i * 3]? = some (.int .i64 (t.1 : Int)) ∧ (tokCls L ts)[i * 3 + 1]? = some (.string (tx t.2.1)) ∧ (tokCls L ts)[i * 3 + 2]? = some (.int .i64 ((posB L t.2.2 : Nat) : Int))
  | [], i, t, h => by simp at h
  | a :: ts, 0, t, h => by
    simp at h
    subst h
    exact ⟨rfl, rfl, rfl⟩
  | a :: ts, i + 1, t, h => by
    have ih := tokCls_at L ts i t (by simpa using h)
    have e : tokCls L (a :: ts) = tokCl L a ++ tokCls L ts := rfl
    rw [e, show (i + 1) * 3 = i * 3 + 3 by omega]
    unfold tokCl
    simpa using ih
/-- A slice of tokens that the call made. -/
def RowL (b : Nat) (W : World) (v : Value) (L : List Nat) (ts : List (Nat × List Nat × Nat)) : Prop := W.ownsRow b 28 3 v ts.length (tokCls L ts)
theorem RowL.lexAt {b : Nat} {W : World} {v : Value} {L : List Nat} {ts : List (Nat × List Nat × Nat)} (h : RowL b W v L ts) (ne : ts ≠ []) : LexAt W v L ts := by
  have h0 := h
  rcases h.2 with ⟨rfl, hn⟩ | ⟨g, cap, cur, rfl, h1, h2, h3, h4, h5⟩
  · exact absurd (List.eq_nil_of_length_eq_zero hn) ne
  · refine ⟨some ⟨g, 0, none⟩, cap, rfl, h3, h4, fun i t hi => ?_⟩
    have il : i < ts.length := by
      rcases Nat.lt_or_ge i ts.length with x | x
      · exact x
      · rw [List.getElem?_eq_none x] at hi; cases hi
    obtain ⟨x0, x1, x2⟩ := tokCls_at L ts i t hi
    refine ⟨g, 0, rfl, (Array.getElem?_eq_some_iff.1 h2).1, ?_, ?_, ?_⟩
    · rw [Nat.zero_add]; exact (World.ownsRow.cellAt h0 _ (by omega)).trans x0
    · rw [Nat.zero_add]; exact (World.ownsRow.cellAt h0 _ (by omega)).trans x1
    · rw [Nat.zero_add]; exact (World.ownsRow.cellAt h0 _ (by omega)).trans x2
theorem token_infoL : (Tryd.prog.info? 28).map (fun i => (i.zero, i.size, i.bytes)) = some (some (.agg #[.int .i64 0, .string ⟨#[]⟩, .int .i64 0]), 3, 32) := by kernel_rfl
theorem posB_off {Q L : List Nat} (h : Q <:+ L) : posB L Q.length = bz L - bz Q := by
  unfold posB
  obtain ⟨P, rfl⟩ := h
  rw [List.length_append, Nat.add_sub_cancel, List.take_left, bz_append]
  unfold bz
  omega
theorem tx_ne {Q : List Nat} (h : Q ≠ []) : (tx Q).toList.isEmpty = false := by
  rw [← decide_eq_emptyBytes]
  refine decide_eq_false (fun x => ?_)
  have := congrArg ByteArray.size x
  rw [tx_size] at this
  have := bz_pos h
  have e : (ByteArray.empty).size = 0 := rfl
  omega
theorem oneS_suf16 {S : List Nat} {d : Nat} {T R : List Nat} (h : oneS S = some (d, T, R)) : R <:+ S := by
  unfold oneS at h
  split at h
  · injection h with h; injection h with _ h; injection h with _ h
    subst h
    exact dw_suf _ _
  split at h
  · next k =>
    injection h with h; injection h with _ h; injection h with _ h
    subst h
    have e := nbS_suf S
    rw [(nbS_yes k).1] at e
    exact e
  split at h
  · simp only [Option.map_eq_some_iff] at h
    obtain ⟨⟨T', R'⟩, h, e⟩ := h
    injection e with _ e; injection e with _ e
    subst e
    exact (quoS_suf h).trans (List.drop_suffix _ _)
  split at h
  · simp only [Option.map_eq_some_iff] at h
    obtain ⟨⟨T', R'⟩, h, e⟩ := h
    injection e with _ e; injection e with _ e
    subst e
    exact (quoS_suf h).trans (List.drop_suffix _ _)
  split at h
  · injection h with h; injection h with _ h; injection h with _ h
    subst h
    exact List.drop_suffix _ _
  · cases h
theorem blank_step (R : List Nat) (hV : Vrs R) (hz : bz R < 4294967281) : ∃ (q0 : ByteArray) (okb : Bool), (∀ W (_ : TabL W), Calls Tryd.prog 15 #[.string (tx R)] W fun e w' => Below W.heap.size W w' ∧ e = .returned (.tuple #[.string q0, .bool okb])) ∧ ((okb = false ∧ tokS R = none) ∨ ∃ Q, okb = true ∧ q0 = tx Q ∧ Q <:+ R ∧ tokS R = tokB Q) := by
  cases e : skipS R with
  | none =>
    refine ⟨⟨#[]⟩, false, fun W hW => ?_, .inl ⟨rfl, by rw [tokS_B, e]⟩⟩
    have := blank_any R hV hz W hW
    rw [e] at this
    exact this
  | some Q =>
    refine ⟨tx Q, true, fun W hW => ?_, .inr ⟨Q, rfl, rfl, skipS_suf e, by rw [tokS_B, e]⟩⟩
    have := blank_any R hV hz W hW
    rw [e] at this
    exact this
theorem posB_end (L : List Nat) : posB L 0 = bz L := by
  unfold posB bz
  rw [Nat.sub_zero, List.take_length]
set_option linter.unusedVariables false in
set_option linter.unusedSimpArgs false in
set_option maxRecDepth 100000 in
set_option maxHeartbeats 8000000 in
theorem ltokens_no (s : ByteArray) (hs : s.size < 4294967281) (h : validD s.data.toList = false) (w : World) (hT : Tab16 w) : Calls Tryd.prog 8 #[.string s] w (RetLex s w) := by
  have CV := Lib.hid (fun W hU => valid_any s (by omega) W hU)
  rw [h] at CV
  have RS := Lib.hid (show lexS s = none from by unfold lexS; rw [if_neg (by rw [h]; exact Bool.false_ne_true)])
  go_enter Tryd.func8, Tryd.ntmps8
  go_wp2_with (go_at_call 14; (with_reducible refine (CV.out _ hT.u).mono ?_); rintro e w1 ⟨rfl, b1⟩)
  go_ret2
  refine ⟨_, false, rfl, b1, ?_⟩
  rw [RS.out]
  exact ⟨rfl, rfl⟩
set_option linter.unusedVariables false in
set_option linter.unusedSimpArgs false in
set_option maxRecDepth 100000 in
set_option maxHeartbeats 8000000 in
theorem ltokens_yes (s : ByteArray) (L : List Nat) (hV : Vrs L) (hsL : s = tx L) (hz : bz L < 4294967281) (hv : validD s.data.toList = true) (hl : lexS s = tokS L) (hr : rnS s = L) (w : World) (hT : Tab16 w) : Calls Tryd.prog 8 #[.string s] w (RetLex s w) := by
  obtain ⟨i0, hi0, hz0, hz1, hz2⟩ := info_parts token_infoL
  have ZS : s.size = bz L := by rw [hsL, tx_size]
  have CV := Lib.hid (fun W hU => valid_any s (by omega) W hU)
  rw [hv] at CV
  have CB := Lib.hid (fun (Q : List Nat) (hQ : Q <:+ L) => blank_step Q (hV.suf hQ) (Nat.lt_of_le_of_lt (bz_le hQ) hz))
  have CF := Lib.hid (fun (Q : List Nat) (hQ : Q <:+ L) (hn : Q ≠ []) W hW => first_any16 Q hn (hV.suf hQ) (Nat.lt_of_le_of_lt (bz_le hQ) hz) W hW)
  have HL := Lib.hid hl
  have HR := Lib.hid hr
  have HT := Lib.hid hT
  have HS := Lib.hid hsL
  have LL := (enc_length_le L).1
  have LL1 : L.length ≤ bz L := LL
  clear hT hV hl hr hv hsL LL
  go_enter Tryd.func8, Tryd.ntmps8
  obtain ⟨q0, okb, CB1', SO'⟩ := CB.out L (List.suffix_refl _)
  rw [← HS.out] at CB1'
  have CB1 := Lib.hid CB1'
  have SO := Lib.hid SO'
  clear CB1' SO'
  go_wp2_with (first
    | (go_at_call 14; (with_reducible refine (CV.out _ HT.out.u).mono ?_); rintro e w1 ⟨rfl, b1⟩; have T1 := Lib.hid (HT.out.below b1))
    | (go_at_call 15; (with_reducible refine (CB1.out _ T1.out.l).mono ?_); rintro e w2 ⟨b2, rfl⟩; have B2 := Lib.hid (bstep b1 b2)))
  go_loopg [4, 5, 6] (L.length + 1) (fun gg o r k wr => ∃ (q : ByteArray) (ok : Bool) (ts : List (Nat × List Nat × Nat)) (nn : Nat), r = .string q ∧ k = .bool ok ∧ ts.length = nn ∧ nn + gg ≤ L.length + 1 ∧ Hid ((ok = false ∧ tokS L = none) ∨ ∃ Q, ok = true ∧ q = tx Q ∧ Q <:+ L ∧ Q.length + 1 ≤ gg ∧ tokS L = (tokB Q).map fun y => ts ++ y) ∧ Hid (RowL w.heap.size wr o L ts) ∧ Hid (Below w.heap.size w wr))
  case atStart =>
    refine ⟨q0, okb, [], 0, rfl, rfl, rfl, by omega, Lib.hid ?_, Lib.hid ⟨rfl, .inl ⟨rfl, rfl⟩⟩, B2⟩
    rcases SO.out with ⟨x1, x2⟩ | ⟨Q, x1, x2, x3, x4⟩
    · exact .inl ⟨x1, x2⟩
    · exact .inr ⟨Q, x1, x2, x3, by have := suf_len x3; omega, by rw [x4]; simp⟩
  case round =>
    obtain ⟨q, ok, ts, nn, rfl, rfl, htl, hnn, hC, OW, HB⟩ := hrel
    have HTl := Lib.hid htl
    have hsz := HB.out.size
    clear htl
    rcases hC.out with ⟨rfl, hno⟩ | ⟨Q, rfl, hq, hQ, hg, hTk⟩
    · have RS := Lib.hid (show lexS s = none from HL.out.trans hno)
      clear hno hC
      go_wp2
      go_ret2
      refine ⟨_, false, rfl, HB.out, ?_⟩
      rw [RS.out]
      exact ⟨rfl, rfl⟩
    · rcases Q with _ | ⟨c, t⟩
      · have RS := Lib.hid (show lexS s = some (ts ++ [(0, [], 0)]) from HL.out.trans hTk)
        rw [tx_nil] at hq
        subst hq
        clear hC hTk hQ
        go_wp2_with (at_builtin; refine wpList_append_own _ rfl (.tmp 48) (.tmp 52) _ rfl w.heap.size 28 i0 _ 3 32 Tryd.underlying23 hi0 hz0 hz1 hz2 rfl (by omega) u4 nn (tokCls L ts) rfl (by have q := OW.out; unfold RowL at q; rw [HTl.out] at q; exact q.alloc _) ⟨wr.heap.size, 0, none⟩ 1 1 [.int .i64 0, .string ⟨#[]⟩, .int .i64 (bz L : Int)] rfl rfl (cell3I _ _ _ _ _) (by intro u hu; simp only [List.mem_cons, List.not_mem_nil, or_false] at hu; rcases hu with rfl | rfl | rfl <;> rfl) (by simp only [maxLen]; omega) (by omega) (by simp; omega) ?_)
        intro v' w' hown3 hg _
        have OWn : RowL w.heap.size w' v' L (ts ++ [(0, [], 0)]) := by
          unfold RowL
          rw [List.length_append, HTl.out, tokCls_snoc, tokCl, posB_end]
          exact hown3
        have BB : Below w.heap.size w w' := (HB.out.alloc hsz _).grown hg (by simp; omega) (fun k hk => (OW.out.lt k hk).1)
        have OWn' := Lib.hid OWn
        have BB' := Lib.hid BB
        clear hown3 hg OWn BB
        go_wp2
        go_ret2
        refine ⟨_, true, rfl, BB'.out, ?_⟩
        rw [RS.out, HR.out]
        exact ⟨rfl, OWn'.out.lexAt (by simp)⟩
      · have CFq := CF.out (c :: t) hQ (by simp)
        have hqn := Lib.hid (tx_ne (Q := c :: t) (by simp))
        have zq := tx_size (c :: t)
        have lq := bz_le hQ
        rw [← hq] at CFq hqn zq
        have hemp := hqn.out
        have PO := Lib.hid (posB_off hQ)
        have HQs := Lib.hid hQ
        have HQe := Lib.hid hq
        rw [List.length_cons] at hg
        cases ho : oneS (c :: t) with
        | none =>
          rw [ho] at CFq
          have CFn := Lib.hid (show ∀ W (hW : TabL W), Calls Tryd.prog 16 #[.string q] W fun e w' => Below W.heap.size W w' ∧ ∃ (k : Nat) (T : ByteArray), e = .returned (.tuple #[TkL k T 0, .int .i64 0]) from fun W hW => by
            refine (CFq W hW).mono ?_
            rintro e w' ⟨b, k, T, n, rfl, rfl⟩
            exact ⟨b, k, T, rfl⟩)
          have RS := Lib.hid (show lexS s = none from HL.out.trans (by rw [hTk, tokB_none ho]; rfl))
          clear hC hTk hQ hq ho CFq hqn
          go_wp2_with (go_at_call 16; (with_reducible refine (CFn.out _ (HT.out.below HB.out).l).mono ?_); rintro e w2 ⟨b2, k, T, rfl⟩)
          go_ret2
          refine ⟨_, false, rfl, ballD1 (bstep HB.out b2) _, ?_⟩
          rw [RS.out]
          exact ⟨rfl, rfl⟩
        | some x =>
          obtain ⟨d, X, R⟩ := x
          rw [ho] at CFq
          have R1 := oneS_suf16 ho
          have R2 := oneS_lt (by simp) ho
          have R3 := bz_lt R1 R2
          have RL := R1.trans hQ
          obtain ⟨n, hn⟩ : ∃ n, n = bz (c :: t) - bz R := ⟨_, rfl⟩
          have CFs := Lib.hid (show ∀ W (hW : TabL W), Calls Tryd.prog 16 #[.string q] W fun e w' => Below W.heap.size W w' ∧ e = .returned (.tuple #[TkL (d : Int) (tx X) 0, .int .i64 (n : Int)]) from fun W hW => by
            refine (CFq W hW).mono ?_
            rintro e w' ⟨b, k, T, m, rfl, rfl, rfl, rfl⟩
            exact ⟨b, by rw [hn]⟩)
          have n0 : n ≠ 0 := by omega
          have n1 : n ≤ bz (c :: t) := by omega
          have CQ := Lib.hid (show q.extract n (bz (c :: t)) = tx R from by rw [hn]; exact cut_behind hq R1)
          obtain ⟨q1, ok1, CB1', SO'⟩ := CB.out R RL
          have CBR := Lib.hid CB1'
          have SOR := Lib.hid SO'
          clear CB1' SO'
          have NT := Lib.hid (show tokS L = (tokS R).map fun y => (ts ++ [(d, X, t.length + 1)]) ++ y from by rw [hTk, tokB_some ho, List.length_cons]; exact tmap ts (d, X, t.length + 1) _)
          have PO' := Lib.hid (show (((posB L (t.length + 1)) : Nat) : Int) = (bz L : Int) - (bz (c :: t) : Int) from by have := PO.out; rw [List.length_cons] at this; omega)
          rw [List.length_cons] at R2
          have HRL := Lib.hid RL
          clear hC hTk hQ hq ho CFq hqn hn R1 R3 RL
          generalize bz (c :: t) = zQ at *
          obtain ⟨X', hX'⟩ : ∃ X', X' = tx X := ⟨_, rfl⟩
          rw [← hX'] at CFs
          have HX := Lib.hid hX'
          clear hX'
          go_upto_region 9 with (go_at_call 16; (with_reducible refine (CFs.out _ (HT.out.below HB.out).l).mono ?_); rintro e w2 ⟨b2, rfl⟩)
          have TK := Lib.hid (HoldsTk.new rfl : HoldsTk (w2.alloc (TkO (d : Int) X' 0)) w2.heap.size (d : Int) X' 0)
          have B3 := bstep HB.out (ballD1 b2 (TkO (d : Int) X' 0))
          have OW3 := Lib.hid (show RowL w.heap.size (w2.alloc (TkO (d : Int) X' 0)) u4 L ts from ownsRow_belowI OW.out (ballD1 b2 _))
          have gz : w.heap.size ≤ w2.heap.size := by have := (bstep HB.out b2).size; exact this
          change Code.wp _ _ _ _ (w2.alloc (TkO (d : Int) X' 0))
          obtain ⟨g, hg'⟩ : ∃ g, g = w2.heap.size := ⟨_, rfl⟩
          have BR := ballD1 b2 (TkO (d : Int) X' 0)
          have zr : wr.heap.size ≤ w2.heap.size := b2.size
          rw [← hg'] at TK gz zr ⊢
          generalize w2.alloc (TkO (d : Int) X' 0) = w3 at *
          clear hg'
          obtain ⟨⟨t0, t1, t2⟩, ⟨f0, f1, f2⟩, tz⟩ := TK.out
          go_upto_region 10 with fail
          have B4 : Below w.heap.size w (w3.setCell ⟨g, 2, none⟩ (.int .i64 ((bz L : Int) - (zQ : Int)))) := B3.setCell gz _
          have B4r : Below wr.heap.size wr (w3.setCell ⟨g, 2, none⟩ (.int .i64 ((bz L : Int) - (zQ : Int)))) := BR.setCell zr _
          have OW4 := Lib.hid (show RowL w.heap.size (w3.setCell ⟨g, 2, none⟩ (.int .i64 ((bz L : Int) - (zQ : Int)))) u4 L ts from ownsRow_belowI OW.out B4r)
          have TK4 := Lib.hid (TK.out.put2 (p' := (bz L : Int) - (zQ : Int)))
          change Code.wp _ _ _ _ (w3.setCell ⟨g, 2, none⟩ (.int .i64 ((bz L : Int) - (zQ : Int))))
          clear t0 t1 t2 f0 f1 f2 tz OW3 TK B3 BR B4r
          generalize w3.setCell ⟨g, 2, none⟩ (.int .i64 ((bz L : Int) - (zQ : Int))) = w4 at *
          obtain ⟨⟨t0, t1, t2⟩, -, tz⟩ := TK4.out
          have hsz4 := B4.size
          go_wp2_with (first
            | (at_builtin; refine wpList_append_own _ rfl (.tmp 35) (.tmp 37) _ rfl w.heap.size 28 i0 _ 3 32 Tryd.underlying23 hi0 hz0 hz1 hz2 rfl (by omega) u4 nn (tokCls L ts) rfl (by have q := OW4.out; unfold RowL at q; rw [HTl.out] at q; exact q.alloc _) ⟨w4.heap.size, 0, none⟩ 1 1 [.int .i64 (d : Int), .string X', .int .i64 ((bz L : Int) - (zQ : Int))] rfl rfl (cell3I _ _ _ _ _) (by intro u hu; simp only [List.mem_cons, List.not_mem_nil, or_false] at hu; rcases hu with rfl | rfl | rfl <;> rfl) (by simp only [maxLen]; omega) (by omega) (by simp; omega) ?_))
          intro v' w' hown3 hg2 _
          have OWn : RowL w.heap.size w' v' L (ts ++ [(d, X, t.length + 1)]) := by
            unfold RowL
            rw [List.length_append, HTl.out, tokCls_snoc, tokCl]
            dsimp only
            rw [PO'.out, ← HX.out]
            exact hown3
          have BB : Below w.heap.size w w' := (B4.alloc hsz4 _).grown hg2 (by simp; omega) (fun k hk => (OW4.out.lt k hk).1)
          have OWn' := Lib.hid OWn
          have BB' := Lib.hid BB
          clear hown3 hg2 OWn BB
          go_wp2_with ((try rw [CQ.out]); go_at_call 15; (with_reducible refine (CBR.out _ (HT.out.below BB'.out).l).mono ?_); rintro e w5 ⟨b5, rfl⟩)
          go_roundg (R.length + 1)
          case measure => omega
          case rel =>
            refine ⟨q1, ok1, ts ++ [(d, X, t.length + 1)], nn + 1, rfl, rfl, by rw [List.length_append, HTl.out]; rfl, by omega, Lib.hid ?_, Lib.hid (ownsRow_belowI OWn'.out b5), Lib.hid (bstep BB'.out b5)⟩
            rcases SOR.out with ⟨x1, x2⟩ | ⟨Q', x1, x2, x3, x4⟩
            · exact .inl ⟨x1, by rw [NT.out, x2]; rfl⟩
            · exact .inr ⟨Q', x1, x2, x3.trans HRL.out, by have := suf_len x3; omega, by rw [NT.out, x4]⟩
theorem ltokens_any (s : ByteArray) (hs : s.size < 4294967281) (w : World) (hT : Tab16 w) : Calls Tryd.prog 8 #[.string s] w (RetLex s w) := by
  cases h : validD s.data.toList with
  | false => exact ltokens_no s hs h w hT
  | true =>
    have e := tx_of h
    refine ltokens_yes s (rnS s) (rn_vr _) e ?_ h (by unfold lexS; rw [if_pos h]) rfl w hT
    have := tx_size (rnS s)
    rw [← e] at this
    omega
end Go.Proofs.YtfelcneedpndiaaDoor

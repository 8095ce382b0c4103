/-
  LexWords walked (layer 16).
-/
import Derived.Test.YtfelcneedpndiaaDoorIld
import Derived.Test.YtfelcneedpndiaaDoorIc
namespace Go.Proofs.YtfelcneedpndiaaDoor
open Go.RowKit Go.Lib

theorem enc_filter_le (p : Nat → Bool) (M : List Nat) : (enc (M.filter p)).length ≤ 4 * M.length := by
  have a := (enc_length_le (M.filter p)).2
  have b := List.length_filter_le p M
  omega
theorem let_not_dig {r : Nat} (h : letR r = true) : digR r = false := by
  cases hd : digR r with
  | false => rfl
  | true => rw [(dig_not r hd).2.2] at h; cases h
theorem filt_snoc (p : Nat → Bool) (M : List Nat) (r : Nat) : enc ((M ++ [r]).filter p) = if p r = true then enc (M.filter p) ++ encodeRune (r : Int) else enc (M.filter p) := by
  rw [List.filter_append, enc_append]
  by_cases h : p r = true
  · rw [if_pos h, List.filter_cons_of_pos h]
    simp
  · rw [if_neg h, List.filter_cons_of_neg h]
    simp
set_option linter.unusedVariables false in
set_option linter.unusedSimpArgs false in
set_option maxRecDepth 100000 in
set_option maxHeartbeats 8000000 in
theorem lex_words (raw : ByteArray) (w : World) (hs : raw.size ≤ 1048576) (hTb : Tab16 w) : Calls Tryd.prog 6 #[.string raw] w (Ret (.bool true) w) := by
  have VS := valS_size raw
  have hL := rnS_le raw
  have hV : Vrs (rnS raw) := rn_vr _
  have LV := Lib.hid (fun W => lvalid2 raw W (by omega))
  have rS : rnS (valS raw) = rnS raw := rnS_valS raw
  obtain ⟨S, hS⟩ : ∃ S, S = valS raw := ⟨_, rfl⟩
  rw [← hS] at VS LV rS
  clear hS
  obtain ⟨L, hLe⟩ : ∃ L, L = rnS raw := ⟨_, rfl⟩
  rw [← hLe] at hL hV rS
  clear hLe
  have vW : Vrs (119 :: L.filter wordR) := by
    intro x hx
    rcases List.mem_cons.1 hx with rfl | hx
    · exact .inl (by decide)
    · exact hV x (List.mem_filter.1 hx).1
  have vD : Vrs (55 :: L.filter digR) := by
    intro x hx
    rcases List.mem_cons.1 hx with rfl | hx
    · exact .inl (by decide)
    · exact hV x (List.mem_filter.1 hx).1
  have eW := (lexS_enc vW).1.trans (tok_word 119 (L.filter wordR) (by decide) (fun r hr => (List.mem_filter.1 hr).2))
  have eD := (lexS_enc vD).1.trans (tok_digits 55 (L.filter digR) (by decide) (fun r hr => (List.mem_filter.1 hr).2))
  have rW := (lexS_enc vW).2
  have rD := (lexS_enc vD).2
  have CW : (⟨#[119]⟩ : ByteArray) ++ ⟨(enc (L.filter wordR)).toArray⟩ = ⟨(enc (119 :: L.filter wordR)).toArray⟩ := by
    rw [show (⟨#[119]⟩ : ByteArray) = ⟨[119].toArray⟩ from rfl, appI]
    rfl
  have CD : (⟨#[55]⟩ : ByteArray) ++ ⟨(enc (L.filter digR)).toArray⟩ = ⟨(enc (55 :: L.filter digR)).toArray⟩ := by
    rw [show (⟨#[55]⟩ : ByteArray) = ⟨[55].toArray⟩ from rfl, appI]
    rfl
  have lW := enc_filter_le wordR L
  have lD := enc_filter_le digR L
  have T1 := Lib.hid (fun W (hW : Below w.heap.size w W) => (ltokens_any ⟨(enc (119 :: L.filter wordR)).toArray⟩ (by rw [sizeI, enc_cons, List.length_append]; have := (encodeRune_size ((119 : Nat) : Int)).2; omega) W (hTb.below hW)).mono fun e w' h => retlex_yes eW h)
  have T2 := Lib.hid (fun W (hW : Below w.heap.size w W) => (ltokens_any ⟨(enc (55 :: L.filter digR)).toArray⟩ (by rw [sizeI, enc_cons, List.length_append]; have := (encodeRune_size ((55 : Nat) : Int)).2; omega) W (hTb.below hW)).mono fun e w' h => retlex_yes eD h)
  have p0 : ∀ M : List Nat, posB M M.length = 0 := fun M => by unfold posB; rw [Nat.sub_self]; rfl
  rw [rW] at T1
  rw [rD] at T2
  rw [← CW] at T1
  rw [← CD] at T2
  have YW := Lib.hid CW
  have YD := Lib.hid CD
  clear eW eD rW rD vW vD CW CD
  have HV := Lib.hid hV
  have RS := Lib.hid rS
  clear hV rS
  go_enter Tryd.func6, Tryd.ntmps6
  go_wp2_with (first
    | (go_at_call 7; (with_reducible refine (awake16 _ hTb).mono ?_); rintro e w1 ⟨rfl, b1⟩)
    | (go_at_call 10; (with_reducible refine (LV.out _).mono ?_); rintro e w2 ⟨rfl, b2⟩))
  have B2 := Lib.hid (bstep b1 b2)
  clear b1 b2
  go_loopw [3, 4] (fun a b wr => ∃ (pos : Nat) (M : List Nat), wr.heap[w2.heap.size]? = some (.stringIter S pos) ∧ a = .string ⟨(enc (M.filter wordR)).toArray⟩ ∧ b = .string ⟨(enc (M.filter digR)).toArray⟩ ∧ Below w2.heap.size w2 wr ∧ Hid (M ++ rn (S.data.toList.drop pos) = L)) (fun a b wr => S.size - wr.iterPos (w2.heap.size))
  case atStart =>
    refine ⟨0, [], ?_, rfl, rfl, (Below.refl _ _).alloc (Nat.le_refl _) _, Lib.hid RS.out⟩
    have := World.iter_heap w2 S 0
    simpa using this
  case round =>
    obtain ⟨pos, M, hit, rfl, rfl, hbw, hM⟩ := hrel
    have hsz : w2.heap.size < wr.heap.size := (Array.getElem?_eq_some_iff.1 hit).1
    by_cases hp : pos < S.size
    · have hnx : ∀ ty, (Instr.next (.pointer (some ⟨w2.heap.size, 0, none⟩)) true ty).run Tryd.prog wr = _ := fun ty => Lib.run_next_any_at wr (w2.heap.size) S pos ty hit hp
      have hwd := Lib.width_pos S pos
      have hd1 := Lib.rune_le S pos
      have hit2 := Lib.iterAt_heap wr (w2.heap.size) S pos (pos + (Utf8.decode S pos).2) hit
      have hbw2 := Lib.below_iterAt hbw (k := w2.heap.size) (by omega) S (pos + (Utf8.decode S pos).2)
      have ST := Lib.hid (rn_at S pos hp)
      generalize (Utf8.decode S pos).1 = r at *
      generalize (Utf8.decode S pos).2 = d at *
      have NX := Lib.hid (show (M ++ [r]) ++ rn (S.data.toList.drop (pos + d)) = L from by rw [List.append_assoc, List.singleton_append, ← ST.out]; exact hM.out)
      have ml : M.length + 1 ≤ L.length := by
        have e := congrArg List.length NX.out
        rw [List.length_append, List.length_append, List.length_singleton] at e
        omega
      have hs2 : (wr.iterAt w2.heap.size S (pos + d)).heap.size = wr.heap.size := by simp [World.iterAt]
      have z1 := enc_filter_le wordR M
      have z2 := enc_filter_le digR M
      have s1 := Lib.hid (filt_snoc wordR M r)
      have s2 := Lib.hid (filt_snoc digR M r)
      have EL := Lib.hid (encI_list r)
      have ez := encI_size r
      have LQ := letterQ_any r hd1
      have DQ := digitQ_any r hd1
      generalize enc (M.filter wordR) = X at *
      generalize enc (M.filter digR) = Y at *
      by_cases l1 : letR r = true
      · have l2 := let_not_dig l1
        rw [l1] at LQ
        rw [l2] at DQ
        rw [if_pos (by unfold wordR; rw [l1]; rfl)] at s1
        rw [if_neg (by rw [l2]; decide)] at s2
        clear l1 l2
        have LQ' := Lib.hid LQ
        have DQ' := Lib.hid DQ
        clear LQ DQ
        go_wp2_with (first
          | (go_at_call 12; (with_reducible refine (LQ'.out (wr.iterAt w2.heap.size S (pos + d))).mono ?_); rintro e w3 ⟨rfl, b3⟩)
          | (go_at_call 13; (with_reducible refine (DQ'.out w3).mono ?_); rintro e w4 ⟨rfl, b4⟩))
        have IT : w4.heap[w2.heap.size]? = some (.stringIter S (pos + d)) := (b4.block _ (Nat.lt_of_lt_of_le (by omega) b3.size)).trans ((b3.block _ (by omega)).trans hit2)
        refine ⟨⟨pos + d, M ++ [r], IT, ?_, ?_, bstep (bstep hbw2 b3) b4, NX⟩, ?_⟩
        · rw [s1.out, EL.out, appI]
        · rw [s2.out]
        · simp only [World.iterPos, IT, hit]
          omega
      · rw [Bool.not_eq_true] at l1
        rw [l1] at LQ
        by_cases l2 : digR r = true
        · rw [l2] at DQ
          rw [if_pos (by unfold wordR; rw [l2, Bool.or_true])] at s1
          rw [if_pos l2] at s2
          clear l1 l2
          have LQ' := Lib.hid LQ
          have DQ' := Lib.hid DQ
          clear LQ DQ
          go_wp2_with (first
            | (go_at_call 12; (with_reducible refine (LQ'.out (wr.iterAt w2.heap.size S (pos + d))).mono ?_); rintro e w3 ⟨rfl, b3⟩)
            | (go_at_call 13; (with_reducible refine (DQ'.out w3).mono ?_); rintro e w4 ⟨rfl, b4⟩)
            | (go_at_call 13; (with_reducible refine (DQ'.out w4).mono ?_); rintro e w5 ⟨rfl, b5⟩))
          have IT : w5.heap[w2.heap.size]? = some (.stringIter S (pos + d)) := (b5.block _ (Nat.lt_of_lt_of_le (by omega) (Nat.le_trans b3.size b4.size))).trans ((b4.block _ (Nat.lt_of_lt_of_le (by omega) b3.size)).trans ((b3.block _ (by omega)).trans hit2))
          refine ⟨⟨pos + d, M ++ [r], IT, ?_, ?_, bstep (bstep (bstep hbw2 b3) b4) b5, NX⟩, ?_⟩
          · rw [s1.out, EL.out, appI]
          · rw [s2.out, EL.out, appI]
          · simp only [World.iterPos, IT, hit]
            omega
        · rw [Bool.not_eq_true] at l2
          rw [l2] at DQ
          rw [if_neg (by unfold wordR; rw [l1, l2]; decide)] at s1
          rw [if_neg (by rw [l2]; decide)] at s2
          clear l1 l2
          have LQ' := Lib.hid LQ
          have DQ' := Lib.hid DQ
          clear LQ DQ
          go_wp2_with (first
            | (go_at_call 12; (with_reducible refine (LQ'.out (wr.iterAt w2.heap.size S (pos + d))).mono ?_); rintro e w3 ⟨rfl, b3⟩)
            | (go_at_call 13; (with_reducible refine (DQ'.out w3).mono ?_); rintro e w4 ⟨rfl, b4⟩)
            | (go_at_call 13; (with_reducible refine (DQ'.out w4).mono ?_); rintro e w5 ⟨rfl, b5⟩))
          have IT : w5.heap[w2.heap.size]? = some (.stringIter S (pos + d)) := (b5.block _ (Nat.lt_of_lt_of_le (by omega) (Nat.le_trans b3.size b4.size))).trans ((b4.block _ (Nat.lt_of_lt_of_le (by omega) b3.size)).trans ((b3.block _ (by omega)).trans hit2))
          refine ⟨⟨pos + d, M ++ [r], IT, ?_, ?_, bstep (bstep (bstep hbw2 b3) b4) b5, NX⟩, ?_⟩
          · rw [s1.out]
          · rw [s2.out]
          · simp only [World.iterPos, IT, hit]
            omega
    · have hnx : ∀ ty, (Instr.next (.pointer (some ⟨w2.heap.size, 0, none⟩)) true ty).run Tryd.prog wr = _ := fun ty => Lib.run_next_end_at wr (w2.heap.size) S pos ty hit hp
      have ME : M = L := by
        have q := hM.out
        rw [rn_end S pos hp, List.append_nil] at q
        exact q
      subst ME
      have zW : (enc (M.filter wordR)).length + 8 ≤ 140737488355328 := by omega
      have zD : (enc (M.filter digR)).length + 8 ≤ 140737488355328 := by omega
      generalize hX : enc (M.filter wordR) = X at *
      generalize hY : enc (M.filter digR) = Y at *
      have HXY := Lib.hid (And.intro hX hY)
      clear hX hY
      go_wp2_with fail
      refine (T1.out _ (bstep B2.out hbw)).mono ?_
      rintro e w4 ⟨v4, rfl, b4, L4⟩
      go_wp2_with fail
      refine (T2.out _ (bstep (bstep B2.out hbw) b4)).mono ?_
      rintro e w6 ⟨v6, rfl, b6, L6⟩
      replace L4 := L4.below b6
      have BB := Lib.hid (bstep (bstep (bstep B2.out hbw) b4) b6)
      clear b4 b6
      obtain ⟨g1, o1, k1, rfl, k1a, k1b, h1, f1⟩ := L4.opened
      obtain ⟨g2, o2, k2, rfl, k2a, k2b, h2, f2⟩ := L6.opened
      have x1 : w6.cell? ⟨g1, o1, none⟩ = some (.int .i64 1) := (f1 0 _ rfl).1
      have x2 : w6.cell? ⟨g1, o1 + 1, none⟩ = some (.string (⟨#[119]⟩ ++ ⟨X.toArray⟩)) := by rw [YW.out]; exact (f1 0 _ rfl).2.1
      have x3 : w6.cell? ⟨g1, o1 + 2, none⟩ = some (.int .i64 0) := by have q := (f1 0 _ rfl).2.2; rw [p0] at q; exact q
      have x4 : w6.cell? ⟨g2, o2, none⟩ = some (.int .i64 2) := (f2 0 _ rfl).1
      have x5 : w6.cell? ⟨g2, o2 + 1, none⟩ = some (.string (⟨#[55]⟩ ++ ⟨Y.toArray⟩)) := by rw [YD.out]; exact (f2 0 _ rfl).2.1
      have x6 : w6.cell? ⟨g2, o2 + 2, none⟩ = some (.int .i64 0) := by have q := (f2 0 _ rfl).2.2; rw [p0] at q; exact q
      clear f1 f2 L4 L6
      simp only [List.length_cons, List.length_nil] at *
      go_wp2
      go_ret
      exact ⟨rfl, BB.out⟩
end Go.Proofs.YtfelcneedpndiaaDoor

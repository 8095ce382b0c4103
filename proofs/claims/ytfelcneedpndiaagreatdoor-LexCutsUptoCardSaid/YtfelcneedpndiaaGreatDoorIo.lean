/-
  The document's answer of layer 16: one (numbers, strings, temporals, symbols), as a contract of its call.
-/
import Derived.Test.YtfelcneedpndiaaGreatDoorIm
namespace Go.Proofs.YtfelcneedpndiaaGreatDoor
open Go.RowKit Go.Lib

theorem symS_le (S : List Nat) : symS S ≤ S.length := by
  unfold symS
  dsimp only
  rcases S with _ | ⟨a, _ | ⟨b, t⟩⟩
  · simp [hd]
  · have e : hd (List.drop 1 [a]) = 0 := rfl
    rw [e]
    split
    · next h => exfalso; omega
    · split <;> simp
  · split
    · simp
    · split <;> simp
theorem oneS_number {S : List Nat} (hl : letR (hd S) = false) (h : digR (hd S) = true ∨ (hd S = 46 ∧ digR (hd (S.drop 1)) = true)) : oneS S = some (2, S.take (S.length - (numS S).length), numS S) := by
  unfold oneS; rw [if_neg (by rw [hl]; decide), if_pos h]
theorem oneS_quote {S : List Nat} (h : hd S = 34) : oneS S = (quoS (S.drop 1)).map fun x => (3, x.1, x.2) := by
  unfold oneS; simp [h, letR, digR]
theorem oneS_temp {S : List Nat} (h : hd S = 64) (h2 : hd (S.drop 1) = 34) : oneS S = (quoS (S.drop 2)).map fun x => (4, x.1, x.2) := by
  unfold oneS
  rw [if_neg (by rw [h]; decide), if_neg (by rw [h]; rintro (x | ⟨x, -⟩) <;> exact absurd x (by decide)), if_neg (by rw [h]; decide), if_pos ⟨h, h2⟩]
theorem oneS_sym {S : List Nat} (hl : letR (hd S) = false) (h : ¬ (digR (hd S) = true ∨ (hd S = 46 ∧ digR (hd (S.drop 1)) = true))) (h3 : hd S ≠ 34) (h4 : ¬ (hd S = 64 ∧ hd (S.drop 1) = 34)) : oneS S = if 0 < symS S then some (5, S.take (symS S), S.drop (symS S)) else none := by
  unfold oneS; rw [if_neg (by rw [hl]; decide), if_neg h, if_neg h3, if_neg h4]
theorem at_ref2 (b : Nat) (v : Value) (L : List Nat) (j : Nat) (ji : Int) (e : ji = (j : Int)) (hj : j ≤ L.length + 2) (hL : L.length ≤ 17592186044416) (w : World) (h : RowN b w v L) : Calls Tryz.prog 26 #[v, .int .i64 ji] w (RetSm (.int .i32 ((hd (L.drop j) : Nat) : Int)) w) := e ▸ at_ref b v L j (by omega) (by omega) w h
theorem letter_ref2 (r : Nat) (ri : Int) (bb : Bool) (e : ri = (r : Int)) (hr : r ≤ 1114111) (hb : letR r = bb) (w : World) : Calls Tryz.prog 27 #[.int .i32 ri] w (RetSm (.bool bb) w) := by subst e hb; exact letter_ref r hr w
theorem digit_ref2 (r : Nat) (ri : Int) (bb : Bool) (e : ri = (r : Int)) (hr : r ≤ 1114111) (hb : digR r = bb) (w : World) : Calls Tryz.prog 28 #[.int .i32 ri] w (RetSm (.bool bb) w) := by subst e hb; exact digit_ref r hr w
set_option linter.unusedVariables false in
set_option linter.unusedSimpArgs false in
set_option maxRecDepth 100000 in
set_option maxHeartbeats 8000000 in
theorem one_digit (b : Nat) (v : Value) (L : List Nat) (k : Nat) (hk : k < L.length) (hV : Vrs L) (hL : L.length ≤ 17592186044416) (w : World) (h : RowN b w v L) (hl : letR (L.getD k 0) = false) (hd1 : digR (L.getD k 0) = true) :
    Calls Tryz.prog 13 #[v, .int .i64 (k : Int)] w (RetOne L (oneS (L.drop k)) k w) := by
  have H := Lib.hid h
  have HV := Lib.hid hV
  have hg := hd_drop L k
  have OS := Lib.hid (oneS_number (S := L.drop k) (by rw [hg]; exact hl) (.inl (by rw [hg]; exact hd1)))
  have NLT := Lib.hid (numS_lt (S := L.drop k) (.inl (by rw [hg]; exact hd1)))
  have LT := Lib.hid (fun W => letter_ref2 (L.getD k 0) _ false rfl (getD_vr hV k) hl W)
  have NU := Lib.hid (fun W hW => number_ref b v L k (Nat.le_of_lt hk) hV hL W hW)
  have DI := Lib.hid (fun W => digit_ref2 (L.getD k 0) _ true rfl (getD_vr hV k) hd1 W)
  clear hl hd1
  obtain ⟨A, cap, rfl⟩ := h.sl2
  obtain ⟨g, rfl, h4, h5, h6, c⟩ := h.cell2 hk
  have h6' : cap ≤ 9223372036854775807 := h6
  clear h hV
  go_enter Tryz.func13, Tryz.ntmps13
  go_upto_region 1 with fail
  have TK := Lib.hid (HoldsTk.new rfl : HoldsTk (w.alloc (TkC 0 ⟨#[]⟩ 0)) w.heap.size 0 ⟨#[]⟩ 0)
  have B := ballD1 (Below.refl w.heap.size w) (TkC 0 ⟨#[]⟩ 0)
  change Code.wp _ _ _ _ (w.alloc (TkC 0 ⟨#[]⟩ 0))
  have H0 := Lib.hid (H.out.below ((Below.refl _ _).alloc (Nat.le_refl _) (TkC 0 ⟨#[]⟩ 0)))
  generalize w.alloc (TkC 0 ⟨#[]⟩ 0) = w0 at *
  obtain ⟨g0, e0, k4, k5, k6, c0⟩ := H0.out.cell2 hk
  injection e0 with e0
  injection e0 with e0
  subst e0
  clear c
  generalize L.getD k 0 = r at *
  clear hg
  go_wp2_with (first
    | (go_at_call 27; (with_reducible refine ((Lib.hid (LT.out w0)).out).mono ?_); rintro e w1 ⟨rfl, rfl⟩)
    | (go_at_call 28; (with_reducible refine ((Lib.hid (DI.out w0)).out).mono ?_); rintro e w1 ⟨rfl, rfl⟩)
    | (go_at_call 29; (with_reducible refine (NU.out w0 H0.out).mono ?_); rintro e w1 ⟨j, rfl, n1, n2, n3, rfl⟩))
  have jk := Lib.hid (show k < j from by
    have a := NLT.out
    rw [← n3, List.length_drop, List.length_drop] at a
    omega)
  have EQ := Lib.hid (show (L.drop k).take ((L.drop k).length - (numS (L.drop k)).length) = (L.drop k).take (j - k) from by
    rw [← n3, List.length_drop, List.length_drop]
    congr 1
    omega)
  have EX := Lib.hid n3
  clear n3
  have CT := Lib.hid (text_part _ _ w0 (by rw [part_len L k j n1 n2]; omega) (H0.out.part k j (cap - k) n1 n2))
  have ZS := enc_take_size L k j hL
  obtain ⟨X, hX⟩ : ∃ X, X = enc ((L.drop k).take (j - k)) := ⟨_, rfl⟩
  rw [← hX] at CT ZS
  have XE := Lib.hid hX
  clear hX
  go_wp2_with (go_at_call 7; (with_reducible refine (CT.out).mono ?_); rintro e w2 ⟨rfl, hb2⟩; have TK2 := Lib.hid (TK.out.below hb2); obtain ⟨⟨t0, t1, t2⟩, ⟨f0, f1, f2⟩, tz⟩ := TK2.out)
  refine ret_via (v := .tuple #[Tk 2 ⟨X.toArray⟩ (k : Int), .int .i64 (j : Int), .bool true]) (fun V => HoldsTk V w.heap.size 2 ⟨X.toArray⟩ (k : Int)) (fun VF hq => ?_) TK2.out.put rfl ⟨2, _, j, true, rfl, BI3 (bstep B hb2) (Nat.le_refl _) _ _ _, by rw [sizeI]; omega, ?_⟩
  · obtain ⟨⟨x0, x1, x2⟩, -, -⟩ := hq
    simp [results, Tryz.results13, go_sem, x0, x1, x2, *]
  · rw [OS.out, EQ.out]
    exact ⟨rfl, rfl, by rw [XE.out], jk.out, n2, EX.out⟩
set_option linter.unusedVariables false in
set_option linter.unusedSimpArgs false in
set_option maxRecDepth 100000 in
set_option maxHeartbeats 8000000 in
theorem one_point (b : Nat) (v : Value) (L : List Nat) (k : Nat) (hk : k < L.length) (hV : Vrs L) (hL : L.length ≤ 17592186044416) (w : World) (h : RowN b w v L) (hl : L.getD k 0 = 46) (hd1 : digR (hd (L.drop (k + 1))) = true) :
    Calls Tryz.prog 13 #[v, .int .i64 (k : Int)] w (RetOne L (oneS (L.drop k)) k w) := by
  have H := Lib.hid h
  have HV := Lib.hid hV
  have hg := hd_drop L k
  have hl2 : letR (L.getD k 0) = false := by rw [hl]; rfl
  have OS := Lib.hid (oneS_number (S := L.drop k) (by rw [hg]; exact hl2) (.inr (by rw [hg, List.drop_drop]; exact ⟨hl, hd1⟩)))
  have NLT := Lib.hid (numS_lt (S := L.drop k) (.inr (by rw [hg, List.drop_drop]; exact ⟨hl, hd1⟩)))
  have LT := Lib.hid (fun W => letter_ref2 (L.getD k 0) 46 false (by rw [hl]; rfl) (getD_vr hV k) hl2 W)
  have NU := Lib.hid (fun W hW => number_ref b v L k (Nat.le_of_lt hk) hV hL W hW)
  have D0 := Lib.hid (fun W => digit_ref2 (L.getD k 0) 46 false (by rw [hl]; rfl) (getD_vr hV k) (by rw [hl]; rfl) W)
  have D1 := Lib.hid (fun W => digit_ref2 (hd (L.drop (k + 1))) _ true rfl (by rw [hd_drop]; exact getD_vr hV _) hd1 W)
  have AT := Lib.hid (fun W hW => at_ref2 b v L (k + 1) ((k : Int) + 1) (by omega) (by omega) hL W hW)
  clear hd1 hl2
  obtain ⟨A, cap, rfl⟩ := h.sl2
  obtain ⟨g, rfl, h4, h5, h6, c⟩ := h.cell2 hk
  have h6' : cap ≤ 9223372036854775807 := h6
  clear h hV
  go_enter Tryz.func13, Tryz.ntmps13
  go_upto_region 1 with fail
  have TK := Lib.hid (HoldsTk.new rfl : HoldsTk (w.alloc (TkC 0 ⟨#[]⟩ 0)) w.heap.size 0 ⟨#[]⟩ 0)
  have B := ballD1 (Below.refl w.heap.size w) (TkC 0 ⟨#[]⟩ 0)
  change Code.wp _ _ _ _ (w.alloc (TkC 0 ⟨#[]⟩ 0))
  have H0 := Lib.hid (H.out.below ((Below.refl _ _).alloc (Nat.le_refl _) (TkC 0 ⟨#[]⟩ 0)))
  generalize w.alloc (TkC 0 ⟨#[]⟩ 0) = w0 at *
  obtain ⟨g0, e0, k4, k5, k6, c0⟩ := H0.out.cell2 hk
  injection e0 with e0
  injection e0 with e0
  subst e0
  clear c
  rw [hl] at c0
  clear hl hg
  generalize hd (L.drop (k + 1)) = q at *
  go_wp2_with (first
    | (go_at_call 27; (with_reducible refine ((Lib.hid (LT.out w0)).out).mono ?_); rintro e w1 ⟨rfl, rfl⟩)
    | (go_at_call 28; (with_reducible refine ((Lib.hid (D0.out w0)).out).mono ?_); rintro e w1 ⟨rfl, rfl⟩)
    | (go_at_call 28; (with_reducible refine ((Lib.hid (D1.out w0)).out).mono ?_); rintro e w1 ⟨rfl, rfl⟩)
    | (go_at_call 26; (with_reducible refine ((Lib.hid (AT.out w0 H0.out)).out).mono ?_); rintro e w1 ⟨rfl, rfl⟩)
    | (go_at_call 29; (with_reducible refine (NU.out w0 H0.out).mono ?_); rintro e w1 ⟨j, rfl, n1, n2, n3, rfl⟩))
  have jk := Lib.hid (show k < j from by
    have a := NLT.out
    rw [← n3, List.length_drop, List.length_drop] at a
    omega)
  have EQ := Lib.hid (show (L.drop k).take ((L.drop k).length - (numS (L.drop k)).length) = (L.drop k).take (j - k) from by
    rw [← n3, List.length_drop, List.length_drop]
    congr 1
    omega)
  have EX := Lib.hid n3
  clear n3
  have CT := Lib.hid (text_part _ _ w0 (by rw [part_len L k j n1 n2]; omega) (H0.out.part k j (cap - k) n1 n2))
  have ZS := enc_take_size L k j hL
  obtain ⟨X, hX⟩ : ∃ X, X = enc ((L.drop k).take (j - k)) := ⟨_, rfl⟩
  rw [← hX] at CT ZS
  have XE := Lib.hid hX
  clear hX
  go_wp2_with (go_at_call 7; (with_reducible refine (CT.out).mono ?_); rintro e w2 ⟨rfl, hb2⟩; have TK2 := Lib.hid (TK.out.below hb2); obtain ⟨⟨t0, t1, t2⟩, ⟨f0, f1, f2⟩, tz⟩ := TK2.out)
  refine ret_via (v := .tuple #[Tk 2 ⟨X.toArray⟩ (k : Int), .int .i64 (j : Int), .bool true]) (fun V => HoldsTk V w.heap.size 2 ⟨X.toArray⟩ (k : Int)) (fun VF hq => ?_) TK2.out.put rfl ⟨2, _, j, true, rfl, BI3 (bstep B hb2) (Nat.le_refl _) _ _ _, by rw [sizeI]; omega, ?_⟩
  · obtain ⟨⟨x0, x1, x2⟩, -, -⟩ := hq
    simp [results, Tryz.results13, go_sem, x0, x1, x2, *]
  · rw [OS.out, EQ.out]
    exact ⟨rfl, rfl, by rw [XE.out], jk.out, n2, EX.out⟩
set_option linter.unusedVariables false in
set_option linter.unusedSimpArgs false in
set_option maxRecDepth 100000 in
set_option maxHeartbeats 8000000 in
theorem one_quote (b : Nat) (v : Value) (L : List Nat) (k : Nat) (hk : k < L.length) (hV : Vrs L) (hL : L.length ≤ 17592186044416) (w : World) (h : RowN b w v L) (hl : L.getD k 0 = 34) :
    Calls Tryz.prog 13 #[v, .int .i64 (k : Int)] w (RetOne L (oneS (L.drop k)) k w) := by
  have H := Lib.hid h
  have HV := Lib.hid hV
  have hg := hd_drop L k
  have OS := Lib.hid (show oneS (L.drop k) = (quoS (L.drop (k + 1))).map fun x => (3, x.1, x.2) from by rw [oneS_quote (by rw [hg]; exact hl), List.drop_drop])
  have LT := Lib.hid (fun W => letter_ref2 (L.getD k 0) 34 false (by rw [hl]; rfl) (getD_vr hV k) (by rw [hl]; rfl) W)
  have D0 := Lib.hid (fun W => digit_ref2 (L.getD k 0) 34 false (by rw [hl]; rfl) (getD_vr hV k) (by rw [hl]; rfl) W)
  have QT := Lib.hid (fun W hW => quoted_ref b v L k _ rfl hk hV hL W hW)
  obtain ⟨A, cap, rfl⟩ := h.sl2
  obtain ⟨g, rfl, h4, h5, h6, c⟩ := h.cell2 hk
  have h6' : cap ≤ 9223372036854775807 := h6
  clear h hV
  go_enter Tryz.func13, Tryz.ntmps13
  go_upto_region 1 with fail
  have TK := Lib.hid (HoldsTk.new rfl : HoldsTk (w.alloc (TkC 0 ⟨#[]⟩ 0)) w.heap.size 0 ⟨#[]⟩ 0)
  have B := ballD1 (Below.refl w.heap.size w) (TkC 0 ⟨#[]⟩ 0)
  change Code.wp _ _ _ _ (w.alloc (TkC 0 ⟨#[]⟩ 0))
  have H0 := Lib.hid (H.out.below ((Below.refl _ _).alloc (Nat.le_refl _) (TkC 0 ⟨#[]⟩ 0)))
  generalize w.alloc (TkC 0 ⟨#[]⟩ 0) = w0 at *
  obtain ⟨g0, e0, k4, k5, k6, c0⟩ := H0.out.cell2 hk
  injection e0 with e0
  injection e0 with e0
  subst e0
  clear c
  rw [hl] at c0
  clear hl hg
  have QU := Lib.hid (QT.out w0 H0.out)
  go_wp2_with (first
    | (go_at_call 27; (with_reducible refine ((Lib.hid (LT.out w0)).out).mono ?_); rintro e w1 ⟨rfl, rfl⟩)
    | (go_at_call 28; (with_reducible refine ((Lib.hid (D0.out w0)).out).mono ?_); rintro e w1 ⟨rfl, rfl⟩)
    | (go_at_call 30; (with_reducible refine (QU.out).mono ?_); rintro e w2 ⟨s, j, ok, rfl, hb2, hz, hq⟩; have HQ := Lib.hid hq; clear hq; have TK2 := Lib.hid (TK.out.below hb2); obtain ⟨⟨t0, t1, t2⟩, ⟨f0, f1, f2⟩, tz⟩ := TK2.out))
  refine ret_via (v := .tuple #[Tk 3 s (k : Int), .int .i64 (j : Int), .bool ok]) (fun V => HoldsTk V w.heap.size 3 s (k : Int)) (fun VF hq => ?_) TK2.out.put rfl ⟨3, s, j, ok, rfl, BI3 (bstep B hb2) (Nat.le_refl _) _ _ _, hz, ?_⟩
  · obtain ⟨⟨x0, x1, x2⟩, -, -⟩ := hq
    simp [results, Tryz.results13, go_sem, x0, x1, x2, *]
  · rw [OS.out]
    have q := HQ.out
    cases hc : quoS (L.drop (k + 1)) with
    | none => rw [hc] at q; exact q.1
    | some p => rw [hc] at q; exact ⟨q.1, rfl, q.2.1, by have := q.2.2.1; omega, q.2.2.2.1, q.2.2.2.2⟩
set_option linter.unusedVariables false in
set_option linter.unusedSimpArgs false in
set_option maxRecDepth 100000 in
set_option maxHeartbeats 8000000 in
theorem one_temp (b : Nat) (v : Value) (L : List Nat) (k : Nat) (hk : k < L.length) (hV : Vrs L) (hL : L.length ≤ 17592186044416) (w : World) (h : RowN b w v L) (hl : L.getD k 0 = 64) (hl2 : hd (L.drop (k + 1)) = 34) :
    Calls Tryz.prog 13 #[v, .int .i64 (k : Int)] w (RetOne L (oneS (L.drop k)) k w) := by
  have H := Lib.hid h
  have HV := Lib.hid hV
  have hg := hd_drop L k
  have OS := Lib.hid (show oneS (L.drop k) = (quoS (L.drop (k + 1 + 1))).map fun x => (4, x.1, x.2) from by rw [oneS_temp (by rw [hg]; exact hl) (by rw [List.drop_drop]; exact hl2), List.drop_drop])
  have LT := Lib.hid (fun W => letter_ref2 (L.getD k 0) 64 false (by rw [hl]; rfl) (getD_vr hV k) (by rw [hl]; rfl) W)
  have D0 := Lib.hid (fun W => digit_ref2 (L.getD k 0) 64 false (by rw [hl]; rfl) (getD_vr hV k) (by rw [hl]; rfl) W)
  have AT := (fun W hW => at_ref2 b v L (k + 1) ((k : Int) + 1) (by omega) (by omega) hL W hW)
  have QT := Lib.hid (fun W hW => quoted_ref b v L (k + 1) ((k : Int) + 1) (by omega) (hd_lt hl2 (by decide)) hV hL W hW)
  rw [hl2] at AT
  have AT2 := Lib.hid AT
  clear AT hl2
  obtain ⟨A, cap, rfl⟩ := h.sl2
  obtain ⟨g, rfl, h4, h5, h6, c⟩ := h.cell2 hk
  have h6' : cap ≤ 9223372036854775807 := h6
  clear h hV
  go_enter Tryz.func13, Tryz.ntmps13
  go_upto_region 1 with fail
  have TK := Lib.hid (HoldsTk.new rfl : HoldsTk (w.alloc (TkC 0 ⟨#[]⟩ 0)) w.heap.size 0 ⟨#[]⟩ 0)
  have B := ballD1 (Below.refl w.heap.size w) (TkC 0 ⟨#[]⟩ 0)
  change Code.wp _ _ _ _ (w.alloc (TkC 0 ⟨#[]⟩ 0))
  have H0 := Lib.hid (H.out.below ((Below.refl _ _).alloc (Nat.le_refl _) (TkC 0 ⟨#[]⟩ 0)))
  generalize w.alloc (TkC 0 ⟨#[]⟩ 0) = w0 at *
  obtain ⟨g0, e0, k4, k5, k6, c0⟩ := H0.out.cell2 hk
  injection e0 with e0
  injection e0 with e0
  subst e0
  clear c
  rw [hl] at c0
  clear hl hg
  have QU := Lib.hid (QT.out w0 H0.out)
  go_wp2_with (first
    | (go_at_call 27; (with_reducible refine ((Lib.hid (LT.out w0)).out).mono ?_); rintro e w1 ⟨rfl, rfl⟩)
    | (go_at_call 28; (with_reducible refine ((Lib.hid (D0.out w0)).out).mono ?_); rintro e w1 ⟨rfl, rfl⟩)
    | (go_at_call 26; (with_reducible refine ((Lib.hid (AT2.out w0 H0.out)).out).mono ?_); rintro e w1 ⟨rfl, rfl⟩)
    | (go_at_call 30; (with_reducible refine (QU.out).mono ?_); rintro e w2 ⟨s, j, ok, rfl, hb2, hz, hq⟩; have HQ := Lib.hid hq; clear hq; have TK2 := Lib.hid (TK.out.below hb2); obtain ⟨⟨t0, t1, t2⟩, ⟨f0, f1, f2⟩, tz⟩ := TK2.out))
  refine ret_via (v := .tuple #[Tk 4 s (k : Int), .int .i64 (j : Int), .bool ok]) (fun V => HoldsTk V w.heap.size 4 s (k : Int)) (fun VF hq => ?_) TK2.out.put rfl ⟨4, s, j, ok, rfl, BI3 (bstep B hb2) (Nat.le_refl _) _ _ _, hz, ?_⟩
  · obtain ⟨⟨x0, x1, x2⟩, -, -⟩ := hq
    simp [results, Tryz.results13, go_sem, x0, x1, x2, *]
  · rw [OS.out]
    have q := HQ.out
    cases hc : quoS (L.drop (k + 1 + 1)) with
    | none => rw [hc] at q; exact q.1
    | some p => rw [hc] at q; exact ⟨q.1, rfl, q.2.1, by have := q.2.2.1; omega, q.2.2.2.1, q.2.2.2.2⟩
set_option linter.unusedVariables false in
set_option linter.unusedSimpArgs false in
set_option maxRecDepth 100000 in
set_option maxHeartbeats 8000000 in
theorem one_symD (b : Nat) (v : Value) (L : List Nat) (k : Nat) (hk : k < L.length) (hV : Vrs L) (hL : L.length ≤ 17592186044416) (w : World) (h : RowN b w v L) (hl : letR (L.getD k 0) = false) (h1 : digR (L.getD k 0) = false) (h2 : L.getD k 0 ≠ 46) (h3 : L.getD k 0 ≠ 34) (h4' : L.getD k 0 ≠ 64) :
    Calls Tryz.prog 13 #[v, .int .i64 (k : Int)] w (RetOne L (oneS (L.drop k)) k w) := by
  have H := Lib.hid h
  have HV := Lib.hid hV
  have hg := hd_drop L k
  have OS := Lib.hid (oneS_sym (S := L.drop k) (by rw [hg]; exact hl) (by rw [hg, h1]; exact fun x => x.elim (fun y => Bool.false_ne_true y) (fun y => h2 y.1)) (by rw [hg]; exact h3) (by rw [hg]; exact fun x => h4' x.1))
  have LT := Lib.hid (fun W => letter_ref2 (L.getD k 0) _ false rfl (getD_vr hV k) hl W)
  have D0 := Lib.hid (fun W => digit_ref2 (L.getD k 0) _ false rfl (getD_vr hV k) h1 W)
  have n46 := neI h2
  have n34 := neI h3
  have n64 := neI h4'
  simp only [Int.cast_ofNat_Int] at n46 n34 n64
  clear hl h1 h2 h3 h4'

  obtain ⟨A, cap, rfl⟩ := h.sl2
  obtain ⟨g, rfl, h4, h5, h6, c⟩ := h.cell2 hk
  have h6' : cap ≤ 9223372036854775807 := h6
  clear h hV
  go_enter Tryz.func13, Tryz.ntmps13
  go_upto_region 1 with fail
  have TK := Lib.hid (HoldsTk.new rfl : HoldsTk (w.alloc (TkC 0 ⟨#[]⟩ 0)) w.heap.size 0 ⟨#[]⟩ 0)
  have B := ballD1 (Below.refl w.heap.size w) (TkC 0 ⟨#[]⟩ 0)
  change Code.wp _ _ _ _ (w.alloc (TkC 0 ⟨#[]⟩ 0))
  have H0 := Lib.hid (H.out.below ((Below.refl _ _).alloc (Nat.le_refl _) (TkC 0 ⟨#[]⟩ 0)))
  generalize w.alloc (TkC 0 ⟨#[]⟩ 0) = w0 at *
  obtain ⟨g0, e0, k4, k5, k6, c0⟩ := H0.out.cell2 hk
  injection e0 with e0
  injection e0 with e0
  subst e0
  clear c
  clear hg
  generalize L.getD k 0 = r at *
  have SL := symS_le (L.drop k)
  rw [List.length_drop] at SL
  have SB : symS (L.drop k) ≤ 2 := by unfold symS; dsimp only; repeat' split
                                      all_goals omega
  obtain ⟨n, hn⟩ : ∃ n, n = symS (L.drop k) := ⟨_, rfl⟩
  rw [← hn] at SL SB OS
  have SY := Lib.hid (symbol_ref _ _ L k (Nat.le_of_lt hk) hL w0 H0.out)
  rw [← hn] at SY
  have HN := Lib.hid hn
  clear hn
  have CT := Lib.hid (text_part _ _ w0 (by rw [part_len L k (k + n) (by omega) (by omega)]; omega) (H0.out.part k (k + n) (cap - k) (by omega) (by omega)))
  have ZS := enc_take_size L k (k + n) hL
  rw [Nat.add_sub_cancel_left] at CT ZS
  obtain ⟨X, hX⟩ : ∃ X, X = enc ((L.drop k).take n) := ⟨_, rfl⟩
  rw [← hX] at CT ZS
  have XE := Lib.hid hX
  clear hX
  · skip
    go_wp2_with (first
      | (go_at_call 27; (with_reducible refine ((Lib.hid (LT.out w0)).out).mono ?_); rintro e w1 ⟨rfl, rfl⟩)
      | (go_at_call 28; (with_reducible refine ((Lib.hid (D0.out w0)).out).mono ?_); rintro e w1 ⟨rfl, rfl⟩)
      | (go_at_call 31; (with_reducible refine (SY.out).mono ?_); rintro e w1 ⟨rfl, rfl⟩)
      | (go_at_call 7; (with_reducible refine (CT.out).mono ?_); rintro e w2 ⟨rfl, hb2⟩; have TK2 := Lib.hid (TK.out.below hb2); obtain ⟨⟨t0, t1, t2⟩, ⟨f0, f1, f2⟩, tz⟩ := TK2.out))
    refine ret_via (v := .tuple #[Tk 5 ⟨X.toArray⟩ (k : Int), .int .i64 ((k + n : Nat) : Int), .bool (decide (0 < n))]) (fun V => HoldsTk V w.heap.size 5 ⟨X.toArray⟩ (k : Int)) (fun VF hq => ?_) TK2.out.put rfl ⟨5, _, k + n, decide (0 < n), rfl, BI3 (bstep B hb2) (Nat.le_refl _) _ _ _, by rw [sizeI]; omega, ?_⟩
    · obtain ⟨⟨x0, x1, x2⟩, -, -⟩ := hq
      simp [results, Tryz.results13, go_sem, x0, x1, x2, *]
    · rw [OS.out]
      by_cases z : 0 < n
      · rw [if_pos z]
        exact ⟨by simpa using z, rfl, by rw [XE.out], by omega, by omega, by rw [List.drop_drop]⟩
      · rw [if_neg z]
        simpa using z
set_option linter.unusedVariables false in
set_option linter.unusedSimpArgs false in
set_option maxRecDepth 100000 in
set_option maxHeartbeats 8000000 in
theorem one_symP (b : Nat) (v : Value) (L : List Nat) (k : Nat) (hk : k < L.length) (hV : Vrs L) (hL : L.length ≤ 17592186044416) (w : World) (h : RowN b w v L) (hl0 : L.getD k 0 = 46) (h1 : digR (hd (L.drop (k + 1))) = false) :
    Calls Tryz.prog 13 #[v, .int .i64 (k : Int)] w (RetOne L (oneS (L.drop k)) k w) := by
  have H := Lib.hid h
  have HV := Lib.hid hV
  have hg := hd_drop L k
  have OS := Lib.hid (oneS_sym (S := L.drop k) (by rw [hg, hl0]; rfl) (by rw [hg, hl0, List.drop_drop, h1]; rintro (x | ⟨-, x⟩) <;> exact absurd x (by decide)) (by rw [hg, hl0]; decide) (by rw [hg, hl0]; exact fun x => absurd x.1 (by decide)))
  have LT := Lib.hid (fun W => letter_ref2 (L.getD k 0) 46 false (by rw [hl0]; rfl) (getD_vr hV k) (by rw [hl0]; rfl) W)
  have D0 := Lib.hid (fun W => digit_ref2 (L.getD k 0) 46 false (by rw [hl0]; rfl) (getD_vr hV k) (by rw [hl0]; rfl) W)
  have D1 := Lib.hid (fun W => digit_ref2 (hd (L.drop (k + 1))) _ false rfl (by rw [hd_drop]; exact getD_vr hV _) h1 W)
  have AT := Lib.hid (fun W hW => at_ref2 b v L (k + 1) ((k : Int) + 1) (by omega) (by omega) hL W hW)
  clear h1

  obtain ⟨A, cap, rfl⟩ := h.sl2
  obtain ⟨g, rfl, h4, h5, h6, c⟩ := h.cell2 hk
  have h6' : cap ≤ 9223372036854775807 := h6
  clear h hV
  go_enter Tryz.func13, Tryz.ntmps13
  go_upto_region 1 with fail
  have TK := Lib.hid (HoldsTk.new rfl : HoldsTk (w.alloc (TkC 0 ⟨#[]⟩ 0)) w.heap.size 0 ⟨#[]⟩ 0)
  have B := ballD1 (Below.refl w.heap.size w) (TkC 0 ⟨#[]⟩ 0)
  change Code.wp _ _ _ _ (w.alloc (TkC 0 ⟨#[]⟩ 0))
  have H0 := Lib.hid (H.out.below ((Below.refl _ _).alloc (Nat.le_refl _) (TkC 0 ⟨#[]⟩ 0)))
  generalize w.alloc (TkC 0 ⟨#[]⟩ 0) = w0 at *
  obtain ⟨g0, e0, k4, k5, k6, c0⟩ := H0.out.cell2 hk
  injection e0 with e0
  injection e0 with e0
  subst e0
  clear c
  rw [hl0] at c0
  clear hg hl0
  generalize hd (L.drop (k + 1)) = r at *
  have SL := symS_le (L.drop k)
  rw [List.length_drop] at SL
  have SB : symS (L.drop k) ≤ 2 := by unfold symS; dsimp only; repeat' split
                                      all_goals omega
  obtain ⟨n, hn⟩ : ∃ n, n = symS (L.drop k) := ⟨_, rfl⟩
  rw [← hn] at SL SB OS
  have SY := Lib.hid (symbol_ref _ _ L k (Nat.le_of_lt hk) hL w0 H0.out)
  rw [← hn] at SY
  have HN := Lib.hid hn
  clear hn
  have CT := Lib.hid (text_part _ _ w0 (by rw [part_len L k (k + n) (by omega) (by omega)]; omega) (H0.out.part k (k + n) (cap - k) (by omega) (by omega)))
  have ZS := enc_take_size L k (k + n) hL
  rw [Nat.add_sub_cancel_left] at CT ZS
  obtain ⟨X, hX⟩ : ∃ X, X = enc ((L.drop k).take n) := ⟨_, rfl⟩
  rw [← hX] at CT ZS
  have XE := Lib.hid hX
  clear hX
  · skip
    go_wp2_with (first
      | (go_at_call 27; (with_reducible refine ((Lib.hid (LT.out w0)).out).mono ?_); rintro e w1 ⟨rfl, rfl⟩)
      | (go_at_call 28; (with_reducible refine ((Lib.hid (D0.out w0)).out).mono ?_); rintro e w1 ⟨rfl, rfl⟩)
      | (go_at_call 28; (with_reducible refine ((Lib.hid (D1.out w0)).out).mono ?_); rintro e w1 ⟨rfl, rfl⟩)
      | (go_at_call 26; (with_reducible refine ((Lib.hid (AT.out w0 H0.out)).out).mono ?_); rintro e w1 ⟨rfl, rfl⟩)
      | (go_at_call 31; (with_reducible refine (SY.out).mono ?_); rintro e w1 ⟨rfl, rfl⟩)
      | (go_at_call 7; (with_reducible refine (CT.out).mono ?_); rintro e w2 ⟨rfl, hb2⟩; have TK2 := Lib.hid (TK.out.below hb2); obtain ⟨⟨t0, t1, t2⟩, ⟨f0, f1, f2⟩, tz⟩ := TK2.out))
    refine ret_via (v := .tuple #[Tk 5 ⟨X.toArray⟩ (k : Int), .int .i64 ((k + n : Nat) : Int), .bool (decide (0 < n))]) (fun V => HoldsTk V w.heap.size 5 ⟨X.toArray⟩ (k : Int)) (fun VF hq => ?_) TK2.out.put rfl ⟨5, _, k + n, decide (0 < n), rfl, BI3 (bstep B hb2) (Nat.le_refl _) _ _ _, by rw [sizeI]; omega, ?_⟩
    · obtain ⟨⟨x0, x1, x2⟩, -, -⟩ := hq
      simp [results, Tryz.results13, go_sem, x0, x1, x2, *]
    · rw [OS.out]
      by_cases z : 0 < n
      · rw [if_pos z]
        exact ⟨by simpa using z, rfl, by rw [XE.out], by omega, by omega, by rw [List.drop_drop]⟩
      · rw [if_neg z]
        simpa using z
set_option linter.unusedVariables false in
set_option linter.unusedSimpArgs false in
set_option maxRecDepth 100000 in
set_option maxHeartbeats 8000000 in
theorem one_symA (b : Nat) (v : Value) (L : List Nat) (k : Nat) (hk : k < L.length) (hV : Vrs L) (hL : L.length ≤ 17592186044416) (w : World) (h : RowN b w v L) (hl0 : L.getD k 0 = 64) (h1 : hd (L.drop (k + 1)) ≠ 34) :
    Calls Tryz.prog 13 #[v, .int .i64 (k : Int)] w (RetOne L (oneS (L.drop k)) k w) := by
  have H := Lib.hid h
  have HV := Lib.hid hV
  have hg := hd_drop L k
  have OS := Lib.hid (oneS_sym (S := L.drop k) (by rw [hg, hl0]; rfl) (by rw [hg, hl0]; rintro (x | ⟨x, -⟩) <;> exact absurd x (by decide)) (by rw [hg, hl0]; decide) (by rw [hg, hl0, List.drop_drop]; exact fun x => h1 x.2))
  have LT := Lib.hid (fun W => letter_ref2 (L.getD k 0) 64 false (by rw [hl0]; rfl) (getD_vr hV k) (by rw [hl0]; rfl) W)
  have D0 := Lib.hid (fun W => digit_ref2 (L.getD k 0) 64 false (by rw [hl0]; rfl) (getD_vr hV k) (by rw [hl0]; rfl) W)
  have AT := Lib.hid (fun W hW => at_ref2 b v L (k + 1) ((k : Int) + 1) (by omega) (by omega) hL W hW)
  have n34 := neI h1
  simp only [Int.cast_ofNat_Int] at n34
  clear h1

  obtain ⟨A, cap, rfl⟩ := h.sl2
  obtain ⟨g, rfl, h4, h5, h6, c⟩ := h.cell2 hk
  have h6' : cap ≤ 9223372036854775807 := h6
  clear h hV
  go_enter Tryz.func13, Tryz.ntmps13
  go_upto_region 1 with fail
  have TK := Lib.hid (HoldsTk.new rfl : HoldsTk (w.alloc (TkC 0 ⟨#[]⟩ 0)) w.heap.size 0 ⟨#[]⟩ 0)
  have B := ballD1 (Below.refl w.heap.size w) (TkC 0 ⟨#[]⟩ 0)
  change Code.wp _ _ _ _ (w.alloc (TkC 0 ⟨#[]⟩ 0))
  have H0 := Lib.hid (H.out.below ((Below.refl _ _).alloc (Nat.le_refl _) (TkC 0 ⟨#[]⟩ 0)))
  generalize w.alloc (TkC 0 ⟨#[]⟩ 0) = w0 at *
  obtain ⟨g0, e0, k4, k5, k6, c0⟩ := H0.out.cell2 hk
  injection e0 with e0
  injection e0 with e0
  subst e0
  clear c
  rw [hl0] at c0
  clear hg hl0
  generalize hd (L.drop (k + 1)) = r at *
  have SL := symS_le (L.drop k)
  rw [List.length_drop] at SL
  have SB : symS (L.drop k) ≤ 2 := by unfold symS; dsimp only; repeat' split
                                      all_goals omega
  obtain ⟨n, hn⟩ : ∃ n, n = symS (L.drop k) := ⟨_, rfl⟩
  rw [← hn] at SL SB OS
  have SY := Lib.hid (symbol_ref _ _ L k (Nat.le_of_lt hk) hL w0 H0.out)
  rw [← hn] at SY
  have HN := Lib.hid hn
  clear hn
  have CT := Lib.hid (text_part _ _ w0 (by rw [part_len L k (k + n) (by omega) (by omega)]; omega) (H0.out.part k (k + n) (cap - k) (by omega) (by omega)))
  have ZS := enc_take_size L k (k + n) hL
  rw [Nat.add_sub_cancel_left] at CT ZS
  obtain ⟨X, hX⟩ : ∃ X, X = enc ((L.drop k).take n) := ⟨_, rfl⟩
  rw [← hX] at CT ZS
  have XE := Lib.hid hX
  clear hX
  · skip
    go_wp2_with (first
      | (go_at_call 27; (with_reducible refine ((Lib.hid (LT.out w0)).out).mono ?_); rintro e w1 ⟨rfl, rfl⟩)
      | (go_at_call 28; (with_reducible refine ((Lib.hid (D0.out w0)).out).mono ?_); rintro e w1 ⟨rfl, rfl⟩)
      | (go_at_call 26; (with_reducible refine ((Lib.hid (AT.out w0 H0.out)).out).mono ?_); rintro e w1 ⟨rfl, rfl⟩)
      | (go_at_call 31; (with_reducible refine (SY.out).mono ?_); rintro e w1 ⟨rfl, rfl⟩)
      | (go_at_call 7; (with_reducible refine (CT.out).mono ?_); rintro e w2 ⟨rfl, hb2⟩; have TK2 := Lib.hid (TK.out.below hb2); obtain ⟨⟨t0, t1, t2⟩, ⟨f0, f1, f2⟩, tz⟩ := TK2.out))
    refine ret_via (v := .tuple #[Tk 5 ⟨X.toArray⟩ (k : Int), .int .i64 ((k + n : Nat) : Int), .bool (decide (0 < n))]) (fun V => HoldsTk V w.heap.size 5 ⟨X.toArray⟩ (k : Int)) (fun VF hq => ?_) TK2.out.put rfl ⟨5, _, k + n, decide (0 < n), rfl, BI3 (bstep B hb2) (Nat.le_refl _) _ _ _, by rw [sizeI]; omega, ?_⟩
    · obtain ⟨⟨x0, x1, x2⟩, -, -⟩ := hq
      simp [results, Tryz.results13, go_sem, x0, x1, x2, *]
    · rw [OS.out]
      by_cases z : 0 < n
      · rw [if_pos z]
        exact ⟨by simpa using z, rfl, by rw [XE.out], by omega, by omega, by rw [List.drop_drop]⟩
      · rw [if_neg z]
        simpa using z
/-- one: any place of a source. -/
theorem one_ref (b : Nat) (v : Value) (L : List Nat) (k : Nat) (hk : k < L.length) (hV : Vrs L) (hL : L.length ≤ 17592186044416) (w : World) (h : RowN b w v L) :
    Calls Tryz.prog 13 #[v, .int .i64 (k : Int)] w (RetOne L (oneS (L.drop k)) k w) := by
  by_cases hl : letR (L.getD k 0) = true
  · exact one_letter b v L k hk hV hL w h hl
  rw [Bool.not_eq_true] at hl
  by_cases h1 : digR (L.getD k 0) = true
  · exact one_digit b v L k hk hV hL w h hl h1
  rw [Bool.not_eq_true] at h1
  by_cases h2 : L.getD k 0 = 46
  · by_cases h3 : digR (hd (L.drop (k + 1))) = true
    · exact one_point b v L k hk hV hL w h h2 h3
    · exact one_symP b v L k hk hV hL w h h2 (by simpa using h3)
  by_cases h3 : L.getD k 0 = 34
  · exact one_quote b v L k hk hV hL w h h3
  by_cases h4 : L.getD k 0 = 64
  · by_cases h5 : hd (L.drop (k + 1)) = 34
    · exact one_temp b v L k hk hV hL w h h4 h5
    · exact one_symA b v L k hk hV hL w h h4 h5
  exact one_symD b v L k hk hV hL w h hl h1 h2 h3 h4
end Go.Proofs.YtfelcneedpndiaaGreatDoor

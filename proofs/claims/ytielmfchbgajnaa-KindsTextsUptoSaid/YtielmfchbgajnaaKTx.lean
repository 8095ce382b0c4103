/-
  KindsTexts walked (layer 13).
-/
import Derived.Test.YtielmfchbgajnaaKu
import Derived.Test.YtielmfchbgajnaaKM
namespace Go.Proofs.Ytielmfchbgajnaa
open Go.RowKit Go.Shelf
abbrev o8_0 : Oper := { dst := some 23, op := Op.load 26 (Operand.tmp 3), type := 26, pos := "law.go:213", after := #[], guard := none }
abbrev o8_1 : Oper := { dst := some 24, op := Op.call { callee := Callee.value (Operand.func 15), args := #[Operand.tmp 23], argTypes := #[26] }, type := 4, pos := "law.go:213", after := #[{ on := 0, ground := Ground.data }], guard := none }
abbrev o8_2 : Oper := { dst := some 25, op := Op.unOp UnOp.not 4 (Operand.tmp 24), type := 4, pos := "law.go:213", after := #[{ on := 1, ground := Ground.data }], guard := none }
abbrev o8_3 : Oper := { dst := some 26, op := Op.move (Operand.tmp 25), type := 4, pos := "law.go:213", after := #[{ on := 2, ground := Ground.data }, { on := 1, ground := Ground.chain }], guard := none }
abbrev o8_4 : Oper := { dst := some 27, op := Op.load 26 (Operand.tmp 3), type := 26, pos := "law.go:213", after := #[{ on := 3, ground := Ground.guard }], guard := some (3, false) }
abbrev o8_5 : Oper := { dst := some 28, op := Op.call { callee := Callee.value (Operand.func 13), args := #[Operand.tmp 27], argTypes := #[26] }, type := 9, pos := "law.go:213", after := #[{ on := 4, ground := Ground.data }, { on := 3, ground := Ground.chain }, { on := 3, ground := Ground.guard }], guard := some (3, false) }
abbrev o8_6 : Oper := { dst := some 29, op := Op.load 26 (Operand.tmp 3), type := 26, pos := "law.go:213", after := #[{ on := 3, ground := Ground.guard }], guard := some (3, false) }
abbrev o8_7 : Oper := { dst := some 30, op := Op.call { callee := Callee.value (Operand.func 32), args := #[Operand.tmp 29], argTypes := #[26] }, type := 9, pos := "law.go:213", after := #[{ on := 6, ground := Ground.data }, { on := 5, ground := Ground.chain }, { on := 3, ground := Ground.guard }], guard := some (3, false) }
abbrev o8_8 : Oper := { dst := some 31, op := Op.binOp BinOp.eql 9 (Operand.tmp 28) (Operand.tmp 30) 9, type := 4, pos := "law.go:213", after := #[{ on := 5, ground := Ground.data }, { on := 7, ground := Ground.data }, { on := 3, ground := Ground.guard }], guard := some (3, false) }
abbrev o8_9 : Oper := { dst := some 32, op := Op.pick (Operand.tmp 26) (Operand.const (Value.bool true)) (Operand.tmp 31), type := 4, pos := "law.go:213", after := #[{ on := 3, ground := Ground.data }, { on := 8, ground := Ground.data }], guard := none }
abbrev o8_10 : Oper := { dst := some 6, op := Op.assign (Operand.tmp 32), type := 4, pos := "law.go:213", after := #[{ on := 9, ground := Ground.data }, { on := 7, ground := Ground.chain }, { on := 0, ground := Ground.phase }, { on := 1, ground := Ground.phase }, { on := 2, ground := Ground.phase }, { on := 3, ground := Ground.phase }, { on := 4, ground := Ground.phase }, { on := 5, ground := Ground.phase }, { on := 6, ground := Ground.phase }, { on := 7, ground := Ground.phase }, { on := 8, ground := Ground.phase }, { on := 9, ground := Ground.phase }], guard := none }
theorem km3x {w V w' : World} {k : Int} {a : Option Addr} {n c : Nat} {b : Option Addr} {m d : Nat} (h : V.cell? ⟨w.heap.size, 0, none⟩ = some (.int .i64 k) ∧ V.cell? ⟨w.heap.size, 1, none⟩ = some (.slice a n c) ∧ V.cell? ⟨w.heap.size, 2, none⟩ = some (.slice b m d)) (hb : Below V.heap.size V w') : w'.cell? ⟨w.heap.size, 0, none⟩ = some (.int .i64 k) ∧ w'.cell? ⟨w.heap.size, 1, none⟩ = some (.slice a n c) ∧ w'.cell? ⟨w.heap.size, 2, none⟩ = some (.slice b m d) ∧ Below V.heap.size V w' := ⟨cell_below h.1 hb, cell_below h.2.1 hb, cell_below h.2.2 hb, hb⟩
set_option linter.unusedSimpArgs false in
set_option linter.unusedVariables false in
set_option maxRecDepth 100000 in
set_option maxHeartbeats 8000000 in
theorem texts_walk (A : T) (k : Int) (a : Option Addr) (n c : Nat) (b : Option Addr) (m d : Nat) (s : ByteArray) (x : Int) (w : World) (h1 : Lies Tr w (TV k a n c b m d) A) (hr : room A + 64 ≤ 140737488355328) (hs : 5 * s.size + 8 ≤ 140737488355328) : Calls Try.prog 8 #[TV k a n c b m d, .string s, .int .i64 x] w (Ret (.bool true) w) := by
  have LA := Lib.hid h1
  have HR := Lib.hid hr
  have HS := Lib.hid hs
  have BX := Lib.hid (Boxed.new w (.int .i64 k) (.slice a n c) (.slice b m d))
  have BW : Hid (Below w.heap.size w (w.alloc (.cells #[.int .i64 k, .slice a n c, .slice b m d] 26))) := Lib.hid ((Below.refl _ _).alloc (Nat.le_refl _) _)
  replace LA := Lib.hid (LA.out.on BW.out)
  clear h1 hr hs
  go_enter Try.func8, Try.ntmps8
  go_wp2_with fail
  refine (awake_walk _).mono ?_
  rintro e w1 ⟨rfl, HB⟩
  replace BX := Lib.hid (BX.out.below HB)
  replace LA := Lib.hid (LA.out.on HB)
  replace BW := Lib.hid (bstep BW.out HB)
  clear HB
  obtain ⟨y0, y1, y2⟩ := BX.out.cells
  go_wp2_with fail
  refine (great_any A Tr _ k a n c b m d LA.out).mono ?_
  rintro e w2 ⟨v, rfl, HB⟩
  replace BX := Lib.hid (BX.out.below HB)
  replace LA := Lib.hid (LA.out.on HB)
  replace BW := Lib.hid (bstep BW.out HB)
  clear HB y0 y1 y2
  cases v with
  | true =>
    go_wp2
    go_ret
    exact ⟨rfl, BW.out⟩
  | false =>
    have C1 := Lib.hid (fun W => word_walk x W)
    have C2 := Lib.hid (fun W => lword_walk x W)
    have C3 := Lib.hid (fun W => quote_walk s W HS.out)
    have C4 := Lib.hid (fun W => lquote_walk s W HS.out)
    generalize wordOf x = wx at *
    generalize quoteL s = qs at *
    go_upto_region 7 with (first
      | (go_at_call 28; (with_reducible refine (C1.out _).mono ?_); rintro e w3 ⟨rfl, hb3⟩)
      | (go_at_call 29; (with_reducible refine (C2.out _).mono ?_); rintro e w4 ⟨rfl, hb4⟩)
      | (go_at_call 30; (with_reducible refine (C3.out _).mono ?_); rintro e w5 ⟨rfl, hb5⟩)
      | (go_at_call 31; (with_reducible refine (C4.out _).mono ?_); rintro e V ⟨rfl, hb6⟩))
    have HB : Below w2.heap.size w2 V := bstep (bstep (bstep hb3 hb4) hb5) hb6
    replace BX := Lib.hid (BX.out.below HB)
    replace LA := Lib.hid (LA.out.on HB)
    replace BW := Lib.hid (bstep BW.out HB)
    clear HB hb3 hb4 hb5 hb6 C1 C2 C3 C4
    cases hv : mayB A with
    | true =>
      have MX := Lib.hid (fun X (l : Lies Tr X (TV k a n c b m d) A) => may_at A true hv k a n c b m d X l)
      have LX := Lib.hid (fun X (l : Lies Tr X (TV k a n c b m d) A) => ltext_any A hv Tr X k a n c b m d HR.out l)
      have TX := Lib.hid (fun X (l : Lies Tr X (TV k a n c b m d) A) => text_any A Tr X k a n c b m d l HR.out)
      generalize textL A = tl at *
      clear hv
      have CV : V.cell? ⟨w.heap.size, 0, none⟩ = some (.int .i64 k) ∧ V.cell? ⟨w.heap.size, 1, none⟩ = some (.slice a n c) ∧ V.cell? ⟨w.heap.size, 2, none⟩ = some (.slice b m d) := BX.out.cells
      clear BX
      refine wp_region_held_drew (S := fun w' => w'.cell? ⟨w.heap.size, 0, none⟩ = some (.int .i64 k) ∧ w'.cell? ⟨w.heap.size, 1, none⟩ = some (.slice a n c) ∧ w'.cell? ⟨w.heap.size, 2, none⟩ = some (.slice b m d) ∧ Below V.heap.size V w') (by kernel_rfl) ?_ (fun hHeld => ?_)
      · exact (km3x CV ((Below.refl _ _).drew))
      refine wpAnyH_take (i := 0) (oi := o8_0) (v := ?_) rfl (by kernel_rfl) (by kernel_rfl) (by kernel_rfl) (fun _ _ _ h => h) (Or.inl ⟨by rfl, ?_⟩) (by assumption) ?_
      rotate_left
      · intro w hSw
        try dsimp only at hSw
        go_simp
        try with_reducible rfl
      try simp only [Act.put, List.setIfInBounds_toArray, List.set_cons_zero, List.set_cons_succ]
      refine wpAnyH_ready (rs := [1]) (by kernel_rfl) (by simp) ?_
      refine AllReadyH.cons (o := o8_1) rfl (fun K hK => ?_) AllReadyH.nil
      go_simp
      refine (MX.out _ (LA.out.on hHeld.2.2.2)).mono ?_
      rintro e v1 ⟨rfl, hb1⟩
      have HBx := Lib.hid (bstep hHeld.2.2.2 hb1)
      clear hHeld hb1
      refine hK.out _ _ ?_ (fun hHeld => ?_)
      · exact (km3x CV (HBx.out))
      clear hK K HBx
      try simp only [Act.put, List.setIfInBounds_toArray, List.set_cons_zero, List.set_cons_succ]
      refine wpAnyH_take (i := 2) (oi := o8_2) (v := ?_) rfl (by kernel_rfl) (by kernel_rfl) (by kernel_rfl) (fun _ _ _ h => h) (Or.inl ⟨by rfl, ?_⟩) (by assumption) ?_
      rotate_left
      · intro w hSw
        try dsimp only at hSw
        go_simp
        try with_reducible rfl
      try simp only [Act.put, List.setIfInBounds_toArray, List.set_cons_zero, List.set_cons_succ]
      refine wpAnyH_take (i := 3) (oi := o8_3) (v := ?_) rfl (by kernel_rfl) (by kernel_rfl) (by kernel_rfl) (fun _ _ _ h => h) (Or.inl ⟨by rfl, ?_⟩) (by assumption) ?_
      rotate_left
      · intro w hSw
        try dsimp only at hSw
        go_simp
        try with_reducible rfl
      try simp only [Act.put, List.setIfInBounds_toArray, List.set_cons_zero, List.set_cons_succ]
      refine wpAnyH_take (i := 4) (oi := o8_4) (v := ?_) rfl (by kernel_rfl) (by kernel_rfl) (by kernel_rfl) (fun _ _ _ h => h) (Or.inl ⟨by rfl, ?_⟩) (by assumption) ?_
      rotate_left
      · intro w hSw
        try dsimp only at hSw
        go_simp
        try with_reducible rfl
      try simp only [Act.put, List.setIfInBounds_toArray, List.set_cons_zero, List.set_cons_succ]
      refine wpAnyH_take (i := 6) (oi := o8_6) (v := ?_) rfl (by kernel_rfl) (by kernel_rfl) (by kernel_rfl) (fun _ _ _ h => h) (Or.inl ⟨by rfl, ?_⟩) (by assumption) ?_
      rotate_left
      · intro w hSw
        try dsimp only at hSw
        go_simp
        try with_reducible rfl
      try simp only [Act.put, List.setIfInBounds_toArray, List.set_cons_zero, List.set_cons_succ]
      refine wpAnyH_ready (rs := [5]) (by kernel_rfl) (by simp) ?_
      refine AllReadyH.cons (o := o8_5) rfl (fun K hK => ?_) AllReadyH.nil
      go_simp
      refine (TX.out _ (LA.out.on hHeld.2.2.2)).mono ?_
      rintro e v2 ⟨rfl, hb2⟩
      have HBx := Lib.hid (bstep hHeld.2.2.2 hb2)
      clear hHeld hb2
      refine hK.out _ _ ?_ (fun hHeld => ?_)
      · exact (km3x CV (HBx.out))
      clear hK K HBx
      try simp only [Act.put, List.setIfInBounds_toArray, List.set_cons_zero, List.set_cons_succ]
      refine wpAnyH_ready (rs := [7]) (by kernel_rfl) (by simp) ?_
      refine AllReadyH.cons (o := o8_7) rfl (fun K hK => ?_) AllReadyH.nil
      go_simp
      refine (LX.out _ (LA.out.on hHeld.2.2.2)).mono ?_
      rintro e v3 ⟨rfl, hb3⟩
      have HBx := Lib.hid (bstep hHeld.2.2.2 hb3)
      clear hHeld hb3
      refine hK.out _ _ ?_ (fun hHeld => ?_)
      · exact (km3x CV (HBx.out))
      clear hK K HBx
      try simp only [Act.put, List.setIfInBounds_toArray, List.set_cons_zero, List.set_cons_succ]
      refine wpAnyH_take (i := 8) (oi := o8_8) (v := ?_) rfl (by kernel_rfl) (by kernel_rfl) (by kernel_rfl) (fun _ _ _ h => h) (Or.inl ⟨by rfl, ?_⟩) (by assumption) ?_
      rotate_left
      · intro w hSw
        try dsimp only at hSw
        go_simp
        try with_reducible rfl
      try simp only [Act.put, List.setIfInBounds_toArray, List.set_cons_zero, List.set_cons_succ]
      refine wpAnyH_take (i := 9) (oi := o8_9) (v := ?_) rfl (by kernel_rfl) (by kernel_rfl) (by kernel_rfl) (fun _ _ _ h => h) (Or.inl ⟨by rfl, ?_⟩) (by assumption) ?_
      rotate_left
      · intro w hSw
        try dsimp only at hSw
        go_simp
        try with_reducible rfl
      try simp only [Act.put, List.setIfInBounds_toArray, List.set_cons_zero, List.set_cons_succ]
      refine wpAnyH_take (i := 10) (oi := o8_10) (v := ?_) rfl (by kernel_rfl) (by kernel_rfl) (by kernel_rfl) (fun _ _ _ h => h) (Or.inl ⟨by rfl, ?_⟩) (by assumption) ?_
      rotate_left
      · intro w hSw
        try dsimp only at hSw
        go_simp
        try with_reducible rfl
      try simp only [Act.put, List.setIfInBounds_toArray, List.set_cons_zero, List.set_cons_succ]
      refine wpAnyH_done (by kernel_rfl) ?_ _
      go_wp2
      go_ret
      exact ⟨rfl, bstep BW.out hHeld.2.2.2⟩
    | false =>
      have MX := Lib.hid (fun X (l : Lies Tr X (TV k a n c b m d) A) => may_at A false hv k a n c b m d X l)
      clear hv
      have CV : V.cell? ⟨w.heap.size, 0, none⟩ = some (.int .i64 k) ∧ V.cell? ⟨w.heap.size, 1, none⟩ = some (.slice a n c) ∧ V.cell? ⟨w.heap.size, 2, none⟩ = some (.slice b m d) := BX.out.cells
      clear BX
      refine wp_region_held_drew (S := fun w' => w'.cell? ⟨w.heap.size, 0, none⟩ = some (.int .i64 k) ∧ w'.cell? ⟨w.heap.size, 1, none⟩ = some (.slice a n c) ∧ w'.cell? ⟨w.heap.size, 2, none⟩ = some (.slice b m d) ∧ Below V.heap.size V w') (by kernel_rfl) ?_ (fun hHeld => ?_)
      · exact (km3x CV ((Below.refl _ _).drew))
      refine wpAnyH_take (i := 0) (oi := o8_0) (v := ?_) rfl (by kernel_rfl) (by kernel_rfl) (by kernel_rfl) (fun _ _ _ h => h) (Or.inl ⟨by rfl, ?_⟩) (by assumption) ?_
      rotate_left
      · intro w hSw
        try dsimp only at hSw
        go_simp
        try with_reducible rfl
      try simp only [Act.put, List.setIfInBounds_toArray, List.set_cons_zero, List.set_cons_succ]
      refine wpAnyH_ready (rs := [1]) (by kernel_rfl) (by simp) ?_
      refine AllReadyH.cons (o := o8_1) rfl (fun K hK => ?_) AllReadyH.nil
      go_simp
      refine (MX.out _ (LA.out.on hHeld.2.2.2)).mono ?_
      rintro e v1 ⟨rfl, hb1⟩
      have HBx := Lib.hid (bstep hHeld.2.2.2 hb1)
      clear hHeld hb1
      refine hK.out _ _ ?_ (fun hHeld => ?_)
      · exact (km3x CV (HBx.out))
      clear hK K HBx
      try simp only [Act.put, List.setIfInBounds_toArray, List.set_cons_zero, List.set_cons_succ]
      refine wpAnyH_take (i := 2) (oi := o8_2) (v := ?_) rfl (by kernel_rfl) (by kernel_rfl) (by kernel_rfl) (fun _ _ _ h => h) (Or.inl ⟨by rfl, ?_⟩) (by assumption) ?_
      rotate_left
      · intro w hSw
        try dsimp only at hSw
        go_simp
        try with_reducible rfl
      try simp only [Act.put, List.setIfInBounds_toArray, List.set_cons_zero, List.set_cons_succ]
      refine wpAnyH_take (i := 3) (oi := o8_3) (v := ?_) rfl (by kernel_rfl) (by kernel_rfl) (by kernel_rfl) (fun _ _ _ h => h) (Or.inl ⟨by rfl, ?_⟩) (by assumption) ?_
      rotate_left
      · intro w hSw
        try dsimp only at hSw
        go_simp
        try with_reducible rfl
      try simp only [Act.put, List.setIfInBounds_toArray, List.set_cons_zero, List.set_cons_succ]
      refine wpAnyH_take (i := 4) (oi := o8_4) (v := undef) rfl (by kernel_rfl) (by kernel_rfl) (by kernel_rfl) (fun _ _ _ h => h) (Or.inr ⟨by rfl, rfl⟩) (by assumption) ?_
      try simp only [Act.put, List.setIfInBounds_toArray, List.set_cons_zero, List.set_cons_succ]
      refine wpAnyH_take (i := 6) (oi := o8_6) (v := undef) rfl (by kernel_rfl) (by kernel_rfl) (by kernel_rfl) (fun _ _ _ h => h) (Or.inr ⟨by rfl, rfl⟩) (by assumption) ?_
      try simp only [Act.put, List.setIfInBounds_toArray, List.set_cons_zero, List.set_cons_succ]
      refine wpAnyH_take (i := 5) (oi := o8_5) (v := undef) rfl (by kernel_rfl) (by kernel_rfl) (by kernel_rfl) (fun _ _ _ h => h) (Or.inr ⟨by rfl, rfl⟩) (by assumption) ?_
      try simp only [Act.put, List.setIfInBounds_toArray, List.set_cons_zero, List.set_cons_succ]
      refine wpAnyH_take (i := 7) (oi := o8_7) (v := undef) rfl (by kernel_rfl) (by kernel_rfl) (by kernel_rfl) (fun _ _ _ h => h) (Or.inr ⟨by rfl, rfl⟩) (by assumption) ?_
      try simp only [Act.put, List.setIfInBounds_toArray, List.set_cons_zero, List.set_cons_succ]
      refine wpAnyH_take (i := 8) (oi := o8_8) (v := undef) rfl (by kernel_rfl) (by kernel_rfl) (by kernel_rfl) (fun _ _ _ h => h) (Or.inr ⟨by rfl, rfl⟩) (by assumption) ?_
      try simp only [Act.put, List.setIfInBounds_toArray, List.set_cons_zero, List.set_cons_succ]
      refine wpAnyH_take (i := 9) (oi := o8_9) (v := ?_) rfl (by kernel_rfl) (by kernel_rfl) (by kernel_rfl) (fun _ _ _ h => h) (Or.inl ⟨by rfl, ?_⟩) (by assumption) ?_
      rotate_left
      · intro w hSw
        try dsimp only at hSw
        go_simp
        try with_reducible rfl
      try simp only [Act.put, List.setIfInBounds_toArray, List.set_cons_zero, List.set_cons_succ]
      refine wpAnyH_take (i := 10) (oi := o8_10) (v := ?_) rfl (by kernel_rfl) (by kernel_rfl) (by kernel_rfl) (fun _ _ _ h => h) (Or.inl ⟨by rfl, ?_⟩) (by assumption) ?_
      rotate_left
      · intro w hSw
        try dsimp only at hSw
        go_simp
        try with_reducible rfl
      try simp only [Act.put, List.setIfInBounds_toArray, List.set_cons_zero, List.set_cons_succ]
      refine wpAnyH_done (by kernel_rfl) ?_ _
      go_wp2
      go_ret
      exact ⟨rfl, bstep BW.out hHeld.2.2.2⟩
end Go.Proofs.Ytielmfchbgajnaa

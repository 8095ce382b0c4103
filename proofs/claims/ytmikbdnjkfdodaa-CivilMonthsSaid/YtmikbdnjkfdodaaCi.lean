/-
  The statement CivilMonths, walked: it answers true.
-/
import Derived.Test.YtmikbdnjkfdodaaCg
namespace Go.Proofs.Ytmikbdnjkfdodaa
open Go.RowKit

theorem all_div {Y M n : Int} : (Y * 12 + M - 1 + n) / 12 = moY Y M n ∧ Y * 12 + M - 1 + n - 12 * moY Y M n + 1 = moM M n := by
  unfold moY moM
  omega

set_option maxRecDepth 100000 in
set_option maxHeartbeats 4000000 in
theorem civilMonths_walk (y m d n : Int) (w : World) : Calls Try.prog 5 #[.int .i64 y, .int .i64 m, .int .i64 d, .int .i64 n] w (Ret (.bool true) w) := by
  have AW := Lib.hid awake6
  obtain ⟨Y, M, D, h1, K1⟩ := made y m d
  have MK := Lib.hid K1
  clear K1
  by_cases k : -9007199254740992 ≤ n ∧ n ≤ 9007199254740992
  · have t1 : decide (n < -9007199254740992) = false := decide_eq_false (by omega)
    have t2 : decide (9007199254740992 < n) = false := decide_eq_false (by omega)
    have hy := h1.1
    have hm := h1.2.1
    have MF := Lib.hid (months_far Y M D n h1 k.1 k.2)
    have MY := Lib.hid (months_yes Y M D n h1 k.1 k.2)
    have LR := Lib.hid (lengthR_any (moY Y M n) (moM M n))
    have ad := @all_div Y M n
    have u0 : I64 (Y * 12) := by unfold I64; omega
    have u1 : I64 (Y * 12 + M) := by unfold I64; omega
    have u2 : I64 (Y * 12 + M - 1) := by unfold I64; omega
    have u3 : I64 (Y * 12 + M - 1 + n) := by unfold I64; omega
    have u4 : I64 (12 * moY Y M n) := by unfold I64 moY; omega
    have u5 : I64 (Y * 12 + M - 1 + n - 12 * moY Y M n) := by unfold I64 moY; omega
    have u6 : I64 (Y * 12 + M - 1 + n - 12 * moY Y M n + 1) := by unfold I64 moY; omega
    have FL0 := floorR_any (Y * 12 + M - 1 + n) 12 u3 (by decide) (by unfold I64; omega)
    rw [ad.1] at FL0
    have FL := Lib.hid FL0
    have f0 := u0.wrap
    have f1 := u1.wrap
    have f2 := u2.wrap
    have f3 := u3.wrap
    have f4 := u4.wrap
    have f5 := u5.wrap
    have f6 := u6.wrap
    rw [ad.2] at f6
    have f0' := u0.wrap'
    have f1' := u1.wrap'
    have f2' := u2.wrap'
    have f3' := u3.wrap'
    have f4' := u4.wrap'
    have f5' := u5.wrap'
    have f6' := u6.wrap'
    rw [ad.2] at f6'
    have f7 := ad.2
    obtain ⟨L, hL⟩ : ∃ L, L = lenI (moY Y M n) (moM M n) := ⟨_, rfl⟩
    rw [← hL] at MY LR
    generalize moY Y M n = a at *
    generalize moM M n = b at *
    clear ad u0 u1 u2 u3 u4 u5 u6 FL0 hL hy hm k h1
    by_cases far : -999999999 ≤ a ∧ a ≤ 999999999
    · have t3 : decide (a < -999999999) = false := decide_eq_false (by omega)
      have t4 : decide (999999999 < a) = false := decide_eq_false (by omega)
      have MO0 := MY.out far
      clear MY MF far
      obtain ⟨mn, hmn⟩ : ∃ x, x = min D L := ⟨_, rfl⟩
      rw [← hmn] at MO0
      have MO := Lib.hid MO0
      clear MO0
      have cs : (L < D ∧ L = mn) ∨ (¬ L < D ∧ D = mn) := by omega
      clear hmn
      rcases cs with ⟨q, e⟩ | ⟨q, e⟩
      · subst e
        go_enter Try.func5, Try.ntmps5
        go_wp2_with fail
        refine (AW.out _).mono ?_
        rintro e w1 ⟨rfl, hb⟩
        have B : Below w.heap.size w w1 := bstep (by go_grown) hb
        clear hb AW
        go_wp2_with fail
        refine (MK.out _).mono ?_
        rintro e w2 ⟨rfl, hb⟩
        replace B := bstep B hb
        clear hb MK
        have PX := Lib.hid (HoldsT.new rfl : HoldsT (w2.alloc (DtC Y M D)) w2.heap.size Y M D)
        replace B := ballD1 B (DtC Y M D)
        go_upto_region 4 with fail
        change Code.wp _ _ _ _ (w2.alloc (DtC Y M D))
        generalize w2.alloc (DtC Y M D) = w3 at *
        obtain ⟨gPX, hg⟩ : ∃ g, g = w2.heap.size := ⟨_, rfl⟩
        rw [← hg] at PX ⊢
        clear hg
        obtain ⟨⟨c01, c02, c03⟩, -, c09⟩ := PX.out
        go_wp2_with fail
        refine (MO.out _).mono ?_
        rintro e w4 ⟨rfl, hb⟩
        replace PX := Lib.hid (PX.out.below hb)
        replace B := bstep B hb
        clear hb MO
        clear c01 c02 c03 c09
        replace PX := Lib.hid (PX.out.alloc (DtC a b L))
        have PZ := Lib.hid (HoldsT.new rfl : HoldsT (w4.alloc (DtC a b L)) w4.heap.size a b L)
        replace B := ballD1 B (DtC a b L)
        go_upto_region 5 with fail
        change Code.wp _ _ _ _ (w4.alloc (DtC a b L))
        generalize w4.alloc (DtC a b L) = w5 at *
        obtain ⟨gPZ, hg⟩ : ∃ g, g = w4.heap.size := ⟨_, rfl⟩
        rw [← hg] at PZ ⊢
        clear hg
        obtain ⟨⟨c01, c02, c03⟩, -, c09⟩ := PX.out
        obtain ⟨⟨c11, c12, c13⟩, -, c19⟩ := PZ.out
        go_wp2_with fail
        refine (FL.out _).mono ?_
        rintro e w6 ⟨rfl, hb⟩
        replace PX := Lib.hid (PX.out.below hb)
        replace PZ := Lib.hid (PZ.out.below hb)
        replace B := bstep B hb
        clear hb FL
        clear c01 c02 c03 c09 c11 c12 c13 c19
        obtain ⟨⟨c01, c02, c03⟩, -, c09⟩ := PX.out
        obtain ⟨⟨c11, c12, c13⟩, -, c19⟩ := PZ.out
        go_upto_region 12 with fail
        generalize w6 = V at *
        refine wp_region_held_drew (S := fun w' => w'.cell? ⟨gPX, 0, none⟩ = some (.int .i64 Y) ∧ w'.cell? ⟨gPX, 1, none⟩ = some (.int .i64 M) ∧ w'.cell? ⟨gPX, 2, none⟩ = some (.int .i64 D) ∧ w'.cell? ⟨gPZ, 0, none⟩ = some (.int .i64 a) ∧ w'.cell? ⟨gPZ, 1, none⟩ = some (.int .i64 b) ∧ w'.cell? ⟨gPZ, 2, none⟩ = some (.int .i64 L) ∧ Below V.heap.size V w') (by kernel_rfl) ?_ (fun hHeld => ?_)
        · exact keepT2 PX.out.1 PX.out.2.2 PZ.out.1 PZ.out.2.2 (Below.refl _ _).drew
        refine wpAnyH_take (i := 0) (oi := { dst := some 69, op := Go.Op.move (Go.Operand.tmp 11), type := 4, pos := "law.go:68", after := #[], guard := none }) (v := ?_) rfl (by kernel_rfl) (by kernel_rfl) (by kernel_rfl) (fun _ _ _ h => h) (Or.inl ⟨by rfl, ?_⟩) (by assumption) ?_
        rotate_left
        · intro w hSw
          try dsimp only at hSw
          go_simp
          try with_reducible rfl
        try simp only [Act.put, List.setIfInBounds_toArray, List.set_cons_zero, List.set_cons_succ]
        refine wpAnyH_take (i := 1) (oi := { dst := some 70, op := Go.Op.move (Go.Operand.tmp 69), type := 4, pos := "law.go:68", after := #[{ on := 0, ground := Go.Ground.data }], guard := none }) (v := ?_) rfl (by kernel_rfl) (by kernel_rfl) (by kernel_rfl) (fun _ _ _ h => h) (Or.inl ⟨by rfl, ?_⟩) (by assumption) ?_
        rotate_left
        · intro w hSw
          try dsimp only at hSw
          go_simp
          try with_reducible rfl
        try simp only [Act.put, List.setIfInBounds_toArray, List.set_cons_zero, List.set_cons_succ]
        refine wpAnyH_take (i := 2) (oi := { dst := some 71, op := Go.Op.load 23 (Go.Operand.tmp 10), type := 23, pos := "law.go:68", after := #[{ on := 1, ground := Go.Ground.guard }], guard := some (1, true) }) (v := ?_) rfl (by kernel_rfl) (by kernel_rfl) (by kernel_rfl) (fun _ _ _ h => h) (Or.inl ⟨by rfl, ?_⟩) (by assumption) ?_
        rotate_left
        · intro w hSw
          try dsimp only at hSw
          go_simp
          try with_reducible rfl
        try simp only [Act.put, List.setIfInBounds_toArray, List.set_cons_zero, List.set_cons_succ]
        refine wpAnyH_take (i := 3) (oi := { dst := some 72, op := Go.Op.move (Go.Operand.tmp 13), type := 3, pos := "law.go:68", after := #[{ on := 1, ground := Go.Ground.guard }], guard := some (1, true) }) (v := ?_) rfl (by kernel_rfl) (by kernel_rfl) (by kernel_rfl) (fun _ _ _ h => h) (Or.inl ⟨by rfl, ?_⟩) (by assumption) ?_
        rotate_left
        · intro w hSw
          try dsimp only at hSw
          go_simp
          try with_reducible rfl
        try simp only [Act.put, List.setIfInBounds_toArray, List.set_cons_zero, List.set_cons_succ]
        refine wpAnyH_take (i := 4) (oi := { dst := some 73, op := Go.Op.move (Go.Operand.tmp 14), type := 3, pos := "law.go:68", after := #[{ on := 1, ground := Go.Ground.guard }], guard := some (1, true) }) (v := ?_) rfl (by kernel_rfl) (by kernel_rfl) (by kernel_rfl) (fun _ _ _ h => h) (Or.inl ⟨by rfl, ?_⟩) (by assumption) ?_
        rotate_left
        · intro w hSw
          try dsimp only at hSw
          go_simp
          try with_reducible rfl
        try simp only [Act.put, List.setIfInBounds_toArray, List.set_cons_zero, List.set_cons_succ]
        refine wpAnyH_take (i := 5) (oi := { dst := some 74, op := Go.Op.fieldAddr 23 (Go.Operand.tmp 9) 2, type := 0, pos := "law.go:68", after := #[{ on := 1, ground := Go.Ground.guard }], guard := some (1, true) }) (v := ?_) rfl (by kernel_rfl) (by kernel_rfl) (by kernel_rfl) (fun _ _ _ h => h) (Or.inl ⟨by rfl, ?_⟩) (by assumption) ?_
        rotate_left
        · intro w hSw
          try dsimp only at hSw
          go_simp
          try with_reducible rfl
        try simp only [Act.put, List.setIfInBounds_toArray, List.set_cons_zero, List.set_cons_succ]
        refine wpAnyH_take (i := 6) (oi := { dst := some 75, op := Go.Op.load 3 (Go.Operand.tmp 74), type := 3, pos := "law.go:68", after := #[{ on := 5, ground := Go.Ground.data }, { on := 1, ground := Go.Ground.guard }], guard := some (1, true) }) (v := ?_) rfl (by kernel_rfl) (by kernel_rfl) (by kernel_rfl) (fun _ _ _ h => h) (Or.inl ⟨by rfl, ?_⟩) (by assumption) ?_
        rotate_left
        · intro w hSw
          try dsimp only at hSw
          go_simp
          try with_reducible rfl
        try simp only [Act.put, List.setIfInBounds_toArray, List.set_cons_zero, List.set_cons_succ]
        refine wpAnyH_take (i := 7) (oi := { dst := some 76, op := Go.Op.move (Go.Operand.tmp 13), type := 3, pos := "law.go:68", after := #[{ on := 1, ground := Go.Ground.guard }], guard := some (1, true) }) (v := ?_) rfl (by kernel_rfl) (by kernel_rfl) (by kernel_rfl) (fun _ _ _ h => h) (Or.inl ⟨by rfl, ?_⟩) (by assumption) ?_
        rotate_left
        · intro w hSw
          try dsimp only at hSw
          go_simp
          try with_reducible rfl
        try simp only [Act.put, List.setIfInBounds_toArray, List.set_cons_zero, List.set_cons_succ]
        refine wpAnyH_take (i := 8) (oi := { dst := some 77, op := Go.Op.move (Go.Operand.tmp 14), type := 3, pos := "law.go:68", after := #[{ on := 1, ground := Go.Ground.guard }], guard := some (1, true) }) (v := ?_) rfl (by kernel_rfl) (by kernel_rfl) (by kernel_rfl) (fun _ _ _ h => h) (Or.inl ⟨by rfl, ?_⟩) (by assumption) ?_
        rotate_left
        · intro w hSw
          try dsimp only at hSw
          go_simp
          try with_reducible rfl
        try simp only [Act.put, List.setIfInBounds_toArray, List.set_cons_zero, List.set_cons_succ]
        refine wpAnyH_ready (rs := [9]) (by kernel_rfl) (by simp) ?_
        refine AllReadyH.cons (o := { dst := some 78, op := Go.Op.call { callee := Go.Callee.value (Go.Operand.func 14), args := #[Go.Operand.tmp 76, Go.Operand.tmp 77], argTypes := #[3, 3] }, type := 3, pos := "law.go:68", after := #[{ on := 7, ground := Go.Ground.data }, { on := 8, ground := Go.Ground.data }, { on := 1, ground := Go.Ground.chain }, { on := 1, ground := Go.Ground.guard }], guard := some (1, true) }) rfl (fun K hK => ?_) AllReadyH.nil
        go_simp
        refine (LR.out _).mono ?_
        rintro e v1 ⟨rfl, hbv1⟩
        have HBx := Lib.hid (bstep hHeld.2.2.2.2.2.2 hbv1)
        clear hHeld hbv1
        refine hK.out _ _ ?_ (fun hHeld => ?_)
        · exact keepT2 PX.out.1 PX.out.2.2 PZ.out.1 PZ.out.2.2 HBx.out
        clear hK K HBx
        try simp only [Act.put, List.setIfInBounds_toArray, List.set_cons_zero, List.set_cons_succ]
        refine wpAnyH_take (i := 10) (oi := { dst := some 79, op := Go.Op.call { callee := Go.Callee.builtin Go.Builtin.min, args := #[Go.Operand.tmp 75, Go.Operand.tmp 78], argTypes := #[3, 3] }, type := 3, pos := "law.go:68", after := #[{ on := 6, ground := Go.Ground.data }, { on := 9, ground := Go.Ground.data }, { on := 1, ground := Go.Ground.guard }], guard := some (1, true) }) (v := ?_) rfl (by kernel_rfl) (by kernel_rfl) (by kernel_rfl) (fun _ _ _ h => h) (Or.inl ⟨by rfl, ?_⟩) (by assumption) ?_
        rotate_left
        · intro w hSw
          try dsimp only at hSw
          go_simp
          try with_reducible rfl
        try simp only [Act.put, List.setIfInBounds_toArray, List.set_cons_zero, List.set_cons_succ]
        refine wpAnyH_take (i := 11) (oi := { dst := some 80, op := Go.Op.build 23 #[(0, Go.Operand.tmp 72), (1, Go.Operand.tmp 73), (2, Go.Operand.tmp 79)], type := 23, pos := "law.go:68", after := #[{ on := 3, ground := Go.Ground.data }, { on := 4, ground := Go.Ground.data }, { on := 10, ground := Go.Ground.data }, { on := 1, ground := Go.Ground.guard }], guard := some (1, true) }) (v := ?_) rfl (by kernel_rfl) (by kernel_rfl) (by kernel_rfl) (fun _ _ _ h => h) (Or.inl ⟨by rfl, ?_⟩) (by assumption) ?_
        rotate_left
        · intro w hSw
          try dsimp only at hSw
          go_simp
          try with_reducible rfl
        try simp only [Act.put, List.setIfInBounds_toArray, List.set_cons_zero, List.set_cons_succ]
        refine wpAnyH_take (i := 12) (oi := { dst := some 81, op := Go.Op.binOp Go.BinOp.eql 23 (Go.Operand.tmp 71) (Go.Operand.tmp 80) 23, type := 4, pos := "law.go:68", after := #[{ on := 2, ground := Go.Ground.data }, { on := 11, ground := Go.Ground.data }, { on := 1, ground := Go.Ground.guard }], guard := some (1, true) }) (v := ?_) rfl (by kernel_rfl) (by kernel_rfl) (by kernel_rfl) (fun _ _ _ h => h) (Or.inl ⟨by rfl, ?_⟩) (by assumption) ?_
        rotate_left
        · intro w hSw
          try dsimp only at hSw
          go_simp
          try with_reducible rfl
        try simp only [Act.put, List.setIfInBounds_toArray, List.set_cons_zero, List.set_cons_succ]
        refine wpAnyH_take (i := 13) (oi := { dst := some 82, op := Go.Op.pick (Go.Operand.tmp 70) (Go.Operand.tmp 81) (Go.Operand.const (Go.Value.bool false)), type := 4, pos := "law.go:68", after := #[{ on := 1, ground := Go.Ground.data }, { on := 12, ground := Go.Ground.data }], guard := none }) (v := ?_) rfl (by kernel_rfl) (by kernel_rfl) (by kernel_rfl) (fun _ _ _ h => h) (Or.inl ⟨by rfl, ?_⟩) (by assumption) ?_
        rotate_left
        · intro w hSw
          try dsimp only at hSw
          go_simp
          try with_reducible rfl
        try simp only [Act.put, List.setIfInBounds_toArray, List.set_cons_zero, List.set_cons_succ]
        refine wpAnyH_take (i := 14) (oi := { dst := some 8, op := Go.Op.assign (Go.Operand.tmp 82), type := 4, pos := "law.go:68", after := #[{ on := 13, ground := Go.Ground.data }, { on := 9, ground := Go.Ground.chain }, { on := 0, ground := Go.Ground.phase }, { on := 1, ground := Go.Ground.phase }, { on := 2, ground := Go.Ground.phase }, { on := 3, ground := Go.Ground.phase }, { on := 4, ground := Go.Ground.phase }, { on := 5, ground := Go.Ground.phase }, { on := 6, ground := Go.Ground.phase }, { on := 7, ground := Go.Ground.phase }, { on := 8, ground := Go.Ground.phase }, { on := 9, ground := Go.Ground.phase }, { on := 10, ground := Go.Ground.phase }, { on := 11, ground := Go.Ground.phase }, { on := 12, ground := Go.Ground.phase }, { on := 13, ground := Go.Ground.phase }], guard := none }) (v := ?_) rfl (by kernel_rfl) (by kernel_rfl) (by kernel_rfl) (fun _ _ _ h => h) (Or.inl ⟨by rfl, ?_⟩) (by assumption) ?_
        rotate_left
        · intro w hSw
          try dsimp only at hSw
          go_simp
          try with_reducible rfl
        try simp only [Act.put, List.setIfInBounds_toArray, List.set_cons_zero, List.set_cons_succ]
        refine wpAnyH_done (by kernel_rfl) ?_ _
        go_wp2
        go_ret
        exact ⟨rfl, bstep B hHeld.2.2.2.2.2.2⟩
      · subst e
        have q2 : (L < D) = False := eq_false q
        clear q
        go_enter Try.func5, Try.ntmps5
        go_wp2_with fail
        refine (AW.out _).mono ?_
        rintro e w1 ⟨rfl, hb⟩
        have B : Below w.heap.size w w1 := bstep (by go_grown) hb
        clear hb AW
        go_wp2_with fail
        refine (MK.out _).mono ?_
        rintro e w2 ⟨rfl, hb⟩
        replace B := bstep B hb
        clear hb MK
        have PX := Lib.hid (HoldsT.new rfl : HoldsT (w2.alloc (DtC Y M D)) w2.heap.size Y M D)
        replace B := ballD1 B (DtC Y M D)
        go_upto_region 4 with fail
        change Code.wp _ _ _ _ (w2.alloc (DtC Y M D))
        generalize w2.alloc (DtC Y M D) = w3 at *
        obtain ⟨gPX, hg⟩ : ∃ g, g = w2.heap.size := ⟨_, rfl⟩
        rw [← hg] at PX ⊢
        clear hg
        obtain ⟨⟨c01, c02, c03⟩, -, c09⟩ := PX.out
        go_wp2_with fail
        refine (MO.out _).mono ?_
        rintro e w4 ⟨rfl, hb⟩
        replace PX := Lib.hid (PX.out.below hb)
        replace B := bstep B hb
        clear hb MO
        clear c01 c02 c03 c09
        replace PX := Lib.hid (PX.out.alloc (DtC a b D))
        have PZ := Lib.hid (HoldsT.new rfl : HoldsT (w4.alloc (DtC a b D)) w4.heap.size a b D)
        replace B := ballD1 B (DtC a b D)
        go_upto_region 5 with fail
        change Code.wp _ _ _ _ (w4.alloc (DtC a b D))
        generalize w4.alloc (DtC a b D) = w5 at *
        obtain ⟨gPZ, hg⟩ : ∃ g, g = w4.heap.size := ⟨_, rfl⟩
        rw [← hg] at PZ ⊢
        clear hg
        obtain ⟨⟨c01, c02, c03⟩, -, c09⟩ := PX.out
        obtain ⟨⟨c11, c12, c13⟩, -, c19⟩ := PZ.out
        go_wp2_with fail
        refine (FL.out _).mono ?_
        rintro e w6 ⟨rfl, hb⟩
        replace PX := Lib.hid (PX.out.below hb)
        replace PZ := Lib.hid (PZ.out.below hb)
        replace B := bstep B hb
        clear hb FL
        clear c01 c02 c03 c09 c11 c12 c13 c19
        obtain ⟨⟨c01, c02, c03⟩, -, c09⟩ := PX.out
        obtain ⟨⟨c11, c12, c13⟩, -, c19⟩ := PZ.out
        go_upto_region 12 with fail
        generalize w6 = V at *
        refine wp_region_held_drew (S := fun w' => w'.cell? ⟨gPX, 0, none⟩ = some (.int .i64 Y) ∧ w'.cell? ⟨gPX, 1, none⟩ = some (.int .i64 M) ∧ w'.cell? ⟨gPX, 2, none⟩ = some (.int .i64 D) ∧ w'.cell? ⟨gPZ, 0, none⟩ = some (.int .i64 a) ∧ w'.cell? ⟨gPZ, 1, none⟩ = some (.int .i64 b) ∧ w'.cell? ⟨gPZ, 2, none⟩ = some (.int .i64 D) ∧ Below V.heap.size V w') (by kernel_rfl) ?_ (fun hHeld => ?_)
        · exact keepT2 PX.out.1 PX.out.2.2 PZ.out.1 PZ.out.2.2 (Below.refl _ _).drew
        refine wpAnyH_take (i := 0) (oi := { dst := some 69, op := Go.Op.move (Go.Operand.tmp 11), type := 4, pos := "law.go:68", after := #[], guard := none }) (v := ?_) rfl (by kernel_rfl) (by kernel_rfl) (by kernel_rfl) (fun _ _ _ h => h) (Or.inl ⟨by rfl, ?_⟩) (by assumption) ?_
        rotate_left
        · intro w hSw
          try dsimp only at hSw
          go_simp
          try with_reducible rfl
        try simp only [Act.put, List.setIfInBounds_toArray, List.set_cons_zero, List.set_cons_succ]
        refine wpAnyH_take (i := 1) (oi := { dst := some 70, op := Go.Op.move (Go.Operand.tmp 69), type := 4, pos := "law.go:68", after := #[{ on := 0, ground := Go.Ground.data }], guard := none }) (v := ?_) rfl (by kernel_rfl) (by kernel_rfl) (by kernel_rfl) (fun _ _ _ h => h) (Or.inl ⟨by rfl, ?_⟩) (by assumption) ?_
        rotate_left
        · intro w hSw
          try dsimp only at hSw
          go_simp
          try with_reducible rfl
        try simp only [Act.put, List.setIfInBounds_toArray, List.set_cons_zero, List.set_cons_succ]
        refine wpAnyH_take (i := 2) (oi := { dst := some 71, op := Go.Op.load 23 (Go.Operand.tmp 10), type := 23, pos := "law.go:68", after := #[{ on := 1, ground := Go.Ground.guard }], guard := some (1, true) }) (v := ?_) rfl (by kernel_rfl) (by kernel_rfl) (by kernel_rfl) (fun _ _ _ h => h) (Or.inl ⟨by rfl, ?_⟩) (by assumption) ?_
        rotate_left
        · intro w hSw
          try dsimp only at hSw
          go_simp
          try with_reducible rfl
        try simp only [Act.put, List.setIfInBounds_toArray, List.set_cons_zero, List.set_cons_succ]
        refine wpAnyH_take (i := 3) (oi := { dst := some 72, op := Go.Op.move (Go.Operand.tmp 13), type := 3, pos := "law.go:68", after := #[{ on := 1, ground := Go.Ground.guard }], guard := some (1, true) }) (v := ?_) rfl (by kernel_rfl) (by kernel_rfl) (by kernel_rfl) (fun _ _ _ h => h) (Or.inl ⟨by rfl, ?_⟩) (by assumption) ?_
        rotate_left
        · intro w hSw
          try dsimp only at hSw
          go_simp
          try with_reducible rfl
        try simp only [Act.put, List.setIfInBounds_toArray, List.set_cons_zero, List.set_cons_succ]
        refine wpAnyH_take (i := 4) (oi := { dst := some 73, op := Go.Op.move (Go.Operand.tmp 14), type := 3, pos := "law.go:68", after := #[{ on := 1, ground := Go.Ground.guard }], guard := some (1, true) }) (v := ?_) rfl (by kernel_rfl) (by kernel_rfl) (by kernel_rfl) (fun _ _ _ h => h) (Or.inl ⟨by rfl, ?_⟩) (by assumption) ?_
        rotate_left
        · intro w hSw
          try dsimp only at hSw
          go_simp
          try with_reducible rfl
        try simp only [Act.put, List.setIfInBounds_toArray, List.set_cons_zero, List.set_cons_succ]
        refine wpAnyH_take (i := 5) (oi := { dst := some 74, op := Go.Op.fieldAddr 23 (Go.Operand.tmp 9) 2, type := 0, pos := "law.go:68", after := #[{ on := 1, ground := Go.Ground.guard }], guard := some (1, true) }) (v := ?_) rfl (by kernel_rfl) (by kernel_rfl) (by kernel_rfl) (fun _ _ _ h => h) (Or.inl ⟨by rfl, ?_⟩) (by assumption) ?_
        rotate_left
        · intro w hSw
          try dsimp only at hSw
          go_simp
          try with_reducible rfl
        try simp only [Act.put, List.setIfInBounds_toArray, List.set_cons_zero, List.set_cons_succ]
        refine wpAnyH_take (i := 6) (oi := { dst := some 75, op := Go.Op.load 3 (Go.Operand.tmp 74), type := 3, pos := "law.go:68", after := #[{ on := 5, ground := Go.Ground.data }, { on := 1, ground := Go.Ground.guard }], guard := some (1, true) }) (v := ?_) rfl (by kernel_rfl) (by kernel_rfl) (by kernel_rfl) (fun _ _ _ h => h) (Or.inl ⟨by rfl, ?_⟩) (by assumption) ?_
        rotate_left
        · intro w hSw
          try dsimp only at hSw
          go_simp
          try with_reducible rfl
        try simp only [Act.put, List.setIfInBounds_toArray, List.set_cons_zero, List.set_cons_succ]
        refine wpAnyH_take (i := 7) (oi := { dst := some 76, op := Go.Op.move (Go.Operand.tmp 13), type := 3, pos := "law.go:68", after := #[{ on := 1, ground := Go.Ground.guard }], guard := some (1, true) }) (v := ?_) rfl (by kernel_rfl) (by kernel_rfl) (by kernel_rfl) (fun _ _ _ h => h) (Or.inl ⟨by rfl, ?_⟩) (by assumption) ?_
        rotate_left
        · intro w hSw
          try dsimp only at hSw
          go_simp
          try with_reducible rfl
        try simp only [Act.put, List.setIfInBounds_toArray, List.set_cons_zero, List.set_cons_succ]
        refine wpAnyH_take (i := 8) (oi := { dst := some 77, op := Go.Op.move (Go.Operand.tmp 14), type := 3, pos := "law.go:68", after := #[{ on := 1, ground := Go.Ground.guard }], guard := some (1, true) }) (v := ?_) rfl (by kernel_rfl) (by kernel_rfl) (by kernel_rfl) (fun _ _ _ h => h) (Or.inl ⟨by rfl, ?_⟩) (by assumption) ?_
        rotate_left
        · intro w hSw
          try dsimp only at hSw
          go_simp
          try with_reducible rfl
        try simp only [Act.put, List.setIfInBounds_toArray, List.set_cons_zero, List.set_cons_succ]
        refine wpAnyH_ready (rs := [9]) (by kernel_rfl) (by simp) ?_
        refine AllReadyH.cons (o := { dst := some 78, op := Go.Op.call { callee := Go.Callee.value (Go.Operand.func 14), args := #[Go.Operand.tmp 76, Go.Operand.tmp 77], argTypes := #[3, 3] }, type := 3, pos := "law.go:68", after := #[{ on := 7, ground := Go.Ground.data }, { on := 8, ground := Go.Ground.data }, { on := 1, ground := Go.Ground.chain }, { on := 1, ground := Go.Ground.guard }], guard := some (1, true) }) rfl (fun K hK => ?_) AllReadyH.nil
        go_simp
        refine (LR.out _).mono ?_
        rintro e v1 ⟨rfl, hbv1⟩
        have HBx := Lib.hid (bstep hHeld.2.2.2.2.2.2 hbv1)
        clear hHeld hbv1
        refine hK.out _ _ ?_ (fun hHeld => ?_)
        · exact keepT2 PX.out.1 PX.out.2.2 PZ.out.1 PZ.out.2.2 HBx.out
        clear hK K HBx
        try simp only [Act.put, List.setIfInBounds_toArray, List.set_cons_zero, List.set_cons_succ]
        refine wpAnyH_take (i := 10) (oi := { dst := some 79, op := Go.Op.call { callee := Go.Callee.builtin Go.Builtin.min, args := #[Go.Operand.tmp 75, Go.Operand.tmp 78], argTypes := #[3, 3] }, type := 3, pos := "law.go:68", after := #[{ on := 6, ground := Go.Ground.data }, { on := 9, ground := Go.Ground.data }, { on := 1, ground := Go.Ground.guard }], guard := some (1, true) }) (v := ?_) rfl (by kernel_rfl) (by kernel_rfl) (by kernel_rfl) (fun _ _ _ h => h) (Or.inl ⟨by rfl, ?_⟩) (by assumption) ?_
        rotate_left
        · intro w hSw
          try dsimp only at hSw
          go_simp
          try with_reducible rfl
        try simp only [Act.put, List.setIfInBounds_toArray, List.set_cons_zero, List.set_cons_succ]
        refine wpAnyH_take (i := 11) (oi := { dst := some 80, op := Go.Op.build 23 #[(0, Go.Operand.tmp 72), (1, Go.Operand.tmp 73), (2, Go.Operand.tmp 79)], type := 23, pos := "law.go:68", after := #[{ on := 3, ground := Go.Ground.data }, { on := 4, ground := Go.Ground.data }, { on := 10, ground := Go.Ground.data }, { on := 1, ground := Go.Ground.guard }], guard := some (1, true) }) (v := ?_) rfl (by kernel_rfl) (by kernel_rfl) (by kernel_rfl) (fun _ _ _ h => h) (Or.inl ⟨by rfl, ?_⟩) (by assumption) ?_
        rotate_left
        · intro w hSw
          try dsimp only at hSw
          go_simp
          try with_reducible rfl
        try simp only [Act.put, List.setIfInBounds_toArray, List.set_cons_zero, List.set_cons_succ]
        refine wpAnyH_take (i := 12) (oi := { dst := some 81, op := Go.Op.binOp Go.BinOp.eql 23 (Go.Operand.tmp 71) (Go.Operand.tmp 80) 23, type := 4, pos := "law.go:68", after := #[{ on := 2, ground := Go.Ground.data }, { on := 11, ground := Go.Ground.data }, { on := 1, ground := Go.Ground.guard }], guard := some (1, true) }) (v := ?_) rfl (by kernel_rfl) (by kernel_rfl) (by kernel_rfl) (fun _ _ _ h => h) (Or.inl ⟨by rfl, ?_⟩) (by assumption) ?_
        rotate_left
        · intro w hSw
          try dsimp only at hSw
          go_simp
          try with_reducible rfl
        try simp only [Act.put, List.setIfInBounds_toArray, List.set_cons_zero, List.set_cons_succ]
        refine wpAnyH_take (i := 13) (oi := { dst := some 82, op := Go.Op.pick (Go.Operand.tmp 70) (Go.Operand.tmp 81) (Go.Operand.const (Go.Value.bool false)), type := 4, pos := "law.go:68", after := #[{ on := 1, ground := Go.Ground.data }, { on := 12, ground := Go.Ground.data }], guard := none }) (v := ?_) rfl (by kernel_rfl) (by kernel_rfl) (by kernel_rfl) (fun _ _ _ h => h) (Or.inl ⟨by rfl, ?_⟩) (by assumption) ?_
        rotate_left
        · intro w hSw
          try dsimp only at hSw
          go_simp
          try with_reducible rfl
        try simp only [Act.put, List.setIfInBounds_toArray, List.set_cons_zero, List.set_cons_succ]
        refine wpAnyH_take (i := 14) (oi := { dst := some 8, op := Go.Op.assign (Go.Operand.tmp 82), type := 4, pos := "law.go:68", after := #[{ on := 13, ground := Go.Ground.data }, { on := 9, ground := Go.Ground.chain }, { on := 0, ground := Go.Ground.phase }, { on := 1, ground := Go.Ground.phase }, { on := 2, ground := Go.Ground.phase }, { on := 3, ground := Go.Ground.phase }, { on := 4, ground := Go.Ground.phase }, { on := 5, ground := Go.Ground.phase }, { on := 6, ground := Go.Ground.phase }, { on := 7, ground := Go.Ground.phase }, { on := 8, ground := Go.Ground.phase }, { on := 9, ground := Go.Ground.phase }, { on := 10, ground := Go.Ground.phase }, { on := 11, ground := Go.Ground.phase }, { on := 12, ground := Go.Ground.phase }, { on := 13, ground := Go.Ground.phase }], guard := none }) (v := ?_) rfl (by kernel_rfl) (by kernel_rfl) (by kernel_rfl) (fun _ _ _ h => h) (Or.inl ⟨by rfl, ?_⟩) (by assumption) ?_
        rotate_left
        · intro w hSw
          try dsimp only at hSw
          go_simp
          try with_reducible rfl
        try simp only [Act.put, List.setIfInBounds_toArray, List.set_cons_zero, List.set_cons_succ]
        refine wpAnyH_done (by kernel_rfl) ?_ _
        go_wp2
        go_ret
        exact ⟨rfl, bstep B hHeld.2.2.2.2.2.2⟩
    · have far' : a < -999999999 ∨ 999999999 < a := by omega
      have MO := Lib.hid (MF.out far')
      have t3 : decide (a < -999999999) = true ∨ (decide (a < -999999999) = false ∧ decide (999999999 < a) = true) := by
        by_cases q : a < -999999999
        · exact .inl (decide_eq_true q)
        · exact .inr ⟨decide_eq_false q, decide_eq_true (by omega)⟩
      clear MY MF far far'
      rcases t3 with t3 | ⟨t3, t4⟩
      all_goals
        go_enter Try.func5, Try.ntmps5
        go_wp2_with fail
        refine (AW.out _).mono ?_
        rintro e w1 ⟨rfl, hb⟩
        have B : Below w.heap.size w w1 := bstep (by go_grown) hb
        clear hb AW
        go_wp2_with fail
        refine (MK.out _).mono ?_
        rintro e w2 ⟨rfl, hb⟩
        replace B := bstep B hb
        clear hb MK
        have PX := Lib.hid (HoldsT.new rfl : HoldsT (w2.alloc (DtC Y M D)) w2.heap.size Y M D)
        replace B := ballD1 B (DtC Y M D)
        go_upto_region 4 with fail
        change Code.wp _ _ _ _ (w2.alloc (DtC Y M D))
        generalize w2.alloc (DtC Y M D) = w3 at *
        obtain ⟨gPX, hg⟩ : ∃ g, g = w2.heap.size := ⟨_, rfl⟩
        rw [← hg] at PX ⊢
        clear hg
        obtain ⟨⟨c01, c02, c03⟩, -, c09⟩ := PX.out
        go_wp2_with fail
        refine (MO.out _).mono ?_
        rintro e w4 ⟨rfl, hb⟩
        replace PX := Lib.hid (PX.out.below hb)
        replace B := bstep B hb
        clear hb MO
        clear c01 c02 c03 c09
        replace PX := Lib.hid (PX.out.alloc (DtC 0 0 0))
        have PZ := Lib.hid (HoldsT.new rfl : HoldsT (w4.alloc (DtC 0 0 0)) w4.heap.size 0 0 0)
        replace B := ballD1 B (DtC 0 0 0)
        go_upto_region 5 with fail
        change Code.wp _ _ _ _ (w4.alloc (DtC 0 0 0))
        generalize w4.alloc (DtC 0 0 0) = w5 at *
        obtain ⟨gPZ, hg⟩ : ∃ g, g = w4.heap.size := ⟨_, rfl⟩
        rw [← hg] at PZ ⊢
        clear hg
        obtain ⟨⟨c01, c02, c03⟩, -, c09⟩ := PX.out
        obtain ⟨⟨c11, c12, c13⟩, -, c19⟩ := PZ.out
        go_wp2_with fail
        refine (FL.out _).mono ?_
        rintro e w6 ⟨rfl, hb⟩
        replace PX := Lib.hid (PX.out.below hb)
        replace PZ := Lib.hid (PZ.out.below hb)
        replace B := bstep B hb
        clear hb FL
        clear c01 c02 c03 c09 c11 c12 c13 c19
        obtain ⟨⟨c01, c02, c03⟩, -, c09⟩ := PX.out
        obtain ⟨⟨c11, c12, c13⟩, -, c19⟩ := PZ.out
        go_wp2
        go_ret
        exact ⟨rfl, B⟩
  · have MO := Lib.hid (months_no Y M D n (by omega))
    have t1 : decide (n < -9007199254740992) = true ∨ (decide (n < -9007199254740992) = false ∧ decide (9007199254740992 < n) = true) := by
      by_cases q : n < -9007199254740992
      · exact .inl (decide_eq_true q)
      · exact .inr ⟨decide_eq_false q, decide_eq_true (by omega)⟩
    clear k h1
    rcases t1 with t1 | ⟨t1, t2⟩
    all_goals
      go_enter Try.func5, Try.ntmps5
      go_wp2_with fail
      refine (AW.out _).mono ?_
      rintro e w1 ⟨rfl, hb⟩
      have B : Below w.heap.size w w1 := bstep (by go_grown) hb
      clear hb AW
      go_wp2_with fail
      refine (MK.out _).mono ?_
      rintro e w2 ⟨rfl, hb⟩
      replace B := bstep B hb
      clear hb MK
      have PX := Lib.hid (HoldsT.new rfl : HoldsT (w2.alloc (DtC Y M D)) w2.heap.size Y M D)
      replace B := ballD1 B (DtC Y M D)
      go_upto_region 4 with fail
      change Code.wp _ _ _ _ (w2.alloc (DtC Y M D))
      generalize w2.alloc (DtC Y M D) = w3 at *
      obtain ⟨gPX, hg⟩ : ∃ g, g = w2.heap.size := ⟨_, rfl⟩
      rw [← hg] at PX ⊢
      clear hg
      obtain ⟨⟨c01, c02, c03⟩, -, c09⟩ := PX.out
      go_wp2_with fail
      refine (MO.out _).mono ?_
      rintro e w4 ⟨rfl, hb⟩
      replace PX := Lib.hid (PX.out.below hb)
      replace B := bstep B hb
      clear hb MO
      clear c01 c02 c03 c09
      replace PX := Lib.hid (PX.out.alloc (DtC 0 0 0))
      have PZ := Lib.hid (HoldsT.new rfl : HoldsT (w4.alloc (DtC 0 0 0)) w4.heap.size 0 0 0)
      replace B := ballD1 B (DtC 0 0 0)
      go_upto_region 5 with fail
      change Code.wp _ _ _ _ (w4.alloc (DtC 0 0 0))
      generalize w4.alloc (DtC 0 0 0) = w5 at *
      obtain ⟨gPZ, hg⟩ : ∃ g, g = w4.heap.size := ⟨_, rfl⟩
      rw [← hg] at PZ ⊢
      clear hg
      obtain ⟨⟨c01, c02, c03⟩, -, c09⟩ := PX.out
      obtain ⟨⟨c11, c12, c13⟩, -, c19⟩ := PZ.out
      go_wp2
      go_ret
      exact ⟨rfl, B⟩
end Go.Proofs.Ytmikbdnjkfdodaa

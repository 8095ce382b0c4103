/-
  The statement SpanTimes, walked: it answers true, where the document's examples do.
-/
import Derived.Test.YtkkddflclakphaaDoorZf
import Derived.Test.YtkkddflclakphaaDoorZc
namespace Go.Proofs.YtkkddflclakphaaDoor
open Go.RowKit

abbrev RdC (n : Bool) (h l : Nat) (x : Int) : Obj := .cells #[.bool n, .int .u64 (h : Int), .int .u64 (l : Int), .int .i64 x] 33
set_option linter.unusedSimpArgs false in
set_option linter.unusedVariables false in
set_option maxRecDepth 100000 in
set_option maxHeartbeats 8000000 in
theorem spanTimes_no (AW : AwS) (n : Int) (hi : I64 n) (hn : spB n = false) (xn : Bool) (xh xl : Nat) (xe : Int) (kx : WW xh xl) (x1 : -9223372036854775808 ≤ xe) (x2 : xe ≤ 9223372036854775807) (w : World) (ht : Tab w) : Calls Tryd.prog 4 #[.int .i64 n, .agg #[.bool xn, .int .u64 (xh : Int), .int .u64 (xl : Int), .int .i64 xe]] w (Ret (.bool true) w) := by
  have HT := Lib.hid ht
  have AW' := Lib.hid AW
  have MK := Lib.hid (makeD_any xn xh xl xe kx x1 x2)
  have IN := Lib.hid (int_any n hi)
  have LY0 := law_may n
  rw [hn] at LY0
  have LY := Lib.hid LY0
  clear LY0 AW ht kx x1 x2
  go_enter Tryd.func4, Tryd.ntmps4
  go_upto_region 1 with fail
  have PX := Lib.hid (HoldsD.new rfl : HoldsD (w.alloc (RdC xn xh xl xe)) w.heap.size xn xh xl xe)
  have B := ballD1 (Below.refl w.heap.size w) (RdC xn xh xl xe)
  change Code.wp _ _ _ _ (w.alloc (RdC xn xh xl xe))
  generalize (w.alloc (RdC xn xh xl xe)) = w0 at *
  obtain ⟨⟨c0_0, c0_1, c0_2, c0_3⟩, -, c0z⟩ := PX.out
  go_wp2_with fail
  refine (AW'.out _ (HT.out.below B)).mono ?_
  rintro e w1 ⟨rfl, hb⟩
  replace PX := Lib.hid (PX.out.below hb)
  replace B := bstep B hb
  clear hb AW'
  clear c0_0 c0_1 c0_2 c0_3 c0z
  obtain ⟨⟨c0_0, c0_1, c0_2, c0_3⟩, -, c0z⟩ := PX.out
  go_wp2_with fail
  refine (MK.out _ (HT.out.below B)).mono ?_
  rintro e w2 ⟨dn, dh, dl, dx, DN, rfl, hb⟩
  replace PX := Lib.hid (PX.out.below hb)
  replace B := bstep B hb
  clear hb MK
  clear c0_0 c0_1 c0_2 c0_3 c0z
  replace PX := Lib.hid (PX.out.alloc (DvC dn dh dl dx))
  have PD := Lib.hid (HoldsD.new rfl : HoldsD (w2.alloc (DvC dn dh dl dx)) w2.heap.size dn dh dl dx)
  replace B := ballD1 B (DvC dn dh dl dx)
  go_upto_region 4 with fail
  change Code.wp _ _ _ _ (w2.alloc (DvC dn dh dl dx))
  generalize w2.alloc (DvC dn dh dl dx) = w3 at *
  obtain ⟨gPD, hg⟩ : ∃ g, g = w2.heap.size := ⟨_, rfl⟩
  rw [← hg] at PD ⊢
  clear hg
  clear PX
  obtain ⟨k, num, -⟩ := DN
  have MU0 := mulD_any (decide (n < 0)) 0 n.natAbs 0 dn dh dl dx (ww1 (abs_lt hi)) k (by decide) (by decide) num.2.1 num.2.2
  rw [nv01] at MU0
  have LM0 := @whole10_any _ (mul_ok (na := decide (n < 0)) (nb := dn) (ea := 0) (eb := dx) (abs_lt hi) num.1)
  have DV0 := divD_any (decide (n < 0)) 0 n.natAbs 0 dn dh dl dx (ww1 (abs_lt hi)) k (abs_num hi) num
  rw [nv01] at DV0
  have LD0 := fun o (D : DivP (decide (n < 0)) n.natAbs 0 dn (nv dh dl) dx o) => @whole10_any o (div_ok D (abs_lt hi))
  have TI0 := times_no n dn dh dl dx hn
  have OV0 := over_no n dn dh dl dx hn
  generalize mulF (decide (n < 0)) n.natAbs 0 dn (nv dh dl) dx = om at *
  obtain ⟨DP, hDP⟩ : ∃ DP, DP = DivP (decide (n < 0)) n.natAbs 0 dn (nv dh dl) dx := ⟨_, rfl⟩
  have det : ∀ o o', DP o → DP o' → o = o' := by rw [hDP]; exact fun o o' => DivP_det
  rw [← hDP] at DV0 LD0
  generalize lnV om = pv at *
  generalize lnB om = pb at *
  have DT := Lib.hid det
  have MU := Lib.hid MU0
  have LM := Lib.hid LM0
  have DV := Lib.hid DV0
  have LD := Lib.hid LD0
  have TI := Lib.hid TI0
  have OV := Lib.hid OV0
  clear MU0 LM0 DV0 LD0 TI0 OV0 det hDP k num hn hi
  generalize decide (n < 0) = sn at *
  generalize n.natAbs = an at *
  obtain ⟨⟨c0_0, c0_1, c0_2, c0_3⟩, -, c0z⟩ := PD.out
  go_wp2_with fail
  refine (TI.out _).mono ?_
  rintro e w4 ⟨rfl, hb⟩
  replace PD := Lib.hid (PD.out.below hb)
  replace B := bstep B hb
  clear hb TI
  clear c0_0 c0_1 c0_2 c0_3 c0z
  obtain ⟨⟨c0_0, c0_1, c0_2, c0_3⟩, -, c0z⟩ := PD.out
  go_wp2_with fail
  refine (OV.out _).mono ?_
  rintro e w5 ⟨rfl, hb⟩
  replace PD := Lib.hid (PD.out.below hb)
  replace B := bstep B hb
  clear hb OV
  clear c0_0 c0_1 c0_2 c0_3 c0z
  go_upto_region 6 with fail
  refine wp_region_held_drew (S := fun w' => w'.cell? ⟨gPD, 0, none⟩ = some (.bool dn) ∧ w'.cell? ⟨gPD, 1, none⟩ = some (.int .u64 (dh : Int)) ∧ w'.cell? ⟨gPD, 2, none⟩ = some (.int .u64 (dl : Int)) ∧ w'.cell? ⟨gPD, 3, none⟩ = some (.int .i64 dx) ∧ Below w5.heap.size w5 w') (by kernel_rfl) ?_ (fun hHeld => ?_)
  · exact (have hk := (Below.refl _ _).drew; ⟨(PD.out.below hk).1.1, (PD.out.below hk).1.2.1, (PD.out.below hk).1.2.2.1, (PD.out.below hk).1.2.2.2, hk⟩)
  refine wpAnyH_take (i := 0) (oi := { dst := some 31, op := Go.Op.move (Go.Operand.tmp 0), type := 3, pos := "law.go:63", after := #[], guard := none }) (v := ?_) rfl (by kernel_rfl) (by kernel_rfl) (by kernel_rfl) (fun _ _ _ h => h) (Or.inl ⟨by rfl, ?_⟩) (by assumption) ?_
  rotate_left
  · intro w hSw
    try dsimp only at hSw
    go_simp
    try with_reducible rfl
  try simp only [Act.put, List.setIfInBounds_toArray, List.set_cons_zero, List.set_cons_succ]
  refine wpAnyH_take (i := 2) (oi := { dst := some 33, op := Go.Op.load 34 (Go.Operand.tmp 5), type := 34, pos := "law.go:63", after := #[], guard := none }) (v := ?_) rfl (by kernel_rfl) (by kernel_rfl) (by kernel_rfl) (fun _ _ _ h => h) (Or.inl ⟨by rfl, ?_⟩) (by assumption) ?_
  rotate_left
  · intro w hSw
    try dsimp only at hSw
    go_simp
    try with_reducible rfl
  try simp only [Act.put, List.setIfInBounds_toArray, List.set_cons_zero, List.set_cons_succ]
  refine wpAnyH_ready (rs := [1]) (by kernel_rfl) (by simp) ?_
  refine AllReadyH.cons (o := { dst := some 32, op := Go.Op.call { callee := Go.Callee.value (Go.Operand.func 18), args := #[Go.Operand.tmp 31], argTypes := #[3] }, type := 34, pos := "law.go:63", after := #[{ on := 0, ground := Go.Ground.data }], guard := none }) rfl (fun K hK => ?_) AllReadyH.nil
  go_simp
  refine (IN.out _).mono ?_
  rintro e v1 ⟨rfl, hb1⟩
  have HBx := Lib.hid (bstep hHeld.2.2.2.2 hb1)
  clear hHeld hb1
  refine hK.out _ _ ?_ (fun hHeld => ?_)
  · exact (have hk := HBx.out; ⟨(PD.out.below hk).1.1, (PD.out.below hk).1.2.1, (PD.out.below hk).1.2.2.1, (PD.out.below hk).1.2.2.2, hk⟩)
  clear hK K HBx
  try simp only [Act.put, List.setIfInBounds_toArray, List.set_cons_zero, List.set_cons_succ]
  refine wpAnyH_ready (rs := [3]) (by kernel_rfl) (by simp) ?_
  refine AllReadyH.cons (o := { dst := some 34, op := Go.Op.call { callee := Go.Callee.value (Go.Operand.func 17), args := #[Go.Operand.tmp 32, Go.Operand.tmp 33], argTypes := #[34, 34] }, type := 38, pos := "law.go:63", after := #[{ on := 1, ground := Go.Ground.data }, { on := 2, ground := Go.Ground.data }, { on := 1, ground := Go.Ground.chain }], guard := none }) rfl (fun K hK => ?_) AllReadyH.nil
  go_simp
  refine (MU.out _ (HT.out.below (bstep B hHeld.2.2.2.2))).mono ?_
  rintro e v2 ⟨mn, mh, ml, mx, mok, MN, rfl, hb2⟩
  have HBx := Lib.hid (bstep hHeld.2.2.2.2 hb2)
  clear hHeld hb2
  refine hK.out _ _ ?_ (fun hHeld => ?_)
  · exact (have hk := HBx.out; ⟨(PD.out.below hk).1.1, (PD.out.below hk).1.2.1, (PD.out.below hk).1.2.2.1, (PD.out.below hk).1.2.2.2, hk⟩)
  clear hK K HBx
  try simp only [Act.put, List.setIfInBounds_toArray, List.set_cons_zero, List.set_cons_succ]
  refine wpAnyH_take (i := 4) (oi := { dst := some 35, op := Go.Op.extract (Go.Operand.tmp 34) 0, type := 34, pos := "law.go:63", after := #[{ on := 3, ground := Go.Ground.data }], guard := none }) (v := ?_) rfl (by kernel_rfl) (by kernel_rfl) (by kernel_rfl) (fun _ _ _ h => h) (Or.inl ⟨by rfl, ?_⟩) (by assumption) ?_
  rotate_left
  · intro w hSw
    try dsimp only at hSw
    go_simp
    try with_reducible rfl
  try simp only [Act.put, List.setIfInBounds_toArray, List.set_cons_zero, List.set_cons_succ]
  refine wpAnyH_take (i := 5) (oi := { dst := some 36, op := Go.Op.extract (Go.Operand.tmp 34) 1, type := 4, pos := "law.go:63", after := #[{ on := 3, ground := Go.Ground.data }], guard := none }) (v := ?_) rfl (by kernel_rfl) (by kernel_rfl) (by kernel_rfl) (fun _ _ _ h => h) (Or.inl ⟨by rfl, ?_⟩) (by assumption) ?_
  rotate_left
  · intro w hSw
    try dsimp only at hSw
    go_simp
    try with_reducible rfl
  try simp only [Act.put, List.setIfInBounds_toArray, List.set_cons_zero, List.set_cons_succ]
  refine wpAnyH_ready (rs := [6]) (by kernel_rfl) (by simp) ?_
  refine AllReadyH.cons (o := { dst := some 37, op := Go.Op.call { callee := Go.Callee.value (Go.Operand.func 16), args := #[Go.Operand.tmp 35, Go.Operand.tmp 36], argTypes := #[34, 4] }, type := 23, pos := "law.go:63", after := #[{ on := 4, ground := Go.Ground.data }, { on := 5, ground := Go.Ground.data }, { on := 3, ground := Go.Ground.chain }], guard := none }) rfl (fun K hK => ?_) AllReadyH.nil
  go_simp
  refine (LM.out mn mh ml mx mok MN _ (HT.out.below (bstep B hHeld.2.2.2.2))).mono ?_
  rintro e v3 ⟨rfl, hb3⟩
  have HBx := Lib.hid (bstep hHeld.2.2.2.2 hb3)
  clear hHeld hb3
  refine hK.out _ _ ?_ (fun hHeld => ?_)
  · exact (have hk := HBx.out; ⟨(PD.out.below hk).1.1, (PD.out.below hk).1.2.1, (PD.out.below hk).1.2.2.1, (PD.out.below hk).1.2.2.2, hk⟩)
  clear hK K HBx
  try simp only [Act.put, List.setIfInBounds_toArray, List.set_cons_zero, List.set_cons_succ]
  refine wpAnyH_take (i := 7) (oi := { dst := some 30, op := Go.Op.move (Go.Operand.tmp 37), type := 23, pos := "law.go:63", after := #[{ on := 6, ground := Go.Ground.data }], guard := none }) (v := ?_) rfl (by kernel_rfl) (by kernel_rfl) (by kernel_rfl) (fun _ _ _ h => h) (Or.inl ⟨by rfl, ?_⟩) (by assumption) ?_
  rotate_left
  · intro w hSw
    try dsimp only at hSw
    go_simp
    try with_reducible rfl
  try simp only [Act.put, List.setIfInBounds_toArray, List.set_cons_zero, List.set_cons_succ]
  refine wpAnyH_take (i := 8) (oi := { dst := some 38, op := Go.Op.extract (Go.Operand.tmp 30) 0, type := 3, pos := "law.go:63", after := #[{ on := 7, ground := Go.Ground.data }], guard := none }) (v := ?_) rfl (by kernel_rfl) (by kernel_rfl) (by kernel_rfl) (fun _ _ _ h => h) (Or.inl ⟨by rfl, ?_⟩) (by assumption) ?_
  rotate_left
  · intro w hSw
    try dsimp only at hSw
    go_simp
    try with_reducible rfl
  try simp only [Act.put, List.setIfInBounds_toArray, List.set_cons_zero, List.set_cons_succ]
  refine wpAnyH_take (i := 9) (oi := { dst := some 39, op := Go.Op.extract (Go.Operand.tmp 30) 1, type := 4, pos := "law.go:63", after := #[{ on := 7, ground := Go.Ground.data }, { on := 10, ground := Go.Ground.gcOnly Go.Departure.lateStores }], guard := none }) (v := ?_) rfl (by kernel_rfl) (by kernel_rfl) (by kernel_rfl) (fun _ _ _ h => h) (Or.inl ⟨by rfl, ?_⟩) (by assumption) ?_
  rotate_left
  · intro w hSw
    try dsimp only at hSw
    go_simp
    try with_reducible rfl
  try simp only [Act.put, List.setIfInBounds_toArray, List.set_cons_zero, List.set_cons_succ]
  refine wpAnyH_take (i := 10) (oi := { dst := some 10, op := Go.Op.assign (Go.Operand.tmp 38), type := 3, pos := "law.go:63", after := #[{ on := 8, ground := Go.Ground.data }, { on := 6, ground := Go.Ground.chain }, { on := 0, ground := Go.Ground.phase }, { on := 1, ground := Go.Ground.phase }, { on := 2, ground := Go.Ground.phase }, { on := 3, ground := Go.Ground.phase }, { on := 4, ground := Go.Ground.phase }, { on := 5, ground := Go.Ground.phase }, { on := 6, ground := Go.Ground.phase }, { on := 7, ground := Go.Ground.phase }, { on := 8, ground := Go.Ground.phase }, { on := 9, ground := Go.Ground.textOnly Go.Departure.lateStores }], guard := none }) (v := ?_) rfl (by kernel_rfl) (by kernel_rfl) (by kernel_rfl) (fun _ _ _ h => h) (Or.inl ⟨by rfl, ?_⟩) (by assumption) ?_
  rotate_left
  · intro w hSw
    try dsimp only at hSw
    go_simp
    try with_reducible rfl
  try simp only [Act.put, List.setIfInBounds_toArray, List.set_cons_zero, List.set_cons_succ]
  refine wpAnyH_take (i := 11) (oi := { dst := some 11, op := Go.Op.assign (Go.Operand.tmp 39), type := 4, pos := "law.go:63", after := #[{ on := 9, ground := Go.Ground.data }, { on := 10, ground := Go.Ground.chain }, { on := 0, ground := Go.Ground.phase }, { on := 1, ground := Go.Ground.phase }, { on := 2, ground := Go.Ground.phase }, { on := 3, ground := Go.Ground.phase }, { on := 4, ground := Go.Ground.phase }, { on := 5, ground := Go.Ground.phase }, { on := 6, ground := Go.Ground.phase }, { on := 7, ground := Go.Ground.phase }, { on := 8, ground := Go.Ground.phase }, { on := 9, ground := Go.Ground.phase }, { on := 10, ground := Go.Ground.phase }], guard := none }) (v := ?_) rfl (by kernel_rfl) (by kernel_rfl) (by kernel_rfl) (fun _ _ _ h => h) (Or.inl ⟨by rfl, ?_⟩) (by assumption) ?_
  rotate_left
  · intro w hSw
    try dsimp only at hSw
    go_simp
    try with_reducible rfl
  try simp only [Act.put, List.setIfInBounds_toArray, List.set_cons_zero, List.set_cons_succ]
  refine wpAnyH_done (by kernel_rfl) ?_ _
  replace B := bstep B hHeld.2.2.2.2
  replace PD := Lib.hid (PD.out.below hHeld.2.2.2.2)
  clear hHeld
  go_upto_region 7 with fail
  refine wp_region_held_drew (S := fun w' => w'.cell? ⟨gPD, 0, none⟩ = some (.bool dn) ∧ w'.cell? ⟨gPD, 1, none⟩ = some (.int .u64 (dh : Int)) ∧ w'.cell? ⟨gPD, 2, none⟩ = some (.int .u64 (dl : Int)) ∧ w'.cell? ⟨gPD, 3, none⟩ = some (.int .i64 dx) ∧ Below v3.heap.size v3 w') (by kernel_rfl) ?_ (fun hHeld => ?_)
  · exact (have hk := (Below.refl _ _).drew; ⟨(PD.out.below hk).1.1, (PD.out.below hk).1.2.1, (PD.out.below hk).1.2.2.1, (PD.out.below hk).1.2.2.2, hk⟩)
  refine wpAnyH_take (i := 0) (oi := { dst := some 41, op := Go.Op.move (Go.Operand.tmp 0), type := 3, pos := "law.go:64", after := #[], guard := none }) (v := ?_) rfl (by kernel_rfl) (by kernel_rfl) (by kernel_rfl) (fun _ _ _ h => h) (Or.inl ⟨by rfl, ?_⟩) (by assumption) ?_
  rotate_left
  · intro w hSw
    try dsimp only at hSw
    go_simp
    try with_reducible rfl
  try simp only [Act.put, List.setIfInBounds_toArray, List.set_cons_zero, List.set_cons_succ]
  refine wpAnyH_take (i := 2) (oi := { dst := some 43, op := Go.Op.load 34 (Go.Operand.tmp 5), type := 34, pos := "law.go:64", after := #[], guard := none }) (v := ?_) rfl (by kernel_rfl) (by kernel_rfl) (by kernel_rfl) (fun _ _ _ h => h) (Or.inl ⟨by rfl, ?_⟩) (by assumption) ?_
  rotate_left
  · intro w hSw
    try dsimp only at hSw
    go_simp
    try with_reducible rfl
  try simp only [Act.put, List.setIfInBounds_toArray, List.set_cons_zero, List.set_cons_succ]
  refine wpAnyH_ready (rs := [1]) (by kernel_rfl) (by simp) ?_
  refine AllReadyH.cons (o := { dst := some 42, op := Go.Op.call { callee := Go.Callee.value (Go.Operand.func 18), args := #[Go.Operand.tmp 41], argTypes := #[3] }, type := 34, pos := "law.go:64", after := #[{ on := 0, ground := Go.Ground.data }], guard := none }) rfl (fun K hK => ?_) AllReadyH.nil
  go_simp
  refine (IN.out _).mono ?_
  rintro e v4 ⟨rfl, hb4⟩
  have HBx := Lib.hid (bstep hHeld.2.2.2.2 hb4)
  clear hHeld hb4
  refine hK.out _ _ ?_ (fun hHeld => ?_)
  · exact (have hk := HBx.out; ⟨(PD.out.below hk).1.1, (PD.out.below hk).1.2.1, (PD.out.below hk).1.2.2.1, (PD.out.below hk).1.2.2.2, hk⟩)
  clear hK K HBx
  try simp only [Act.put, List.setIfInBounds_toArray, List.set_cons_zero, List.set_cons_succ]
  refine wpAnyH_ready (rs := [3]) (by kernel_rfl) (by simp) ?_
  refine AllReadyH.cons (o := { dst := some 44, op := Go.Op.call { callee := Go.Callee.value (Go.Operand.func 19), args := #[Go.Operand.tmp 42, Go.Operand.tmp 43], argTypes := #[34, 34] }, type := 38, pos := "law.go:64", after := #[{ on := 1, ground := Go.Ground.data }, { on := 2, ground := Go.Ground.data }, { on := 1, ground := Go.Ground.chain }], guard := none }) rfl (fun K hK => ?_) AllReadyH.nil
  go_simp
  refine (DV.out _ (HT.out.below (bstep B hHeld.2.2.2.2))).mono ?_
  rintro e v5 ⟨dq, DQ, kn, kh, kl, kx, kok, KN, rfl, hb5⟩
  have HBx := Lib.hid (bstep hHeld.2.2.2.2 hb5)
  clear hHeld hb5
  refine hK.out _ _ ?_ (fun hHeld => ?_)
  · exact (have hk := HBx.out; ⟨(PD.out.below hk).1.1, (PD.out.below hk).1.2.1, (PD.out.below hk).1.2.2.1, (PD.out.below hk).1.2.2.2, hk⟩)
  clear hK K HBx
  try simp only [Act.put, List.setIfInBounds_toArray, List.set_cons_zero, List.set_cons_succ]
  refine wpAnyH_take (i := 4) (oi := { dst := some 45, op := Go.Op.extract (Go.Operand.tmp 44) 0, type := 34, pos := "law.go:64", after := #[{ on := 3, ground := Go.Ground.data }], guard := none }) (v := ?_) rfl (by kernel_rfl) (by kernel_rfl) (by kernel_rfl) (fun _ _ _ h => h) (Or.inl ⟨by rfl, ?_⟩) (by assumption) ?_
  rotate_left
  · intro w hSw
    try dsimp only at hSw
    go_simp
    try with_reducible rfl
  try simp only [Act.put, List.setIfInBounds_toArray, List.set_cons_zero, List.set_cons_succ]
  refine wpAnyH_take (i := 5) (oi := { dst := some 46, op := Go.Op.extract (Go.Operand.tmp 44) 1, type := 4, pos := "law.go:64", after := #[{ on := 3, ground := Go.Ground.data }], guard := none }) (v := ?_) rfl (by kernel_rfl) (by kernel_rfl) (by kernel_rfl) (fun _ _ _ h => h) (Or.inl ⟨by rfl, ?_⟩) (by assumption) ?_
  rotate_left
  · intro w hSw
    try dsimp only at hSw
    go_simp
    try with_reducible rfl
  try simp only [Act.put, List.setIfInBounds_toArray, List.set_cons_zero, List.set_cons_succ]
  refine wpAnyH_ready (rs := [6]) (by kernel_rfl) (by simp) ?_
  refine AllReadyH.cons (o := { dst := some 47, op := Go.Op.call { callee := Go.Callee.value (Go.Operand.func 16), args := #[Go.Operand.tmp 45, Go.Operand.tmp 46], argTypes := #[34, 4] }, type := 23, pos := "law.go:64", after := #[{ on := 4, ground := Go.Ground.data }, { on := 5, ground := Go.Ground.data }, { on := 3, ground := Go.Ground.chain }], guard := none }) rfl (fun K hK => ?_) AllReadyH.nil
  go_simp
  refine (LD.out dq DQ kn kh kl kx kok KN _ (HT.out.below (bstep B hHeld.2.2.2.2))).mono ?_
  rintro e v6 ⟨rfl, hb6⟩
  have HBx := Lib.hid (bstep hHeld.2.2.2.2 hb6)
  clear hHeld hb6
  refine hK.out _ _ ?_ (fun hHeld => ?_)
  · exact (have hk := HBx.out; ⟨(PD.out.below hk).1.1, (PD.out.below hk).1.2.1, (PD.out.below hk).1.2.2.1, (PD.out.below hk).1.2.2.2, hk⟩)
  clear hK K HBx
  try simp only [Act.put, List.setIfInBounds_toArray, List.set_cons_zero, List.set_cons_succ]
  refine wpAnyH_take (i := 7) (oi := { dst := some 40, op := Go.Op.move (Go.Operand.tmp 47), type := 23, pos := "law.go:64", after := #[{ on := 6, ground := Go.Ground.data }], guard := none }) (v := ?_) rfl (by kernel_rfl) (by kernel_rfl) (by kernel_rfl) (fun _ _ _ h => h) (Or.inl ⟨by rfl, ?_⟩) (by assumption) ?_
  rotate_left
  · intro w hSw
    try dsimp only at hSw
    go_simp
    try with_reducible rfl
  try simp only [Act.put, List.setIfInBounds_toArray, List.set_cons_zero, List.set_cons_succ]
  refine wpAnyH_take (i := 8) (oi := { dst := some 48, op := Go.Op.extract (Go.Operand.tmp 40) 0, type := 3, pos := "law.go:64", after := #[{ on := 7, ground := Go.Ground.data }], guard := none }) (v := ?_) rfl (by kernel_rfl) (by kernel_rfl) (by kernel_rfl) (fun _ _ _ h => h) (Or.inl ⟨by rfl, ?_⟩) (by assumption) ?_
  rotate_left
  · intro w hSw
    try dsimp only at hSw
    go_simp
    try with_reducible rfl
  try simp only [Act.put, List.setIfInBounds_toArray, List.set_cons_zero, List.set_cons_succ]
  refine wpAnyH_take (i := 9) (oi := { dst := some 49, op := Go.Op.extract (Go.Operand.tmp 40) 1, type := 4, pos := "law.go:64", after := #[{ on := 7, ground := Go.Ground.data }, { on := 10, ground := Go.Ground.gcOnly Go.Departure.lateStores }], guard := none }) (v := ?_) rfl (by kernel_rfl) (by kernel_rfl) (by kernel_rfl) (fun _ _ _ h => h) (Or.inl ⟨by rfl, ?_⟩) (by assumption) ?_
  rotate_left
  · intro w hSw
    try dsimp only at hSw
    go_simp
    try with_reducible rfl
  try simp only [Act.put, List.setIfInBounds_toArray, List.set_cons_zero, List.set_cons_succ]
  refine wpAnyH_take (i := 10) (oi := { dst := some 12, op := Go.Op.assign (Go.Operand.tmp 48), type := 3, pos := "law.go:64", after := #[{ on := 8, ground := Go.Ground.data }, { on := 6, ground := Go.Ground.chain }, { on := 0, ground := Go.Ground.phase }, { on := 1, ground := Go.Ground.phase }, { on := 2, ground := Go.Ground.phase }, { on := 3, ground := Go.Ground.phase }, { on := 4, ground := Go.Ground.phase }, { on := 5, ground := Go.Ground.phase }, { on := 6, ground := Go.Ground.phase }, { on := 7, ground := Go.Ground.phase }, { on := 8, ground := Go.Ground.phase }, { on := 9, ground := Go.Ground.textOnly Go.Departure.lateStores }], guard := none }) (v := ?_) rfl (by kernel_rfl) (by kernel_rfl) (by kernel_rfl) (fun _ _ _ h => h) (Or.inl ⟨by rfl, ?_⟩) (by assumption) ?_
  rotate_left
  · intro w hSw
    try dsimp only at hSw
    go_simp
    try with_reducible rfl
  try simp only [Act.put, List.setIfInBounds_toArray, List.set_cons_zero, List.set_cons_succ]
  refine wpAnyH_take (i := 11) (oi := { dst := some 13, op := Go.Op.assign (Go.Operand.tmp 49), type := 4, pos := "law.go:64", after := #[{ on := 9, ground := Go.Ground.data }, { on := 10, ground := Go.Ground.chain }, { on := 0, ground := Go.Ground.phase }, { on := 1, ground := Go.Ground.phase }, { on := 2, ground := Go.Ground.phase }, { on := 3, ground := Go.Ground.phase }, { on := 4, ground := Go.Ground.phase }, { on := 5, ground := Go.Ground.phase }, { on := 6, ground := Go.Ground.phase }, { on := 7, ground := Go.Ground.phase }, { on := 8, ground := Go.Ground.phase }, { on := 9, ground := Go.Ground.phase }, { on := 10, ground := Go.Ground.phase }], guard := none }) (v := ?_) rfl (by kernel_rfl) (by kernel_rfl) (by kernel_rfl) (fun _ _ _ h => h) (Or.inl ⟨by rfl, ?_⟩) (by assumption) ?_
  rotate_left
  · intro w hSw
    try dsimp only at hSw
    go_simp
    try with_reducible rfl
  try simp only [Act.put, List.setIfInBounds_toArray, List.set_cons_zero, List.set_cons_succ]
  refine wpAnyH_done (by kernel_rfl) ?_ _
  replace B := bstep B hHeld.2.2.2.2
  replace PD := Lib.hid (PD.out.below hHeld.2.2.2.2)
  clear hHeld
  clear PD
  go_wp2_with fail
  refine (LY.out _).mono ?_
  rintro e v7 ⟨rfl, hb⟩
  replace B := bstep B hb
  clear hb LY
  go_wp2
  go_ret
  exact ⟨rfl, B⟩
set_option linter.unusedSimpArgs false in
set_option linter.unusedVariables false in
set_option maxRecDepth 100000 in
set_option maxHeartbeats 8000000 in
theorem spanTimes_yes (AW : AwS) (n : Int) (hi : I64 n) (hn : spB n = true) (xn : Bool) (xh xl : Nat) (xe : Int) (kx : WW xh xl) (x1 : -9223372036854775808 ≤ xe) (x2 : xe ≤ 9223372036854775807) (w : World) (ht : Tab w) : Calls Tryd.prog 4 #[.int .i64 n, .agg #[.bool xn, .int .u64 (xh : Int), .int .u64 (xl : Int), .int .i64 xe]] w (Ret (.bool true) w) := by
  have HT := Lib.hid ht
  have AW' := Lib.hid AW
  have MK := Lib.hid (makeD_any xn xh xl xe kx x1 x2)
  have IN := Lib.hid (int_any n hi)
  have LY0 := law_may n
  rw [hn] at LY0
  have LY := Lib.hid LY0
  clear LY0 AW ht kx x1 x2
  go_enter Tryd.func4, Tryd.ntmps4
  go_upto_region 1 with fail
  have PX := Lib.hid (HoldsD.new rfl : HoldsD (w.alloc (RdC xn xh xl xe)) w.heap.size xn xh xl xe)
  have B := ballD1 (Below.refl w.heap.size w) (RdC xn xh xl xe)
  change Code.wp _ _ _ _ (w.alloc (RdC xn xh xl xe))
  generalize (w.alloc (RdC xn xh xl xe)) = w0 at *
  obtain ⟨⟨c0_0, c0_1, c0_2, c0_3⟩, -, c0z⟩ := PX.out
  go_wp2_with fail
  refine (AW'.out _ (HT.out.below B)).mono ?_
  rintro e w1 ⟨rfl, hb⟩
  replace PX := Lib.hid (PX.out.below hb)
  replace B := bstep B hb
  clear hb AW'
  clear c0_0 c0_1 c0_2 c0_3 c0z
  obtain ⟨⟨c0_0, c0_1, c0_2, c0_3⟩, -, c0z⟩ := PX.out
  go_wp2_with fail
  refine (MK.out _ (HT.out.below B)).mono ?_
  rintro e w2 ⟨dn, dh, dl, dx, DN, rfl, hb⟩
  replace PX := Lib.hid (PX.out.below hb)
  replace B := bstep B hb
  clear hb MK
  clear c0_0 c0_1 c0_2 c0_3 c0z
  replace PX := Lib.hid (PX.out.alloc (DvC dn dh dl dx))
  have PD := Lib.hid (HoldsD.new rfl : HoldsD (w2.alloc (DvC dn dh dl dx)) w2.heap.size dn dh dl dx)
  replace B := ballD1 B (DvC dn dh dl dx)
  go_upto_region 4 with fail
  change Code.wp _ _ _ _ (w2.alloc (DvC dn dh dl dx))
  generalize w2.alloc (DvC dn dh dl dx) = w3 at *
  obtain ⟨gPD, hg⟩ : ∃ g, g = w2.heap.size := ⟨_, rfl⟩
  rw [← hg] at PD ⊢
  clear hg
  clear PX
  obtain ⟨k, num, -⟩ := DN
  have MU0 := mulD_any (decide (n < 0)) 0 n.natAbs 0 dn dh dl dx (ww1 (abs_lt hi)) k (by decide) (by decide) num.2.1 num.2.2
  rw [nv01] at MU0
  have LM0 := @whole10_any _ (mul_ok (na := decide (n < 0)) (nb := dn) (ea := 0) (eb := dx) (abs_lt hi) num.1)
  have DV0 := divD_any (decide (n < 0)) 0 n.natAbs 0 dn dh dl dx (ww1 (abs_lt hi)) k (abs_num hi) num
  rw [nv01] at DV0
  have LD0 := fun o (D : DivP (decide (n < 0)) n.natAbs 0 dn (nv dh dl) dx o) => @whole10_any o (div_ok D (abs_lt hi))
  have TI0 := times_yes n dn dh dl dx hn k num
  have OV0 := over_yes n dn dh dl dx hn k num
  generalize mulF (decide (n < 0)) n.natAbs 0 dn (nv dh dl) dx = om at *
  obtain ⟨DP, hDP⟩ : ∃ DP, DP = DivP (decide (n < 0)) n.natAbs 0 dn (nv dh dl) dx := ⟨_, rfl⟩
  have det : ∀ o o', DP o → DP o' → o = o' := by rw [hDP]; exact fun o o' => DivP_det
  rw [← hDP] at DV0 LD0 OV0
  generalize lnV om = pv at *
  generalize lnB om = pb at *
  have DT := Lib.hid det
  have MU := Lib.hid MU0
  have LM := Lib.hid LM0
  have DV := Lib.hid DV0
  have LD := Lib.hid LD0
  have TI := Lib.hid TI0
  have OV := Lib.hid OV0
  clear MU0 LM0 DV0 LD0 TI0 OV0 det hDP k num hn hi
  generalize decide (n < 0) = sn at *
  generalize n.natAbs = an at *
  obtain ⟨⟨c0_0, c0_1, c0_2, c0_3⟩, -, c0z⟩ := PD.out
  go_wp2_with fail
  refine (TI.out _ (HT.out.below B)).mono ?_
  rintro e w4 ⟨rfl, hb⟩
  replace PD := Lib.hid (PD.out.below hb)
  replace B := bstep B hb
  clear hb TI
  clear c0_0 c0_1 c0_2 c0_3 c0z
  obtain ⟨⟨c0_0, c0_1, c0_2, c0_3⟩, -, c0z⟩ := PD.out
  go_wp2_with fail
  refine (OV.out _ (HT.out.below B)).mono ?_
  rintro e w5 ⟨oq, OQ, rfl, hb⟩
  replace PD := Lib.hid (PD.out.below hb)
  replace B := bstep B hb
  clear hb OV
  clear c0_0 c0_1 c0_2 c0_3 c0z
  go_upto_region 6 with fail
  refine wp_region_held_drew (S := fun w' => w'.cell? ⟨gPD, 0, none⟩ = some (.bool dn) ∧ w'.cell? ⟨gPD, 1, none⟩ = some (.int .u64 (dh : Int)) ∧ w'.cell? ⟨gPD, 2, none⟩ = some (.int .u64 (dl : Int)) ∧ w'.cell? ⟨gPD, 3, none⟩ = some (.int .i64 dx) ∧ Below w5.heap.size w5 w') (by kernel_rfl) ?_ (fun hHeld => ?_)
  · exact (have hk := (Below.refl _ _).drew; ⟨(PD.out.below hk).1.1, (PD.out.below hk).1.2.1, (PD.out.below hk).1.2.2.1, (PD.out.below hk).1.2.2.2, hk⟩)
  refine wpAnyH_take (i := 0) (oi := { dst := some 31, op := Go.Op.move (Go.Operand.tmp 0), type := 3, pos := "law.go:63", after := #[], guard := none }) (v := ?_) rfl (by kernel_rfl) (by kernel_rfl) (by kernel_rfl) (fun _ _ _ h => h) (Or.inl ⟨by rfl, ?_⟩) (by assumption) ?_
  rotate_left
  · intro w hSw
    try dsimp only at hSw
    go_simp
    try with_reducible rfl
  try simp only [Act.put, List.setIfInBounds_toArray, List.set_cons_zero, List.set_cons_succ]
  refine wpAnyH_take (i := 2) (oi := { dst := some 33, op := Go.Op.load 34 (Go.Operand.tmp 5), type := 34, pos := "law.go:63", after := #[], guard := none }) (v := ?_) rfl (by kernel_rfl) (by kernel_rfl) (by kernel_rfl) (fun _ _ _ h => h) (Or.inl ⟨by rfl, ?_⟩) (by assumption) ?_
  rotate_left
  · intro w hSw
    try dsimp only at hSw
    go_simp
    try with_reducible rfl
  try simp only [Act.put, List.setIfInBounds_toArray, List.set_cons_zero, List.set_cons_succ]
  refine wpAnyH_ready (rs := [1]) (by kernel_rfl) (by simp) ?_
  refine AllReadyH.cons (o := { dst := some 32, op := Go.Op.call { callee := Go.Callee.value (Go.Operand.func 18), args := #[Go.Operand.tmp 31], argTypes := #[3] }, type := 34, pos := "law.go:63", after := #[{ on := 0, ground := Go.Ground.data }], guard := none }) rfl (fun K hK => ?_) AllReadyH.nil
  go_simp
  refine (IN.out _).mono ?_
  rintro e v1 ⟨rfl, hb1⟩
  have HBx := Lib.hid (bstep hHeld.2.2.2.2 hb1)
  clear hHeld hb1
  refine hK.out _ _ ?_ (fun hHeld => ?_)
  · exact (have hk := HBx.out; ⟨(PD.out.below hk).1.1, (PD.out.below hk).1.2.1, (PD.out.below hk).1.2.2.1, (PD.out.below hk).1.2.2.2, hk⟩)
  clear hK K HBx
  try simp only [Act.put, List.setIfInBounds_toArray, List.set_cons_zero, List.set_cons_succ]
  refine wpAnyH_ready (rs := [3]) (by kernel_rfl) (by simp) ?_
  refine AllReadyH.cons (o := { dst := some 34, op := Go.Op.call { callee := Go.Callee.value (Go.Operand.func 17), args := #[Go.Operand.tmp 32, Go.Operand.tmp 33], argTypes := #[34, 34] }, type := 38, pos := "law.go:63", after := #[{ on := 1, ground := Go.Ground.data }, { on := 2, ground := Go.Ground.data }, { on := 1, ground := Go.Ground.chain }], guard := none }) rfl (fun K hK => ?_) AllReadyH.nil
  go_simp
  refine (MU.out _ (HT.out.below (bstep B hHeld.2.2.2.2))).mono ?_
  rintro e v2 ⟨mn, mh, ml, mx, mok, MN, rfl, hb2⟩
  have HBx := Lib.hid (bstep hHeld.2.2.2.2 hb2)
  clear hHeld hb2
  refine hK.out _ _ ?_ (fun hHeld => ?_)
  · exact (have hk := HBx.out; ⟨(PD.out.below hk).1.1, (PD.out.below hk).1.2.1, (PD.out.below hk).1.2.2.1, (PD.out.below hk).1.2.2.2, hk⟩)
  clear hK K HBx
  try simp only [Act.put, List.setIfInBounds_toArray, List.set_cons_zero, List.set_cons_succ]
  refine wpAnyH_take (i := 4) (oi := { dst := some 35, op := Go.Op.extract (Go.Operand.tmp 34) 0, type := 34, pos := "law.go:63", after := #[{ on := 3, ground := Go.Ground.data }], guard := none }) (v := ?_) rfl (by kernel_rfl) (by kernel_rfl) (by kernel_rfl) (fun _ _ _ h => h) (Or.inl ⟨by rfl, ?_⟩) (by assumption) ?_
  rotate_left
  · intro w hSw
    try dsimp only at hSw
    go_simp
    try with_reducible rfl
  try simp only [Act.put, List.setIfInBounds_toArray, List.set_cons_zero, List.set_cons_succ]
  refine wpAnyH_take (i := 5) (oi := { dst := some 36, op := Go.Op.extract (Go.Operand.tmp 34) 1, type := 4, pos := "law.go:63", after := #[{ on := 3, ground := Go.Ground.data }], guard := none }) (v := ?_) rfl (by kernel_rfl) (by kernel_rfl) (by kernel_rfl) (fun _ _ _ h => h) (Or.inl ⟨by rfl, ?_⟩) (by assumption) ?_
  rotate_left
  · intro w hSw
    try dsimp only at hSw
    go_simp
    try with_reducible rfl
  try simp only [Act.put, List.setIfInBounds_toArray, List.set_cons_zero, List.set_cons_succ]
  refine wpAnyH_ready (rs := [6]) (by kernel_rfl) (by simp) ?_
  refine AllReadyH.cons (o := { dst := some 37, op := Go.Op.call { callee := Go.Callee.value (Go.Operand.func 16), args := #[Go.Operand.tmp 35, Go.Operand.tmp 36], argTypes := #[34, 4] }, type := 23, pos := "law.go:63", after := #[{ on := 4, ground := Go.Ground.data }, { on := 5, ground := Go.Ground.data }, { on := 3, ground := Go.Ground.chain }], guard := none }) rfl (fun K hK => ?_) AllReadyH.nil
  go_simp
  refine (LM.out mn mh ml mx mok MN _ (HT.out.below (bstep B hHeld.2.2.2.2))).mono ?_
  rintro e v3 ⟨rfl, hb3⟩
  have HBx := Lib.hid (bstep hHeld.2.2.2.2 hb3)
  clear hHeld hb3
  refine hK.out _ _ ?_ (fun hHeld => ?_)
  · exact (have hk := HBx.out; ⟨(PD.out.below hk).1.1, (PD.out.below hk).1.2.1, (PD.out.below hk).1.2.2.1, (PD.out.below hk).1.2.2.2, hk⟩)
  clear hK K HBx
  try simp only [Act.put, List.setIfInBounds_toArray, List.set_cons_zero, List.set_cons_succ]
  refine wpAnyH_take (i := 7) (oi := { dst := some 30, op := Go.Op.move (Go.Operand.tmp 37), type := 23, pos := "law.go:63", after := #[{ on := 6, ground := Go.Ground.data }], guard := none }) (v := ?_) rfl (by kernel_rfl) (by kernel_rfl) (by kernel_rfl) (fun _ _ _ h => h) (Or.inl ⟨by rfl, ?_⟩) (by assumption) ?_
  rotate_left
  · intro w hSw
    try dsimp only at hSw
    go_simp
    try with_reducible rfl
  try simp only [Act.put, List.setIfInBounds_toArray, List.set_cons_zero, List.set_cons_succ]
  refine wpAnyH_take (i := 8) (oi := { dst := some 38, op := Go.Op.extract (Go.Operand.tmp 30) 0, type := 3, pos := "law.go:63", after := #[{ on := 7, ground := Go.Ground.data }], guard := none }) (v := ?_) rfl (by kernel_rfl) (by kernel_rfl) (by kernel_rfl) (fun _ _ _ h => h) (Or.inl ⟨by rfl, ?_⟩) (by assumption) ?_
  rotate_left
  · intro w hSw
    try dsimp only at hSw
    go_simp
    try with_reducible rfl
  try simp only [Act.put, List.setIfInBounds_toArray, List.set_cons_zero, List.set_cons_succ]
  refine wpAnyH_take (i := 9) (oi := { dst := some 39, op := Go.Op.extract (Go.Operand.tmp 30) 1, type := 4, pos := "law.go:63", after := #[{ on := 7, ground := Go.Ground.data }, { on := 10, ground := Go.Ground.gcOnly Go.Departure.lateStores }], guard := none }) (v := ?_) rfl (by kernel_rfl) (by kernel_rfl) (by kernel_rfl) (fun _ _ _ h => h) (Or.inl ⟨by rfl, ?_⟩) (by assumption) ?_
  rotate_left
  · intro w hSw
    try dsimp only at hSw
    go_simp
    try with_reducible rfl
  try simp only [Act.put, List.setIfInBounds_toArray, List.set_cons_zero, List.set_cons_succ]
  refine wpAnyH_take (i := 10) (oi := { dst := some 10, op := Go.Op.assign (Go.Operand.tmp 38), type := 3, pos := "law.go:63", after := #[{ on := 8, ground := Go.Ground.data }, { on := 6, ground := Go.Ground.chain }, { on := 0, ground := Go.Ground.phase }, { on := 1, ground := Go.Ground.phase }, { on := 2, ground := Go.Ground.phase }, { on := 3, ground := Go.Ground.phase }, { on := 4, ground := Go.Ground.phase }, { on := 5, ground := Go.Ground.phase }, { on := 6, ground := Go.Ground.phase }, { on := 7, ground := Go.Ground.phase }, { on := 8, ground := Go.Ground.phase }, { on := 9, ground := Go.Ground.textOnly Go.Departure.lateStores }], guard := none }) (v := ?_) rfl (by kernel_rfl) (by kernel_rfl) (by kernel_rfl) (fun _ _ _ h => h) (Or.inl ⟨by rfl, ?_⟩) (by assumption) ?_
  rotate_left
  · intro w hSw
    try dsimp only at hSw
    go_simp
    try with_reducible rfl
  try simp only [Act.put, List.setIfInBounds_toArray, List.set_cons_zero, List.set_cons_succ]
  refine wpAnyH_take (i := 11) (oi := { dst := some 11, op := Go.Op.assign (Go.Operand.tmp 39), type := 4, pos := "law.go:63", after := #[{ on := 9, ground := Go.Ground.data }, { on := 10, ground := Go.Ground.chain }, { on := 0, ground := Go.Ground.phase }, { on := 1, ground := Go.Ground.phase }, { on := 2, ground := Go.Ground.phase }, { on := 3, ground := Go.Ground.phase }, { on := 4, ground := Go.Ground.phase }, { on := 5, ground := Go.Ground.phase }, { on := 6, ground := Go.Ground.phase }, { on := 7, ground := Go.Ground.phase }, { on := 8, ground := Go.Ground.phase }, { on := 9, ground := Go.Ground.phase }, { on := 10, ground := Go.Ground.phase }], guard := none }) (v := ?_) rfl (by kernel_rfl) (by kernel_rfl) (by kernel_rfl) (fun _ _ _ h => h) (Or.inl ⟨by rfl, ?_⟩) (by assumption) ?_
  rotate_left
  · intro w hSw
    try dsimp only at hSw
    go_simp
    try with_reducible rfl
  try simp only [Act.put, List.setIfInBounds_toArray, List.set_cons_zero, List.set_cons_succ]
  refine wpAnyH_done (by kernel_rfl) ?_ _
  replace B := bstep B hHeld.2.2.2.2
  replace PD := Lib.hid (PD.out.below hHeld.2.2.2.2)
  clear hHeld
  go_upto_region 7 with fail
  refine wp_region_held_drew (S := fun w' => w'.cell? ⟨gPD, 0, none⟩ = some (.bool dn) ∧ w'.cell? ⟨gPD, 1, none⟩ = some (.int .u64 (dh : Int)) ∧ w'.cell? ⟨gPD, 2, none⟩ = some (.int .u64 (dl : Int)) ∧ w'.cell? ⟨gPD, 3, none⟩ = some (.int .i64 dx) ∧ Below v3.heap.size v3 w') (by kernel_rfl) ?_ (fun hHeld => ?_)
  · exact (have hk := (Below.refl _ _).drew; ⟨(PD.out.below hk).1.1, (PD.out.below hk).1.2.1, (PD.out.below hk).1.2.2.1, (PD.out.below hk).1.2.2.2, hk⟩)
  refine wpAnyH_take (i := 0) (oi := { dst := some 41, op := Go.Op.move (Go.Operand.tmp 0), type := 3, pos := "law.go:64", after := #[], guard := none }) (v := ?_) rfl (by kernel_rfl) (by kernel_rfl) (by kernel_rfl) (fun _ _ _ h => h) (Or.inl ⟨by rfl, ?_⟩) (by assumption) ?_
  rotate_left
  · intro w hSw
    try dsimp only at hSw
    go_simp
    try with_reducible rfl
  try simp only [Act.put, List.setIfInBounds_toArray, List.set_cons_zero, List.set_cons_succ]
  refine wpAnyH_take (i := 2) (oi := { dst := some 43, op := Go.Op.load 34 (Go.Operand.tmp 5), type := 34, pos := "law.go:64", after := #[], guard := none }) (v := ?_) rfl (by kernel_rfl) (by kernel_rfl) (by kernel_rfl) (fun _ _ _ h => h) (Or.inl ⟨by rfl, ?_⟩) (by assumption) ?_
  rotate_left
  · intro w hSw
    try dsimp only at hSw
    go_simp
    try with_reducible rfl
  try simp only [Act.put, List.setIfInBounds_toArray, List.set_cons_zero, List.set_cons_succ]
  refine wpAnyH_ready (rs := [1]) (by kernel_rfl) (by simp) ?_
  refine AllReadyH.cons (o := { dst := some 42, op := Go.Op.call { callee := Go.Callee.value (Go.Operand.func 18), args := #[Go.Operand.tmp 41], argTypes := #[3] }, type := 34, pos := "law.go:64", after := #[{ on := 0, ground := Go.Ground.data }], guard := none }) rfl (fun K hK => ?_) AllReadyH.nil
  go_simp
  refine (IN.out _).mono ?_
  rintro e v4 ⟨rfl, hb4⟩
  have HBx := Lib.hid (bstep hHeld.2.2.2.2 hb4)
  clear hHeld hb4
  refine hK.out _ _ ?_ (fun hHeld => ?_)
  · exact (have hk := HBx.out; ⟨(PD.out.below hk).1.1, (PD.out.below hk).1.2.1, (PD.out.below hk).1.2.2.1, (PD.out.below hk).1.2.2.2, hk⟩)
  clear hK K HBx
  try simp only [Act.put, List.setIfInBounds_toArray, List.set_cons_zero, List.set_cons_succ]
  refine wpAnyH_ready (rs := [3]) (by kernel_rfl) (by simp) ?_
  refine AllReadyH.cons (o := { dst := some 44, op := Go.Op.call { callee := Go.Callee.value (Go.Operand.func 19), args := #[Go.Operand.tmp 42, Go.Operand.tmp 43], argTypes := #[34, 34] }, type := 38, pos := "law.go:64", after := #[{ on := 1, ground := Go.Ground.data }, { on := 2, ground := Go.Ground.data }, { on := 1, ground := Go.Ground.chain }], guard := none }) rfl (fun K hK => ?_) AllReadyH.nil
  go_simp
  refine (DV.out _ (HT.out.below (bstep B hHeld.2.2.2.2))).mono ?_
  rintro e v5 ⟨dq, DQ, kn, kh, kl, kx, kok, KN, rfl, hb5⟩
  have HBx := Lib.hid (bstep hHeld.2.2.2.2 hb5)
  clear hHeld hb5
  refine hK.out _ _ ?_ (fun hHeld => ?_)
  · exact (have hk := HBx.out; ⟨(PD.out.below hk).1.1, (PD.out.below hk).1.2.1, (PD.out.below hk).1.2.2.1, (PD.out.below hk).1.2.2.2, hk⟩)
  clear hK K HBx
  try simp only [Act.put, List.setIfInBounds_toArray, List.set_cons_zero, List.set_cons_succ]
  refine wpAnyH_take (i := 4) (oi := { dst := some 45, op := Go.Op.extract (Go.Operand.tmp 44) 0, type := 34, pos := "law.go:64", after := #[{ on := 3, ground := Go.Ground.data }], guard := none }) (v := ?_) rfl (by kernel_rfl) (by kernel_rfl) (by kernel_rfl) (fun _ _ _ h => h) (Or.inl ⟨by rfl, ?_⟩) (by assumption) ?_
  rotate_left
  · intro w hSw
    try dsimp only at hSw
    go_simp
    try with_reducible rfl
  try simp only [Act.put, List.setIfInBounds_toArray, List.set_cons_zero, List.set_cons_succ]
  refine wpAnyH_take (i := 5) (oi := { dst := some 46, op := Go.Op.extract (Go.Operand.tmp 44) 1, type := 4, pos := "law.go:64", after := #[{ on := 3, ground := Go.Ground.data }], guard := none }) (v := ?_) rfl (by kernel_rfl) (by kernel_rfl) (by kernel_rfl) (fun _ _ _ h => h) (Or.inl ⟨by rfl, ?_⟩) (by assumption) ?_
  rotate_left
  · intro w hSw
    try dsimp only at hSw
    go_simp
    try with_reducible rfl
  try simp only [Act.put, List.setIfInBounds_toArray, List.set_cons_zero, List.set_cons_succ]
  refine wpAnyH_ready (rs := [6]) (by kernel_rfl) (by simp) ?_
  refine AllReadyH.cons (o := { dst := some 47, op := Go.Op.call { callee := Go.Callee.value (Go.Operand.func 16), args := #[Go.Operand.tmp 45, Go.Operand.tmp 46], argTypes := #[34, 4] }, type := 23, pos := "law.go:64", after := #[{ on := 4, ground := Go.Ground.data }, { on := 5, ground := Go.Ground.data }, { on := 3, ground := Go.Ground.chain }], guard := none }) rfl (fun K hK => ?_) AllReadyH.nil
  go_simp
  refine (LD.out dq DQ kn kh kl kx kok KN _ (HT.out.below (bstep B hHeld.2.2.2.2))).mono ?_
  rintro e v6 ⟨rfl, hb6⟩
  have HBx := Lib.hid (bstep hHeld.2.2.2.2 hb6)
  clear hHeld hb6
  refine hK.out _ _ ?_ (fun hHeld => ?_)
  · exact (have hk := HBx.out; ⟨(PD.out.below hk).1.1, (PD.out.below hk).1.2.1, (PD.out.below hk).1.2.2.1, (PD.out.below hk).1.2.2.2, hk⟩)
  clear hK K HBx
  try simp only [Act.put, List.setIfInBounds_toArray, List.set_cons_zero, List.set_cons_succ]
  refine wpAnyH_take (i := 7) (oi := { dst := some 40, op := Go.Op.move (Go.Operand.tmp 47), type := 23, pos := "law.go:64", after := #[{ on := 6, ground := Go.Ground.data }], guard := none }) (v := ?_) rfl (by kernel_rfl) (by kernel_rfl) (by kernel_rfl) (fun _ _ _ h => h) (Or.inl ⟨by rfl, ?_⟩) (by assumption) ?_
  rotate_left
  · intro w hSw
    try dsimp only at hSw
    go_simp
    try with_reducible rfl
  try simp only [Act.put, List.setIfInBounds_toArray, List.set_cons_zero, List.set_cons_succ]
  refine wpAnyH_take (i := 8) (oi := { dst := some 48, op := Go.Op.extract (Go.Operand.tmp 40) 0, type := 3, pos := "law.go:64", after := #[{ on := 7, ground := Go.Ground.data }], guard := none }) (v := ?_) rfl (by kernel_rfl) (by kernel_rfl) (by kernel_rfl) (fun _ _ _ h => h) (Or.inl ⟨by rfl, ?_⟩) (by assumption) ?_
  rotate_left
  · intro w hSw
    try dsimp only at hSw
    go_simp
    try with_reducible rfl
  try simp only [Act.put, List.setIfInBounds_toArray, List.set_cons_zero, List.set_cons_succ]
  refine wpAnyH_take (i := 9) (oi := { dst := some 49, op := Go.Op.extract (Go.Operand.tmp 40) 1, type := 4, pos := "law.go:64", after := #[{ on := 7, ground := Go.Ground.data }, { on := 10, ground := Go.Ground.gcOnly Go.Departure.lateStores }], guard := none }) (v := ?_) rfl (by kernel_rfl) (by kernel_rfl) (by kernel_rfl) (fun _ _ _ h => h) (Or.inl ⟨by rfl, ?_⟩) (by assumption) ?_
  rotate_left
  · intro w hSw
    try dsimp only at hSw
    go_simp
    try with_reducible rfl
  try simp only [Act.put, List.setIfInBounds_toArray, List.set_cons_zero, List.set_cons_succ]
  refine wpAnyH_take (i := 10) (oi := { dst := some 12, op := Go.Op.assign (Go.Operand.tmp 48), type := 3, pos := "law.go:64", after := #[{ on := 8, ground := Go.Ground.data }, { on := 6, ground := Go.Ground.chain }, { on := 0, ground := Go.Ground.phase }, { on := 1, ground := Go.Ground.phase }, { on := 2, ground := Go.Ground.phase }, { on := 3, ground := Go.Ground.phase }, { on := 4, ground := Go.Ground.phase }, { on := 5, ground := Go.Ground.phase }, { on := 6, ground := Go.Ground.phase }, { on := 7, ground := Go.Ground.phase }, { on := 8, ground := Go.Ground.phase }, { on := 9, ground := Go.Ground.textOnly Go.Departure.lateStores }], guard := none }) (v := ?_) rfl (by kernel_rfl) (by kernel_rfl) (by kernel_rfl) (fun _ _ _ h => h) (Or.inl ⟨by rfl, ?_⟩) (by assumption) ?_
  rotate_left
  · intro w hSw
    try dsimp only at hSw
    go_simp
    try with_reducible rfl
  try simp only [Act.put, List.setIfInBounds_toArray, List.set_cons_zero, List.set_cons_succ]
  refine wpAnyH_take (i := 11) (oi := { dst := some 13, op := Go.Op.assign (Go.Operand.tmp 49), type := 4, pos := "law.go:64", after := #[{ on := 9, ground := Go.Ground.data }, { on := 10, ground := Go.Ground.chain }, { on := 0, ground := Go.Ground.phase }, { on := 1, ground := Go.Ground.phase }, { on := 2, ground := Go.Ground.phase }, { on := 3, ground := Go.Ground.phase }, { on := 4, ground := Go.Ground.phase }, { on := 5, ground := Go.Ground.phase }, { on := 6, ground := Go.Ground.phase }, { on := 7, ground := Go.Ground.phase }, { on := 8, ground := Go.Ground.phase }, { on := 9, ground := Go.Ground.phase }, { on := 10, ground := Go.Ground.phase }], guard := none }) (v := ?_) rfl (by kernel_rfl) (by kernel_rfl) (by kernel_rfl) (fun _ _ _ h => h) (Or.inl ⟨by rfl, ?_⟩) (by assumption) ?_
  rotate_left
  · intro w hSw
    try dsimp only at hSw
    go_simp
    try with_reducible rfl
  try simp only [Act.put, List.setIfInBounds_toArray, List.set_cons_zero, List.set_cons_succ]
  refine wpAnyH_done (by kernel_rfl) ?_ _
  replace B := bstep B hHeld.2.2.2.2
  replace PD := Lib.hid (PD.out.below hHeld.2.2.2.2)
  clear hHeld
  obtain rfl : dq = oq := DT.out _ _ DQ OQ
  clear PD
  go_wp2_with fail
  refine (LY.out _).mono ?_
  rintro e v7 ⟨rfl, hb⟩
  replace B := bstep B hb
  clear hb LY
  go_wp2
  go_ret
  exact ⟨rfl, B⟩
theorem spanTimes_walk (AW : AwS) (n : Int) (xn : Bool) (xh xl : Nat) (xe : Int) (n1 : -9223372036854775808 ≤ n) (n2 : n ≤ 9223372036854775807) (kx : WW xh xl) (x1 : -9223372036854775808 ≤ xe) (x2 : xe ≤ 9223372036854775807) (w : World) (ht : Tab w) : Calls Tryd.prog 4 #[.int .i64 n, .agg #[.bool xn, .int .u64 (xh : Int), .int .u64 (xl : Int), .int .i64 xe]] w (Ret (.bool true) w) := by
  cases h : spB n
  · exact spanTimes_no AW n ⟨n1, n2⟩ h xn xh xl xe kx x1 x2 w ht
  · exact spanTimes_yes AW n ⟨n1, n2⟩ h xn xh xl xe kx x1 x2 w ht
end Go.Proofs.YtkkddflclakphaaDoor

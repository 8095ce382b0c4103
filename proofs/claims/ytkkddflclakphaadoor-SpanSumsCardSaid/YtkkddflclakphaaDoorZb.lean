/-
  Days as moments: midnight, DateLater, DatesBetween, MonthsBetween of package span, each as a contract of its call.
-/
import Derived.Test.YtkkddflclakphaaDoorMe
namespace Go.Proofs.YtkkddflclakphaaDoor
open Go.RowKit

set_option maxRecDepth 100000 in
set_option maxHeartbeats 8000000 in
theorem midnight_any (y m d : Int) (w : World) : Calls Tryd.prog 44 #[Dt y m d] w (Ret (Mo y m d 0 false 0) w) := by
  go_enter Tryd.func44, Tryd.ntmps44
  go_upto_region 1 with fail
  have PD := Lib.hid (HoldsT.alloc (HoldsT.new rfl) _ : HoldsT ((w.alloc (DtC y m d)).alloc (MoC 0 0 0 0 false 0)) w.heap.size y m d)
  have PM := Lib.hid (HoldsN.new (by simp) : HoldsN ((w.alloc (DtC y m d)).alloc (MoC 0 0 0 0 false 0)) (w.heap.size + 1) 0 0 0 0 false 0)
  have B := ballD1 (ballD1 (Below.refl w.heap.size w) (DtC y m d)) (MoC 0 0 0 0 false 0)
  change Code.wp _ _ _ _ ((w.alloc (DtC y m d)).alloc (MoC 0 0 0 0 false 0))
  generalize ((w.alloc (DtC y m d)).alloc (MoC 0 0 0 0 false 0)) = w0 at *
  obtain ⟨⟨c0_0, c0_1, c0_2⟩, -, c0z⟩ := PD.out
  obtain ⟨⟨c1_0, c1_1, c1_2, c1_3, c1_4, c1_5⟩, ⟨c1f0, c1f1, c1f2, c1f3, c1f4, c1f5⟩, c1z⟩ := PM.out
  go_wp2
  refine ret_via (v := (Mo y m d 0 false 0)) (fun V => HoldsN V (w.heap.size + 1) y m d 0 false 0) (fun VF hq => ?_) PM.out.put rfl ⟨rfl, B6 B (by omega) _ _ _ _ _ _⟩
  obtain ⟨⟨d0, d1, d2, d3, d4, d5⟩, -, -⟩ := hq
  simp [results, Tryd.results44, go_sem, d0, d1, d2, d3, d4, d5]
set_option maxRecDepth 100000 in
set_option maxHeartbeats 8000000 in
theorem dateLater_of (y m d n Y M D S : Int) (Z : Bool) (O : Int) (ok : Bool) (LA0 : ∀ w : World, Calls Tryd.prog 23 #[Mo y m d 0 false 0, .int .i64 n] w (Ret (.tuple #[Mo Y M D S Z O, .bool ok]) w)) (w : World) : Calls Tryd.prog 22 #[Dt y m d, .int .i64 n] w (Ret (.tuple #[Dt Y M D, .bool ok]) w) := by
  have MI := Lib.hid (midnight_any y m d)
  have LA := Lib.hid LA0
  clear LA0
  go_enter Tryd.func22, Tryd.ntmps22
  go_upto_region 1 with fail
  have PD := Lib.hid (HoldsT.alloc (HoldsT.new rfl) _ : HoldsT ((w.alloc (DtC y m d)).alloc (DtC 0 0 0)) w.heap.size y m d)
  have PR := Lib.hid (HoldsT.new (by simp) : HoldsT ((w.alloc (DtC y m d)).alloc (DtC 0 0 0)) (w.heap.size + 1) 0 0 0)
  have B := ballD1 (ballD1 (Below.refl w.heap.size w) (DtC y m d)) (DtC 0 0 0)
  change Code.wp _ _ _ _ ((w.alloc (DtC y m d)).alloc (DtC 0 0 0))
  generalize ((w.alloc (DtC y m d)).alloc (DtC 0 0 0)) = w0 at *
  obtain ⟨⟨c0_0, c0_1, c0_2⟩, -, c0z⟩ := PD.out
  obtain ⟨⟨c1_0, c1_1, c1_2⟩, -, c1z⟩ := PR.out
  go_wp2_with fail
  refine (MI.out _).mono ?_
  rintro e w1 ⟨rfl, hb⟩
  replace PD := Lib.hid (PD.out.below hb)
  replace PR := Lib.hid (PR.out.below hb)
  replace B := bstep B hb
  clear hb MI
  clear c0_0 c0_1 c0_2 c0z c1_0 c1_1 c1_2 c1z
  obtain ⟨⟨c0_0, c0_1, c0_2⟩, -, c0z⟩ := PD.out
  obtain ⟨⟨c1_0, c1_1, c1_2⟩, -, c1z⟩ := PR.out
  go_wp2_with fail
  refine (LA.out _).mono ?_
  rintro e w2 ⟨rfl, hb⟩
  replace PD := Lib.hid (PD.out.below hb)
  replace PR := Lib.hid (PR.out.below hb)
  replace B := bstep B hb
  clear hb LA
  clear c0_0 c0_1 c0_2 c0z c1_0 c1_1 c1_2 c1z
  replace PD := Lib.hid (PD.out.alloc (MoC Y M D S Z O))
  replace PR := Lib.hid (PR.out.alloc (MoC Y M D S Z O))
  have PN := Lib.hid (HoldsN.new rfl : HoldsN (w2.alloc (MoC Y M D S Z O)) w2.heap.size Y M D S Z O)
  replace B := ballD1 B (MoC Y M D S Z O)
  go_upto_region 2 with fail
  change Code.wp _ _ _ _ (w2.alloc (MoC Y M D S Z O))
  generalize w2.alloc (MoC Y M D S Z O) = w3 at *
  obtain ⟨gPN, hg⟩ : ∃ g, g = w2.heap.size := ⟨_, rfl⟩
  rw [← hg] at PN ⊢
  clear hg
  obtain ⟨⟨c0_0, c0_1, c0_2⟩, -, c0z⟩ := PD.out
  obtain ⟨⟨c1_0, c1_1, c1_2⟩, ⟨c1f0, c1f1, c1f2⟩, c1z⟩ := PR.out
  obtain ⟨⟨c2_0, c2_1, c2_2, c2_3, c2_4, c2_5⟩, -, c2z⟩ := PN.out
  go_wp2
  refine ret_via (v := (.tuple #[Dt Y M D, .bool ok])) (fun V => HoldsT V (w.heap.size + 1) Y M D) (fun VF hq => ?_) PR.out.put rfl ⟨rfl, B3 B (by omega) _ _ _⟩
  obtain ⟨⟨d0, d1, d2⟩, -, -⟩ := hq
  simp [results, Tryd.results22, go_sem, d0, d1, d2]
set_option linter.unusedSimpArgs false in
set_option linter.unusedVariables false in
set_option maxRecDepth 100000 in
set_option maxHeartbeats 8000000 in
theorem datesBetween_of (y m d y' m' d' k : Int) (c : Bool) (BT0 : ∀ w : World, Calls Tryd.prog 50 #[Mo y m d 0 false 0, Mo y' m' d' 0 false 0] w (Ret (.tuple #[.int .i64 k, .bool c]) w)) (w : World) : Calls Tryd.prog 25 #[Dt y m d, Dt y' m' d'] w (Ret (.tuple #[.int .i64 k, .bool c]) w) := by
  have MA := Lib.hid (midnight_any y m d)
  have MB := Lib.hid (midnight_any y' m' d')
  have BT := Lib.hid BT0
  clear BT0
  go_enter Tryd.func25, Tryd.ntmps25
  go_upto_region 1 with fail
  have PA := Lib.hid (HoldsT.alloc (HoldsT.new rfl) _ : HoldsT ((w.alloc (DtC y m d)).alloc (DtC y' m' d')) w.heap.size y m d)
  have PB := Lib.hid (HoldsT.new (by simp) : HoldsT ((w.alloc (DtC y m d)).alloc (DtC y' m' d')) (w.heap.size + 1) y' m' d')
  have B := ballD1 (ballD1 (Below.refl w.heap.size w) (DtC y m d)) (DtC y' m' d')
  change Code.wp _ _ _ _ ((w.alloc (DtC y m d)).alloc (DtC y' m' d'))
  generalize ((w.alloc (DtC y m d)).alloc (DtC y' m' d')) = w0 at *
  go_upto_region 1 with fail
  generalize w0 = V at *
  refine wp_region_held_drew (S := fun w' => w'.cell? ⟨w.heap.size, 0, none⟩ = some (.int .i64 y) ∧ w'.cell? ⟨w.heap.size, 1, none⟩ = some (.int .i64 m) ∧ w'.cell? ⟨w.heap.size, 2, none⟩ = some (.int .i64 d) ∧ w'.cell? ⟨(w.heap.size + 1), 0, none⟩ = some (.int .i64 y') ∧ w'.cell? ⟨(w.heap.size + 1), 1, none⟩ = some (.int .i64 m') ∧ w'.cell? ⟨(w.heap.size + 1), 2, none⟩ = some (.int .i64 d') ∧ Below V.heap.size V w') (by kernel_rfl) ?_ (fun hHeld => ?_)
  · exact (have hk := (Below.refl _ _).drew; ⟨(PA.out.below hk).1.1, (PA.out.below hk).1.2.1, (PA.out.below hk).1.2.2, (PB.out.below hk).1.1, (PB.out.below hk).1.2.1, (PB.out.below hk).1.2.2, hk⟩)
  refine wpAnyH_take (i := 0) (oi := { dst := some 6, op := Go.Op.load 47 (Go.Operand.tmp 2), type := 47, pos := "dates.go:19", after := #[], guard := none }) (v := ?_) rfl (by kernel_rfl) (by kernel_rfl) (by kernel_rfl) (fun _ _ _ h => h) (Or.inl ⟨by rfl, ?_⟩) (by assumption) ?_
  rotate_left
  · intro w hSw
    try dsimp only at hSw
    go_simp
    try with_reducible rfl
  try simp only [Act.put, List.setIfInBounds_toArray, List.set_cons_zero, List.set_cons_succ]
  refine wpAnyH_take (i := 2) (oi := { dst := some 8, op := Go.Op.load 47 (Go.Operand.tmp 3), type := 47, pos := "dates.go:19", after := #[], guard := none }) (v := ?_) rfl (by kernel_rfl) (by kernel_rfl) (by kernel_rfl) (fun _ _ _ h => h) (Or.inl ⟨by rfl, ?_⟩) (by assumption) ?_
  rotate_left
  · intro w hSw
    try dsimp only at hSw
    go_simp
    try with_reducible rfl
  try simp only [Act.put, List.setIfInBounds_toArray, List.set_cons_zero, List.set_cons_succ]
  refine wpAnyH_ready (rs := [1]) (by kernel_rfl) (by simp) ?_
  refine AllReadyH.cons (o := { dst := some 7, op := Go.Op.call { callee := Go.Callee.value (Go.Operand.func 44), args := #[Go.Operand.tmp 6], argTypes := #[47] }, type := 54, pos := "dates.go:19", after := #[{ on := 0, ground := Go.Ground.data }], guard := none }) rfl (fun K hK => ?_) AllReadyH.nil
  go_simp
  refine (MA.out _).mono ?_
  rintro e v1 ⟨rfl, hb1⟩
  have HBx := Lib.hid (bstep hHeld.2.2.2.2.2.2 hb1)
  clear hHeld hb1
  refine hK.out _ _ ?_ (fun hHeld => ?_)
  · exact (have hk := HBx.out; ⟨(PA.out.below hk).1.1, (PA.out.below hk).1.2.1, (PA.out.below hk).1.2.2, (PB.out.below hk).1.1, (PB.out.below hk).1.2.1, (PB.out.below hk).1.2.2, hk⟩)
  clear hK K HBx
  try simp only [Act.put, List.setIfInBounds_toArray, List.set_cons_zero, List.set_cons_succ]
  refine wpAnyH_ready (rs := [3]) (by kernel_rfl) (by simp) ?_
  refine AllReadyH.cons (o := { dst := some 9, op := Go.Op.call { callee := Go.Callee.value (Go.Operand.func 44), args := #[Go.Operand.tmp 8], argTypes := #[47] }, type := 54, pos := "dates.go:19", after := #[{ on := 2, ground := Go.Ground.data }, { on := 1, ground := Go.Ground.chain }], guard := none }) rfl (fun K hK => ?_) AllReadyH.nil
  go_simp
  refine (MB.out _).mono ?_
  rintro e v2 ⟨rfl, hb2⟩
  have HBx := Lib.hid (bstep hHeld.2.2.2.2.2.2 hb2)
  clear hHeld hb2
  refine hK.out _ _ ?_ (fun hHeld => ?_)
  · exact (have hk := HBx.out; ⟨(PA.out.below hk).1.1, (PA.out.below hk).1.2.1, (PA.out.below hk).1.2.2, (PB.out.below hk).1.1, (PB.out.below hk).1.2.1, (PB.out.below hk).1.2.2, hk⟩)
  clear hK K HBx
  try simp only [Act.put, List.setIfInBounds_toArray, List.set_cons_zero, List.set_cons_succ]
  refine wpAnyH_ready (rs := [4]) (by kernel_rfl) (by simp) ?_
  refine AllReadyH.cons (o := { dst := some 10, op := Go.Op.call { callee := Go.Callee.value (Go.Operand.func 50), args := #[Go.Operand.tmp 7, Go.Operand.tmp 9], argTypes := #[54, 54] }, type := 23, pos := "dates.go:19", after := #[{ on := 1, ground := Go.Ground.data }, { on := 3, ground := Go.Ground.data }, { on := 3, ground := Go.Ground.chain }], guard := none }) rfl (fun K hK => ?_) AllReadyH.nil
  go_simp
  refine (BT.out _).mono ?_
  rintro e v3 ⟨rfl, hb3⟩
  have HBx := Lib.hid (bstep hHeld.2.2.2.2.2.2 hb3)
  clear hHeld hb3
  refine hK.out _ _ ?_ (fun hHeld => ?_)
  · exact (have hk := HBx.out; ⟨(PA.out.below hk).1.1, (PA.out.below hk).1.2.1, (PA.out.below hk).1.2.2, (PB.out.below hk).1.1, (PB.out.below hk).1.2.1, (PB.out.below hk).1.2.2, hk⟩)
  clear hK K HBx
  try simp only [Act.put, List.setIfInBounds_toArray, List.set_cons_zero, List.set_cons_succ]
  refine wpAnyH_take (i := 5) (oi := { dst := some 11, op := Go.Op.extract (Go.Operand.tmp 10) 0, type := 3, pos := "dates.go:19", after := #[{ on := 4, ground := Go.Ground.data }], guard := none }) (v := ?_) rfl (by kernel_rfl) (by kernel_rfl) (by kernel_rfl) (fun _ _ _ h => h) (Or.inl ⟨by rfl, ?_⟩) (by assumption) ?_
  rotate_left
  · intro w hSw
    try dsimp only at hSw
    go_simp
    try with_reducible rfl
  try simp only [Act.put, List.setIfInBounds_toArray, List.set_cons_zero, List.set_cons_succ]
  refine wpAnyH_take (i := 6) (oi := { dst := some 12, op := Go.Op.extract (Go.Operand.tmp 10) 1, type := 4, pos := "dates.go:19", after := #[{ on := 4, ground := Go.Ground.data }], guard := none }) (v := ?_) rfl (by kernel_rfl) (by kernel_rfl) (by kernel_rfl) (fun _ _ _ h => h) (Or.inl ⟨by rfl, ?_⟩) (by assumption) ?_
  rotate_left
  · intro w hSw
    try dsimp only at hSw
    go_simp
    try with_reducible rfl
  try simp only [Act.put, List.setIfInBounds_toArray, List.set_cons_zero, List.set_cons_succ]
  refine wpAnyH_take (i := 7) (oi := { dst := some 4, op := Go.Op.assign (Go.Operand.tmp 11), type := 3, pos := "dates.go:19", after := #[{ on := 5, ground := Go.Ground.data }, { on := 4, ground := Go.Ground.chain }, { on := 0, ground := Go.Ground.phase }, { on := 1, ground := Go.Ground.phase }, { on := 2, ground := Go.Ground.phase }, { on := 3, ground := Go.Ground.phase }, { on := 4, ground := Go.Ground.phase }, { on := 5, ground := Go.Ground.phase }, { on := 6, ground := Go.Ground.phase }], guard := none }) (v := ?_) rfl (by kernel_rfl) (by kernel_rfl) (by kernel_rfl) (fun _ _ _ h => h) (Or.inl ⟨by rfl, ?_⟩) (by assumption) ?_
  rotate_left
  · intro w hSw
    try dsimp only at hSw
    go_simp
    try with_reducible rfl
  try simp only [Act.put, List.setIfInBounds_toArray, List.set_cons_zero, List.set_cons_succ]
  refine wpAnyH_take (i := 8) (oi := { dst := some 5, op := Go.Op.assign (Go.Operand.tmp 12), type := 4, pos := "dates.go:19", after := #[{ on := 6, ground := Go.Ground.data }, { on := 7, ground := Go.Ground.chain }, { on := 0, ground := Go.Ground.phase }, { on := 1, ground := Go.Ground.phase }, { on := 2, ground := Go.Ground.phase }, { on := 3, ground := Go.Ground.phase }, { on := 4, ground := Go.Ground.phase }, { on := 5, ground := Go.Ground.phase }, { on := 6, ground := Go.Ground.phase }, { on := 7, ground := Go.Ground.phase }], guard := none }) (v := ?_) rfl (by kernel_rfl) (by kernel_rfl) (by kernel_rfl) (fun _ _ _ h => h) (Or.inl ⟨by rfl, ?_⟩) (by assumption) ?_
  rotate_left
  · intro w hSw
    try dsimp only at hSw
    go_simp
    try with_reducible rfl
  try simp only [Act.put, List.setIfInBounds_toArray, List.set_cons_zero, List.set_cons_succ]
  refine wpAnyH_done (by kernel_rfl) ?_ _
  replace B := bstep B hHeld.2.2.2.2.2.2
  replace PA := Lib.hid (PA.out.below hHeld.2.2.2.2.2.2)
  replace PB := Lib.hid (PB.out.below hHeld.2.2.2.2.2.2)
  clear hHeld
  clear PA PB MA MB BT
  go_wp2
  refine ret_via (v := .tuple #[.int .i64 k, .bool c]) (fun _ => True) (fun VF _ => ?_) trivial rfl ⟨rfl, B⟩
  simp [results, Tryd.results25, go_sem, *]
set_option linter.unusedSimpArgs false in
set_option linter.unusedVariables false in
set_option maxRecDepth 100000 in
set_option maxHeartbeats 8000000 in
theorem monthsBetween_of (y m d y' m' d' k : Int) (c : Bool) (BT0 : ∀ w : World, Calls Tryd.prog 53 #[Mo y m d 0 false 0, Mo y' m' d' 0 false 0] w (Ret (.tuple #[.int .i64 k, .bool c]) w)) (w : World) : Calls Tryd.prog 27 #[Dt y m d, Dt y' m' d'] w (Ret (.tuple #[.int .i64 k, .bool c]) w) := by
  have MA := Lib.hid (midnight_any y m d)
  have MB := Lib.hid (midnight_any y' m' d')
  have BT := Lib.hid BT0
  clear BT0
  go_enter Tryd.func27, Tryd.ntmps27
  go_upto_region 1 with fail
  have PA := Lib.hid (HoldsT.alloc (HoldsT.new rfl) _ : HoldsT ((w.alloc (DtC y m d)).alloc (DtC y' m' d')) w.heap.size y m d)
  have PB := Lib.hid (HoldsT.new (by simp) : HoldsT ((w.alloc (DtC y m d)).alloc (DtC y' m' d')) (w.heap.size + 1) y' m' d')
  have B := ballD1 (ballD1 (Below.refl w.heap.size w) (DtC y m d)) (DtC y' m' d')
  change Code.wp _ _ _ _ ((w.alloc (DtC y m d)).alloc (DtC y' m' d'))
  generalize ((w.alloc (DtC y m d)).alloc (DtC y' m' d')) = w0 at *
  go_upto_region 1 with fail
  generalize w0 = V at *
  refine wp_region_held_drew (S := fun w' => w'.cell? ⟨w.heap.size, 0, none⟩ = some (.int .i64 y) ∧ w'.cell? ⟨w.heap.size, 1, none⟩ = some (.int .i64 m) ∧ w'.cell? ⟨w.heap.size, 2, none⟩ = some (.int .i64 d) ∧ w'.cell? ⟨(w.heap.size + 1), 0, none⟩ = some (.int .i64 y') ∧ w'.cell? ⟨(w.heap.size + 1), 1, none⟩ = some (.int .i64 m') ∧ w'.cell? ⟨(w.heap.size + 1), 2, none⟩ = some (.int .i64 d') ∧ Below V.heap.size V w') (by kernel_rfl) ?_ (fun hHeld => ?_)
  · exact (have hk := (Below.refl _ _).drew; ⟨(PA.out.below hk).1.1, (PA.out.below hk).1.2.1, (PA.out.below hk).1.2.2, (PB.out.below hk).1.1, (PB.out.below hk).1.2.1, (PB.out.below hk).1.2.2, hk⟩)
  refine wpAnyH_take (i := 0) (oi := { dst := some 6, op := Go.Op.load 47 (Go.Operand.tmp 2), type := 47, pos := "dates.go:24", after := #[], guard := none }) (v := ?_) rfl (by kernel_rfl) (by kernel_rfl) (by kernel_rfl) (fun _ _ _ h => h) (Or.inl ⟨by rfl, ?_⟩) (by assumption) ?_
  rotate_left
  · intro w hSw
    try dsimp only at hSw
    go_simp
    try with_reducible rfl
  try simp only [Act.put, List.setIfInBounds_toArray, List.set_cons_zero, List.set_cons_succ]
  refine wpAnyH_take (i := 2) (oi := { dst := some 8, op := Go.Op.load 47 (Go.Operand.tmp 3), type := 47, pos := "dates.go:24", after := #[], guard := none }) (v := ?_) rfl (by kernel_rfl) (by kernel_rfl) (by kernel_rfl) (fun _ _ _ h => h) (Or.inl ⟨by rfl, ?_⟩) (by assumption) ?_
  rotate_left
  · intro w hSw
    try dsimp only at hSw
    go_simp
    try with_reducible rfl
  try simp only [Act.put, List.setIfInBounds_toArray, List.set_cons_zero, List.set_cons_succ]
  refine wpAnyH_ready (rs := [1]) (by kernel_rfl) (by simp) ?_
  refine AllReadyH.cons (o := { dst := some 7, op := Go.Op.call { callee := Go.Callee.value (Go.Operand.func 44), args := #[Go.Operand.tmp 6], argTypes := #[47] }, type := 54, pos := "dates.go:24", after := #[{ on := 0, ground := Go.Ground.data }], guard := none }) rfl (fun K hK => ?_) AllReadyH.nil
  go_simp
  refine (MA.out _).mono ?_
  rintro e v1 ⟨rfl, hb1⟩
  have HBx := Lib.hid (bstep hHeld.2.2.2.2.2.2 hb1)
  clear hHeld hb1
  refine hK.out _ _ ?_ (fun hHeld => ?_)
  · exact (have hk := HBx.out; ⟨(PA.out.below hk).1.1, (PA.out.below hk).1.2.1, (PA.out.below hk).1.2.2, (PB.out.below hk).1.1, (PB.out.below hk).1.2.1, (PB.out.below hk).1.2.2, hk⟩)
  clear hK K HBx
  try simp only [Act.put, List.setIfInBounds_toArray, List.set_cons_zero, List.set_cons_succ]
  refine wpAnyH_ready (rs := [3]) (by kernel_rfl) (by simp) ?_
  refine AllReadyH.cons (o := { dst := some 9, op := Go.Op.call { callee := Go.Callee.value (Go.Operand.func 44), args := #[Go.Operand.tmp 8], argTypes := #[47] }, type := 54, pos := "dates.go:24", after := #[{ on := 2, ground := Go.Ground.data }, { on := 1, ground := Go.Ground.chain }], guard := none }) rfl (fun K hK => ?_) AllReadyH.nil
  go_simp
  refine (MB.out _).mono ?_
  rintro e v2 ⟨rfl, hb2⟩
  have HBx := Lib.hid (bstep hHeld.2.2.2.2.2.2 hb2)
  clear hHeld hb2
  refine hK.out _ _ ?_ (fun hHeld => ?_)
  · exact (have hk := HBx.out; ⟨(PA.out.below hk).1.1, (PA.out.below hk).1.2.1, (PA.out.below hk).1.2.2, (PB.out.below hk).1.1, (PB.out.below hk).1.2.1, (PB.out.below hk).1.2.2, hk⟩)
  clear hK K HBx
  try simp only [Act.put, List.setIfInBounds_toArray, List.set_cons_zero, List.set_cons_succ]
  refine wpAnyH_ready (rs := [4]) (by kernel_rfl) (by simp) ?_
  refine AllReadyH.cons (o := { dst := some 10, op := Go.Op.call { callee := Go.Callee.value (Go.Operand.func 53), args := #[Go.Operand.tmp 7, Go.Operand.tmp 9], argTypes := #[54, 54] }, type := 23, pos := "dates.go:24", after := #[{ on := 1, ground := Go.Ground.data }, { on := 3, ground := Go.Ground.data }, { on := 3, ground := Go.Ground.chain }], guard := none }) rfl (fun K hK => ?_) AllReadyH.nil
  go_simp
  refine (BT.out _).mono ?_
  rintro e v3 ⟨rfl, hb3⟩
  have HBx := Lib.hid (bstep hHeld.2.2.2.2.2.2 hb3)
  clear hHeld hb3
  refine hK.out _ _ ?_ (fun hHeld => ?_)
  · exact (have hk := HBx.out; ⟨(PA.out.below hk).1.1, (PA.out.below hk).1.2.1, (PA.out.below hk).1.2.2, (PB.out.below hk).1.1, (PB.out.below hk).1.2.1, (PB.out.below hk).1.2.2, hk⟩)
  clear hK K HBx
  try simp only [Act.put, List.setIfInBounds_toArray, List.set_cons_zero, List.set_cons_succ]
  refine wpAnyH_take (i := 5) (oi := { dst := some 11, op := Go.Op.extract (Go.Operand.tmp 10) 0, type := 3, pos := "dates.go:24", after := #[{ on := 4, ground := Go.Ground.data }], guard := none }) (v := ?_) rfl (by kernel_rfl) (by kernel_rfl) (by kernel_rfl) (fun _ _ _ h => h) (Or.inl ⟨by rfl, ?_⟩) (by assumption) ?_
  rotate_left
  · intro w hSw
    try dsimp only at hSw
    go_simp
    try with_reducible rfl
  try simp only [Act.put, List.setIfInBounds_toArray, List.set_cons_zero, List.set_cons_succ]
  refine wpAnyH_take (i := 6) (oi := { dst := some 12, op := Go.Op.extract (Go.Operand.tmp 10) 1, type := 4, pos := "dates.go:24", after := #[{ on := 4, ground := Go.Ground.data }], guard := none }) (v := ?_) rfl (by kernel_rfl) (by kernel_rfl) (by kernel_rfl) (fun _ _ _ h => h) (Or.inl ⟨by rfl, ?_⟩) (by assumption) ?_
  rotate_left
  · intro w hSw
    try dsimp only at hSw
    go_simp
    try with_reducible rfl
  try simp only [Act.put, List.setIfInBounds_toArray, List.set_cons_zero, List.set_cons_succ]
  refine wpAnyH_take (i := 7) (oi := { dst := some 4, op := Go.Op.assign (Go.Operand.tmp 11), type := 3, pos := "dates.go:24", after := #[{ on := 5, ground := Go.Ground.data }, { on := 4, ground := Go.Ground.chain }, { on := 0, ground := Go.Ground.phase }, { on := 1, ground := Go.Ground.phase }, { on := 2, ground := Go.Ground.phase }, { on := 3, ground := Go.Ground.phase }, { on := 4, ground := Go.Ground.phase }, { on := 5, ground := Go.Ground.phase }, { on := 6, ground := Go.Ground.phase }], guard := none }) (v := ?_) rfl (by kernel_rfl) (by kernel_rfl) (by kernel_rfl) (fun _ _ _ h => h) (Or.inl ⟨by rfl, ?_⟩) (by assumption) ?_
  rotate_left
  · intro w hSw
    try dsimp only at hSw
    go_simp
    try with_reducible rfl
  try simp only [Act.put, List.setIfInBounds_toArray, List.set_cons_zero, List.set_cons_succ]
  refine wpAnyH_take (i := 8) (oi := { dst := some 5, op := Go.Op.assign (Go.Operand.tmp 12), type := 4, pos := "dates.go:24", after := #[{ on := 6, ground := Go.Ground.data }, { on := 7, ground := Go.Ground.chain }, { on := 0, ground := Go.Ground.phase }, { on := 1, ground := Go.Ground.phase }, { on := 2, ground := Go.Ground.phase }, { on := 3, ground := Go.Ground.phase }, { on := 4, ground := Go.Ground.phase }, { on := 5, ground := Go.Ground.phase }, { on := 6, ground := Go.Ground.phase }, { on := 7, ground := Go.Ground.phase }], guard := none }) (v := ?_) rfl (by kernel_rfl) (by kernel_rfl) (by kernel_rfl) (fun _ _ _ h => h) (Or.inl ⟨by rfl, ?_⟩) (by assumption) ?_
  rotate_left
  · intro w hSw
    try dsimp only at hSw
    go_simp
    try with_reducible rfl
  try simp only [Act.put, List.setIfInBounds_toArray, List.set_cons_zero, List.set_cons_succ]
  refine wpAnyH_done (by kernel_rfl) ?_ _
  replace B := bstep B hHeld.2.2.2.2.2.2
  replace PA := Lib.hid (PA.out.below hHeld.2.2.2.2.2.2)
  replace PB := Lib.hid (PB.out.below hHeld.2.2.2.2.2.2)
  clear hHeld
  clear PA PB MA MB BT
  go_wp2
  refine ret_via (v := .tuple #[.int .i64 k, .bool c]) (fun _ => True) (fun VF _ => ?_) trivial rfl ⟨rfl, B⟩
  simp [results, Tryd.results27, go_sem, *]
end Go.Proofs.YtkkddflclakphaaDoor

/-
  The statement MomentInstants, walked: it answers true.
-/
import Derived.Test.YtelgnfkjldghdaaMe
namespace Go.Proofs.Ytelgnfkjldghdaa
open Go.RowKit

set_option linter.unusedVariables false in
set_option linter.unusedSimpArgs false in
set_option maxRecDepth 100000 in
set_option maxHeartbeats 8000000 in
theorem instants_walk (ry rm rd rs ro : Int) (rz : Bool) (Y M D S O I NU f1v f2v xy xm xd xs : Int) (xz : Bool) (xo xi n ls : Int) (lz : Bool) (lo cy cm cd cs : Int) (cz : Bool) (co : Int) (p q r good lm q1 q2 : Bool)
    (MK0 : ∀ w : World, Calls Try.prog 9 #[Rw ry rm rd rs ro rz] w (Ret (Mo Y M D S rz O) w))
    (IN0 : ∀ w : World, Calls Try.prog 10 #[Mo Y M D S rz O] w (Ret (.tuple #[.int .i64 I, .bool true]) w))
    (NR0 : ∀ w : World, Calls Try.prog 11 #[.int .i64 Y, .int .i64 M, .int .i64 D] w (Ret (.int .i64 NU) w))
    (f1 : wrap64 (86400 * NU) = f1v) (f2 : wrap64 (f1v + S) = f2v) (f3 : wrap64 (f2v - O) = I)
    (g1 : IntKind.i64.wrap (86400 * NU) = f1v) (g2 : IntKind.i64.wrap (f1v + S) = f2v) (g3 : IntKind.i64.wrap (f2v - O) = I)
    (OA0 : ∀ w : World, Calls Try.prog 12 #[.int .i64 I, Tm S rz O] w (Ret (.tuple #[Mo Y M D S rz O, .bool true]) w))
    (IX0 : ∀ w : World, Calls Try.prog 10 #[Mo xy xm xd xs xz xo] w (Ret (.tuple #[.int .i64 xi, .bool r]) w))
    (hi0 : r = false → xi = 0) (r00 : r = (p && q))
    (MX0 : ∀ w : World, Calls Try.prog 13 #[Mo xy xm xd xs xz xo] w (Ret (.bool r) w))
    (MD0 : ∀ w : World, Calls Try.prog 14 #[Dt xy xm xd] w (Ret (.bool p) w))
    (MT0 : ∀ w : World, Calls Try.prog 15 #[Tm xs xz xo] w (Ret (.bool q) w))
    (OC0 : ∀ w : World, Calls Try.prog 12 #[.int .i64 n, Tm ls lz lo] w (Ret (.tuple #[Mo cy cm cd cs cz co, .bool good]) w))
    (ML0 : ∀ w : World, Calls Try.prog 15 #[Tm ls lz lo] w (Ret (.bool lm) w))
    (e1 : decide (n < -18014398509481984) = q1) (e2 : decide (18014398509481984 < n) = q2)
    (hn0 : good = false → cy = 0 ∧ cm = 0 ∧ cd = 0 ∧ cs = 0 ∧ cz = false ∧ co = 0 ∧ (!lm || q1 || q2) = true)
    (hy0 : good = true → cz = lz ∧ co = lo ∧ (∀ w : World, Calls Try.prog 10 #[Mo cy cm cd cs cz co] w (Ret (.tuple #[.int .i64 n, .bool true]) w)) ∧ ∀ w : World, Calls Try.prog 13 #[Mo cy cm cd cs cz co] w (Ret (.bool true) w)) (w : World) : Calls Try.prog 3 #[Rw ry rm rd rs ro rz, Mo xy xm xd xs xz xo, .int .i64 n, Tm ls lz lo] w (Ret (.bool true) w) := by
  have AW := Lib.hid awake8
  have MX2 := Lib.hid MX0
  have MK := Lib.hid MK0
  have IN := Lib.hid IN0
  have NR := Lib.hid NR0
  have OA := Lib.hid OA0
  have IX := Lib.hid IX0
  have MX := Lib.hid MX0
  have MD := Lib.hid MD0
  have MT := Lib.hid MT0
  have OC := Lib.hid OC0
  have ML := Lib.hid ML0
  have hi := Lib.hid hi0
  have hn := Lib.hid hn0
  have hy := Lib.hid hy0
  have r0 := Lib.hid r00
  clear MK0 IN0 NR0 OA0 IX0 MX0 MD0 MT0 OC0 ML0 hi0 hn0 hy0 r00
  go_enter Try.func3, Try.ntmps3
  go_upto_region 1 with fail
  have PR := Lib.hid (HoldsR.alloc (HoldsR.alloc (HoldsR.new rfl) _) _ : HoldsR (((w.alloc (RwC ry rm rd rs ro rz)).alloc (MoC xy xm xd xs xz xo)).alloc (TmC ls lz lo)) w.heap.size ry rm rd rs ro rz)
  have PX := Lib.hid (HoldsN.alloc (HoldsN.new (by simp)) _ : HoldsN (((w.alloc (RwC ry rm rd rs ro rz)).alloc (MoC xy xm xd xs xz xo)).alloc (TmC ls lz lo)) (w.heap.size + 1) xy xm xd xs xz xo)
  have PL := Lib.hid (HoldsM.new (by simp) : HoldsM (((w.alloc (RwC ry rm rd rs ro rz)).alloc (MoC xy xm xd xs xz xo)).alloc (TmC ls lz lo)) (w.heap.size + 1 + 1) ls lz lo)
  have B := ballD1 (ballD1 (ballD1 (Below.refl w.heap.size w) (RwC ry rm rd rs ro rz)) (MoC xy xm xd xs xz xo)) (TmC ls lz lo)
  change Code.wp _ _ _ _ (((w.alloc (RwC ry rm rd rs ro rz)).alloc (MoC xy xm xd xs xz xo)).alloc (TmC ls lz lo))
  generalize (((w.alloc (RwC ry rm rd rs ro rz)).alloc (MoC xy xm xd xs xz xo)).alloc (TmC ls lz lo)) = w0 at *
  obtain ⟨⟨c0_0, c0_1, c0_2, c0_3, c0_4, c0_5⟩, -, c0z⟩ := PR.out
  obtain ⟨⟨c1_0, c1_1, c1_2, c1_3, c1_4, c1_5⟩, -, c1z⟩ := PX.out
  obtain ⟨⟨c2_0, c2_1, c2_2⟩, -, c2z⟩ := PL.out
  go_wp2_with fail
  refine (AW.out _).mono ?_
  rintro e w1 ⟨rfl, hb⟩
  replace PR := Lib.hid (PR.out.below hb)
  replace PX := Lib.hid (PX.out.below hb)
  replace PL := Lib.hid (PL.out.below hb)
  replace B := bstep B hb
  clear hb AW
  clear c0_0 c0_1 c0_2 c0_3 c0_4 c0_5 c0z c1_0 c1_1 c1_2 c1_3 c1_4 c1_5 c1z c2_0 c2_1 c2_2 c2z
  obtain ⟨⟨c0_0, c0_1, c0_2, c0_3, c0_4, c0_5⟩, -, c0z⟩ := PR.out
  obtain ⟨⟨c1_0, c1_1, c1_2, c1_3, c1_4, c1_5⟩, -, c1z⟩ := PX.out
  obtain ⟨⟨c2_0, c2_1, c2_2⟩, -, c2z⟩ := PL.out
  go_wp2_with fail
  refine (MK.out _).mono ?_
  rintro e w2 ⟨rfl, hb⟩
  replace PR := Lib.hid (PR.out.below hb)
  replace PX := Lib.hid (PX.out.below hb)
  replace PL := Lib.hid (PL.out.below hb)
  replace B := bstep B hb
  clear hb MK
  clear c0_0 c0_1 c0_2 c0_3 c0_4 c0_5 c0z c1_0 c1_1 c1_2 c1_3 c1_4 c1_5 c1z c2_0 c2_1 c2_2 c2z
  replace PR := Lib.hid (PR.out.alloc (MoC Y M D S rz O))
  replace PX := Lib.hid (PX.out.alloc (MoC Y M D S rz O))
  replace PL := Lib.hid (PL.out.alloc (MoC Y M D S rz O))
  have PA := Lib.hid (HoldsN.new rfl : HoldsN (w2.alloc (MoC Y M D S rz O)) w2.heap.size Y M D S rz O)
  replace B := ballD1 B (MoC Y M D S rz O)
  go_upto_region 4 with fail
  change Code.wp _ _ _ _ (w2.alloc (MoC Y M D S rz O))
  generalize w2.alloc (MoC Y M D S rz O) = w3 at *
  obtain ⟨gPA, hg⟩ : ∃ g, g = w2.heap.size := ⟨_, rfl⟩
  rw [← hg] at PA ⊢
  clear hg
  clear PR
  obtain ⟨⟨c0_0, c0_1, c0_2, c0_3, c0_4, c0_5⟩, -, c0z⟩ := PX.out
  obtain ⟨⟨c1_0, c1_1, c1_2⟩, -, c1z⟩ := PL.out
  obtain ⟨⟨c2_0, c2_1, c2_2, c2_3, c2_4, c2_5⟩, -, c2z⟩ := PA.out
  go_wp2_with fail
  refine (IN.out _).mono ?_
  rintro e w4 ⟨rfl, hb⟩
  replace PX := Lib.hid (PX.out.below hb)
  replace PL := Lib.hid (PL.out.below hb)
  replace PA := Lib.hid (PA.out.below hb)
  replace B := bstep B hb
  clear hb IN
  clear c0_0 c0_1 c0_2 c0_3 c0_4 c0_5 c0z c1_0 c1_1 c1_2 c1z c2_0 c2_1 c2_2 c2_3 c2_4 c2_5 c2z
  go_upto_region 5 with fail
  generalize w4 = V at *
  refine wp_region_held_drew (S := fun w' => w'.cell? ⟨gPA, 0, none⟩ = some (.int .i64 Y) ∧ w'.cell? ⟨gPA, 1, none⟩ = some (.int .i64 M) ∧ w'.cell? ⟨gPA, 2, none⟩ = some (.int .i64 D) ∧ w'.cell? ⟨gPA, 3, none⟩ = some (.int .i64 S) ∧ w'.cell? ⟨gPA, 4, none⟩ = some (.bool rz) ∧ w'.cell? ⟨gPA, 5, none⟩ = some (.int .i64 O) ∧ Below V.heap.size V w') (by kernel_rfl) ?_ (fun hHeld => ?_)
  · exact keepN PA.out.1 PA.out.2.2 (Below.refl _ _).drew
  refine wpAnyH_take (i := 0) (oi := { dst := some 29, op := Go.Op.move (Go.Operand.tmp 11), type := 4, pos := "law.go:45", after := #[], guard := none }) (v := ?_) rfl (by kernel_rfl) (by kernel_rfl) (by kernel_rfl) (fun _ _ _ h => h) (Or.inl ⟨by rfl, ?_⟩) (by assumption) ?_
  rotate_left
  · intro w hSw
    try dsimp only at hSw
    go_simp
    try with_reducible rfl
  try simp only [Act.put, List.setIfInBounds_toArray, List.set_cons_zero, List.set_cons_succ]
  refine wpAnyH_take (i := 1) (oi := { dst := some 30, op := Go.Op.unOp Go.UnOp.not 4 (Go.Operand.tmp 29), type := 4, pos := "law.go:45", after := #[{ on := 0, ground := Go.Ground.data }], guard := none }) (v := ?_) rfl (by kernel_rfl) (by kernel_rfl) (by kernel_rfl) (fun _ _ _ h => h) (Or.inl ⟨by rfl, ?_⟩) (by assumption) ?_
  rotate_left
  · intro w hSw
    try dsimp only at hSw
    go_simp
    try with_reducible rfl
  try simp only [Act.put, List.setIfInBounds_toArray, List.set_cons_zero, List.set_cons_succ]
  refine wpAnyH_take (i := 2) (oi := { dst := some 31, op := Go.Op.move (Go.Operand.tmp 30), type := 4, pos := "law.go:45", after := #[{ on := 1, ground := Go.Ground.data }], guard := none }) (v := ?_) rfl (by kernel_rfl) (by kernel_rfl) (by kernel_rfl) (fun _ _ _ h => h) (Or.inl ⟨by rfl, ?_⟩) (by assumption) ?_
  rotate_left
  · intro w hSw
    try dsimp only at hSw
    go_simp
    try with_reducible rfl
  try simp only [Act.put, List.setIfInBounds_toArray, List.set_cons_zero, List.set_cons_succ]
  refine wpAnyH_take (i := 3) (oi := { dst := some 32, op := Go.Op.move (Go.Operand.tmp 10), type := 3, pos := "law.go:45", after := #[{ on := 2, ground := Go.Ground.guard }], guard := some (2, false) }) (v := ?_) rfl (by kernel_rfl) (by kernel_rfl) (by kernel_rfl) (fun _ _ _ h => h) (Or.inl ⟨by rfl, ?_⟩) (by assumption) ?_
  rotate_left
  · intro w hSw
    try dsimp only at hSw
    go_simp
    try with_reducible rfl
  try simp only [Act.put, List.setIfInBounds_toArray, List.set_cons_zero, List.set_cons_succ]
  refine wpAnyH_take (i := 4) (oi := { dst := some 33, op := Go.Op.fieldAddr 29 (Go.Operand.tmp 9) 0, type := 0, pos := "law.go:45", after := #[{ on := 2, ground := Go.Ground.guard }], guard := some (2, false) }) (v := ?_) rfl (by kernel_rfl) (by kernel_rfl) (by kernel_rfl) (fun _ _ _ h => h) (Or.inl ⟨by rfl, ?_⟩) (by assumption) ?_
  rotate_left
  · intro w hSw
    try dsimp only at hSw
    go_simp
    try with_reducible rfl
  try simp only [Act.put, List.setIfInBounds_toArray, List.set_cons_zero, List.set_cons_succ]
  refine wpAnyH_take (i := 7) (oi := { dst := some 36, op := Go.Op.fieldAddr 29 (Go.Operand.tmp 9) 0, type := 0, pos := "law.go:45", after := #[{ on := 2, ground := Go.Ground.guard }], guard := some (2, false) }) (v := ?_) rfl (by kernel_rfl) (by kernel_rfl) (by kernel_rfl) (fun _ _ _ h => h) (Or.inl ⟨by rfl, ?_⟩) (by assumption) ?_
  rotate_left
  · intro w hSw
    try dsimp only at hSw
    go_simp
    try with_reducible rfl
  try simp only [Act.put, List.setIfInBounds_toArray, List.set_cons_zero, List.set_cons_succ]
  refine wpAnyH_take (i := 10) (oi := { dst := some 39, op := Go.Op.fieldAddr 29 (Go.Operand.tmp 9) 0, type := 0, pos := "law.go:45", after := #[{ on := 2, ground := Go.Ground.guard }], guard := some (2, false) }) (v := ?_) rfl (by kernel_rfl) (by kernel_rfl) (by kernel_rfl) (fun _ _ _ h => h) (Or.inl ⟨by rfl, ?_⟩) (by assumption) ?_
  rotate_left
  · intro w hSw
    try dsimp only at hSw
    go_simp
    try with_reducible rfl
  try simp only [Act.put, List.setIfInBounds_toArray, List.set_cons_zero, List.set_cons_succ]
  refine wpAnyH_take (i := 15) (oi := { dst := some 44, op := Go.Op.fieldAddr 29 (Go.Operand.tmp 9) 1, type := 0, pos := "law.go:45", after := #[{ on := 2, ground := Go.Ground.guard }], guard := some (2, false) }) (v := ?_) rfl (by kernel_rfl) (by kernel_rfl) (by kernel_rfl) (fun _ _ _ h => h) (Or.inl ⟨by rfl, ?_⟩) (by assumption) ?_
  rotate_left
  · intro w hSw
    try dsimp only at hSw
    go_simp
    try with_reducible rfl
  try simp only [Act.put, List.setIfInBounds_toArray, List.set_cons_zero, List.set_cons_succ]
  refine wpAnyH_take (i := 19) (oi := { dst := some 48, op := Go.Op.fieldAddr 29 (Go.Operand.tmp 9) 1, type := 0, pos := "law.go:45", after := #[{ on := 2, ground := Go.Ground.guard }], guard := some (2, false) }) (v := ?_) rfl (by kernel_rfl) (by kernel_rfl) (by kernel_rfl) (fun _ _ _ h => h) (Or.inl ⟨by rfl, ?_⟩) (by assumption) ?_
  rotate_left
  · intro w hSw
    try dsimp only at hSw
    go_simp
    try with_reducible rfl
  try simp only [Act.put, List.setIfInBounds_toArray, List.set_cons_zero, List.set_cons_succ]
  refine wpAnyH_take (i := 5) (oi := { dst := some 34, op := Go.Op.fieldAddr 25 (Go.Operand.tmp 33) 0, type := 0, pos := "law.go:45", after := #[{ on := 4, ground := Go.Ground.data }, { on := 2, ground := Go.Ground.guard }], guard := some (2, false) }) (v := ?_) rfl (by kernel_rfl) (by kernel_rfl) (by kernel_rfl) (fun _ _ _ h => h) (Or.inl ⟨by rfl, ?_⟩) (by assumption) ?_
  rotate_left
  · intro w hSw
    try dsimp only at hSw
    go_simp
    try with_reducible rfl
  try simp only [Act.put, List.setIfInBounds_toArray, List.set_cons_zero, List.set_cons_succ]
  refine wpAnyH_take (i := 8) (oi := { dst := some 37, op := Go.Op.fieldAddr 25 (Go.Operand.tmp 36) 1, type := 0, pos := "law.go:45", after := #[{ on := 7, ground := Go.Ground.data }, { on := 2, ground := Go.Ground.guard }], guard := some (2, false) }) (v := ?_) rfl (by kernel_rfl) (by kernel_rfl) (by kernel_rfl) (fun _ _ _ h => h) (Or.inl ⟨by rfl, ?_⟩) (by assumption) ?_
  rotate_left
  · intro w hSw
    try dsimp only at hSw
    go_simp
    try with_reducible rfl
  try simp only [Act.put, List.setIfInBounds_toArray, List.set_cons_zero, List.set_cons_succ]
  refine wpAnyH_take (i := 11) (oi := { dst := some 40, op := Go.Op.fieldAddr 25 (Go.Operand.tmp 39) 2, type := 0, pos := "law.go:45", after := #[{ on := 10, ground := Go.Ground.data }, { on := 2, ground := Go.Ground.guard }], guard := some (2, false) }) (v := ?_) rfl (by kernel_rfl) (by kernel_rfl) (by kernel_rfl) (fun _ _ _ h => h) (Or.inl ⟨by rfl, ?_⟩) (by assumption) ?_
  rotate_left
  · intro w hSw
    try dsimp only at hSw
    go_simp
    try with_reducible rfl
  try simp only [Act.put, List.setIfInBounds_toArray, List.set_cons_zero, List.set_cons_succ]
  refine wpAnyH_take (i := 16) (oi := { dst := some 45, op := Go.Op.fieldAddr 27 (Go.Operand.tmp 44) 0, type := 0, pos := "law.go:45", after := #[{ on := 15, ground := Go.Ground.data }, { on := 2, ground := Go.Ground.guard }], guard := some (2, false) }) (v := ?_) rfl (by kernel_rfl) (by kernel_rfl) (by kernel_rfl) (fun _ _ _ h => h) (Or.inl ⟨by rfl, ?_⟩) (by assumption) ?_
  rotate_left
  · intro w hSw
    try dsimp only at hSw
    go_simp
    try with_reducible rfl
  try simp only [Act.put, List.setIfInBounds_toArray, List.set_cons_zero, List.set_cons_succ]
  refine wpAnyH_take (i := 20) (oi := { dst := some 49, op := Go.Op.fieldAddr 27 (Go.Operand.tmp 48) 2, type := 0, pos := "law.go:45", after := #[{ on := 19, ground := Go.Ground.data }, { on := 2, ground := Go.Ground.guard }], guard := some (2, false) }) (v := ?_) rfl (by kernel_rfl) (by kernel_rfl) (by kernel_rfl) (fun _ _ _ h => h) (Or.inl ⟨by rfl, ?_⟩) (by assumption) ?_
  rotate_left
  · intro w hSw
    try dsimp only at hSw
    go_simp
    try with_reducible rfl
  try simp only [Act.put, List.setIfInBounds_toArray, List.set_cons_zero, List.set_cons_succ]
  refine wpAnyH_take (i := 6) (oi := { dst := some 35, op := Go.Op.load 3 (Go.Operand.tmp 34), type := 3, pos := "law.go:45", after := #[{ on := 5, ground := Go.Ground.data }, { on := 2, ground := Go.Ground.guard }], guard := some (2, false) }) (v := ?_) rfl (by kernel_rfl) (by kernel_rfl) (by kernel_rfl) (fun _ _ _ h => h) (Or.inl ⟨by rfl, ?_⟩) (by assumption) ?_
  rotate_left
  · intro w hSw
    try dsimp only at hSw
    go_simp
    try with_reducible rfl
  try simp only [Act.put, List.setIfInBounds_toArray, List.set_cons_zero, List.set_cons_succ]
  refine wpAnyH_take (i := 9) (oi := { dst := some 38, op := Go.Op.load 3 (Go.Operand.tmp 37), type := 3, pos := "law.go:45", after := #[{ on := 8, ground := Go.Ground.data }, { on := 2, ground := Go.Ground.guard }], guard := some (2, false) }) (v := ?_) rfl (by kernel_rfl) (by kernel_rfl) (by kernel_rfl) (fun _ _ _ h => h) (Or.inl ⟨by rfl, ?_⟩) (by assumption) ?_
  rotate_left
  · intro w hSw
    try dsimp only at hSw
    go_simp
    try with_reducible rfl
  try simp only [Act.put, List.setIfInBounds_toArray, List.set_cons_zero, List.set_cons_succ]
  refine wpAnyH_take (i := 12) (oi := { dst := some 41, op := Go.Op.load 3 (Go.Operand.tmp 40), type := 3, pos := "law.go:45", after := #[{ on := 11, ground := Go.Ground.data }, { on := 2, ground := Go.Ground.guard }], guard := some (2, false) }) (v := ?_) rfl (by kernel_rfl) (by kernel_rfl) (by kernel_rfl) (fun _ _ _ h => h) (Or.inl ⟨by rfl, ?_⟩) (by assumption) ?_
  rotate_left
  · intro w hSw
    try dsimp only at hSw
    go_simp
    try with_reducible rfl
  try simp only [Act.put, List.setIfInBounds_toArray, List.set_cons_zero, List.set_cons_succ]
  refine wpAnyH_take (i := 17) (oi := { dst := some 46, op := Go.Op.load 3 (Go.Operand.tmp 45), type := 3, pos := "law.go:45", after := #[{ on := 16, ground := Go.Ground.data }, { on := 2, ground := Go.Ground.guard }], guard := some (2, false) }) (v := ?_) rfl (by kernel_rfl) (by kernel_rfl) (by kernel_rfl) (fun _ _ _ h => h) (Or.inl ⟨by rfl, ?_⟩) (by assumption) ?_
  rotate_left
  · intro w hSw
    try dsimp only at hSw
    go_simp
    try with_reducible rfl
  try simp only [Act.put, List.setIfInBounds_toArray, List.set_cons_zero, List.set_cons_succ]
  refine wpAnyH_take (i := 21) (oi := { dst := some 50, op := Go.Op.load 3 (Go.Operand.tmp 49), type := 3, pos := "law.go:45", after := #[{ on := 20, ground := Go.Ground.data }, { on := 2, ground := Go.Ground.guard }], guard := some (2, false) }) (v := ?_) rfl (by kernel_rfl) (by kernel_rfl) (by kernel_rfl) (fun _ _ _ h => h) (Or.inl ⟨by rfl, ?_⟩) (by assumption) ?_
  rotate_left
  · intro w hSw
    try dsimp only at hSw
    go_simp
    try with_reducible rfl
  try simp only [Act.put, List.setIfInBounds_toArray, List.set_cons_zero, List.set_cons_succ]
  refine wpAnyH_ready (rs := [13]) (by kernel_rfl) (by simp) ?_
  refine AllReadyH.cons (o := { dst := some 42, op := Go.Op.call { callee := Go.Callee.value (Go.Operand.func 11), args := #[Go.Operand.tmp 35, Go.Operand.tmp 38, Go.Operand.tmp 41], argTypes := #[3, 3, 3] }, type := 3, pos := "law.go:45", after := #[{ on := 6, ground := Go.Ground.data }, { on := 9, ground := Go.Ground.data }, { on := 12, ground := Go.Ground.data }, { on := 2, ground := Go.Ground.chain }, { on := 2, ground := Go.Ground.guard }], guard := some (2, false) }) rfl (fun K hK => ?_) AllReadyH.nil
  go_simp
  refine (NR.out _).mono ?_
  rintro e v1 ⟨rfl, hbv1⟩
  have HBx := Lib.hid (bstep hHeld.2.2.2.2.2.2 hbv1)
  clear hHeld hbv1
  refine hK.out _ _ ?_ (fun hHeld => ?_)
  · exact keepN PA.out.1 PA.out.2.2 HBx.out
  clear hK K HBx
  try simp only [Act.put, List.setIfInBounds_toArray, List.set_cons_zero, List.set_cons_succ]
  refine wpAnyH_take (i := 14) (oi := { dst := some 43, op := Go.Op.binOp Go.BinOp.mul 3 (Go.Operand.const (Go.Value.int Go.IntKind.i64 86400)) (Go.Operand.tmp 42) 3, type := 3, pos := "law.go:45", after := #[{ on := 13, ground := Go.Ground.data }, { on := 2, ground := Go.Ground.guard }], guard := some (2, false) }) (v := ?_) rfl (by kernel_rfl) (by kernel_rfl) (by kernel_rfl) (fun _ _ _ h => h) (Or.inl ⟨by rfl, ?_⟩) (by assumption) ?_
  rotate_left
  · intro w hSw
    try dsimp only at hSw
    go_simp
    try with_reducible rfl
  try simp only [Act.put, List.setIfInBounds_toArray, List.set_cons_zero, List.set_cons_succ]
  refine wpAnyH_take (i := 18) (oi := { dst := some 47, op := Go.Op.binOp Go.BinOp.add 3 (Go.Operand.tmp 43) (Go.Operand.tmp 46) 3, type := 3, pos := "law.go:45", after := #[{ on := 14, ground := Go.Ground.data }, { on := 17, ground := Go.Ground.data }, { on := 2, ground := Go.Ground.guard }], guard := some (2, false) }) (v := ?_) rfl (by kernel_rfl) (by kernel_rfl) (by kernel_rfl) (fun _ _ _ h => h) (Or.inl ⟨by rfl, ?_⟩) (by assumption) ?_
  rotate_left
  · intro w hSw
    try dsimp only at hSw
    go_simp
    try with_reducible rfl
  try simp only [Act.put, List.setIfInBounds_toArray, List.set_cons_zero, List.set_cons_succ]
  refine wpAnyH_take (i := 22) (oi := { dst := some 51, op := Go.Op.binOp Go.BinOp.sub 3 (Go.Operand.tmp 47) (Go.Operand.tmp 50) 3, type := 3, pos := "law.go:45", after := #[{ on := 18, ground := Go.Ground.data }, { on := 21, ground := Go.Ground.data }, { on := 2, ground := Go.Ground.guard }], guard := some (2, false) }) (v := ?_) rfl (by kernel_rfl) (by kernel_rfl) (by kernel_rfl) (fun _ _ _ h => h) (Or.inl ⟨by rfl, ?_⟩) (by assumption) ?_
  rotate_left
  · intro w hSw
    try dsimp only at hSw
    go_simp
    try with_reducible rfl
  try simp only [Act.put, List.setIfInBounds_toArray, List.set_cons_zero, List.set_cons_succ]
  refine wpAnyH_take (i := 23) (oi := { dst := some 52, op := Go.Op.binOp Go.BinOp.neq 3 (Go.Operand.tmp 32) (Go.Operand.tmp 51) 3, type := 4, pos := "law.go:45", after := #[{ on := 3, ground := Go.Ground.data }, { on := 22, ground := Go.Ground.data }, { on := 2, ground := Go.Ground.guard }], guard := some (2, false) }) (v := ?_) rfl (by kernel_rfl) (by kernel_rfl) (by kernel_rfl) (fun _ _ _ h => h) (Or.inl ⟨by rfl, ?_⟩) (by assumption) ?_
  rotate_left
  · intro w hSw
    try dsimp only at hSw
    go_simp
    try with_reducible rfl
  try simp only [Act.put, List.setIfInBounds_toArray, List.set_cons_zero, List.set_cons_succ]
  refine wpAnyH_take (i := 24) (oi := { dst := some 53, op := Go.Op.pick (Go.Operand.tmp 31) (Go.Operand.const (Go.Value.bool true)) (Go.Operand.tmp 52), type := 4, pos := "law.go:45", after := #[{ on := 2, ground := Go.Ground.data }, { on := 23, ground := Go.Ground.data }], guard := none }) (v := ?_) rfl (by kernel_rfl) (by kernel_rfl) (by kernel_rfl) (fun _ _ _ h => h) (Or.inl ⟨by rfl, ?_⟩) (by assumption) ?_
  rotate_left
  · intro w hSw
    try dsimp only at hSw
    go_simp
    try with_reducible rfl
  try simp only [Act.put, List.setIfInBounds_toArray, List.set_cons_zero, List.set_cons_succ]
  refine wpAnyH_done (by kernel_rfl) ?_ _
  replace PX := Lib.hid (PX.out.below hHeld.2.2.2.2.2.2)
  replace PL := Lib.hid (PL.out.below hHeld.2.2.2.2.2.2)
  replace PA := Lib.hid (PA.out.below hHeld.2.2.2.2.2.2)
  replace B := bstep B hHeld.2.2.2.2.2.2
  clear hHeld
  obtain ⟨⟨c0_0, c0_1, c0_2, c0_3, c0_4, c0_5⟩, -, c0z⟩ := PX.out
  obtain ⟨⟨c1_0, c1_1, c1_2⟩, -, c1z⟩ := PL.out
  obtain ⟨⟨c2_0, c2_1, c2_2, c2_3, c2_4, c2_5⟩, -, c2z⟩ := PA.out
  go_wp2_with fail
  refine (OA.out _).mono ?_
  rintro e w5 ⟨rfl, hb⟩
  replace PX := Lib.hid (PX.out.below hb)
  replace PL := Lib.hid (PL.out.below hb)
  replace PA := Lib.hid (PA.out.below hb)
  replace B := bstep B hb
  clear hb OA
  clear c0_0 c0_1 c0_2 c0_3 c0_4 c0_5 c0z c1_0 c1_1 c1_2 c1z c2_0 c2_1 c2_2 c2_3 c2_4 c2_5 c2z
  replace PX := Lib.hid (PX.out.alloc (MoC Y M D S rz O))
  replace PL := Lib.hid (PL.out.alloc (MoC Y M D S rz O))
  replace PA := Lib.hid (PA.out.alloc (MoC Y M D S rz O))
  have PB := Lib.hid (HoldsN.new rfl : HoldsN (w5.alloc (MoC Y M D S rz O)) w5.heap.size Y M D S rz O)
  replace B := ballD1 B (MoC Y M D S rz O)
  go_upto_region 8 with fail
  change Code.wp _ _ _ _ (w5.alloc (MoC Y M D S rz O))
  generalize w5.alloc (MoC Y M D S rz O) = w6 at *
  obtain ⟨gPB, hg⟩ : ∃ g, g = w5.heap.size := ⟨_, rfl⟩
  rw [← hg] at PB ⊢
  clear hg
  obtain ⟨⟨c0_0, c0_1, c0_2, c0_3, c0_4, c0_5⟩, -, c0z⟩ := PX.out
  obtain ⟨⟨c1_0, c1_1, c1_2⟩, -, c1z⟩ := PL.out
  obtain ⟨⟨c2_0, c2_1, c2_2, c2_3, c2_4, c2_5⟩, -, c2z⟩ := PA.out
  obtain ⟨⟨c3_0, c3_1, c3_2, c3_3, c3_4, c3_5⟩, -, c3z⟩ := PB.out
  go_wp2_with fail
  refine (IX.out _).mono ?_
  rintro e w7 ⟨rfl, hb⟩
  replace PX := Lib.hid (PX.out.below hb)
  replace PL := Lib.hid (PL.out.below hb)
  replace PA := Lib.hid (PA.out.below hb)
  replace PB := Lib.hid (PB.out.below hb)
  replace B := bstep B hb
  clear hb IX
  clear c0_0 c0_1 c0_2 c0_3 c0_4 c0_5 c0z c1_0 c1_1 c1_2 c1z c2_0 c2_1 c2_2 c2_3 c2_4 c2_5 c2z c3_0 c3_1 c3_2 c3_3 c3_4 c3_5 c3z
  clear PA
  clear PB
  go_upto_region 11 with fail
  generalize w7 = V at *
  cases p
  · obtain rfl := hi.out (by trivial)
    clear hi
    replace r0 := r0.out
    simp only [Bool.and_true, Bool.and_false, Bool.true_and, Bool.false_and] at r0
    subst r0
    refine wp_region_held_drew (S := fun w' => w'.cell? ⟨(w.heap.size + 1), 0, none⟩ = some (.int .i64 xy) ∧ w'.cell? ⟨(w.heap.size + 1), 1, none⟩ = some (.int .i64 xm) ∧ w'.cell? ⟨(w.heap.size + 1), 2, none⟩ = some (.int .i64 xd) ∧ w'.cell? ⟨(w.heap.size + 1), 3, none⟩ = some (.int .i64 xs) ∧ w'.cell? ⟨(w.heap.size + 1), 4, none⟩ = some (.bool xz) ∧ w'.cell? ⟨(w.heap.size + 1), 5, none⟩ = some (.int .i64 xo) ∧ Below V.heap.size V w') (by kernel_rfl) ?_ (fun hHeld => ?_)
    · exact keepN PX.out.1 PX.out.2.2 (Below.refl _ _).drew
    refine wpAnyH_take (i := 0) (oi := { dst := some 73, op := Go.Op.move (Go.Operand.tmp 15), type := 4, pos := "law.go:52", after := #[], guard := none }) (v := ?_) rfl (by kernel_rfl) (by kernel_rfl) (by kernel_rfl) (fun _ _ _ h => h) (Or.inl ⟨by rfl, ?_⟩) (by assumption) ?_
    rotate_left
    · intro w hSw
      try dsimp only at hSw
      go_simp
      try with_reducible rfl
    try simp only [Act.put, List.setIfInBounds_toArray, List.set_cons_zero, List.set_cons_succ]
    refine wpAnyH_take (i := 1) (oi := { dst := some 74, op := Go.Op.load 29 (Go.Operand.tmp 5), type := 29, pos := "law.go:52", after := #[], guard := none }) (v := ?_) rfl (by kernel_rfl) (by kernel_rfl) (by kernel_rfl) (fun _ _ _ h => h) (Or.inl ⟨by rfl, ?_⟩) (by assumption) ?_
    rotate_left
    · intro w hSw
      try dsimp only at hSw
      go_simp
      try with_reducible rfl
    try simp only [Act.put, List.setIfInBounds_toArray, List.set_cons_zero, List.set_cons_succ]
    refine wpAnyH_ready (rs := [2]) (by kernel_rfl) (by simp) ?_
    refine AllReadyH.cons (o := { dst := some 75, op := Go.Op.call { callee := Go.Callee.value (Go.Operand.func 13), args := #[Go.Operand.tmp 74], argTypes := #[29] }, type := 4, pos := "law.go:52", after := #[{ on := 1, ground := Go.Ground.data }], guard := none }) rfl (fun K hK => ?_) AllReadyH.nil
    go_simp
    refine (MX.out _).mono ?_
    rintro e v1 ⟨rfl, hbv1⟩
    have HBx := Lib.hid (bstep hHeld.2.2.2.2.2.2 hbv1)
    clear hHeld hbv1
    refine hK.out _ _ ?_ (fun hHeld => ?_)
    · exact keepN PX.out.1 PX.out.2.2 HBx.out
    clear hK K HBx
    try simp only [Act.put, List.setIfInBounds_toArray, List.set_cons_zero, List.set_cons_succ]
    refine wpAnyH_take (i := 3) (oi := { dst := some 76, op := Go.Op.binOp Go.BinOp.neq 4 (Go.Operand.tmp 73) (Go.Operand.tmp 75) 4, type := 4, pos := "law.go:52", after := #[{ on := 0, ground := Go.Ground.data }, { on := 2, ground := Go.Ground.data }], guard := none }) (v := ?_) rfl (by kernel_rfl) (by kernel_rfl) (by kernel_rfl) (fun _ _ _ h => h) (Or.inl ⟨by rfl, ?_⟩) (by assumption) ?_
    rotate_left
    · intro w hSw
      try dsimp only at hSw
      go_simp
      try with_reducible rfl
    try simp only [Act.put, List.setIfInBounds_toArray, List.set_cons_zero, List.set_cons_succ]
    refine wpAnyH_take (i := 4) (oi := { dst := some 77, op := Go.Op.move (Go.Operand.tmp 76), type := 4, pos := "law.go:52", after := #[{ on := 3, ground := Go.Ground.data }, { on := 2, ground := Go.Ground.chain }], guard := none }) (v := ?_) rfl (by kernel_rfl) (by kernel_rfl) (by kernel_rfl) (fun _ _ _ h => h) (Or.inl ⟨by rfl, ?_⟩) (by assumption) ?_
    rotate_left
    · intro w hSw
      try dsimp only at hSw
      go_simp
      try with_reducible rfl
    try simp only [Act.put, List.setIfInBounds_toArray, List.set_cons_zero, List.set_cons_succ]
    refine wpAnyH_take (i := 5) (oi := { dst := some 78, op := Go.Op.move (Go.Operand.tmp 15), type := 4, pos := "law.go:52", after := #[{ on := 4, ground := Go.Ground.guard }], guard := some (4, false) }) (v := ?_) rfl (by kernel_rfl) (by kernel_rfl) (by kernel_rfl) (fun _ _ _ h => h) (Or.inl ⟨by rfl, ?_⟩) (by assumption) ?_
    rotate_left
    · intro w hSw
      try dsimp only at hSw
      go_simp
      try with_reducible rfl
    try simp only [Act.put, List.setIfInBounds_toArray, List.set_cons_zero, List.set_cons_succ]
    refine wpAnyH_take (i := 6) (oi := { dst := some 79, op := Go.Op.unOp Go.UnOp.not 4 (Go.Operand.tmp 78), type := 4, pos := "law.go:52", after := #[{ on := 5, ground := Go.Ground.data }, { on := 4, ground := Go.Ground.guard }], guard := some (4, false) }) (v := ?_) rfl (by kernel_rfl) (by kernel_rfl) (by kernel_rfl) (fun _ _ _ h => h) (Or.inl ⟨by rfl, ?_⟩) (by assumption) ?_
    rotate_left
    · intro w hSw
      try dsimp only at hSw
      go_simp
      try with_reducible rfl
    try simp only [Act.put, List.setIfInBounds_toArray, List.set_cons_zero, List.set_cons_succ]
    refine wpAnyH_take (i := 7) (oi := { dst := some 80, op := Go.Op.move (Go.Operand.tmp 79), type := 4, pos := "law.go:52", after := #[{ on := 6, ground := Go.Ground.data }, { on := 4, ground := Go.Ground.chain }, { on := 4, ground := Go.Ground.guard }], guard := some (4, false) }) (v := ?_) rfl (by kernel_rfl) (by kernel_rfl) (by kernel_rfl) (fun _ _ _ h => h) (Or.inl ⟨by rfl, ?_⟩) (by assumption) ?_
    rotate_left
    · intro w hSw
      try dsimp only at hSw
      go_simp
      try with_reducible rfl
    try simp only [Act.put, List.setIfInBounds_toArray, List.set_cons_zero, List.set_cons_succ]
    refine wpAnyH_take (i := 8) (oi := { dst := some 81, op := Go.Op.move (Go.Operand.tmp 14), type := 3, pos := "law.go:52", after := #[{ on := 7, ground := Go.Ground.guard }], guard := some (7, true) }) (v := ?_) rfl (by kernel_rfl) (by kernel_rfl) (by kernel_rfl) (fun _ _ _ h => h) (Or.inl ⟨by rfl, ?_⟩) (by assumption) ?_
    rotate_left
    · intro w hSw
      try dsimp only at hSw
      go_simp
      try with_reducible rfl
    try simp only [Act.put, List.setIfInBounds_toArray, List.set_cons_zero, List.set_cons_succ]
    refine wpAnyH_take (i := 9) (oi := { dst := some 82, op := Go.Op.binOp Go.BinOp.neq 3 (Go.Operand.tmp 81) (Go.Operand.const (Go.Value.int Go.IntKind.i64 0)) 3, type := 4, pos := "law.go:52", after := #[{ on := 8, ground := Go.Ground.data }, { on := 7, ground := Go.Ground.guard }], guard := some (7, true) }) (v := ?_) rfl (by kernel_rfl) (by kernel_rfl) (by kernel_rfl) (fun _ _ _ h => h) (Or.inl ⟨by rfl, ?_⟩) (by assumption) ?_
    rotate_left
    · intro w hSw
      try dsimp only at hSw
      go_simp
      try with_reducible rfl
    try simp only [Act.put, List.setIfInBounds_toArray, List.set_cons_zero, List.set_cons_succ]
    refine wpAnyH_take (i := 10) (oi := { dst := some 83, op := Go.Op.pick (Go.Operand.tmp 80) (Go.Operand.tmp 82) (Go.Operand.const (Go.Value.bool false)), type := 4, pos := "law.go:52", after := #[{ on := 7, ground := Go.Ground.data }, { on := 9, ground := Go.Ground.data }, { on := 4, ground := Go.Ground.guard }], guard := some (4, false) }) (v := ?_) rfl (by kernel_rfl) (by kernel_rfl) (by kernel_rfl) (fun _ _ _ h => h) (Or.inl ⟨by rfl, ?_⟩) (by assumption) ?_
    rotate_left
    · intro w hSw
      try dsimp only at hSw
      go_simp
      try with_reducible rfl
    try simp only [Act.put, List.setIfInBounds_toArray, List.set_cons_zero, List.set_cons_succ]
    refine wpAnyH_take (i := 11) (oi := { dst := some 84, op := Go.Op.pick (Go.Operand.tmp 77) (Go.Operand.const (Go.Value.bool true)) (Go.Operand.tmp 83), type := 4, pos := "law.go:52", after := #[{ on := 4, ground := Go.Ground.data }, { on := 10, ground := Go.Ground.data }], guard := none }) (v := ?_) rfl (by kernel_rfl) (by kernel_rfl) (by kernel_rfl) (fun _ _ _ h => h) (Or.inl ⟨by rfl, ?_⟩) (by assumption) ?_
    rotate_left
    · intro w hSw
      try dsimp only at hSw
      go_simp
      try with_reducible rfl
    try simp only [Act.put, List.setIfInBounds_toArray, List.set_cons_zero, List.set_cons_succ]
    refine wpAnyH_take (i := 12) (oi := { dst := some 85, op := Go.Op.move (Go.Operand.tmp 84), type := 4, pos := "law.go:52", after := #[{ on := 11, ground := Go.Ground.data }, { on := 7, ground := Go.Ground.chain }], guard := none }) (v := ?_) rfl (by kernel_rfl) (by kernel_rfl) (by kernel_rfl) (fun _ _ _ h => h) (Or.inl ⟨by rfl, ?_⟩) (by assumption) ?_
    rotate_left
    · intro w hSw
      try dsimp only at hSw
      go_simp
      try with_reducible rfl
    try simp only [Act.put, List.setIfInBounds_toArray, List.set_cons_zero, List.set_cons_succ]
    refine wpAnyH_take (i := 13) (oi := { dst := some 86, op := Go.Op.load 29 (Go.Operand.tmp 5), type := 29, pos := "law.go:52", after := #[{ on := 12, ground := Go.Ground.guard }], guard := some (12, false) }) (v := ?_) rfl (by kernel_rfl) (by kernel_rfl) (by kernel_rfl) (fun _ _ _ h => h) (Or.inl ⟨by rfl, ?_⟩) (by assumption) ?_
    rotate_left
    · intro w hSw
      try dsimp only at hSw
      go_simp
      try with_reducible rfl
    try simp only [Act.put, List.setIfInBounds_toArray, List.set_cons_zero, List.set_cons_succ]
    refine wpAnyH_take (i := 15) (oi := { dst := some 88, op := Go.Op.fieldAddr 29 (Go.Operand.tmp 5) 0, type := 0, pos := "law.go:52", after := #[{ on := 12, ground := Go.Ground.guard }], guard := some (12, false) }) (v := ?_) rfl (by kernel_rfl) (by kernel_rfl) (by kernel_rfl) (fun _ _ _ h => h) (Or.inl ⟨by rfl, ?_⟩) (by assumption) ?_
    rotate_left
    · intro w hSw
      try dsimp only at hSw
      go_simp
      try with_reducible rfl
    try simp only [Act.put, List.setIfInBounds_toArray, List.set_cons_zero, List.set_cons_succ]
    refine wpAnyH_take (i := 16) (oi := { dst := some 89, op := Go.Op.load 25 (Go.Operand.tmp 88), type := 25, pos := "law.go:52", after := #[{ on := 15, ground := Go.Ground.data }, { on := 12, ground := Go.Ground.guard }], guard := some (12, false) }) (v := ?_) rfl (by kernel_rfl) (by kernel_rfl) (by kernel_rfl) (fun _ _ _ h => h) (Or.inl ⟨by rfl, ?_⟩) (by assumption) ?_
    rotate_left
    · intro w hSw
      try dsimp only at hSw
      go_simp
      try with_reducible rfl
    try simp only [Act.put, List.setIfInBounds_toArray, List.set_cons_zero, List.set_cons_succ]
    refine wpAnyH_ready (rs := [14]) (by kernel_rfl) (by simp) ?_
    refine AllReadyH.cons (o := { dst := some 87, op := Go.Op.call { callee := Go.Callee.value (Go.Operand.func 13), args := #[Go.Operand.tmp 86], argTypes := #[29] }, type := 4, pos := "law.go:52", after := #[{ on := 13, ground := Go.Ground.data }, { on := 12, ground := Go.Ground.chain }, { on := 12, ground := Go.Ground.guard }], guard := some (12, false) }) rfl (fun K hK => ?_) AllReadyH.nil
    go_simp
    refine (MX2.out _).mono ?_
    rintro e v2 ⟨rfl, hbv2⟩
    have HBx := Lib.hid (bstep hHeld.2.2.2.2.2.2 hbv2)
    clear hHeld hbv2
    refine hK.out _ _ ?_ (fun hHeld => ?_)
    · exact keepN PX.out.1 PX.out.2.2 HBx.out
    clear hK K HBx
    try simp only [Act.put, List.setIfInBounds_toArray, List.set_cons_zero, List.set_cons_succ]
    refine wpAnyH_ready (rs := [17]) (by kernel_rfl) (by simp) ?_
    refine AllReadyH.cons (o := { dst := some 90, op := Go.Op.call { callee := Go.Callee.value (Go.Operand.func 14), args := #[Go.Operand.tmp 89], argTypes := #[25] }, type := 4, pos := "law.go:52", after := #[{ on := 16, ground := Go.Ground.data }, { on := 14, ground := Go.Ground.chain }, { on := 12, ground := Go.Ground.guard }], guard := some (12, false) }) rfl (fun K hK => ?_) AllReadyH.nil
    go_simp
    refine (MD.out _).mono ?_
    rintro e v3 ⟨rfl, hbv3⟩
    have HBx := Lib.hid (bstep hHeld.2.2.2.2.2.2 hbv3)
    clear hHeld hbv3
    refine hK.out _ _ ?_ (fun hHeld => ?_)
    · exact keepN PX.out.1 PX.out.2.2 HBx.out
    clear hK K HBx
    try simp only [Act.put, List.setIfInBounds_toArray, List.set_cons_zero, List.set_cons_succ]
    refine wpAnyH_take (i := 18) (oi := { dst := some 91, op := Go.Op.move (Go.Operand.tmp 90), type := 4, pos := "law.go:52", after := #[{ on := 17, ground := Go.Ground.data }, { on := 17, ground := Go.Ground.chain }, { on := 12, ground := Go.Ground.guard }], guard := some (12, false) }) (v := ?_) rfl (by kernel_rfl) (by kernel_rfl) (by kernel_rfl) (fun _ _ _ h => h) (Or.inl ⟨by rfl, ?_⟩) (by assumption) ?_
    rotate_left
    · intro w hSw
      try dsimp only at hSw
      go_simp
      try with_reducible rfl
    try simp only [Act.put, List.setIfInBounds_toArray, List.set_cons_zero, List.set_cons_succ]
    refine wpAnyH_take (i := 19) (oi := { dst := some 92, op := Go.Op.fieldAddr 29 (Go.Operand.tmp 5) 1, type := 0, pos := "law.go:52", after := #[{ on := 18, ground := Go.Ground.guard }], guard := some (18, true) }) (v := undef) rfl (by kernel_rfl) (by kernel_rfl) (by kernel_rfl) (fun _ _ _ h => h) (Or.inr ⟨by rfl, rfl⟩) (by assumption) ?_
    try simp only [Act.put, List.setIfInBounds_toArray, List.set_cons_zero, List.set_cons_succ]
    refine wpAnyH_take (i := 20) (oi := { dst := some 93, op := Go.Op.load 27 (Go.Operand.tmp 92), type := 27, pos := "law.go:52", after := #[{ on := 19, ground := Go.Ground.data }, { on := 18, ground := Go.Ground.guard }], guard := some (18, true) }) (v := undef) rfl (by kernel_rfl) (by kernel_rfl) (by kernel_rfl) (fun _ _ _ h => h) (Or.inr ⟨by rfl, rfl⟩) (by assumption) ?_
    try simp only [Act.put, List.setIfInBounds_toArray, List.set_cons_zero, List.set_cons_succ]
    refine wpAnyH_take (i := 21) (oi := { dst := some 94, op := Go.Op.call { callee := Go.Callee.value (Go.Operand.func 15), args := #[Go.Operand.tmp 93], argTypes := #[27] }, type := 4, pos := "law.go:52", after := #[{ on := 20, ground := Go.Ground.data }, { on := 18, ground := Go.Ground.chain }, { on := 18, ground := Go.Ground.guard }], guard := some (18, true) }) (v := undef) rfl (by kernel_rfl) (by kernel_rfl) (by kernel_rfl) (fun _ _ _ h => h) (Or.inr ⟨by rfl, rfl⟩) (by assumption) ?_
    try simp only [Act.put, List.setIfInBounds_toArray, List.set_cons_zero, List.set_cons_succ]
    refine wpAnyH_take (i := 22) (oi := { dst := some 95, op := Go.Op.pick (Go.Operand.tmp 91) (Go.Operand.tmp 94) (Go.Operand.const (Go.Value.bool false)), type := 4, pos := "law.go:52", after := #[{ on := 18, ground := Go.Ground.data }, { on := 21, ground := Go.Ground.data }, { on := 12, ground := Go.Ground.guard }], guard := some (12, false) }) (v := ?_) rfl (by kernel_rfl) (by kernel_rfl) (by kernel_rfl) (fun _ _ _ h => h) (Or.inl ⟨by rfl, ?_⟩) (by assumption) ?_
    rotate_left
    · intro w hSw
      try dsimp only at hSw
      go_simp
      try with_reducible rfl
    try simp only [Act.put, List.setIfInBounds_toArray, List.set_cons_zero, List.set_cons_succ]
    refine wpAnyH_take (i := 23) (oi := { dst := some 96, op := Go.Op.binOp Go.BinOp.neq 4 (Go.Operand.tmp 87) (Go.Operand.tmp 95) 4, type := 4, pos := "law.go:52", after := #[{ on := 14, ground := Go.Ground.data }, { on := 22, ground := Go.Ground.data }, { on := 12, ground := Go.Ground.guard }], guard := some (12, false) }) (v := ?_) rfl (by kernel_rfl) (by kernel_rfl) (by kernel_rfl) (fun _ _ _ h => h) (Or.inl ⟨by rfl, ?_⟩) (by assumption) ?_
    rotate_left
    · intro w hSw
      try dsimp only at hSw
      go_simp
      try with_reducible rfl
    try simp only [Act.put, List.setIfInBounds_toArray, List.set_cons_zero, List.set_cons_succ]
    refine wpAnyH_take (i := 24) (oi := { dst := some 97, op := Go.Op.pick (Go.Operand.tmp 85) (Go.Operand.const (Go.Value.bool true)) (Go.Operand.tmp 96), type := 4, pos := "law.go:52", after := #[{ on := 12, ground := Go.Ground.data }, { on := 23, ground := Go.Ground.data }], guard := none }) (v := ?_) rfl (by kernel_rfl) (by kernel_rfl) (by kernel_rfl) (fun _ _ _ h => h) (Or.inl ⟨by rfl, ?_⟩) (by assumption) ?_
    rotate_left
    · intro w hSw
      try dsimp only at hSw
      go_simp
      try with_reducible rfl
    try simp only [Act.put, List.setIfInBounds_toArray, List.set_cons_zero, List.set_cons_succ]
    refine wpAnyH_done (by kernel_rfl) ?_ _
    replace PX := Lib.hid (PX.out.below hHeld.2.2.2.2.2.2)
    replace PL := Lib.hid (PL.out.below hHeld.2.2.2.2.2.2)
    replace B := bstep B hHeld.2.2.2.2.2.2
    clear hHeld
    clear PX

    obtain ⟨⟨c0_0, c0_1, c0_2⟩, -, c0z⟩ := PL.out
    go_wp2_with fail
    refine (OC.out _).mono ?_
    rintro e w8 ⟨rfl, hb⟩
    replace PL := Lib.hid (PL.out.below hb)
    replace B := bstep B hb
    clear hb OC
    clear c0_0 c0_1 c0_2 c0z
    replace PL := Lib.hid (PL.out.alloc (MoC cy cm cd cs cz co))
    have PC := Lib.hid (HoldsN.new rfl : HoldsN (w8.alloc (MoC cy cm cd cs cz co)) w8.heap.size cy cm cd cs cz co)
    replace B := ballD1 B (MoC cy cm cd cs cz co)
    go_upto_region 14 with fail
    change Code.wp _ _ _ _ (w8.alloc (MoC cy cm cd cs cz co))
    generalize w8.alloc (MoC cy cm cd cs cz co) = w9 at *
    obtain ⟨gPC, hg⟩ : ∃ g, g = w8.heap.size := ⟨_, rfl⟩
    rw [← hg] at PC ⊢
    clear hg
    cases good
    · obtain ⟨rfl, rfl, rfl, rfl, rfl, rfl, any⟩ := hn.out (by trivial)
      clear hn hy
      obtain ⟨⟨c0_0, c0_1, c0_2⟩, -, c0z⟩ := PL.out
      obtain ⟨⟨c1_0, c1_1, c1_2, c1_3, c1_4, c1_5⟩, -, c1z⟩ := PC.out
      go_wp2_with fail
      refine (ML.out _).mono ?_
      rintro e w10 ⟨rfl, hb⟩
      replace PL := Lib.hid (PL.out.below hb)
      replace PC := Lib.hid (PC.out.below hb)
      replace B := bstep B hb
      clear hb ML
      clear c0_0 c0_1 c0_2 c0z c1_0 c1_1 c1_2 c1_3 c1_4 c1_5 c1z
      cases lm
      · obtain ⟨⟨c0_0, c0_1, c0_2⟩, -, c0z⟩ := PL.out
        obtain ⟨⟨c1_0, c1_1, c1_2, c1_3, c1_4, c1_5⟩, -, c1z⟩ := PC.out
        go_wp2
        go_ret
        exact ⟨rfl, B⟩
      · cases q1
        · cases q2
          · cases any
          · obtain ⟨⟨c0_0, c0_1, c0_2⟩, -, c0z⟩ := PL.out
            obtain ⟨⟨c1_0, c1_1, c1_2, c1_3, c1_4, c1_5⟩, -, c1z⟩ := PC.out
            go_wp2
            go_ret
            exact ⟨rfl, B⟩
        · obtain ⟨⟨c0_0, c0_1, c0_2⟩, -, c0z⟩ := PL.out
          obtain ⟨⟨c1_0, c1_1, c1_2, c1_3, c1_4, c1_5⟩, -, c1z⟩ := PC.out
          go_wp2
          go_ret
          exact ⟨rfl, B⟩
    · obtain ⟨rfl, rfl, IC0, MC0⟩ := hy.out (by trivial)
      clear hn hy
      have IC := Lib.hid IC0
      have MC := Lib.hid MC0
      clear IC0 MC0
      obtain ⟨⟨c0_0, c0_1, c0_2⟩, -, c0z⟩ := PL.out
      obtain ⟨⟨c1_0, c1_1, c1_2, c1_3, c1_4, c1_5⟩, -, c1z⟩ := PC.out
      go_wp2_with fail
      refine (IC.out _).mono ?_
      rintro e w10 ⟨rfl, hb⟩
      replace PL := Lib.hid (PL.out.below hb)
      replace PC := Lib.hid (PC.out.below hb)
      replace B := bstep B hb
      clear hb IC
      clear c0_0 c0_1 c0_2 c0z c1_0 c1_1 c1_2 c1_3 c1_4 c1_5 c1z
      obtain ⟨⟨c0_0, c0_1, c0_2⟩, -, c0z⟩ := PL.out
      obtain ⟨⟨c1_0, c1_1, c1_2, c1_3, c1_4, c1_5⟩, -, c1z⟩ := PC.out
      go_wp2_with fail
      refine (MC.out _).mono ?_
      rintro e w11 ⟨rfl, hb⟩
      replace PL := Lib.hid (PL.out.below hb)
      replace PC := Lib.hid (PC.out.below hb)
      replace B := bstep B hb
      clear hb MC
      clear c0_0 c0_1 c0_2 c0z c1_0 c1_1 c1_2 c1_3 c1_4 c1_5 c1z
      go_wp2
      go_ret
      exact ⟨rfl, B⟩
  · cases q
    · obtain rfl := hi.out (by trivial)
      clear hi
      replace r0 := r0.out
      simp only [Bool.and_true, Bool.and_false, Bool.true_and, Bool.false_and] at r0
      subst r0
      refine wp_region_held_drew (S := fun w' => w'.cell? ⟨(w.heap.size + 1), 0, none⟩ = some (.int .i64 xy) ∧ w'.cell? ⟨(w.heap.size + 1), 1, none⟩ = some (.int .i64 xm) ∧ w'.cell? ⟨(w.heap.size + 1), 2, none⟩ = some (.int .i64 xd) ∧ w'.cell? ⟨(w.heap.size + 1), 3, none⟩ = some (.int .i64 xs) ∧ w'.cell? ⟨(w.heap.size + 1), 4, none⟩ = some (.bool xz) ∧ w'.cell? ⟨(w.heap.size + 1), 5, none⟩ = some (.int .i64 xo) ∧ Below V.heap.size V w') (by kernel_rfl) ?_ (fun hHeld => ?_)
      · exact keepN PX.out.1 PX.out.2.2 (Below.refl _ _).drew
      refine wpAnyH_take (i := 0) (oi := { dst := some 73, op := Go.Op.move (Go.Operand.tmp 15), type := 4, pos := "law.go:52", after := #[], guard := none }) (v := ?_) rfl (by kernel_rfl) (by kernel_rfl) (by kernel_rfl) (fun _ _ _ h => h) (Or.inl ⟨by rfl, ?_⟩) (by assumption) ?_
      rotate_left
      · intro w hSw
        try dsimp only at hSw
        go_simp
        try with_reducible rfl
      try simp only [Act.put, List.setIfInBounds_toArray, List.set_cons_zero, List.set_cons_succ]
      refine wpAnyH_take (i := 1) (oi := { dst := some 74, op := Go.Op.load 29 (Go.Operand.tmp 5), type := 29, pos := "law.go:52", after := #[], guard := none }) (v := ?_) rfl (by kernel_rfl) (by kernel_rfl) (by kernel_rfl) (fun _ _ _ h => h) (Or.inl ⟨by rfl, ?_⟩) (by assumption) ?_
      rotate_left
      · intro w hSw
        try dsimp only at hSw
        go_simp
        try with_reducible rfl
      try simp only [Act.put, List.setIfInBounds_toArray, List.set_cons_zero, List.set_cons_succ]
      refine wpAnyH_ready (rs := [2]) (by kernel_rfl) (by simp) ?_
      refine AllReadyH.cons (o := { dst := some 75, op := Go.Op.call { callee := Go.Callee.value (Go.Operand.func 13), args := #[Go.Operand.tmp 74], argTypes := #[29] }, type := 4, pos := "law.go:52", after := #[{ on := 1, ground := Go.Ground.data }], guard := none }) rfl (fun K hK => ?_) AllReadyH.nil
      go_simp
      refine (MX.out _).mono ?_
      rintro e v1 ⟨rfl, hbv1⟩
      have HBx := Lib.hid (bstep hHeld.2.2.2.2.2.2 hbv1)
      clear hHeld hbv1
      refine hK.out _ _ ?_ (fun hHeld => ?_)
      · exact keepN PX.out.1 PX.out.2.2 HBx.out
      clear hK K HBx
      try simp only [Act.put, List.setIfInBounds_toArray, List.set_cons_zero, List.set_cons_succ]
      refine wpAnyH_take (i := 3) (oi := { dst := some 76, op := Go.Op.binOp Go.BinOp.neq 4 (Go.Operand.tmp 73) (Go.Operand.tmp 75) 4, type := 4, pos := "law.go:52", after := #[{ on := 0, ground := Go.Ground.data }, { on := 2, ground := Go.Ground.data }], guard := none }) (v := ?_) rfl (by kernel_rfl) (by kernel_rfl) (by kernel_rfl) (fun _ _ _ h => h) (Or.inl ⟨by rfl, ?_⟩) (by assumption) ?_
      rotate_left
      · intro w hSw
        try dsimp only at hSw
        go_simp
        try with_reducible rfl
      try simp only [Act.put, List.setIfInBounds_toArray, List.set_cons_zero, List.set_cons_succ]
      refine wpAnyH_take (i := 4) (oi := { dst := some 77, op := Go.Op.move (Go.Operand.tmp 76), type := 4, pos := "law.go:52", after := #[{ on := 3, ground := Go.Ground.data }, { on := 2, ground := Go.Ground.chain }], guard := none }) (v := ?_) rfl (by kernel_rfl) (by kernel_rfl) (by kernel_rfl) (fun _ _ _ h => h) (Or.inl ⟨by rfl, ?_⟩) (by assumption) ?_
      rotate_left
      · intro w hSw
        try dsimp only at hSw
        go_simp
        try with_reducible rfl
      try simp only [Act.put, List.setIfInBounds_toArray, List.set_cons_zero, List.set_cons_succ]
      refine wpAnyH_take (i := 5) (oi := { dst := some 78, op := Go.Op.move (Go.Operand.tmp 15), type := 4, pos := "law.go:52", after := #[{ on := 4, ground := Go.Ground.guard }], guard := some (4, false) }) (v := ?_) rfl (by kernel_rfl) (by kernel_rfl) (by kernel_rfl) (fun _ _ _ h => h) (Or.inl ⟨by rfl, ?_⟩) (by assumption) ?_
      rotate_left
      · intro w hSw
        try dsimp only at hSw
        go_simp
        try with_reducible rfl
      try simp only [Act.put, List.setIfInBounds_toArray, List.set_cons_zero, List.set_cons_succ]
      refine wpAnyH_take (i := 6) (oi := { dst := some 79, op := Go.Op.unOp Go.UnOp.not 4 (Go.Operand.tmp 78), type := 4, pos := "law.go:52", after := #[{ on := 5, ground := Go.Ground.data }, { on := 4, ground := Go.Ground.guard }], guard := some (4, false) }) (v := ?_) rfl (by kernel_rfl) (by kernel_rfl) (by kernel_rfl) (fun _ _ _ h => h) (Or.inl ⟨by rfl, ?_⟩) (by assumption) ?_
      rotate_left
      · intro w hSw
        try dsimp only at hSw
        go_simp
        try with_reducible rfl
      try simp only [Act.put, List.setIfInBounds_toArray, List.set_cons_zero, List.set_cons_succ]
      refine wpAnyH_take (i := 7) (oi := { dst := some 80, op := Go.Op.move (Go.Operand.tmp 79), type := 4, pos := "law.go:52", after := #[{ on := 6, ground := Go.Ground.data }, { on := 4, ground := Go.Ground.chain }, { on := 4, ground := Go.Ground.guard }], guard := some (4, false) }) (v := ?_) rfl (by kernel_rfl) (by kernel_rfl) (by kernel_rfl) (fun _ _ _ h => h) (Or.inl ⟨by rfl, ?_⟩) (by assumption) ?_
      rotate_left
      · intro w hSw
        try dsimp only at hSw
        go_simp
        try with_reducible rfl
      try simp only [Act.put, List.setIfInBounds_toArray, List.set_cons_zero, List.set_cons_succ]
      refine wpAnyH_take (i := 8) (oi := { dst := some 81, op := Go.Op.move (Go.Operand.tmp 14), type := 3, pos := "law.go:52", after := #[{ on := 7, ground := Go.Ground.guard }], guard := some (7, true) }) (v := ?_) rfl (by kernel_rfl) (by kernel_rfl) (by kernel_rfl) (fun _ _ _ h => h) (Or.inl ⟨by rfl, ?_⟩) (by assumption) ?_
      rotate_left
      · intro w hSw
        try dsimp only at hSw
        go_simp
        try with_reducible rfl
      try simp only [Act.put, List.setIfInBounds_toArray, List.set_cons_zero, List.set_cons_succ]
      refine wpAnyH_take (i := 9) (oi := { dst := some 82, op := Go.Op.binOp Go.BinOp.neq 3 (Go.Operand.tmp 81) (Go.Operand.const (Go.Value.int Go.IntKind.i64 0)) 3, type := 4, pos := "law.go:52", after := #[{ on := 8, ground := Go.Ground.data }, { on := 7, ground := Go.Ground.guard }], guard := some (7, true) }) (v := ?_) rfl (by kernel_rfl) (by kernel_rfl) (by kernel_rfl) (fun _ _ _ h => h) (Or.inl ⟨by rfl, ?_⟩) (by assumption) ?_
      rotate_left
      · intro w hSw
        try dsimp only at hSw
        go_simp
        try with_reducible rfl
      try simp only [Act.put, List.setIfInBounds_toArray, List.set_cons_zero, List.set_cons_succ]
      refine wpAnyH_take (i := 10) (oi := { dst := some 83, op := Go.Op.pick (Go.Operand.tmp 80) (Go.Operand.tmp 82) (Go.Operand.const (Go.Value.bool false)), type := 4, pos := "law.go:52", after := #[{ on := 7, ground := Go.Ground.data }, { on := 9, ground := Go.Ground.data }, { on := 4, ground := Go.Ground.guard }], guard := some (4, false) }) (v := ?_) rfl (by kernel_rfl) (by kernel_rfl) (by kernel_rfl) (fun _ _ _ h => h) (Or.inl ⟨by rfl, ?_⟩) (by assumption) ?_
      rotate_left
      · intro w hSw
        try dsimp only at hSw
        go_simp
        try with_reducible rfl
      try simp only [Act.put, List.setIfInBounds_toArray, List.set_cons_zero, List.set_cons_succ]
      refine wpAnyH_take (i := 11) (oi := { dst := some 84, op := Go.Op.pick (Go.Operand.tmp 77) (Go.Operand.const (Go.Value.bool true)) (Go.Operand.tmp 83), type := 4, pos := "law.go:52", after := #[{ on := 4, ground := Go.Ground.data }, { on := 10, ground := Go.Ground.data }], guard := none }) (v := ?_) rfl (by kernel_rfl) (by kernel_rfl) (by kernel_rfl) (fun _ _ _ h => h) (Or.inl ⟨by rfl, ?_⟩) (by assumption) ?_
      rotate_left
      · intro w hSw
        try dsimp only at hSw
        go_simp
        try with_reducible rfl
      try simp only [Act.put, List.setIfInBounds_toArray, List.set_cons_zero, List.set_cons_succ]
      refine wpAnyH_take (i := 12) (oi := { dst := some 85, op := Go.Op.move (Go.Operand.tmp 84), type := 4, pos := "law.go:52", after := #[{ on := 11, ground := Go.Ground.data }, { on := 7, ground := Go.Ground.chain }], guard := none }) (v := ?_) rfl (by kernel_rfl) (by kernel_rfl) (by kernel_rfl) (fun _ _ _ h => h) (Or.inl ⟨by rfl, ?_⟩) (by assumption) ?_
      rotate_left
      · intro w hSw
        try dsimp only at hSw
        go_simp
        try with_reducible rfl
      try simp only [Act.put, List.setIfInBounds_toArray, List.set_cons_zero, List.set_cons_succ]
      refine wpAnyH_take (i := 13) (oi := { dst := some 86, op := Go.Op.load 29 (Go.Operand.tmp 5), type := 29, pos := "law.go:52", after := #[{ on := 12, ground := Go.Ground.guard }], guard := some (12, false) }) (v := ?_) rfl (by kernel_rfl) (by kernel_rfl) (by kernel_rfl) (fun _ _ _ h => h) (Or.inl ⟨by rfl, ?_⟩) (by assumption) ?_
      rotate_left
      · intro w hSw
        try dsimp only at hSw
        go_simp
        try with_reducible rfl
      try simp only [Act.put, List.setIfInBounds_toArray, List.set_cons_zero, List.set_cons_succ]
      refine wpAnyH_take (i := 15) (oi := { dst := some 88, op := Go.Op.fieldAddr 29 (Go.Operand.tmp 5) 0, type := 0, pos := "law.go:52", after := #[{ on := 12, ground := Go.Ground.guard }], guard := some (12, false) }) (v := ?_) rfl (by kernel_rfl) (by kernel_rfl) (by kernel_rfl) (fun _ _ _ h => h) (Or.inl ⟨by rfl, ?_⟩) (by assumption) ?_
      rotate_left
      · intro w hSw
        try dsimp only at hSw
        go_simp
        try with_reducible rfl
      try simp only [Act.put, List.setIfInBounds_toArray, List.set_cons_zero, List.set_cons_succ]
      refine wpAnyH_take (i := 16) (oi := { dst := some 89, op := Go.Op.load 25 (Go.Operand.tmp 88), type := 25, pos := "law.go:52", after := #[{ on := 15, ground := Go.Ground.data }, { on := 12, ground := Go.Ground.guard }], guard := some (12, false) }) (v := ?_) rfl (by kernel_rfl) (by kernel_rfl) (by kernel_rfl) (fun _ _ _ h => h) (Or.inl ⟨by rfl, ?_⟩) (by assumption) ?_
      rotate_left
      · intro w hSw
        try dsimp only at hSw
        go_simp
        try with_reducible rfl
      try simp only [Act.put, List.setIfInBounds_toArray, List.set_cons_zero, List.set_cons_succ]
      refine wpAnyH_ready (rs := [14]) (by kernel_rfl) (by simp) ?_
      refine AllReadyH.cons (o := { dst := some 87, op := Go.Op.call { callee := Go.Callee.value (Go.Operand.func 13), args := #[Go.Operand.tmp 86], argTypes := #[29] }, type := 4, pos := "law.go:52", after := #[{ on := 13, ground := Go.Ground.data }, { on := 12, ground := Go.Ground.chain }, { on := 12, ground := Go.Ground.guard }], guard := some (12, false) }) rfl (fun K hK => ?_) AllReadyH.nil
      go_simp
      refine (MX2.out _).mono ?_
      rintro e v2 ⟨rfl, hbv2⟩
      have HBx := Lib.hid (bstep hHeld.2.2.2.2.2.2 hbv2)
      clear hHeld hbv2
      refine hK.out _ _ ?_ (fun hHeld => ?_)
      · exact keepN PX.out.1 PX.out.2.2 HBx.out
      clear hK K HBx
      try simp only [Act.put, List.setIfInBounds_toArray, List.set_cons_zero, List.set_cons_succ]
      refine wpAnyH_ready (rs := [17]) (by kernel_rfl) (by simp) ?_
      refine AllReadyH.cons (o := { dst := some 90, op := Go.Op.call { callee := Go.Callee.value (Go.Operand.func 14), args := #[Go.Operand.tmp 89], argTypes := #[25] }, type := 4, pos := "law.go:52", after := #[{ on := 16, ground := Go.Ground.data }, { on := 14, ground := Go.Ground.chain }, { on := 12, ground := Go.Ground.guard }], guard := some (12, false) }) rfl (fun K hK => ?_) AllReadyH.nil
      go_simp
      refine (MD.out _).mono ?_
      rintro e v3 ⟨rfl, hbv3⟩
      have HBx := Lib.hid (bstep hHeld.2.2.2.2.2.2 hbv3)
      clear hHeld hbv3
      refine hK.out _ _ ?_ (fun hHeld => ?_)
      · exact keepN PX.out.1 PX.out.2.2 HBx.out
      clear hK K HBx
      try simp only [Act.put, List.setIfInBounds_toArray, List.set_cons_zero, List.set_cons_succ]
      refine wpAnyH_take (i := 18) (oi := { dst := some 91, op := Go.Op.move (Go.Operand.tmp 90), type := 4, pos := "law.go:52", after := #[{ on := 17, ground := Go.Ground.data }, { on := 17, ground := Go.Ground.chain }, { on := 12, ground := Go.Ground.guard }], guard := some (12, false) }) (v := ?_) rfl (by kernel_rfl) (by kernel_rfl) (by kernel_rfl) (fun _ _ _ h => h) (Or.inl ⟨by rfl, ?_⟩) (by assumption) ?_
      rotate_left
      · intro w hSw
        try dsimp only at hSw
        go_simp
        try with_reducible rfl
      try simp only [Act.put, List.setIfInBounds_toArray, List.set_cons_zero, List.set_cons_succ]
      refine wpAnyH_take (i := 19) (oi := { dst := some 92, op := Go.Op.fieldAddr 29 (Go.Operand.tmp 5) 1, type := 0, pos := "law.go:52", after := #[{ on := 18, ground := Go.Ground.guard }], guard := some (18, true) }) (v := ?_) rfl (by kernel_rfl) (by kernel_rfl) (by kernel_rfl) (fun _ _ _ h => h) (Or.inl ⟨by rfl, ?_⟩) (by assumption) ?_
      rotate_left
      · intro w hSw
        try dsimp only at hSw
        go_simp
        try with_reducible rfl
      try simp only [Act.put, List.setIfInBounds_toArray, List.set_cons_zero, List.set_cons_succ]
      refine wpAnyH_take (i := 20) (oi := { dst := some 93, op := Go.Op.load 27 (Go.Operand.tmp 92), type := 27, pos := "law.go:52", after := #[{ on := 19, ground := Go.Ground.data }, { on := 18, ground := Go.Ground.guard }], guard := some (18, true) }) (v := ?_) rfl (by kernel_rfl) (by kernel_rfl) (by kernel_rfl) (fun _ _ _ h => h) (Or.inl ⟨by rfl, ?_⟩) (by assumption) ?_
      rotate_left
      · intro w hSw
        try dsimp only at hSw
        go_simp
        try with_reducible rfl
      try simp only [Act.put, List.setIfInBounds_toArray, List.set_cons_zero, List.set_cons_succ]
      refine wpAnyH_ready (rs := [21]) (by kernel_rfl) (by simp) ?_
      refine AllReadyH.cons (o := { dst := some 94, op := Go.Op.call { callee := Go.Callee.value (Go.Operand.func 15), args := #[Go.Operand.tmp 93], argTypes := #[27] }, type := 4, pos := "law.go:52", after := #[{ on := 20, ground := Go.Ground.data }, { on := 18, ground := Go.Ground.chain }, { on := 18, ground := Go.Ground.guard }], guard := some (18, true) }) rfl (fun K hK => ?_) AllReadyH.nil
      go_simp
      refine (MT.out _).mono ?_
      rintro e v4 ⟨rfl, hbv4⟩
      have HBx := Lib.hid (bstep hHeld.2.2.2.2.2.2 hbv4)
      clear hHeld hbv4
      refine hK.out _ _ ?_ (fun hHeld => ?_)
      · exact keepN PX.out.1 PX.out.2.2 HBx.out
      clear hK K HBx
      try simp only [Act.put, List.setIfInBounds_toArray, List.set_cons_zero, List.set_cons_succ]
      refine wpAnyH_take (i := 22) (oi := { dst := some 95, op := Go.Op.pick (Go.Operand.tmp 91) (Go.Operand.tmp 94) (Go.Operand.const (Go.Value.bool false)), type := 4, pos := "law.go:52", after := #[{ on := 18, ground := Go.Ground.data }, { on := 21, ground := Go.Ground.data }, { on := 12, ground := Go.Ground.guard }], guard := some (12, false) }) (v := ?_) rfl (by kernel_rfl) (by kernel_rfl) (by kernel_rfl) (fun _ _ _ h => h) (Or.inl ⟨by rfl, ?_⟩) (by assumption) ?_
      rotate_left
      · intro w hSw
        try dsimp only at hSw
        go_simp
        try with_reducible rfl
      try simp only [Act.put, List.setIfInBounds_toArray, List.set_cons_zero, List.set_cons_succ]
      refine wpAnyH_take (i := 23) (oi := { dst := some 96, op := Go.Op.binOp Go.BinOp.neq 4 (Go.Operand.tmp 87) (Go.Operand.tmp 95) 4, type := 4, pos := "law.go:52", after := #[{ on := 14, ground := Go.Ground.data }, { on := 22, ground := Go.Ground.data }, { on := 12, ground := Go.Ground.guard }], guard := some (12, false) }) (v := ?_) rfl (by kernel_rfl) (by kernel_rfl) (by kernel_rfl) (fun _ _ _ h => h) (Or.inl ⟨by rfl, ?_⟩) (by assumption) ?_
      rotate_left
      · intro w hSw
        try dsimp only at hSw
        go_simp
        try with_reducible rfl
      try simp only [Act.put, List.setIfInBounds_toArray, List.set_cons_zero, List.set_cons_succ]
      refine wpAnyH_take (i := 24) (oi := { dst := some 97, op := Go.Op.pick (Go.Operand.tmp 85) (Go.Operand.const (Go.Value.bool true)) (Go.Operand.tmp 96), type := 4, pos := "law.go:52", after := #[{ on := 12, ground := Go.Ground.data }, { on := 23, ground := Go.Ground.data }], guard := none }) (v := ?_) rfl (by kernel_rfl) (by kernel_rfl) (by kernel_rfl) (fun _ _ _ h => h) (Or.inl ⟨by rfl, ?_⟩) (by assumption) ?_
      rotate_left
      · intro w hSw
        try dsimp only at hSw
        go_simp
        try with_reducible rfl
      try simp only [Act.put, List.setIfInBounds_toArray, List.set_cons_zero, List.set_cons_succ]
      refine wpAnyH_done (by kernel_rfl) ?_ _
      replace PX := Lib.hid (PX.out.below hHeld.2.2.2.2.2.2)
      replace PL := Lib.hid (PL.out.below hHeld.2.2.2.2.2.2)
      replace B := bstep B hHeld.2.2.2.2.2.2
      clear hHeld
      clear PX

      obtain ⟨⟨c0_0, c0_1, c0_2⟩, -, c0z⟩ := PL.out
      go_wp2_with fail
      refine (OC.out _).mono ?_
      rintro e w8 ⟨rfl, hb⟩
      replace PL := Lib.hid (PL.out.below hb)
      replace B := bstep B hb
      clear hb OC
      clear c0_0 c0_1 c0_2 c0z
      replace PL := Lib.hid (PL.out.alloc (MoC cy cm cd cs cz co))
      have PC := Lib.hid (HoldsN.new rfl : HoldsN (w8.alloc (MoC cy cm cd cs cz co)) w8.heap.size cy cm cd cs cz co)
      replace B := ballD1 B (MoC cy cm cd cs cz co)
      go_upto_region 14 with fail
      change Code.wp _ _ _ _ (w8.alloc (MoC cy cm cd cs cz co))
      generalize w8.alloc (MoC cy cm cd cs cz co) = w9 at *
      obtain ⟨gPC, hg⟩ : ∃ g, g = w8.heap.size := ⟨_, rfl⟩
      rw [← hg] at PC ⊢
      clear hg
      cases good
      · obtain ⟨rfl, rfl, rfl, rfl, rfl, rfl, any⟩ := hn.out (by trivial)
        clear hn hy
        obtain ⟨⟨c0_0, c0_1, c0_2⟩, -, c0z⟩ := PL.out
        obtain ⟨⟨c1_0, c1_1, c1_2, c1_3, c1_4, c1_5⟩, -, c1z⟩ := PC.out
        go_wp2_with fail
        refine (ML.out _).mono ?_
        rintro e w10 ⟨rfl, hb⟩
        replace PL := Lib.hid (PL.out.below hb)
        replace PC := Lib.hid (PC.out.below hb)
        replace B := bstep B hb
        clear hb ML
        clear c0_0 c0_1 c0_2 c0z c1_0 c1_1 c1_2 c1_3 c1_4 c1_5 c1z
        cases lm
        · obtain ⟨⟨c0_0, c0_1, c0_2⟩, -, c0z⟩ := PL.out
          obtain ⟨⟨c1_0, c1_1, c1_2, c1_3, c1_4, c1_5⟩, -, c1z⟩ := PC.out
          go_wp2
          go_ret
          exact ⟨rfl, B⟩
        · cases q1
          · cases q2
            · cases any
            · obtain ⟨⟨c0_0, c0_1, c0_2⟩, -, c0z⟩ := PL.out
              obtain ⟨⟨c1_0, c1_1, c1_2, c1_3, c1_4, c1_5⟩, -, c1z⟩ := PC.out
              go_wp2
              go_ret
              exact ⟨rfl, B⟩
          · obtain ⟨⟨c0_0, c0_1, c0_2⟩, -, c0z⟩ := PL.out
            obtain ⟨⟨c1_0, c1_1, c1_2, c1_3, c1_4, c1_5⟩, -, c1z⟩ := PC.out
            go_wp2
            go_ret
            exact ⟨rfl, B⟩
      · obtain ⟨rfl, rfl, IC0, MC0⟩ := hy.out (by trivial)
        clear hn hy
        have IC := Lib.hid IC0
        have MC := Lib.hid MC0
        clear IC0 MC0
        obtain ⟨⟨c0_0, c0_1, c0_2⟩, -, c0z⟩ := PL.out
        obtain ⟨⟨c1_0, c1_1, c1_2, c1_3, c1_4, c1_5⟩, -, c1z⟩ := PC.out
        go_wp2_with fail
        refine (IC.out _).mono ?_
        rintro e w10 ⟨rfl, hb⟩
        replace PL := Lib.hid (PL.out.below hb)
        replace PC := Lib.hid (PC.out.below hb)
        replace B := bstep B hb
        clear hb IC
        clear c0_0 c0_1 c0_2 c0z c1_0 c1_1 c1_2 c1_3 c1_4 c1_5 c1z
        obtain ⟨⟨c0_0, c0_1, c0_2⟩, -, c0z⟩ := PL.out
        obtain ⟨⟨c1_0, c1_1, c1_2, c1_3, c1_4, c1_5⟩, -, c1z⟩ := PC.out
        go_wp2_with fail
        refine (MC.out _).mono ?_
        rintro e w11 ⟨rfl, hb⟩
        replace PL := Lib.hid (PL.out.below hb)
        replace PC := Lib.hid (PC.out.below hb)
        replace B := bstep B hb
        clear hb MC
        clear c0_0 c0_1 c0_2 c0z c1_0 c1_1 c1_2 c1_3 c1_4 c1_5 c1z
        go_wp2
        go_ret
        exact ⟨rfl, B⟩
    · clear hi
      replace r0 := r0.out
      simp only [Bool.and_true, Bool.and_false, Bool.true_and, Bool.false_and] at r0
      subst r0
      refine wp_region_held_drew (S := fun w' => w'.cell? ⟨(w.heap.size + 1), 0, none⟩ = some (.int .i64 xy) ∧ w'.cell? ⟨(w.heap.size + 1), 1, none⟩ = some (.int .i64 xm) ∧ w'.cell? ⟨(w.heap.size + 1), 2, none⟩ = some (.int .i64 xd) ∧ w'.cell? ⟨(w.heap.size + 1), 3, none⟩ = some (.int .i64 xs) ∧ w'.cell? ⟨(w.heap.size + 1), 4, none⟩ = some (.bool xz) ∧ w'.cell? ⟨(w.heap.size + 1), 5, none⟩ = some (.int .i64 xo) ∧ Below V.heap.size V w') (by kernel_rfl) ?_ (fun hHeld => ?_)
      · exact keepN PX.out.1 PX.out.2.2 (Below.refl _ _).drew
      refine wpAnyH_take (i := 0) (oi := { dst := some 73, op := Go.Op.move (Go.Operand.tmp 15), type := 4, pos := "law.go:52", after := #[], guard := none }) (v := ?_) rfl (by kernel_rfl) (by kernel_rfl) (by kernel_rfl) (fun _ _ _ h => h) (Or.inl ⟨by rfl, ?_⟩) (by assumption) ?_
      rotate_left
      · intro w hSw
        try dsimp only at hSw
        go_simp
        try with_reducible rfl
      try simp only [Act.put, List.setIfInBounds_toArray, List.set_cons_zero, List.set_cons_succ]
      refine wpAnyH_take (i := 1) (oi := { dst := some 74, op := Go.Op.load 29 (Go.Operand.tmp 5), type := 29, pos := "law.go:52", after := #[], guard := none }) (v := ?_) rfl (by kernel_rfl) (by kernel_rfl) (by kernel_rfl) (fun _ _ _ h => h) (Or.inl ⟨by rfl, ?_⟩) (by assumption) ?_
      rotate_left
      · intro w hSw
        try dsimp only at hSw
        go_simp
        try with_reducible rfl
      try simp only [Act.put, List.setIfInBounds_toArray, List.set_cons_zero, List.set_cons_succ]
      refine wpAnyH_ready (rs := [2]) (by kernel_rfl) (by simp) ?_
      refine AllReadyH.cons (o := { dst := some 75, op := Go.Op.call { callee := Go.Callee.value (Go.Operand.func 13), args := #[Go.Operand.tmp 74], argTypes := #[29] }, type := 4, pos := "law.go:52", after := #[{ on := 1, ground := Go.Ground.data }], guard := none }) rfl (fun K hK => ?_) AllReadyH.nil
      go_simp
      refine (MX.out _).mono ?_
      rintro e v1 ⟨rfl, hbv1⟩
      have HBx := Lib.hid (bstep hHeld.2.2.2.2.2.2 hbv1)
      clear hHeld hbv1
      refine hK.out _ _ ?_ (fun hHeld => ?_)
      · exact keepN PX.out.1 PX.out.2.2 HBx.out
      clear hK K HBx
      try simp only [Act.put, List.setIfInBounds_toArray, List.set_cons_zero, List.set_cons_succ]
      refine wpAnyH_take (i := 3) (oi := { dst := some 76, op := Go.Op.binOp Go.BinOp.neq 4 (Go.Operand.tmp 73) (Go.Operand.tmp 75) 4, type := 4, pos := "law.go:52", after := #[{ on := 0, ground := Go.Ground.data }, { on := 2, ground := Go.Ground.data }], guard := none }) (v := ?_) rfl (by kernel_rfl) (by kernel_rfl) (by kernel_rfl) (fun _ _ _ h => h) (Or.inl ⟨by rfl, ?_⟩) (by assumption) ?_
      rotate_left
      · intro w hSw
        try dsimp only at hSw
        go_simp
        try with_reducible rfl
      try simp only [Act.put, List.setIfInBounds_toArray, List.set_cons_zero, List.set_cons_succ]
      refine wpAnyH_take (i := 4) (oi := { dst := some 77, op := Go.Op.move (Go.Operand.tmp 76), type := 4, pos := "law.go:52", after := #[{ on := 3, ground := Go.Ground.data }, { on := 2, ground := Go.Ground.chain }], guard := none }) (v := ?_) rfl (by kernel_rfl) (by kernel_rfl) (by kernel_rfl) (fun _ _ _ h => h) (Or.inl ⟨by rfl, ?_⟩) (by assumption) ?_
      rotate_left
      · intro w hSw
        try dsimp only at hSw
        go_simp
        try with_reducible rfl
      try simp only [Act.put, List.setIfInBounds_toArray, List.set_cons_zero, List.set_cons_succ]
      refine wpAnyH_take (i := 5) (oi := { dst := some 78, op := Go.Op.move (Go.Operand.tmp 15), type := 4, pos := "law.go:52", after := #[{ on := 4, ground := Go.Ground.guard }], guard := some (4, false) }) (v := ?_) rfl (by kernel_rfl) (by kernel_rfl) (by kernel_rfl) (fun _ _ _ h => h) (Or.inl ⟨by rfl, ?_⟩) (by assumption) ?_
      rotate_left
      · intro w hSw
        try dsimp only at hSw
        go_simp
        try with_reducible rfl
      try simp only [Act.put, List.setIfInBounds_toArray, List.set_cons_zero, List.set_cons_succ]
      refine wpAnyH_take (i := 6) (oi := { dst := some 79, op := Go.Op.unOp Go.UnOp.not 4 (Go.Operand.tmp 78), type := 4, pos := "law.go:52", after := #[{ on := 5, ground := Go.Ground.data }, { on := 4, ground := Go.Ground.guard }], guard := some (4, false) }) (v := ?_) rfl (by kernel_rfl) (by kernel_rfl) (by kernel_rfl) (fun _ _ _ h => h) (Or.inl ⟨by rfl, ?_⟩) (by assumption) ?_
      rotate_left
      · intro w hSw
        try dsimp only at hSw
        go_simp
        try with_reducible rfl
      try simp only [Act.put, List.setIfInBounds_toArray, List.set_cons_zero, List.set_cons_succ]
      refine wpAnyH_take (i := 7) (oi := { dst := some 80, op := Go.Op.move (Go.Operand.tmp 79), type := 4, pos := "law.go:52", after := #[{ on := 6, ground := Go.Ground.data }, { on := 4, ground := Go.Ground.chain }, { on := 4, ground := Go.Ground.guard }], guard := some (4, false) }) (v := ?_) rfl (by kernel_rfl) (by kernel_rfl) (by kernel_rfl) (fun _ _ _ h => h) (Or.inl ⟨by rfl, ?_⟩) (by assumption) ?_
      rotate_left
      · intro w hSw
        try dsimp only at hSw
        go_simp
        try with_reducible rfl
      try simp only [Act.put, List.setIfInBounds_toArray, List.set_cons_zero, List.set_cons_succ]
      refine wpAnyH_take (i := 8) (oi := { dst := some 81, op := Go.Op.move (Go.Operand.tmp 14), type := 3, pos := "law.go:52", after := #[{ on := 7, ground := Go.Ground.guard }], guard := some (7, true) }) (v := undef) rfl (by kernel_rfl) (by kernel_rfl) (by kernel_rfl) (fun _ _ _ h => h) (Or.inr ⟨by rfl, rfl⟩) (by assumption) ?_
      try simp only [Act.put, List.setIfInBounds_toArray, List.set_cons_zero, List.set_cons_succ]
      refine wpAnyH_take (i := 9) (oi := { dst := some 82, op := Go.Op.binOp Go.BinOp.neq 3 (Go.Operand.tmp 81) (Go.Operand.const (Go.Value.int Go.IntKind.i64 0)) 3, type := 4, pos := "law.go:52", after := #[{ on := 8, ground := Go.Ground.data }, { on := 7, ground := Go.Ground.guard }], guard := some (7, true) }) (v := undef) rfl (by kernel_rfl) (by kernel_rfl) (by kernel_rfl) (fun _ _ _ h => h) (Or.inr ⟨by rfl, rfl⟩) (by assumption) ?_
      try simp only [Act.put, List.setIfInBounds_toArray, List.set_cons_zero, List.set_cons_succ]
      refine wpAnyH_take (i := 10) (oi := { dst := some 83, op := Go.Op.pick (Go.Operand.tmp 80) (Go.Operand.tmp 82) (Go.Operand.const (Go.Value.bool false)), type := 4, pos := "law.go:52", after := #[{ on := 7, ground := Go.Ground.data }, { on := 9, ground := Go.Ground.data }, { on := 4, ground := Go.Ground.guard }], guard := some (4, false) }) (v := ?_) rfl (by kernel_rfl) (by kernel_rfl) (by kernel_rfl) (fun _ _ _ h => h) (Or.inl ⟨by rfl, ?_⟩) (by assumption) ?_
      rotate_left
      · intro w hSw
        try dsimp only at hSw
        go_simp
        try with_reducible rfl
      try simp only [Act.put, List.setIfInBounds_toArray, List.set_cons_zero, List.set_cons_succ]
      refine wpAnyH_take (i := 11) (oi := { dst := some 84, op := Go.Op.pick (Go.Operand.tmp 77) (Go.Operand.const (Go.Value.bool true)) (Go.Operand.tmp 83), type := 4, pos := "law.go:52", after := #[{ on := 4, ground := Go.Ground.data }, { on := 10, ground := Go.Ground.data }], guard := none }) (v := ?_) rfl (by kernel_rfl) (by kernel_rfl) (by kernel_rfl) (fun _ _ _ h => h) (Or.inl ⟨by rfl, ?_⟩) (by assumption) ?_
      rotate_left
      · intro w hSw
        try dsimp only at hSw
        go_simp
        try with_reducible rfl
      try simp only [Act.put, List.setIfInBounds_toArray, List.set_cons_zero, List.set_cons_succ]
      refine wpAnyH_take (i := 12) (oi := { dst := some 85, op := Go.Op.move (Go.Operand.tmp 84), type := 4, pos := "law.go:52", after := #[{ on := 11, ground := Go.Ground.data }, { on := 7, ground := Go.Ground.chain }], guard := none }) (v := ?_) rfl (by kernel_rfl) (by kernel_rfl) (by kernel_rfl) (fun _ _ _ h => h) (Or.inl ⟨by rfl, ?_⟩) (by assumption) ?_
      rotate_left
      · intro w hSw
        try dsimp only at hSw
        go_simp
        try with_reducible rfl
      try simp only [Act.put, List.setIfInBounds_toArray, List.set_cons_zero, List.set_cons_succ]
      refine wpAnyH_take (i := 13) (oi := { dst := some 86, op := Go.Op.load 29 (Go.Operand.tmp 5), type := 29, pos := "law.go:52", after := #[{ on := 12, ground := Go.Ground.guard }], guard := some (12, false) }) (v := ?_) rfl (by kernel_rfl) (by kernel_rfl) (by kernel_rfl) (fun _ _ _ h => h) (Or.inl ⟨by rfl, ?_⟩) (by assumption) ?_
      rotate_left
      · intro w hSw
        try dsimp only at hSw
        go_simp
        try with_reducible rfl
      try simp only [Act.put, List.setIfInBounds_toArray, List.set_cons_zero, List.set_cons_succ]
      refine wpAnyH_take (i := 15) (oi := { dst := some 88, op := Go.Op.fieldAddr 29 (Go.Operand.tmp 5) 0, type := 0, pos := "law.go:52", after := #[{ on := 12, ground := Go.Ground.guard }], guard := some (12, false) }) (v := ?_) rfl (by kernel_rfl) (by kernel_rfl) (by kernel_rfl) (fun _ _ _ h => h) (Or.inl ⟨by rfl, ?_⟩) (by assumption) ?_
      rotate_left
      · intro w hSw
        try dsimp only at hSw
        go_simp
        try with_reducible rfl
      try simp only [Act.put, List.setIfInBounds_toArray, List.set_cons_zero, List.set_cons_succ]
      refine wpAnyH_take (i := 16) (oi := { dst := some 89, op := Go.Op.load 25 (Go.Operand.tmp 88), type := 25, pos := "law.go:52", after := #[{ on := 15, ground := Go.Ground.data }, { on := 12, ground := Go.Ground.guard }], guard := some (12, false) }) (v := ?_) rfl (by kernel_rfl) (by kernel_rfl) (by kernel_rfl) (fun _ _ _ h => h) (Or.inl ⟨by rfl, ?_⟩) (by assumption) ?_
      rotate_left
      · intro w hSw
        try dsimp only at hSw
        go_simp
        try with_reducible rfl
      try simp only [Act.put, List.setIfInBounds_toArray, List.set_cons_zero, List.set_cons_succ]
      refine wpAnyH_ready (rs := [14]) (by kernel_rfl) (by simp) ?_
      refine AllReadyH.cons (o := { dst := some 87, op := Go.Op.call { callee := Go.Callee.value (Go.Operand.func 13), args := #[Go.Operand.tmp 86], argTypes := #[29] }, type := 4, pos := "law.go:52", after := #[{ on := 13, ground := Go.Ground.data }, { on := 12, ground := Go.Ground.chain }, { on := 12, ground := Go.Ground.guard }], guard := some (12, false) }) rfl (fun K hK => ?_) AllReadyH.nil
      go_simp
      refine (MX2.out _).mono ?_
      rintro e v2 ⟨rfl, hbv2⟩
      have HBx := Lib.hid (bstep hHeld.2.2.2.2.2.2 hbv2)
      clear hHeld hbv2
      refine hK.out _ _ ?_ (fun hHeld => ?_)
      · exact keepN PX.out.1 PX.out.2.2 HBx.out
      clear hK K HBx
      try simp only [Act.put, List.setIfInBounds_toArray, List.set_cons_zero, List.set_cons_succ]
      refine wpAnyH_ready (rs := [17]) (by kernel_rfl) (by simp) ?_
      refine AllReadyH.cons (o := { dst := some 90, op := Go.Op.call { callee := Go.Callee.value (Go.Operand.func 14), args := #[Go.Operand.tmp 89], argTypes := #[25] }, type := 4, pos := "law.go:52", after := #[{ on := 16, ground := Go.Ground.data }, { on := 14, ground := Go.Ground.chain }, { on := 12, ground := Go.Ground.guard }], guard := some (12, false) }) rfl (fun K hK => ?_) AllReadyH.nil
      go_simp
      refine (MD.out _).mono ?_
      rintro e v3 ⟨rfl, hbv3⟩
      have HBx := Lib.hid (bstep hHeld.2.2.2.2.2.2 hbv3)
      clear hHeld hbv3
      refine hK.out _ _ ?_ (fun hHeld => ?_)
      · exact keepN PX.out.1 PX.out.2.2 HBx.out
      clear hK K HBx
      try simp only [Act.put, List.setIfInBounds_toArray, List.set_cons_zero, List.set_cons_succ]
      refine wpAnyH_take (i := 18) (oi := { dst := some 91, op := Go.Op.move (Go.Operand.tmp 90), type := 4, pos := "law.go:52", after := #[{ on := 17, ground := Go.Ground.data }, { on := 17, ground := Go.Ground.chain }, { on := 12, ground := Go.Ground.guard }], guard := some (12, false) }) (v := ?_) rfl (by kernel_rfl) (by kernel_rfl) (by kernel_rfl) (fun _ _ _ h => h) (Or.inl ⟨by rfl, ?_⟩) (by assumption) ?_
      rotate_left
      · intro w hSw
        try dsimp only at hSw
        go_simp
        try with_reducible rfl
      try simp only [Act.put, List.setIfInBounds_toArray, List.set_cons_zero, List.set_cons_succ]
      refine wpAnyH_take (i := 19) (oi := { dst := some 92, op := Go.Op.fieldAddr 29 (Go.Operand.tmp 5) 1, type := 0, pos := "law.go:52", after := #[{ on := 18, ground := Go.Ground.guard }], guard := some (18, true) }) (v := ?_) rfl (by kernel_rfl) (by kernel_rfl) (by kernel_rfl) (fun _ _ _ h => h) (Or.inl ⟨by rfl, ?_⟩) (by assumption) ?_
      rotate_left
      · intro w hSw
        try dsimp only at hSw
        go_simp
        try with_reducible rfl
      try simp only [Act.put, List.setIfInBounds_toArray, List.set_cons_zero, List.set_cons_succ]
      refine wpAnyH_take (i := 20) (oi := { dst := some 93, op := Go.Op.load 27 (Go.Operand.tmp 92), type := 27, pos := "law.go:52", after := #[{ on := 19, ground := Go.Ground.data }, { on := 18, ground := Go.Ground.guard }], guard := some (18, true) }) (v := ?_) rfl (by kernel_rfl) (by kernel_rfl) (by kernel_rfl) (fun _ _ _ h => h) (Or.inl ⟨by rfl, ?_⟩) (by assumption) ?_
      rotate_left
      · intro w hSw
        try dsimp only at hSw
        go_simp
        try with_reducible rfl
      try simp only [Act.put, List.setIfInBounds_toArray, List.set_cons_zero, List.set_cons_succ]
      refine wpAnyH_ready (rs := [21]) (by kernel_rfl) (by simp) ?_
      refine AllReadyH.cons (o := { dst := some 94, op := Go.Op.call { callee := Go.Callee.value (Go.Operand.func 15), args := #[Go.Operand.tmp 93], argTypes := #[27] }, type := 4, pos := "law.go:52", after := #[{ on := 20, ground := Go.Ground.data }, { on := 18, ground := Go.Ground.chain }, { on := 18, ground := Go.Ground.guard }], guard := some (18, true) }) rfl (fun K hK => ?_) AllReadyH.nil
      go_simp
      refine (MT.out _).mono ?_
      rintro e v4 ⟨rfl, hbv4⟩
      have HBx := Lib.hid (bstep hHeld.2.2.2.2.2.2 hbv4)
      clear hHeld hbv4
      refine hK.out _ _ ?_ (fun hHeld => ?_)
      · exact keepN PX.out.1 PX.out.2.2 HBx.out
      clear hK K HBx
      try simp only [Act.put, List.setIfInBounds_toArray, List.set_cons_zero, List.set_cons_succ]
      refine wpAnyH_take (i := 22) (oi := { dst := some 95, op := Go.Op.pick (Go.Operand.tmp 91) (Go.Operand.tmp 94) (Go.Operand.const (Go.Value.bool false)), type := 4, pos := "law.go:52", after := #[{ on := 18, ground := Go.Ground.data }, { on := 21, ground := Go.Ground.data }, { on := 12, ground := Go.Ground.guard }], guard := some (12, false) }) (v := ?_) rfl (by kernel_rfl) (by kernel_rfl) (by kernel_rfl) (fun _ _ _ h => h) (Or.inl ⟨by rfl, ?_⟩) (by assumption) ?_
      rotate_left
      · intro w hSw
        try dsimp only at hSw
        go_simp
        try with_reducible rfl
      try simp only [Act.put, List.setIfInBounds_toArray, List.set_cons_zero, List.set_cons_succ]
      refine wpAnyH_take (i := 23) (oi := { dst := some 96, op := Go.Op.binOp Go.BinOp.neq 4 (Go.Operand.tmp 87) (Go.Operand.tmp 95) 4, type := 4, pos := "law.go:52", after := #[{ on := 14, ground := Go.Ground.data }, { on := 22, ground := Go.Ground.data }, { on := 12, ground := Go.Ground.guard }], guard := some (12, false) }) (v := ?_) rfl (by kernel_rfl) (by kernel_rfl) (by kernel_rfl) (fun _ _ _ h => h) (Or.inl ⟨by rfl, ?_⟩) (by assumption) ?_
      rotate_left
      · intro w hSw
        try dsimp only at hSw
        go_simp
        try with_reducible rfl
      try simp only [Act.put, List.setIfInBounds_toArray, List.set_cons_zero, List.set_cons_succ]
      refine wpAnyH_take (i := 24) (oi := { dst := some 97, op := Go.Op.pick (Go.Operand.tmp 85) (Go.Operand.const (Go.Value.bool true)) (Go.Operand.tmp 96), type := 4, pos := "law.go:52", after := #[{ on := 12, ground := Go.Ground.data }, { on := 23, ground := Go.Ground.data }], guard := none }) (v := ?_) rfl (by kernel_rfl) (by kernel_rfl) (by kernel_rfl) (fun _ _ _ h => h) (Or.inl ⟨by rfl, ?_⟩) (by assumption) ?_
      rotate_left
      · intro w hSw
        try dsimp only at hSw
        go_simp
        try with_reducible rfl
      try simp only [Act.put, List.setIfInBounds_toArray, List.set_cons_zero, List.set_cons_succ]
      refine wpAnyH_done (by kernel_rfl) ?_ _
      replace PX := Lib.hid (PX.out.below hHeld.2.2.2.2.2.2)
      replace PL := Lib.hid (PL.out.below hHeld.2.2.2.2.2.2)
      replace B := bstep B hHeld.2.2.2.2.2.2
      clear hHeld
      clear PX

      obtain ⟨⟨c0_0, c0_1, c0_2⟩, -, c0z⟩ := PL.out
      go_wp2_with fail
      refine (OC.out _).mono ?_
      rintro e w8 ⟨rfl, hb⟩
      replace PL := Lib.hid (PL.out.below hb)
      replace B := bstep B hb
      clear hb OC
      clear c0_0 c0_1 c0_2 c0z
      replace PL := Lib.hid (PL.out.alloc (MoC cy cm cd cs cz co))
      have PC := Lib.hid (HoldsN.new rfl : HoldsN (w8.alloc (MoC cy cm cd cs cz co)) w8.heap.size cy cm cd cs cz co)
      replace B := ballD1 B (MoC cy cm cd cs cz co)
      go_upto_region 14 with fail
      change Code.wp _ _ _ _ (w8.alloc (MoC cy cm cd cs cz co))
      generalize w8.alloc (MoC cy cm cd cs cz co) = w9 at *
      obtain ⟨gPC, hg⟩ : ∃ g, g = w8.heap.size := ⟨_, rfl⟩
      rw [← hg] at PC ⊢
      clear hg
      cases good
      · obtain ⟨rfl, rfl, rfl, rfl, rfl, rfl, any⟩ := hn.out (by trivial)
        clear hn hy
        obtain ⟨⟨c0_0, c0_1, c0_2⟩, -, c0z⟩ := PL.out
        obtain ⟨⟨c1_0, c1_1, c1_2, c1_3, c1_4, c1_5⟩, -, c1z⟩ := PC.out
        go_wp2_with fail
        refine (ML.out _).mono ?_
        rintro e w10 ⟨rfl, hb⟩
        replace PL := Lib.hid (PL.out.below hb)
        replace PC := Lib.hid (PC.out.below hb)
        replace B := bstep B hb
        clear hb ML
        clear c0_0 c0_1 c0_2 c0z c1_0 c1_1 c1_2 c1_3 c1_4 c1_5 c1z
        cases lm
        · obtain ⟨⟨c0_0, c0_1, c0_2⟩, -, c0z⟩ := PL.out
          obtain ⟨⟨c1_0, c1_1, c1_2, c1_3, c1_4, c1_5⟩, -, c1z⟩ := PC.out
          go_wp2
          go_ret
          exact ⟨rfl, B⟩
        · cases q1
          · cases q2
            · cases any
            · obtain ⟨⟨c0_0, c0_1, c0_2⟩, -, c0z⟩ := PL.out
              obtain ⟨⟨c1_0, c1_1, c1_2, c1_3, c1_4, c1_5⟩, -, c1z⟩ := PC.out
              go_wp2
              go_ret
              exact ⟨rfl, B⟩
          · obtain ⟨⟨c0_0, c0_1, c0_2⟩, -, c0z⟩ := PL.out
            obtain ⟨⟨c1_0, c1_1, c1_2, c1_3, c1_4, c1_5⟩, -, c1z⟩ := PC.out
            go_wp2
            go_ret
            exact ⟨rfl, B⟩
      · obtain ⟨rfl, rfl, IC0, MC0⟩ := hy.out (by trivial)
        clear hn hy
        have IC := Lib.hid IC0
        have MC := Lib.hid MC0
        clear IC0 MC0
        obtain ⟨⟨c0_0, c0_1, c0_2⟩, -, c0z⟩ := PL.out
        obtain ⟨⟨c1_0, c1_1, c1_2, c1_3, c1_4, c1_5⟩, -, c1z⟩ := PC.out
        go_wp2_with fail
        refine (IC.out _).mono ?_
        rintro e w10 ⟨rfl, hb⟩
        replace PL := Lib.hid (PL.out.below hb)
        replace PC := Lib.hid (PC.out.below hb)
        replace B := bstep B hb
        clear hb IC
        clear c0_0 c0_1 c0_2 c0z c1_0 c1_1 c1_2 c1_3 c1_4 c1_5 c1z
        obtain ⟨⟨c0_0, c0_1, c0_2⟩, -, c0z⟩ := PL.out
        obtain ⟨⟨c1_0, c1_1, c1_2, c1_3, c1_4, c1_5⟩, -, c1z⟩ := PC.out
        go_wp2_with fail
        refine (MC.out _).mono ?_
        rintro e w11 ⟨rfl, hb⟩
        replace PL := Lib.hid (PL.out.below hb)
        replace PC := Lib.hid (PC.out.below hb)
        replace B := bstep B hb
        clear hb MC
        clear c0_0 c0_1 c0_2 c0z c1_0 c1_1 c1_2 c1_3 c1_4 c1_5 c1z
        go_wp2
        go_ret
        exact ⟨rfl, B⟩
theorem momentInstants_walk (ry rm rd rs ro : Int) (rz : Bool) (xy xm xd xs : Int) (xz : Bool) (xo n ls : Int) (lz : Bool) (lo : Int) (w : World) : Calls Try.prog 3 #[Rw ry rm rd rs ro rz, Mo xy xm xd xs xz xo, .int .i64 n, Tm ls lz lo] w (Ret (.bool true) w) := by
  have MK := make8_any ry rm rd rs ro rz
  have day := make_day ry rm rd
  have may := makeM_may rs rz ro
  generalize mkD rd (lenI (ry.tmod 1000000000) (mkM rm)) = D at *
  generalize ry.tmod 1000000000 = Y at *
  generalize mkM rm = M at *
  generalize rs % 86400 = S at *
  generalize offM rz ro = O at *
  have rn := num_in day
  have r1 := may_sec may
  have r2 := may_off may
  have ri := inst_range day may
  have bk := inst_back day may
  have OA := ofN_yes (instI Y M D S O) S rz O Y M D may (by omega) day bk.1.symm
  rw [bk.2] at OA
  have f1 : wrap64 (86400 * numI Y M D) = 86400 * numI Y M D := I64.wrap' (by unfold I64; omega)
  have f2 : wrap64 (86400 * numI Y M D + S) = 86400 * numI Y M D + S := I64.wrap' (by unfold I64; omega)
  have f3 : wrap64 (86400 * numI Y M D + S - O) = instI Y M D S O := by rw [I64.wrap' (by unfold I64; omega)]; unfold instI; omega
  have g1 : IntKind.i64.wrap (86400 * numI Y M D) = 86400 * numI Y M D := I64.wrap (by unfold I64; omega)
  have g2 : IntKind.i64.wrap (86400 * numI Y M D + S) = 86400 * numI Y M D + S := I64.wrap (by unfold I64; omega)
  have g3 : IntKind.i64.wrap (86400 * numI Y M D + S - O) = instI Y M D S O := by rw [I64.wrap (by unfold I64; omega)]; unfold instI; omega
  have hi : mayN xy xm xd xs xz xo = false → insV xy xm xd xs xz xo = 0 := fun h => by simp [insV, h]
  rcases ofN_some n ls lz lo with ⟨OC, none⟩ | ⟨cy, cm, cd, dc, kl, en, rn', OC⟩
  · refine instants_walk ry rm rd rs ro rz Y M D S O _ _ _ _ xy xm xd xs xz xo _ n ls lz lo 0 0 0 0 false 0 _ _ _ false _ _ _ MK (instant_yes Y M D S rz O day may) (numberR_any Y M D day) f1 f2 f3 g1 g2 g3 OA (instant_any xy xm xd xs xz xo) hi rfl (mayN_any xy xm xd xs xz xo) (mayDay_any xy xm xd) (mayM_any xs xz xo) OC (mayM_any ls lz lo) rfl rfl (fun _ => ⟨rfl, rfl, rfl, rfl, rfl, rfl, ?_⟩) (fun c => by cases c) w
    rcases none with h | h | h <;> simp [h]
  · have kc : mayM ((n + lo) % 86400) lz lo = true := by
      have h1 := Int.emod_nonneg (n + lo) (show (86400 : Int) ≠ 0 by decide)
      have h2 := Int.emod_lt_of_pos (n + lo) (show (0 : Int) < 86400 by decide)
      unfold mayM at kl ⊢
      simp only [Bool.and_eq_true, decide_eq_true_eq] at kl ⊢
      exact ⟨⟨⟨⟨by omega, by omega⟩, kl.1.1.2⟩, kl.1.2⟩, kl.2⟩
    have IC := instant_yes cy cm cd ((n + lo) % 86400) lz lo dc kc
    have MC := mayN_any cy cm cd ((n + lo) % 86400) lz lo
    rw [mayN_of dc kc] at MC
    rw [show instI cy cm cd ((n + lo) % 86400) lo = n by have := Int.emod_add_mul_ediv (n + lo) 86400; unfold instI; omega] at IC
    exact instants_walk ry rm rd rs ro rz Y M D S O _ _ _ _ xy xm xd xs xz xo _ n ls lz lo cy cm cd _ lz lo _ _ _ true _ _ _ MK (instant_yes Y M D S rz O day may) (numberR_any Y M D day) f1 f2 f3 g1 g2 g3 OA (instant_any xy xm xd xs xz xo) hi rfl (mayN_any xy xm xd xs xz xo) (mayDay_any xy xm xd) (mayM_any xs xz xo) OC (mayM_any ls lz lo) rfl rfl (fun c => by cases c) (fun _ => ⟨rfl, rfl, IC, MC⟩) w
end Go.Proofs.Ytelgnfkjldghdaa

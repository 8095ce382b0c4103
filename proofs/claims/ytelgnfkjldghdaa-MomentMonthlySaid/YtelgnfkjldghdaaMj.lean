/-
  The statement MomentMonthly, walked: it answers true.
-/
import Derived.Test.YtelgnfkjldghdaaMk
namespace Go.Proofs.Ytelgnfkjldghdaa
open Go.RowKit

set_option linter.unusedSimpArgs false in
set_option linter.unusedVariables false in
set_option maxRecDepth 100000 in
set_option maxHeartbeats 16000000 in
theorem monthly_skip (x0 x1 x2 x3 x4 : Int) (xz : Bool) (y0 y1 y2 y3 y4 : Int) (yz : Bool) (ay am ad as' ao by_ bm bd bs n m k : Int) (p1 p2 q1 q2 : Bool) (e1 : decide (0 < k) = p1) (e2 : decide (28 < ad) = p2) (e3 : decide (k ≤ 0) = q1) (e4 : decide (n ≤ 0) = q2) (any : (p1 || p2) = true) (all : (q1 || q2) = true) (MA0 : ∀ w : World, Calls Try.prog 9 #[Rw x0 x1 x2 x3 x4 xz] w (Ret (Mo ay am ad as' xz ao) w)) (MB0 : ∀ w : World, Calls Try.prog 9 #[Rw y0 y1 y2 y3 x4 xz] w (Ret (Mo by_ bm bd bs xz ao) w)) (N10 : ∀ w : World, Calls Try.prog 21 #[Mo ay am ad as' xz ao, Mo by_ bm bd bs xz ao] w (Ret (.tuple #[.int .i64 n, .bool true]) w)) (N20 : ∀ w : World, Calls Try.prog 21 #[Mo by_ bm bd bs xz ao, Mo ay am ad as' xz ao] w (Ret (.tuple #[.int .i64 m, .bool true]) w)) (f1 : wrap64 (-m) = n) (g1 : IntKind.i64.wrap (-m) = n) (CC0 : ∀ w : World, Calls Try.prog 20 #[Mo ay am ad as' xz ao, Mo by_ bm bd bs xz ao] w (Ret (.tuple #[.int .i64 k, .bool true]) w)) (w : World) : Calls Try.prog 7 #[Rw x0 x1 x2 x3 x4 xz, Rw y0 y1 y2 y3 y4 yz] w (Ret (.bool true) w) := by
  have AW := Lib.hid awake8
  have MA := Lib.hid MA0
  have MB := Lib.hid MB0
  have N1 := Lib.hid N10
  have N2 := Lib.hid N20
  have CC := Lib.hid CC0
  clear MA0 MB0 N10 N20 CC0
  go_enter Try.func7, Try.ntmps7
  go_upto_region 1 with fail
  have RX := Lib.hid (HoldsR.alloc (HoldsR.new rfl) _ : HoldsR ((w.alloc (RwC x0 x1 x2 x3 x4 xz)).alloc (RwC y0 y1 y2 y3 y4 yz)) w.heap.size x0 x1 x2 x3 x4 xz)
  have RY := Lib.hid (HoldsR.new (by simp) : HoldsR ((w.alloc (RwC x0 x1 x2 x3 x4 xz)).alloc (RwC y0 y1 y2 y3 y4 yz)) (w.heap.size + 1) y0 y1 y2 y3 y4 yz)
  have B := ballD1 (ballD1 (Below.refl w.heap.size w) (RwC x0 x1 x2 x3 x4 xz)) (RwC y0 y1 y2 y3 y4 yz)
  change Code.wp _ _ _ _ ((w.alloc (RwC x0 x1 x2 x3 x4 xz)).alloc (RwC y0 y1 y2 y3 y4 yz))
  generalize ((w.alloc (RwC x0 x1 x2 x3 x4 xz)).alloc (RwC y0 y1 y2 y3 y4 yz)) = w0 at *
  obtain ⟨⟨c0_0, c0_1, c0_2, c0_3, c0_4, c0_5⟩, -, c0z⟩ := RX.out
  obtain ⟨⟨c1_0, c1_1, c1_2, c1_3, c1_4, c1_5⟩, -, c1z⟩ := RY.out
  go_wp2_with fail
  refine (AW.out _).mono ?_
  rintro e w1 ⟨rfl, hb⟩
  replace RX := Lib.hid (RX.out.below hb)
  replace RY := Lib.hid (RY.out.below hb)
  replace B := bstep B hb
  clear hb AW
  clear c0_0 c0_1 c0_2 c0_3 c0_4 c0_5 c0z c1_0 c1_1 c1_2 c1_3 c1_4 c1_5 c1z
  go_upto_region 3 with fail
  generalize w1 = V at *
  refine wp_region_held_drew (S := fun w' => w'.cell? ⟨w.heap.size, 0, none⟩ = some (.int .i64 x0) ∧ w'.cell? ⟨w.heap.size, 1, none⟩ = some (.int .i64 x1) ∧ w'.cell? ⟨w.heap.size, 2, none⟩ = some (.int .i64 x2) ∧ w'.cell? ⟨w.heap.size, 3, none⟩ = some (.int .i64 x3) ∧ w'.cell? ⟨w.heap.size, 4, none⟩ = some (.int .i64 x4) ∧ w'.cell? ⟨w.heap.size, 5, none⟩ = some (.bool xz) ∧ Below w.heap.size w w') (by kernel_rfl) ?_ (fun hHeld => ?_)
  · exact ⟨RX.out.1.1, RX.out.1.2.1, RX.out.1.2.2.1, RX.out.1.2.2.2.1, RX.out.1.2.2.2.2.1, RX.out.1.2.2.2.2.2, B.drew⟩
  replace RX := Lib.hid RX.out.drew
  replace RY := Lib.hid RY.out.drew
  generalize V.drew = v0 at *
  refine wpAnyH_take (i := 0) (oi := { dst := some 23, op := Go.Op.fieldAddr 23 (Go.Operand.tmp 2) 5, type := 0, pos := "law.go:118", after := #[], guard := none }) (v := ?_) rfl (by kernel_rfl) (by kernel_rfl) (by kernel_rfl) (fun _ _ _ h => h) (Or.inl ⟨by rfl, ?_⟩) (by assumption) ?_
  rotate_left
  · intro w hSw
    try dsimp only at hSw
    go_simp
    try with_reducible rfl
  try simp only [Act.put, List.setIfInBounds_toArray, List.set_cons_zero, List.set_cons_succ]
  refine wpAnyH_take (i := 2) (oi := { dst := some 25, op := Go.Op.fieldAddr 23 (Go.Operand.tmp 2) 4, type := 0, pos := "law.go:118", after := #[{ on := 5, ground := Go.Ground.gcOnly Go.Departure.lateStores }], guard := none }) (v := ?_) rfl (by kernel_rfl) (by kernel_rfl) (by kernel_rfl) (fun _ _ _ h => h) (Or.inl ⟨by rfl, ?_⟩) (by assumption) ?_
  rotate_left
  · intro w hSw
    try dsimp only at hSw
    go_simp
    try with_reducible rfl
  try simp only [Act.put, List.setIfInBounds_toArray, List.set_cons_zero, List.set_cons_succ]
  refine wpAnyH_take (i := 1) (oi := { dst := some 24, op := Go.Op.load 4 (Go.Operand.tmp 23), type := 4, pos := "law.go:118", after := #[{ on := 0, ground := Go.Ground.data }], guard := none }) (v := ?_) rfl (by kernel_rfl) (by kernel_rfl) (by kernel_rfl) (fun _ _ _ h => h) (Or.inl ⟨by rfl, ?_⟩) (by assumption) ?_
  rotate_left
  · intro w hSw
    try dsimp only at hSw
    go_simp
    try with_reducible rfl
  try simp only [Act.put, List.setIfInBounds_toArray, List.set_cons_zero, List.set_cons_succ]
  refine wpAnyH_take (i := 3) (oi := { dst := some 26, op := Go.Op.load 3 (Go.Operand.tmp 25), type := 3, pos := "law.go:118", after := #[{ on := 2, ground := Go.Ground.data }, { on := 5, ground := Go.Ground.gcOnly Go.Departure.lateStores }], guard := none }) (v := ?_) rfl (by kernel_rfl) (by kernel_rfl) (by kernel_rfl) (fun _ _ _ h => h) (Or.inl ⟨by rfl, ?_⟩) (by assumption) ?_
  rotate_left
  · intro w hSw
    try dsimp only at hSw
    go_simp
    try with_reducible rfl
  try simp only [Act.put, List.setIfInBounds_toArray, List.set_cons_zero, List.set_cons_succ]
  refine wpAnyH_take (i := 4) (oi := { dst := some 27, op := Go.Op.fieldAddr 23 (Go.Operand.tmp 3) 5, type := 0, pos := "law.go:118", after := #[{ on := 0, ground := Go.Ground.phase }, { on := 1, ground := Go.Ground.phase }, { on := 2, ground := Go.Ground.textOnly Go.Departure.lateStores }, { on := 3, ground := Go.Ground.textOnly Go.Departure.lateStores }], guard := none }) (v := ?_) rfl (by kernel_rfl) (by kernel_rfl) (by kernel_rfl) (fun _ _ _ h => h) (Or.inl ⟨by rfl, ?_⟩) (by assumption) ?_
  rotate_left
  · intro w hSw
    try dsimp only at hSw
    go_simp
    try with_reducible rfl
  try simp only [Act.put, List.setIfInBounds_toArray, List.set_cons_zero, List.set_cons_succ]
  obtain ⟨⟨d0, d1, d2, d3, d4, d5⟩, ⟨f0, f1, f2, f3, f4, f5⟩, f6⟩ := id RY.out
  refine wpAnyH_ready (rs := [5]) (by kernel_rfl) (by simp) ?_
  refine AllReadyH.cons (o := { dst := none, op := Go.Op.store 4 (Go.Operand.tmp 27) (Go.Operand.tmp 24), type := 0, pos := "law.go:118", after := #[{ on := 4, ground := Go.Ground.data }, { on := 1, ground := Go.Ground.data }, { on := 0, ground := Go.Ground.phase }, { on := 1, ground := Go.Ground.phase }, { on := 2, ground := Go.Ground.textOnly Go.Departure.lateStores }, { on := 3, ground := Go.Ground.textOnly Go.Departure.lateStores }], guard := none }) rfl (fun K hK => ?_) AllReadyH.nil
  go_simp
  clear f0 f1 f2 f3 f4 f5 f6 d0 d1 d2 d3 d4 d5
  have HBx := Lib.hid (hHeld.2.2.2.2.2.2.setCell (p := ⟨w.heap.size + 1, 5, none⟩) (by show w.heap.size ≤ w.heap.size + 1; omega) (.bool xz))
  replace RX := Lib.hid (RX.out.far (p := ⟨w.heap.size + 1, 5, none⟩) (by show w.heap.size ≠ w.heap.size + 1; omega) (.bool xz))
  replace RY := Lib.hid (RY.out.put5 (z' := xz))
  clear hHeld
  refine hK.out _ _ ?_ (fun hHeld => ?_)
  · exact ⟨RX.out.1.1, RX.out.1.2.1, RX.out.1.2.2.1, RX.out.1.2.2.2.1, RX.out.1.2.2.2.2.1, RX.out.1.2.2.2.2.2, HBx.out⟩
  clear hK K HBx
  try simp only [Act.put, List.setIfInBounds_toArray, List.set_cons_zero, List.set_cons_succ]
  generalize (v0.setCell ⟨w.heap.size + 1, 5, none⟩ (.bool xz)) = v1 at *
  refine wpAnyH_take (i := 6) (oi := { dst := some 28, op := Go.Op.fieldAddr 23 (Go.Operand.tmp 3) 4, type := 0, pos := "law.go:118", after := #[{ on := 0, ground := Go.Ground.phase }, { on := 1, ground := Go.Ground.phase }, { on := 2, ground := Go.Ground.phase }, { on := 3, ground := Go.Ground.phase }, { on := 4, ground := Go.Ground.phase }, { on := 5, ground := Go.Ground.phase }], guard := none }) (v := ?_) rfl (by kernel_rfl) (by kernel_rfl) (by kernel_rfl) (fun _ _ _ h => h) (Or.inl ⟨by rfl, ?_⟩) (by assumption) ?_
  rotate_left
  · intro w hSw
    try dsimp only at hSw
    go_simp
    try with_reducible rfl
  try simp only [Act.put, List.setIfInBounds_toArray, List.set_cons_zero, List.set_cons_succ]
  obtain ⟨⟨d0, d1, d2, d3, d4, d5⟩, ⟨f0, f1, f2, f3, f4, f5⟩, f6⟩ := id RY.out
  refine wpAnyH_ready (rs := [7]) (by kernel_rfl) (by simp) ?_
  refine AllReadyH.cons (o := { dst := none, op := Go.Op.store 3 (Go.Operand.tmp 28) (Go.Operand.tmp 26), type := 0, pos := "law.go:118", after := #[{ on := 6, ground := Go.Ground.data }, { on := 3, ground := Go.Ground.data }, { on := 5, ground := Go.Ground.chain }, { on := 0, ground := Go.Ground.phase }, { on := 1, ground := Go.Ground.phase }, { on := 2, ground := Go.Ground.phase }, { on := 3, ground := Go.Ground.phase }, { on := 4, ground := Go.Ground.phase }, { on := 5, ground := Go.Ground.phase }], guard := none }) rfl (fun K hK => ?_) AllReadyH.nil
  go_simp
  clear f0 f1 f2 f3 f4 f5 f6 d0 d1 d2 d3 d4 d5
  have HBx := Lib.hid (hHeld.2.2.2.2.2.2.setCell (p := ⟨w.heap.size + 1, 4, none⟩) (by show w.heap.size ≤ w.heap.size + 1; omega) (.int .i64 x4))
  replace RX := Lib.hid (RX.out.far (p := ⟨w.heap.size + 1, 4, none⟩) (by show w.heap.size ≠ w.heap.size + 1; omega) (.int .i64 x4))
  replace RY := Lib.hid (RY.out.put4 (o' := x4))
  clear hHeld
  refine hK.out _ _ ?_ (fun hHeld => ?_)
  · exact ⟨RX.out.1.1, RX.out.1.2.1, RX.out.1.2.2.1, RX.out.1.2.2.2.1, RX.out.1.2.2.2.2.1, RX.out.1.2.2.2.2.2, HBx.out⟩
  clear hK K HBx
  try simp only [Act.put, List.setIfInBounds_toArray, List.set_cons_zero, List.set_cons_succ]
  generalize (v1.setCell ⟨w.heap.size + 1, 4, none⟩ (.int .i64 x4)) = v2 at *
  refine wpAnyH_done (by kernel_rfl) ?_ _
  replace B := hHeld.2.2.2.2.2.2
  clear hHeld
  go_upto_region 4 with fail
  clear V
  generalize v2 = V at *
  have sz : w.heap.size + 1 < V.heap.size := RY.out.2.2
  refine region_via (fun a a' w' => ∃ gA gB : Nat, a' = ((((((a.put (some 29) (Rw x0 x1 x2 x3 x4 xz)).put (some 30) (Mo ay am ad as' xz ao)).put (some 31) (Rw y0 y1 y2 y3 x4 xz)).put (some 32) (Mo by_ bm bd bs xz ao)).put (some 5) (.pointer (some ⟨gA, 0, none⟩))).put (some 6) (.pointer (some ⟨gB, 0, none⟩))) ∧ HoldsR w' w.heap.size x0 x1 x2 x3 x4 xz ∧ HoldsR w' (w.heap.size + 1) y0 y1 y2 y3 x4 xz ∧ HoldsN w' gA ay am ad as' xz ao ∧ HoldsN w' gB by_ bm bd bs xz ao ∧ V.heap.size ≤ gA ∧ V.heap.size ≤ gB ∧ Below w.heap.size w w') ?_ ?_
  · refine wp_region_held_drew (S := fun w' => w'.cell? ⟨w.heap.size, 0, none⟩ = some (.int .i64 x0) ∧ w'.cell? ⟨w.heap.size, 1, none⟩ = some (.int .i64 x1) ∧ w'.cell? ⟨w.heap.size, 2, none⟩ = some (.int .i64 x2) ∧ w'.cell? ⟨w.heap.size, 3, none⟩ = some (.int .i64 x3) ∧ w'.cell? ⟨w.heap.size, 4, none⟩ = some (.int .i64 x4) ∧ w'.cell? ⟨w.heap.size, 5, none⟩ = some (.bool xz) ∧ w'.cell? ⟨(w.heap.size + 1), 0, none⟩ = some (.int .i64 y0) ∧ w'.cell? ⟨(w.heap.size + 1), 1, none⟩ = some (.int .i64 y1) ∧ w'.cell? ⟨(w.heap.size + 1), 2, none⟩ = some (.int .i64 y2) ∧ w'.cell? ⟨(w.heap.size + 1), 3, none⟩ = some (.int .i64 y3) ∧ w'.cell? ⟨(w.heap.size + 1), 4, none⟩ = some (.int .i64 x4) ∧ w'.cell? ⟨(w.heap.size + 1), 5, none⟩ = some (.bool xz) ∧ Below w.heap.size w w') (by kernel_rfl) ?_ (fun hHeld => ?_)
    · exact ⟨RX.out.1.1, RX.out.1.2.1, RX.out.1.2.2.1, RX.out.1.2.2.2.1, RX.out.1.2.2.2.2.1, RX.out.1.2.2.2.2.2, RY.out.1.1, RY.out.1.2.1, RY.out.1.2.2.1, RY.out.1.2.2.2.1, RY.out.1.2.2.2.2.1, RY.out.1.2.2.2.2.2, B.drew⟩
    replace RX := Lib.hid RX.out.drew
    replace RY := Lib.hid RY.out.drew
    have le0 : V.heap.size ≤ V.drew.heap.size := Nat.le_refl _
    generalize V.drew = v0 at *
    refine wpAnyH_take (i := 0) (oi := { dst := some 29, op := Go.Op.load 23 (Go.Operand.tmp 2), type := 23, pos := "law.go:119", after := #[], guard := none }) (v := ?_) rfl (by kernel_rfl) (by kernel_rfl) (by kernel_rfl) (fun _ _ _ h => h) (Or.inl ⟨by rfl, ?_⟩) (by assumption) ?_
    rotate_left
    · intro w hSw
      try dsimp only at hSw
      go_simp
      try with_reducible rfl
    try simp only [Act.put, List.setIfInBounds_toArray, List.set_cons_zero, List.set_cons_succ]
    refine wpAnyH_take (i := 2) (oi := { dst := some 31, op := Go.Op.load 23 (Go.Operand.tmp 3), type := 23, pos := "law.go:119", after := #[], guard := none }) (v := ?_) rfl (by kernel_rfl) (by kernel_rfl) (by kernel_rfl) (fun _ _ _ h => h) (Or.inl ⟨by rfl, ?_⟩) (by assumption) ?_
    rotate_left
    · intro w hSw
      try dsimp only at hSw
      go_simp
      try with_reducible rfl
    try simp only [Act.put, List.setIfInBounds_toArray, List.set_cons_zero, List.set_cons_succ]
    refine wpAnyH_ready (rs := [1, 4, 5]) (by kernel_rfl) (by simp) ?_
    refine AllReadyH.cons (o := { dst := some 30, op := Go.Op.call { callee := Go.Callee.value (Go.Operand.func 9), args := #[Go.Operand.tmp 29], argTypes := #[23] }, type := 29, pos := "law.go:119", after := #[{ on := 0, ground := Go.Ground.data }], guard := none }) rfl (fun K hK => ?_) (AllReadyH.cons (o := { dst := some 5, op := Go.Op.alloc 29, type := 0, pos := "law.go:119", after := #[], guard := none }) rfl (fun K hK => ?_) (AllReadyH.cons (o := { dst := some 6, op := Go.Op.alloc 29, type := 0, pos := "law.go:119", after := #[], guard := none }) rfl (fun K hK => ?_) AllReadyH.nil))
    · go_simp
      refine (MA.out _).mono ?_
      rintro e v1 ⟨rfl, hbv⟩
      replace RX := Lib.hid (RX.out.below hbv)
      replace RY := Lib.hid (RY.out.below hbv)
      have HBx := Lib.hid (bstep hHeld.2.2.2.2.2.2.2.2.2.2.2.2 hbv)
      replace le0 := Nat.le_trans le0 hbv.size
      clear hHeld hbv
      refine hK.out _ _ ?_ (fun hHeld => ?_)
      · exact ⟨RX.out.1.1, RX.out.1.2.1, RX.out.1.2.2.1, RX.out.1.2.2.2.1, RX.out.1.2.2.2.2.1, RX.out.1.2.2.2.2.2, RY.out.1.1, RY.out.1.2.1, RY.out.1.2.2.1, RY.out.1.2.2.2.1, RY.out.1.2.2.2.2.1, RY.out.1.2.2.2.2.2, HBx.out⟩
      clear hK K HBx
      try simp only [Act.put, List.setIfInBounds_toArray, List.set_cons_zero, List.set_cons_succ]
      refine wpAnyH_ready (rs := [3, 4, 5]) (by kernel_rfl) (by simp) ?_
      refine AllReadyH.cons (o := { dst := some 32, op := Go.Op.call { callee := Go.Callee.value (Go.Operand.func 9), args := #[Go.Operand.tmp 31], argTypes := #[23] }, type := 29, pos := "law.go:119", after := #[{ on := 2, ground := Go.Ground.data }, { on := 1, ground := Go.Ground.chain }], guard := none }) rfl (fun K hK => ?_) (AllReadyH.cons (o := { dst := some 5, op := Go.Op.alloc 29, type := 0, pos := "law.go:119", after := #[], guard := none }) rfl (fun K hK => ?_) (AllReadyH.cons (o := { dst := some 6, op := Go.Op.alloc 29, type := 0, pos := "law.go:119", after := #[], guard := none }) rfl (fun K hK => ?_) AllReadyH.nil))
      · go_simp
        refine (MB.out _).mono ?_
        rintro e v2 ⟨rfl, hbv⟩
        replace RX := Lib.hid (RX.out.below hbv)
        replace RY := Lib.hid (RY.out.below hbv)
        have HBx := Lib.hid (bstep hHeld.2.2.2.2.2.2.2.2.2.2.2.2 hbv)
        replace le0 := Nat.le_trans le0 hbv.size
        clear hHeld hbv
        refine hK.out _ _ ?_ (fun hHeld => ?_)
        · exact ⟨RX.out.1.1, RX.out.1.2.1, RX.out.1.2.2.1, RX.out.1.2.2.2.1, RX.out.1.2.2.2.2.1, RX.out.1.2.2.2.2.2, RY.out.1.1, RY.out.1.2.1, RY.out.1.2.2.1, RY.out.1.2.2.2.1, RY.out.1.2.2.2.2.1, RY.out.1.2.2.2.2.2, HBx.out⟩
        clear hK K HBx
        try simp only [Act.put, List.setIfInBounds_toArray, List.set_cons_zero, List.set_cons_succ]
        refine wpAnyH_ready (rs := [4, 5]) (by kernel_rfl) (by simp) ?_
        refine AllReadyH.cons (o := { dst := some 5, op := Go.Op.alloc 29, type := 0, pos := "law.go:119", after := #[], guard := none }) rfl (fun K hK => ?_) (AllReadyH.cons (o := { dst := some 6, op := Go.Op.alloc 29, type := 0, pos := "law.go:119", after := #[], guard := none }) rfl (fun K hK => ?_) AllReadyH.nil)
        · go_simp
          replace RX := Lib.hid (RX.out.alloc (MoC 0 0 0 0 false 0))
          replace RY := Lib.hid (RY.out.alloc (MoC 0 0 0 0 false 0))
          have PA := Lib.hid (HoldsN.new rfl : HoldsN (v2.alloc (MoC 0 0 0 0 false 0)) v2.heap.size 0 0 0 0 false 0)
          have lePA := le0
          replace le0 := Nat.le_trans le0 (Below.alloc (Below.refl v2.heap.size v2) (Nat.le_refl _) (MoC 0 0 0 0 false 0)).size
          have HBx := Lib.hid (ballD1 hHeld.2.2.2.2.2.2.2.2.2.2.2.2 (MoC 0 0 0 0 false 0))
          clear hHeld
          refine hK.out _ _ ?_ (fun hHeld => ?_)
          · exact ⟨RX.out.1.1, RX.out.1.2.1, RX.out.1.2.2.1, RX.out.1.2.2.2.1, RX.out.1.2.2.2.2.1, RX.out.1.2.2.2.2.2, RY.out.1.1, RY.out.1.2.1, RY.out.1.2.2.1, RY.out.1.2.2.2.1, RY.out.1.2.2.2.2.1, RY.out.1.2.2.2.2.2, HBx.out⟩
          clear hK K HBx
          try simp only [Act.put, List.setIfInBounds_toArray, List.set_cons_zero, List.set_cons_succ]
          generalize v2.alloc (MoC 0 0 0 0 false 0) = v3 at *
          obtain ⟨gA, hg⟩ : ∃ g, g = v2.heap.size := ⟨_, rfl⟩
          rw [← hg] at PA lePA ⊢
          clear hg
          refine wpAnyH_ready (rs := [5]) (by kernel_rfl) (by simp) ?_
          refine AllReadyH.cons (o := { dst := some 6, op := Go.Op.alloc 29, type := 0, pos := "law.go:119", after := #[], guard := none }) rfl (fun K hK => ?_) AllReadyH.nil
          go_simp
          have ne := Nat.ne_of_lt PA.out.2.2
          replace RX := Lib.hid (RX.out.alloc (MoC 0 0 0 0 false 0))
          replace RY := Lib.hid (RY.out.alloc (MoC 0 0 0 0 false 0))
          replace PA := Lib.hid (PA.out.alloc (MoC 0 0 0 0 false 0))
          have PB := Lib.hid (HoldsN.new rfl : HoldsN (v3.alloc (MoC 0 0 0 0 false 0)) v3.heap.size 0 0 0 0 false 0)
          have lePB := le0
          replace le0 := Nat.le_trans le0 (Below.alloc (Below.refl v3.heap.size v3) (Nat.le_refl _) (MoC 0 0 0 0 false 0)).size
          have HBx := Lib.hid (ballD1 hHeld.2.2.2.2.2.2.2.2.2.2.2.2 (MoC 0 0 0 0 false 0))
          clear hHeld
          refine hK.out _ _ ?_ (fun hHeld => ?_)
          · exact ⟨RX.out.1.1, RX.out.1.2.1, RX.out.1.2.2.1, RX.out.1.2.2.2.1, RX.out.1.2.2.2.2.1, RX.out.1.2.2.2.2.2, RY.out.1.1, RY.out.1.2.1, RY.out.1.2.2.1, RY.out.1.2.2.2.1, RY.out.1.2.2.2.2.1, RY.out.1.2.2.2.2.2, HBx.out⟩
          clear hK K HBx
          try simp only [Act.put, List.setIfInBounds_toArray, List.set_cons_zero, List.set_cons_succ]
          generalize v3.alloc (MoC 0 0 0 0 false 0) = v4 at *
          obtain ⟨gB, hg⟩ : ∃ g, g = v3.heap.size := ⟨_, rfl⟩
          rw [← hg] at PB lePB ne ⊢
          clear hg
          obtain ⟨⟨d0, d1, d2, d3, d4, d5⟩, ⟨f0, f1, f2, f3, f4, f5⟩, f6⟩ := id PA.out
          refine wpAnyH_ready (rs := [6]) (by kernel_rfl) (by simp) ?_
          refine AllReadyH.cons (o := { dst := none, op := Go.Op.store 29 (Go.Operand.tmp 5) (Go.Operand.tmp 30), type := 0, pos := "law.go:119", after := #[{ on := 4, ground := Go.Ground.data }, { on := 1, ground := Go.Ground.data }, { on := 3, ground := Go.Ground.chain }, { on := 0, ground := Go.Ground.phase }, { on := 1, ground := Go.Ground.phase }, { on := 2, ground := Go.Ground.textOnly Go.Departure.lateStores }, { on := 3, ground := Go.Ground.textOnly Go.Departure.lateStoresUnsure }, { on := 4, ground := Go.Ground.phase }, { on := 5, ground := Go.Ground.phase }], guard := none }) rfl (fun K hK => ?_) AllReadyH.nil
          go_simp
          clear f0 f1 f2 f3 f4 f5 f6 d0 d1 d2 d3 d4 d5
          have HBx := Lib.hid (B6 hHeld.2.2.2.2.2.2.2.2.2.2.2.2 (g := gA) (by omega) (.int .i64 ay) (.int .i64 am) (.int .i64 ad) (.int .i64 as') (.bool xz) (.int .i64 ao))
          replace RX := Lib.hid (far6 RX.out (g := gA) (by omega) (.int .i64 ay) (.int .i64 am) (.int .i64 ad) (.int .i64 as') (.bool xz) (.int .i64 ao))
          replace RY := Lib.hid (far6 RY.out (g := gA) (by omega) (.int .i64 ay) (.int .i64 am) (.int .i64 ad) (.int .i64 as') (.bool xz) (.int .i64 ao))
          replace PB := Lib.hid (PB.out.far6 (g := gA) ne.symm (.int .i64 ay) (.int .i64 am) (.int .i64 ad) (.int .i64 as') (.bool xz) (.int .i64 ao))
          replace PA := Lib.hid (PA.out.put (y := ay) (m := am) (d := ad) (s := as') (z := xz) (o := ao))
          clear hHeld
          refine hK.out _ _ ?_ (fun hHeld => ?_)
          · exact ⟨RX.out.1.1, RX.out.1.2.1, RX.out.1.2.2.1, RX.out.1.2.2.2.1, RX.out.1.2.2.2.2.1, RX.out.1.2.2.2.2.2, RY.out.1.1, RY.out.1.2.1, RY.out.1.2.2.1, RY.out.1.2.2.2.1, RY.out.1.2.2.2.2.1, RY.out.1.2.2.2.2.2, HBx.out⟩
          clear hK K HBx
          try simp only [Act.put, List.setIfInBounds_toArray, List.set_cons_zero, List.set_cons_succ]
          obtain ⟨⟨d0, d1, d2, d3, d4, d5⟩, ⟨f0, f1, f2, f3, f4, f5⟩, f6⟩ := id PB.out
          refine wpAnyH_ready (rs := [7]) (by kernel_rfl) (by simp) ?_
          refine AllReadyH.cons (o := { dst := none, op := Go.Op.store 29 (Go.Operand.tmp 6) (Go.Operand.tmp 32), type := 0, pos := "law.go:119", after := #[{ on := 5, ground := Go.Ground.data }, { on := 3, ground := Go.Ground.data }, { on := 6, ground := Go.Ground.chain }, { on := 0, ground := Go.Ground.phase }, { on := 1, ground := Go.Ground.phase }, { on := 2, ground := Go.Ground.phase }, { on := 3, ground := Go.Ground.phase }, { on := 4, ground := Go.Ground.phase }, { on := 5, ground := Go.Ground.phase }, { on := 6, ground := Go.Ground.phase }], guard := none }) rfl (fun K hK => ?_) AllReadyH.nil
          go_simp
          clear f0 f1 f2 f3 f4 f5 f6 d0 d1 d2 d3 d4 d5
          have HBx := Lib.hid (B6 hHeld.2.2.2.2.2.2.2.2.2.2.2.2 (g := gB) (by omega) (.int .i64 by_) (.int .i64 bm) (.int .i64 bd) (.int .i64 bs) (.bool xz) (.int .i64 ao))
          replace RX := Lib.hid (far6 RX.out (g := gB) (by omega) (.int .i64 by_) (.int .i64 bm) (.int .i64 bd) (.int .i64 bs) (.bool xz) (.int .i64 ao))
          replace RY := Lib.hid (far6 RY.out (g := gB) (by omega) (.int .i64 by_) (.int .i64 bm) (.int .i64 bd) (.int .i64 bs) (.bool xz) (.int .i64 ao))
          replace PA := Lib.hid (PA.out.far6 (g := gB) ne (.int .i64 by_) (.int .i64 bm) (.int .i64 bd) (.int .i64 bs) (.bool xz) (.int .i64 ao))
          replace PB := Lib.hid (PB.out.put (y := by_) (m := bm) (d := bd) (s := bs) (z := xz) (o := ao))
          clear hHeld
          refine hK.out _ _ ?_ (fun hHeld => ?_)
          · exact ⟨RX.out.1.1, RX.out.1.2.1, RX.out.1.2.2.1, RX.out.1.2.2.2.1, RX.out.1.2.2.2.2.1, RX.out.1.2.2.2.2.2, RY.out.1.1, RY.out.1.2.1, RY.out.1.2.2.1, RY.out.1.2.2.2.1, RY.out.1.2.2.2.2.1, RY.out.1.2.2.2.2.2, HBx.out⟩
          clear hK K HBx
          try simp only [Act.put, List.setIfInBounds_toArray, List.set_cons_zero, List.set_cons_succ]
          refine wpAnyH_done (by kernel_rfl) ?_ _
          exact ⟨gA, gB, rfl, RX.out, RY.out, PA.out, PB.out, lePA, lePB, hHeld.2.2.2.2.2.2.2.2.2.2.2.2⟩
        · go_simp
          replace RX := Lib.hid (RX.out.alloc (MoC 0 0 0 0 false 0))
          replace RY := Lib.hid (RY.out.alloc (MoC 0 0 0 0 false 0))
          have PB := Lib.hid (HoldsN.new rfl : HoldsN (v2.alloc (MoC 0 0 0 0 false 0)) v2.heap.size 0 0 0 0 false 0)
          have lePB := le0
          replace le0 := Nat.le_trans le0 (Below.alloc (Below.refl v2.heap.size v2) (Nat.le_refl _) (MoC 0 0 0 0 false 0)).size
          have HBx := Lib.hid (ballD1 hHeld.2.2.2.2.2.2.2.2.2.2.2.2 (MoC 0 0 0 0 false 0))
          clear hHeld
          refine hK.out _ _ ?_ (fun hHeld => ?_)
          · exact ⟨RX.out.1.1, RX.out.1.2.1, RX.out.1.2.2.1, RX.out.1.2.2.2.1, RX.out.1.2.2.2.2.1, RX.out.1.2.2.2.2.2, RY.out.1.1, RY.out.1.2.1, RY.out.1.2.2.1, RY.out.1.2.2.2.1, RY.out.1.2.2.2.2.1, RY.out.1.2.2.2.2.2, HBx.out⟩
          clear hK K HBx
          try simp only [Act.put, List.setIfInBounds_toArray, List.set_cons_zero, List.set_cons_succ]
          generalize v2.alloc (MoC 0 0 0 0 false 0) = v3 at *
          obtain ⟨gB, hg⟩ : ∃ g, g = v2.heap.size := ⟨_, rfl⟩
          rw [← hg] at PB lePB ⊢
          clear hg
          refine wpAnyH_ready (rs := [4]) (by kernel_rfl) (by simp) ?_
          refine AllReadyH.cons (o := { dst := some 5, op := Go.Op.alloc 29, type := 0, pos := "law.go:119", after := #[], guard := none }) rfl (fun K hK => ?_) AllReadyH.nil
          go_simp
          have ne := Nat.ne_of_lt PB.out.2.2
          replace RX := Lib.hid (RX.out.alloc (MoC 0 0 0 0 false 0))
          replace RY := Lib.hid (RY.out.alloc (MoC 0 0 0 0 false 0))
          replace PB := Lib.hid (PB.out.alloc (MoC 0 0 0 0 false 0))
          have PA := Lib.hid (HoldsN.new rfl : HoldsN (v3.alloc (MoC 0 0 0 0 false 0)) v3.heap.size 0 0 0 0 false 0)
          have lePA := le0
          replace le0 := Nat.le_trans le0 (Below.alloc (Below.refl v3.heap.size v3) (Nat.le_refl _) (MoC 0 0 0 0 false 0)).size
          have HBx := Lib.hid (ballD1 hHeld.2.2.2.2.2.2.2.2.2.2.2.2 (MoC 0 0 0 0 false 0))
          clear hHeld
          refine hK.out _ _ ?_ (fun hHeld => ?_)
          · exact ⟨RX.out.1.1, RX.out.1.2.1, RX.out.1.2.2.1, RX.out.1.2.2.2.1, RX.out.1.2.2.2.2.1, RX.out.1.2.2.2.2.2, RY.out.1.1, RY.out.1.2.1, RY.out.1.2.2.1, RY.out.1.2.2.2.1, RY.out.1.2.2.2.2.1, RY.out.1.2.2.2.2.2, HBx.out⟩
          clear hK K HBx
          try simp only [Act.put, List.setIfInBounds_toArray, List.set_cons_zero, List.set_cons_succ]
          generalize v3.alloc (MoC 0 0 0 0 false 0) = v4 at *
          obtain ⟨gA, hg⟩ : ∃ g, g = v3.heap.size := ⟨_, rfl⟩
          rw [← hg] at PA lePA ne ⊢
          clear hg
          replace ne := ne.symm
          obtain ⟨⟨d0, d1, d2, d3, d4, d5⟩, ⟨f0, f1, f2, f3, f4, f5⟩, f6⟩ := id PA.out
          refine wpAnyH_ready (rs := [6]) (by kernel_rfl) (by simp) ?_
          refine AllReadyH.cons (o := { dst := none, op := Go.Op.store 29 (Go.Operand.tmp 5) (Go.Operand.tmp 30), type := 0, pos := "law.go:119", after := #[{ on := 4, ground := Go.Ground.data }, { on := 1, ground := Go.Ground.data }, { on := 3, ground := Go.Ground.chain }, { on := 0, ground := Go.Ground.phase }, { on := 1, ground := Go.Ground.phase }, { on := 2, ground := Go.Ground.textOnly Go.Departure.lateStores }, { on := 3, ground := Go.Ground.textOnly Go.Departure.lateStoresUnsure }, { on := 4, ground := Go.Ground.phase }, { on := 5, ground := Go.Ground.phase }], guard := none }) rfl (fun K hK => ?_) AllReadyH.nil
          go_simp
          clear f0 f1 f2 f3 f4 f5 f6 d0 d1 d2 d3 d4 d5
          have HBx := Lib.hid (B6 hHeld.2.2.2.2.2.2.2.2.2.2.2.2 (g := gA) (by omega) (.int .i64 ay) (.int .i64 am) (.int .i64 ad) (.int .i64 as') (.bool xz) (.int .i64 ao))
          replace RX := Lib.hid (far6 RX.out (g := gA) (by omega) (.int .i64 ay) (.int .i64 am) (.int .i64 ad) (.int .i64 as') (.bool xz) (.int .i64 ao))
          replace RY := Lib.hid (far6 RY.out (g := gA) (by omega) (.int .i64 ay) (.int .i64 am) (.int .i64 ad) (.int .i64 as') (.bool xz) (.int .i64 ao))
          replace PB := Lib.hid (PB.out.far6 (g := gA) ne.symm (.int .i64 ay) (.int .i64 am) (.int .i64 ad) (.int .i64 as') (.bool xz) (.int .i64 ao))
          replace PA := Lib.hid (PA.out.put (y := ay) (m := am) (d := ad) (s := as') (z := xz) (o := ao))
          clear hHeld
          refine hK.out _ _ ?_ (fun hHeld => ?_)
          · exact ⟨RX.out.1.1, RX.out.1.2.1, RX.out.1.2.2.1, RX.out.1.2.2.2.1, RX.out.1.2.2.2.2.1, RX.out.1.2.2.2.2.2, RY.out.1.1, RY.out.1.2.1, RY.out.1.2.2.1, RY.out.1.2.2.2.1, RY.out.1.2.2.2.2.1, RY.out.1.2.2.2.2.2, HBx.out⟩
          clear hK K HBx
          try simp only [Act.put, List.setIfInBounds_toArray, List.set_cons_zero, List.set_cons_succ]
          obtain ⟨⟨d0, d1, d2, d3, d4, d5⟩, ⟨f0, f1, f2, f3, f4, f5⟩, f6⟩ := id PB.out
          refine wpAnyH_ready (rs := [7]) (by kernel_rfl) (by simp) ?_
          refine AllReadyH.cons (o := { dst := none, op := Go.Op.store 29 (Go.Operand.tmp 6) (Go.Operand.tmp 32), type := 0, pos := "law.go:119", after := #[{ on := 5, ground := Go.Ground.data }, { on := 3, ground := Go.Ground.data }, { on := 6, ground := Go.Ground.chain }, { on := 0, ground := Go.Ground.phase }, { on := 1, ground := Go.Ground.phase }, { on := 2, ground := Go.Ground.phase }, { on := 3, ground := Go.Ground.phase }, { on := 4, ground := Go.Ground.phase }, { on := 5, ground := Go.Ground.phase }, { on := 6, ground := Go.Ground.phase }], guard := none }) rfl (fun K hK => ?_) AllReadyH.nil
          go_simp
          clear f0 f1 f2 f3 f4 f5 f6 d0 d1 d2 d3 d4 d5
          have HBx := Lib.hid (B6 hHeld.2.2.2.2.2.2.2.2.2.2.2.2 (g := gB) (by omega) (.int .i64 by_) (.int .i64 bm) (.int .i64 bd) (.int .i64 bs) (.bool xz) (.int .i64 ao))
          replace RX := Lib.hid (far6 RX.out (g := gB) (by omega) (.int .i64 by_) (.int .i64 bm) (.int .i64 bd) (.int .i64 bs) (.bool xz) (.int .i64 ao))
          replace RY := Lib.hid (far6 RY.out (g := gB) (by omega) (.int .i64 by_) (.int .i64 bm) (.int .i64 bd) (.int .i64 bs) (.bool xz) (.int .i64 ao))
          replace PA := Lib.hid (PA.out.far6 (g := gB) ne (.int .i64 by_) (.int .i64 bm) (.int .i64 bd) (.int .i64 bs) (.bool xz) (.int .i64 ao))
          replace PB := Lib.hid (PB.out.put (y := by_) (m := bm) (d := bd) (s := bs) (z := xz) (o := ao))
          clear hHeld
          refine hK.out _ _ ?_ (fun hHeld => ?_)
          · exact ⟨RX.out.1.1, RX.out.1.2.1, RX.out.1.2.2.1, RX.out.1.2.2.2.1, RX.out.1.2.2.2.2.1, RX.out.1.2.2.2.2.2, RY.out.1.1, RY.out.1.2.1, RY.out.1.2.2.1, RY.out.1.2.2.2.1, RY.out.1.2.2.2.2.1, RY.out.1.2.2.2.2.2, HBx.out⟩
          clear hK K HBx
          try simp only [Act.put, List.setIfInBounds_toArray, List.set_cons_zero, List.set_cons_succ]
          refine wpAnyH_done (by kernel_rfl) ?_ _
          exact ⟨gA, gB, rfl, RX.out, RY.out, PA.out, PB.out, lePA, lePB, hHeld.2.2.2.2.2.2.2.2.2.2.2.2⟩
      · go_simp
        replace RX := Lib.hid (RX.out.alloc (MoC 0 0 0 0 false 0))
        replace RY := Lib.hid (RY.out.alloc (MoC 0 0 0 0 false 0))
        have PA := Lib.hid (HoldsN.new rfl : HoldsN (v1.alloc (MoC 0 0 0 0 false 0)) v1.heap.size 0 0 0 0 false 0)
        have lePA := le0
        replace le0 := Nat.le_trans le0 (Below.alloc (Below.refl v1.heap.size v1) (Nat.le_refl _) (MoC 0 0 0 0 false 0)).size
        have HBx := Lib.hid (ballD1 hHeld.2.2.2.2.2.2.2.2.2.2.2.2 (MoC 0 0 0 0 false 0))
        clear hHeld
        refine hK.out _ _ ?_ (fun hHeld => ?_)
        · exact ⟨RX.out.1.1, RX.out.1.2.1, RX.out.1.2.2.1, RX.out.1.2.2.2.1, RX.out.1.2.2.2.2.1, RX.out.1.2.2.2.2.2, RY.out.1.1, RY.out.1.2.1, RY.out.1.2.2.1, RY.out.1.2.2.2.1, RY.out.1.2.2.2.2.1, RY.out.1.2.2.2.2.2, HBx.out⟩
        clear hK K HBx
        try simp only [Act.put, List.setIfInBounds_toArray, List.set_cons_zero, List.set_cons_succ]
        generalize v1.alloc (MoC 0 0 0 0 false 0) = v2 at *
        obtain ⟨gA, hg⟩ : ∃ g, g = v1.heap.size := ⟨_, rfl⟩
        rw [← hg] at PA lePA ⊢
        clear hg
        refine wpAnyH_ready (rs := [3, 5]) (by kernel_rfl) (by simp) ?_
        refine AllReadyH.cons (o := { dst := some 32, op := Go.Op.call { callee := Go.Callee.value (Go.Operand.func 9), args := #[Go.Operand.tmp 31], argTypes := #[23] }, type := 29, pos := "law.go:119", after := #[{ on := 2, ground := Go.Ground.data }, { on := 1, ground := Go.Ground.chain }], guard := none }) rfl (fun K hK => ?_) (AllReadyH.cons (o := { dst := some 6, op := Go.Op.alloc 29, type := 0, pos := "law.go:119", after := #[], guard := none }) rfl (fun K hK => ?_) AllReadyH.nil)
        · go_simp
          refine (MB.out _).mono ?_
          rintro e v3 ⟨rfl, hbv⟩
          replace RX := Lib.hid (RX.out.below hbv)
          replace RY := Lib.hid (RY.out.below hbv)
          replace PA := Lib.hid (PA.out.below hbv)
          have HBx := Lib.hid (bstep hHeld.2.2.2.2.2.2.2.2.2.2.2.2 hbv)
          replace le0 := Nat.le_trans le0 hbv.size
          clear hHeld hbv
          refine hK.out _ _ ?_ (fun hHeld => ?_)
          · exact ⟨RX.out.1.1, RX.out.1.2.1, RX.out.1.2.2.1, RX.out.1.2.2.2.1, RX.out.1.2.2.2.2.1, RX.out.1.2.2.2.2.2, RY.out.1.1, RY.out.1.2.1, RY.out.1.2.2.1, RY.out.1.2.2.2.1, RY.out.1.2.2.2.2.1, RY.out.1.2.2.2.2.2, HBx.out⟩
          clear hK K HBx
          try simp only [Act.put, List.setIfInBounds_toArray, List.set_cons_zero, List.set_cons_succ]
          refine wpAnyH_ready (rs := [5]) (by kernel_rfl) (by simp) ?_
          refine AllReadyH.cons (o := { dst := some 6, op := Go.Op.alloc 29, type := 0, pos := "law.go:119", after := #[], guard := none }) rfl (fun K hK => ?_) AllReadyH.nil
          go_simp
          have ne := Nat.ne_of_lt PA.out.2.2
          replace RX := Lib.hid (RX.out.alloc (MoC 0 0 0 0 false 0))
          replace RY := Lib.hid (RY.out.alloc (MoC 0 0 0 0 false 0))
          replace PA := Lib.hid (PA.out.alloc (MoC 0 0 0 0 false 0))
          have PB := Lib.hid (HoldsN.new rfl : HoldsN (v3.alloc (MoC 0 0 0 0 false 0)) v3.heap.size 0 0 0 0 false 0)
          have lePB := le0
          replace le0 := Nat.le_trans le0 (Below.alloc (Below.refl v3.heap.size v3) (Nat.le_refl _) (MoC 0 0 0 0 false 0)).size
          have HBx := Lib.hid (ballD1 hHeld.2.2.2.2.2.2.2.2.2.2.2.2 (MoC 0 0 0 0 false 0))
          clear hHeld
          refine hK.out _ _ ?_ (fun hHeld => ?_)
          · exact ⟨RX.out.1.1, RX.out.1.2.1, RX.out.1.2.2.1, RX.out.1.2.2.2.1, RX.out.1.2.2.2.2.1, RX.out.1.2.2.2.2.2, RY.out.1.1, RY.out.1.2.1, RY.out.1.2.2.1, RY.out.1.2.2.2.1, RY.out.1.2.2.2.2.1, RY.out.1.2.2.2.2.2, HBx.out⟩
          clear hK K HBx
          try simp only [Act.put, List.setIfInBounds_toArray, List.set_cons_zero, List.set_cons_succ]
          generalize v3.alloc (MoC 0 0 0 0 false 0) = v4 at *
          obtain ⟨gB, hg⟩ : ∃ g, g = v3.heap.size := ⟨_, rfl⟩
          rw [← hg] at PB lePB ne ⊢
          clear hg
          obtain ⟨⟨d0, d1, d2, d3, d4, d5⟩, ⟨f0, f1, f2, f3, f4, f5⟩, f6⟩ := id PA.out
          refine wpAnyH_ready (rs := [6]) (by kernel_rfl) (by simp) ?_
          refine AllReadyH.cons (o := { dst := none, op := Go.Op.store 29 (Go.Operand.tmp 5) (Go.Operand.tmp 30), type := 0, pos := "law.go:119", after := #[{ on := 4, ground := Go.Ground.data }, { on := 1, ground := Go.Ground.data }, { on := 3, ground := Go.Ground.chain }, { on := 0, ground := Go.Ground.phase }, { on := 1, ground := Go.Ground.phase }, { on := 2, ground := Go.Ground.textOnly Go.Departure.lateStores }, { on := 3, ground := Go.Ground.textOnly Go.Departure.lateStoresUnsure }, { on := 4, ground := Go.Ground.phase }, { on := 5, ground := Go.Ground.phase }], guard := none }) rfl (fun K hK => ?_) AllReadyH.nil
          go_simp
          clear f0 f1 f2 f3 f4 f5 f6 d0 d1 d2 d3 d4 d5
          have HBx := Lib.hid (B6 hHeld.2.2.2.2.2.2.2.2.2.2.2.2 (g := gA) (by omega) (.int .i64 ay) (.int .i64 am) (.int .i64 ad) (.int .i64 as') (.bool xz) (.int .i64 ao))
          replace RX := Lib.hid (far6 RX.out (g := gA) (by omega) (.int .i64 ay) (.int .i64 am) (.int .i64 ad) (.int .i64 as') (.bool xz) (.int .i64 ao))
          replace RY := Lib.hid (far6 RY.out (g := gA) (by omega) (.int .i64 ay) (.int .i64 am) (.int .i64 ad) (.int .i64 as') (.bool xz) (.int .i64 ao))
          replace PB := Lib.hid (PB.out.far6 (g := gA) ne.symm (.int .i64 ay) (.int .i64 am) (.int .i64 ad) (.int .i64 as') (.bool xz) (.int .i64 ao))
          replace PA := Lib.hid (PA.out.put (y := ay) (m := am) (d := ad) (s := as') (z := xz) (o := ao))
          clear hHeld
          refine hK.out _ _ ?_ (fun hHeld => ?_)
          · exact ⟨RX.out.1.1, RX.out.1.2.1, RX.out.1.2.2.1, RX.out.1.2.2.2.1, RX.out.1.2.2.2.2.1, RX.out.1.2.2.2.2.2, RY.out.1.1, RY.out.1.2.1, RY.out.1.2.2.1, RY.out.1.2.2.2.1, RY.out.1.2.2.2.2.1, RY.out.1.2.2.2.2.2, HBx.out⟩
          clear hK K HBx
          try simp only [Act.put, List.setIfInBounds_toArray, List.set_cons_zero, List.set_cons_succ]
          obtain ⟨⟨d0, d1, d2, d3, d4, d5⟩, ⟨f0, f1, f2, f3, f4, f5⟩, f6⟩ := id PB.out
          refine wpAnyH_ready (rs := [7]) (by kernel_rfl) (by simp) ?_
          refine AllReadyH.cons (o := { dst := none, op := Go.Op.store 29 (Go.Operand.tmp 6) (Go.Operand.tmp 32), type := 0, pos := "law.go:119", after := #[{ on := 5, ground := Go.Ground.data }, { on := 3, ground := Go.Ground.data }, { on := 6, ground := Go.Ground.chain }, { on := 0, ground := Go.Ground.phase }, { on := 1, ground := Go.Ground.phase }, { on := 2, ground := Go.Ground.phase }, { on := 3, ground := Go.Ground.phase }, { on := 4, ground := Go.Ground.phase }, { on := 5, ground := Go.Ground.phase }, { on := 6, ground := Go.Ground.phase }], guard := none }) rfl (fun K hK => ?_) AllReadyH.nil
          go_simp
          clear f0 f1 f2 f3 f4 f5 f6 d0 d1 d2 d3 d4 d5
          have HBx := Lib.hid (B6 hHeld.2.2.2.2.2.2.2.2.2.2.2.2 (g := gB) (by omega) (.int .i64 by_) (.int .i64 bm) (.int .i64 bd) (.int .i64 bs) (.bool xz) (.int .i64 ao))
          replace RX := Lib.hid (far6 RX.out (g := gB) (by omega) (.int .i64 by_) (.int .i64 bm) (.int .i64 bd) (.int .i64 bs) (.bool xz) (.int .i64 ao))
          replace RY := Lib.hid (far6 RY.out (g := gB) (by omega) (.int .i64 by_) (.int .i64 bm) (.int .i64 bd) (.int .i64 bs) (.bool xz) (.int .i64 ao))
          replace PA := Lib.hid (PA.out.far6 (g := gB) ne (.int .i64 by_) (.int .i64 bm) (.int .i64 bd) (.int .i64 bs) (.bool xz) (.int .i64 ao))
          replace PB := Lib.hid (PB.out.put (y := by_) (m := bm) (d := bd) (s := bs) (z := xz) (o := ao))
          clear hHeld
          refine hK.out _ _ ?_ (fun hHeld => ?_)
          · exact ⟨RX.out.1.1, RX.out.1.2.1, RX.out.1.2.2.1, RX.out.1.2.2.2.1, RX.out.1.2.2.2.2.1, RX.out.1.2.2.2.2.2, RY.out.1.1, RY.out.1.2.1, RY.out.1.2.2.1, RY.out.1.2.2.2.1, RY.out.1.2.2.2.2.1, RY.out.1.2.2.2.2.2, HBx.out⟩
          clear hK K HBx
          try simp only [Act.put, List.setIfInBounds_toArray, List.set_cons_zero, List.set_cons_succ]
          refine wpAnyH_done (by kernel_rfl) ?_ _
          exact ⟨gA, gB, rfl, RX.out, RY.out, PA.out, PB.out, lePA, lePB, hHeld.2.2.2.2.2.2.2.2.2.2.2.2⟩
        · go_simp
          have ne := Nat.ne_of_lt PA.out.2.2
          replace RX := Lib.hid (RX.out.alloc (MoC 0 0 0 0 false 0))
          replace RY := Lib.hid (RY.out.alloc (MoC 0 0 0 0 false 0))
          replace PA := Lib.hid (PA.out.alloc (MoC 0 0 0 0 false 0))
          have PB := Lib.hid (HoldsN.new rfl : HoldsN (v2.alloc (MoC 0 0 0 0 false 0)) v2.heap.size 0 0 0 0 false 0)
          have lePB := le0
          replace le0 := Nat.le_trans le0 (Below.alloc (Below.refl v2.heap.size v2) (Nat.le_refl _) (MoC 0 0 0 0 false 0)).size
          have HBx := Lib.hid (ballD1 hHeld.2.2.2.2.2.2.2.2.2.2.2.2 (MoC 0 0 0 0 false 0))
          clear hHeld
          refine hK.out _ _ ?_ (fun hHeld => ?_)
          · exact ⟨RX.out.1.1, RX.out.1.2.1, RX.out.1.2.2.1, RX.out.1.2.2.2.1, RX.out.1.2.2.2.2.1, RX.out.1.2.2.2.2.2, RY.out.1.1, RY.out.1.2.1, RY.out.1.2.2.1, RY.out.1.2.2.2.1, RY.out.1.2.2.2.2.1, RY.out.1.2.2.2.2.2, HBx.out⟩
          clear hK K HBx
          try simp only [Act.put, List.setIfInBounds_toArray, List.set_cons_zero, List.set_cons_succ]
          generalize v2.alloc (MoC 0 0 0 0 false 0) = v3 at *
          obtain ⟨gB, hg⟩ : ∃ g, g = v2.heap.size := ⟨_, rfl⟩
          rw [← hg] at PB lePB ne ⊢
          clear hg
          refine wpAnyH_ready (rs := [3]) (by kernel_rfl) (by simp) ?_
          refine AllReadyH.cons (o := { dst := some 32, op := Go.Op.call { callee := Go.Callee.value (Go.Operand.func 9), args := #[Go.Operand.tmp 31], argTypes := #[23] }, type := 29, pos := "law.go:119", after := #[{ on := 2, ground := Go.Ground.data }, { on := 1, ground := Go.Ground.chain }], guard := none }) rfl (fun K hK => ?_) AllReadyH.nil
          go_simp
          refine (MB.out _).mono ?_
          rintro e v4 ⟨rfl, hbv⟩
          replace RX := Lib.hid (RX.out.below hbv)
          replace RY := Lib.hid (RY.out.below hbv)
          replace PA := Lib.hid (PA.out.below hbv)
          replace PB := Lib.hid (PB.out.below hbv)
          have HBx := Lib.hid (bstep hHeld.2.2.2.2.2.2.2.2.2.2.2.2 hbv)
          replace le0 := Nat.le_trans le0 hbv.size
          clear hHeld hbv
          refine hK.out _ _ ?_ (fun hHeld => ?_)
          · exact ⟨RX.out.1.1, RX.out.1.2.1, RX.out.1.2.2.1, RX.out.1.2.2.2.1, RX.out.1.2.2.2.2.1, RX.out.1.2.2.2.2.2, RY.out.1.1, RY.out.1.2.1, RY.out.1.2.2.1, RY.out.1.2.2.2.1, RY.out.1.2.2.2.2.1, RY.out.1.2.2.2.2.2, HBx.out⟩
          clear hK K HBx
          try simp only [Act.put, List.setIfInBounds_toArray, List.set_cons_zero, List.set_cons_succ]
          obtain ⟨⟨d0, d1, d2, d3, d4, d5⟩, ⟨f0, f1, f2, f3, f4, f5⟩, f6⟩ := id PA.out
          refine wpAnyH_ready (rs := [6]) (by kernel_rfl) (by simp) ?_
          refine AllReadyH.cons (o := { dst := none, op := Go.Op.store 29 (Go.Operand.tmp 5) (Go.Operand.tmp 30), type := 0, pos := "law.go:119", after := #[{ on := 4, ground := Go.Ground.data }, { on := 1, ground := Go.Ground.data }, { on := 3, ground := Go.Ground.chain }, { on := 0, ground := Go.Ground.phase }, { on := 1, ground := Go.Ground.phase }, { on := 2, ground := Go.Ground.textOnly Go.Departure.lateStores }, { on := 3, ground := Go.Ground.textOnly Go.Departure.lateStoresUnsure }, { on := 4, ground := Go.Ground.phase }, { on := 5, ground := Go.Ground.phase }], guard := none }) rfl (fun K hK => ?_) AllReadyH.nil
          go_simp
          clear f0 f1 f2 f3 f4 f5 f6 d0 d1 d2 d3 d4 d5
          have HBx := Lib.hid (B6 hHeld.2.2.2.2.2.2.2.2.2.2.2.2 (g := gA) (by omega) (.int .i64 ay) (.int .i64 am) (.int .i64 ad) (.int .i64 as') (.bool xz) (.int .i64 ao))
          replace RX := Lib.hid (far6 RX.out (g := gA) (by omega) (.int .i64 ay) (.int .i64 am) (.int .i64 ad) (.int .i64 as') (.bool xz) (.int .i64 ao))
          replace RY := Lib.hid (far6 RY.out (g := gA) (by omega) (.int .i64 ay) (.int .i64 am) (.int .i64 ad) (.int .i64 as') (.bool xz) (.int .i64 ao))
          replace PB := Lib.hid (PB.out.far6 (g := gA) ne.symm (.int .i64 ay) (.int .i64 am) (.int .i64 ad) (.int .i64 as') (.bool xz) (.int .i64 ao))
          replace PA := Lib.hid (PA.out.put (y := ay) (m := am) (d := ad) (s := as') (z := xz) (o := ao))
          clear hHeld
          refine hK.out _ _ ?_ (fun hHeld => ?_)
          · exact ⟨RX.out.1.1, RX.out.1.2.1, RX.out.1.2.2.1, RX.out.1.2.2.2.1, RX.out.1.2.2.2.2.1, RX.out.1.2.2.2.2.2, RY.out.1.1, RY.out.1.2.1, RY.out.1.2.2.1, RY.out.1.2.2.2.1, RY.out.1.2.2.2.2.1, RY.out.1.2.2.2.2.2, HBx.out⟩
          clear hK K HBx
          try simp only [Act.put, List.setIfInBounds_toArray, List.set_cons_zero, List.set_cons_succ]
          obtain ⟨⟨d0, d1, d2, d3, d4, d5⟩, ⟨f0, f1, f2, f3, f4, f5⟩, f6⟩ := id PB.out
          refine wpAnyH_ready (rs := [7]) (by kernel_rfl) (by simp) ?_
          refine AllReadyH.cons (o := { dst := none, op := Go.Op.store 29 (Go.Operand.tmp 6) (Go.Operand.tmp 32), type := 0, pos := "law.go:119", after := #[{ on := 5, ground := Go.Ground.data }, { on := 3, ground := Go.Ground.data }, { on := 6, ground := Go.Ground.chain }, { on := 0, ground := Go.Ground.phase }, { on := 1, ground := Go.Ground.phase }, { on := 2, ground := Go.Ground.phase }, { on := 3, ground := Go.Ground.phase }, { on := 4, ground := Go.Ground.phase }, { on := 5, ground := Go.Ground.phase }, { on := 6, ground := Go.Ground.phase }], guard := none }) rfl (fun K hK => ?_) AllReadyH.nil
          go_simp
          clear f0 f1 f2 f3 f4 f5 f6 d0 d1 d2 d3 d4 d5
          have HBx := Lib.hid (B6 hHeld.2.2.2.2.2.2.2.2.2.2.2.2 (g := gB) (by omega) (.int .i64 by_) (.int .i64 bm) (.int .i64 bd) (.int .i64 bs) (.bool xz) (.int .i64 ao))
          replace RX := Lib.hid (far6 RX.out (g := gB) (by omega) (.int .i64 by_) (.int .i64 bm) (.int .i64 bd) (.int .i64 bs) (.bool xz) (.int .i64 ao))
          replace RY := Lib.hid (far6 RY.out (g := gB) (by omega) (.int .i64 by_) (.int .i64 bm) (.int .i64 bd) (.int .i64 bs) (.bool xz) (.int .i64 ao))
          replace PA := Lib.hid (PA.out.far6 (g := gB) ne (.int .i64 by_) (.int .i64 bm) (.int .i64 bd) (.int .i64 bs) (.bool xz) (.int .i64 ao))
          replace PB := Lib.hid (PB.out.put (y := by_) (m := bm) (d := bd) (s := bs) (z := xz) (o := ao))
          clear hHeld
          refine hK.out _ _ ?_ (fun hHeld => ?_)
          · exact ⟨RX.out.1.1, RX.out.1.2.1, RX.out.1.2.2.1, RX.out.1.2.2.2.1, RX.out.1.2.2.2.2.1, RX.out.1.2.2.2.2.2, RY.out.1.1, RY.out.1.2.1, RY.out.1.2.2.1, RY.out.1.2.2.2.1, RY.out.1.2.2.2.2.1, RY.out.1.2.2.2.2.2, HBx.out⟩
          clear hK K HBx
          try simp only [Act.put, List.setIfInBounds_toArray, List.set_cons_zero, List.set_cons_succ]
          refine wpAnyH_done (by kernel_rfl) ?_ _
          exact ⟨gA, gB, rfl, RX.out, RY.out, PA.out, PB.out, lePA, lePB, hHeld.2.2.2.2.2.2.2.2.2.2.2.2⟩
      · go_simp
        replace RX := Lib.hid (RX.out.alloc (MoC 0 0 0 0 false 0))
        replace RY := Lib.hid (RY.out.alloc (MoC 0 0 0 0 false 0))
        have PB := Lib.hid (HoldsN.new rfl : HoldsN (v1.alloc (MoC 0 0 0 0 false 0)) v1.heap.size 0 0 0 0 false 0)
        have lePB := le0
        replace le0 := Nat.le_trans le0 (Below.alloc (Below.refl v1.heap.size v1) (Nat.le_refl _) (MoC 0 0 0 0 false 0)).size
        have HBx := Lib.hid (ballD1 hHeld.2.2.2.2.2.2.2.2.2.2.2.2 (MoC 0 0 0 0 false 0))
        clear hHeld
        refine hK.out _ _ ?_ (fun hHeld => ?_)
        · exact ⟨RX.out.1.1, RX.out.1.2.1, RX.out.1.2.2.1, RX.out.1.2.2.2.1, RX.out.1.2.2.2.2.1, RX.out.1.2.2.2.2.2, RY.out.1.1, RY.out.1.2.1, RY.out.1.2.2.1, RY.out.1.2.2.2.1, RY.out.1.2.2.2.2.1, RY.out.1.2.2.2.2.2, HBx.out⟩
        clear hK K HBx
        try simp only [Act.put, List.setIfInBounds_toArray, List.set_cons_zero, List.set_cons_succ]
        generalize v1.alloc (MoC 0 0 0 0 false 0) = v2 at *
        obtain ⟨gB, hg⟩ : ∃ g, g = v1.heap.size := ⟨_, rfl⟩
        rw [← hg] at PB lePB ⊢
        clear hg
        refine wpAnyH_ready (rs := [3, 4]) (by kernel_rfl) (by simp) ?_
        refine AllReadyH.cons (o := { dst := some 32, op := Go.Op.call { callee := Go.Callee.value (Go.Operand.func 9), args := #[Go.Operand.tmp 31], argTypes := #[23] }, type := 29, pos := "law.go:119", after := #[{ on := 2, ground := Go.Ground.data }, { on := 1, ground := Go.Ground.chain }], guard := none }) rfl (fun K hK => ?_) (AllReadyH.cons (o := { dst := some 5, op := Go.Op.alloc 29, type := 0, pos := "law.go:119", after := #[], guard := none }) rfl (fun K hK => ?_) AllReadyH.nil)
        · go_simp
          refine (MB.out _).mono ?_
          rintro e v3 ⟨rfl, hbv⟩
          replace RX := Lib.hid (RX.out.below hbv)
          replace RY := Lib.hid (RY.out.below hbv)
          replace PB := Lib.hid (PB.out.below hbv)
          have HBx := Lib.hid (bstep hHeld.2.2.2.2.2.2.2.2.2.2.2.2 hbv)
          replace le0 := Nat.le_trans le0 hbv.size
          clear hHeld hbv
          refine hK.out _ _ ?_ (fun hHeld => ?_)
          · exact ⟨RX.out.1.1, RX.out.1.2.1, RX.out.1.2.2.1, RX.out.1.2.2.2.1, RX.out.1.2.2.2.2.1, RX.out.1.2.2.2.2.2, RY.out.1.1, RY.out.1.2.1, RY.out.1.2.2.1, RY.out.1.2.2.2.1, RY.out.1.2.2.2.2.1, RY.out.1.2.2.2.2.2, HBx.out⟩
          clear hK K HBx
          try simp only [Act.put, List.setIfInBounds_toArray, List.set_cons_zero, List.set_cons_succ]
          refine wpAnyH_ready (rs := [4]) (by kernel_rfl) (by simp) ?_
          refine AllReadyH.cons (o := { dst := some 5, op := Go.Op.alloc 29, type := 0, pos := "law.go:119", after := #[], guard := none }) rfl (fun K hK => ?_) AllReadyH.nil
          go_simp
          have ne := Nat.ne_of_lt PB.out.2.2
          replace RX := Lib.hid (RX.out.alloc (MoC 0 0 0 0 false 0))
          replace RY := Lib.hid (RY.out.alloc (MoC 0 0 0 0 false 0))
          replace PB := Lib.hid (PB.out.alloc (MoC 0 0 0 0 false 0))
          have PA := Lib.hid (HoldsN.new rfl : HoldsN (v3.alloc (MoC 0 0 0 0 false 0)) v3.heap.size 0 0 0 0 false 0)
          have lePA := le0
          replace le0 := Nat.le_trans le0 (Below.alloc (Below.refl v3.heap.size v3) (Nat.le_refl _) (MoC 0 0 0 0 false 0)).size
          have HBx := Lib.hid (ballD1 hHeld.2.2.2.2.2.2.2.2.2.2.2.2 (MoC 0 0 0 0 false 0))
          clear hHeld
          refine hK.out _ _ ?_ (fun hHeld => ?_)
          · exact ⟨RX.out.1.1, RX.out.1.2.1, RX.out.1.2.2.1, RX.out.1.2.2.2.1, RX.out.1.2.2.2.2.1, RX.out.1.2.2.2.2.2, RY.out.1.1, RY.out.1.2.1, RY.out.1.2.2.1, RY.out.1.2.2.2.1, RY.out.1.2.2.2.2.1, RY.out.1.2.2.2.2.2, HBx.out⟩
          clear hK K HBx
          try simp only [Act.put, List.setIfInBounds_toArray, List.set_cons_zero, List.set_cons_succ]
          generalize v3.alloc (MoC 0 0 0 0 false 0) = v4 at *
          obtain ⟨gA, hg⟩ : ∃ g, g = v3.heap.size := ⟨_, rfl⟩
          rw [← hg] at PA lePA ne ⊢
          clear hg
          replace ne := ne.symm
          obtain ⟨⟨d0, d1, d2, d3, d4, d5⟩, ⟨f0, f1, f2, f3, f4, f5⟩, f6⟩ := id PA.out
          refine wpAnyH_ready (rs := [6]) (by kernel_rfl) (by simp) ?_
          refine AllReadyH.cons (o := { dst := none, op := Go.Op.store 29 (Go.Operand.tmp 5) (Go.Operand.tmp 30), type := 0, pos := "law.go:119", after := #[{ on := 4, ground := Go.Ground.data }, { on := 1, ground := Go.Ground.data }, { on := 3, ground := Go.Ground.chain }, { on := 0, ground := Go.Ground.phase }, { on := 1, ground := Go.Ground.phase }, { on := 2, ground := Go.Ground.textOnly Go.Departure.lateStores }, { on := 3, ground := Go.Ground.textOnly Go.Departure.lateStoresUnsure }, { on := 4, ground := Go.Ground.phase }, { on := 5, ground := Go.Ground.phase }], guard := none }) rfl (fun K hK => ?_) AllReadyH.nil
          go_simp
          clear f0 f1 f2 f3 f4 f5 f6 d0 d1 d2 d3 d4 d5
          have HBx := Lib.hid (B6 hHeld.2.2.2.2.2.2.2.2.2.2.2.2 (g := gA) (by omega) (.int .i64 ay) (.int .i64 am) (.int .i64 ad) (.int .i64 as') (.bool xz) (.int .i64 ao))
          replace RX := Lib.hid (far6 RX.out (g := gA) (by omega) (.int .i64 ay) (.int .i64 am) (.int .i64 ad) (.int .i64 as') (.bool xz) (.int .i64 ao))
          replace RY := Lib.hid (far6 RY.out (g := gA) (by omega) (.int .i64 ay) (.int .i64 am) (.int .i64 ad) (.int .i64 as') (.bool xz) (.int .i64 ao))
          replace PB := Lib.hid (PB.out.far6 (g := gA) ne.symm (.int .i64 ay) (.int .i64 am) (.int .i64 ad) (.int .i64 as') (.bool xz) (.int .i64 ao))
          replace PA := Lib.hid (PA.out.put (y := ay) (m := am) (d := ad) (s := as') (z := xz) (o := ao))
          clear hHeld
          refine hK.out _ _ ?_ (fun hHeld => ?_)
          · exact ⟨RX.out.1.1, RX.out.1.2.1, RX.out.1.2.2.1, RX.out.1.2.2.2.1, RX.out.1.2.2.2.2.1, RX.out.1.2.2.2.2.2, RY.out.1.1, RY.out.1.2.1, RY.out.1.2.2.1, RY.out.1.2.2.2.1, RY.out.1.2.2.2.2.1, RY.out.1.2.2.2.2.2, HBx.out⟩
          clear hK K HBx
          try simp only [Act.put, List.setIfInBounds_toArray, List.set_cons_zero, List.set_cons_succ]
          obtain ⟨⟨d0, d1, d2, d3, d4, d5⟩, ⟨f0, f1, f2, f3, f4, f5⟩, f6⟩ := id PB.out
          refine wpAnyH_ready (rs := [7]) (by kernel_rfl) (by simp) ?_
          refine AllReadyH.cons (o := { dst := none, op := Go.Op.store 29 (Go.Operand.tmp 6) (Go.Operand.tmp 32), type := 0, pos := "law.go:119", after := #[{ on := 5, ground := Go.Ground.data }, { on := 3, ground := Go.Ground.data }, { on := 6, ground := Go.Ground.chain }, { on := 0, ground := Go.Ground.phase }, { on := 1, ground := Go.Ground.phase }, { on := 2, ground := Go.Ground.phase }, { on := 3, ground := Go.Ground.phase }, { on := 4, ground := Go.Ground.phase }, { on := 5, ground := Go.Ground.phase }, { on := 6, ground := Go.Ground.phase }], guard := none }) rfl (fun K hK => ?_) AllReadyH.nil
          go_simp
          clear f0 f1 f2 f3 f4 f5 f6 d0 d1 d2 d3 d4 d5
          have HBx := Lib.hid (B6 hHeld.2.2.2.2.2.2.2.2.2.2.2.2 (g := gB) (by omega) (.int .i64 by_) (.int .i64 bm) (.int .i64 bd) (.int .i64 bs) (.bool xz) (.int .i64 ao))
          replace RX := Lib.hid (far6 RX.out (g := gB) (by omega) (.int .i64 by_) (.int .i64 bm) (.int .i64 bd) (.int .i64 bs) (.bool xz) (.int .i64 ao))
          replace RY := Lib.hid (far6 RY.out (g := gB) (by omega) (.int .i64 by_) (.int .i64 bm) (.int .i64 bd) (.int .i64 bs) (.bool xz) (.int .i64 ao))
          replace PA := Lib.hid (PA.out.far6 (g := gB) ne (.int .i64 by_) (.int .i64 bm) (.int .i64 bd) (.int .i64 bs) (.bool xz) (.int .i64 ao))
          replace PB := Lib.hid (PB.out.put (y := by_) (m := bm) (d := bd) (s := bs) (z := xz) (o := ao))
          clear hHeld
          refine hK.out _ _ ?_ (fun hHeld => ?_)
          · exact ⟨RX.out.1.1, RX.out.1.2.1, RX.out.1.2.2.1, RX.out.1.2.2.2.1, RX.out.1.2.2.2.2.1, RX.out.1.2.2.2.2.2, RY.out.1.1, RY.out.1.2.1, RY.out.1.2.2.1, RY.out.1.2.2.2.1, RY.out.1.2.2.2.2.1, RY.out.1.2.2.2.2.2, HBx.out⟩
          clear hK K HBx
          try simp only [Act.put, List.setIfInBounds_toArray, List.set_cons_zero, List.set_cons_succ]
          refine wpAnyH_done (by kernel_rfl) ?_ _
          exact ⟨gA, gB, rfl, RX.out, RY.out, PA.out, PB.out, lePA, lePB, hHeld.2.2.2.2.2.2.2.2.2.2.2.2⟩
        · go_simp
          have ne := Nat.ne_of_lt PB.out.2.2
          replace RX := Lib.hid (RX.out.alloc (MoC 0 0 0 0 false 0))
          replace RY := Lib.hid (RY.out.alloc (MoC 0 0 0 0 false 0))
          replace PB := Lib.hid (PB.out.alloc (MoC 0 0 0 0 false 0))
          have PA := Lib.hid (HoldsN.new rfl : HoldsN (v2.alloc (MoC 0 0 0 0 false 0)) v2.heap.size 0 0 0 0 false 0)
          have lePA := le0
          replace le0 := Nat.le_trans le0 (Below.alloc (Below.refl v2.heap.size v2) (Nat.le_refl _) (MoC 0 0 0 0 false 0)).size
          have HBx := Lib.hid (ballD1 hHeld.2.2.2.2.2.2.2.2.2.2.2.2 (MoC 0 0 0 0 false 0))
          clear hHeld
          refine hK.out _ _ ?_ (fun hHeld => ?_)
          · exact ⟨RX.out.1.1, RX.out.1.2.1, RX.out.1.2.2.1, RX.out.1.2.2.2.1, RX.out.1.2.2.2.2.1, RX.out.1.2.2.2.2.2, RY.out.1.1, RY.out.1.2.1, RY.out.1.2.2.1, RY.out.1.2.2.2.1, RY.out.1.2.2.2.2.1, RY.out.1.2.2.2.2.2, HBx.out⟩
          clear hK K HBx
          try simp only [Act.put, List.setIfInBounds_toArray, List.set_cons_zero, List.set_cons_succ]
          generalize v2.alloc (MoC 0 0 0 0 false 0) = v3 at *
          obtain ⟨gA, hg⟩ : ∃ g, g = v2.heap.size := ⟨_, rfl⟩
          rw [← hg] at PA lePA ne ⊢
          clear hg
          replace ne := ne.symm
          refine wpAnyH_ready (rs := [3]) (by kernel_rfl) (by simp) ?_
          refine AllReadyH.cons (o := { dst := some 32, op := Go.Op.call { callee := Go.Callee.value (Go.Operand.func 9), args := #[Go.Operand.tmp 31], argTypes := #[23] }, type := 29, pos := "law.go:119", after := #[{ on := 2, ground := Go.Ground.data }, { on := 1, ground := Go.Ground.chain }], guard := none }) rfl (fun K hK => ?_) AllReadyH.nil
          go_simp
          refine (MB.out _).mono ?_
          rintro e v4 ⟨rfl, hbv⟩
          replace RX := Lib.hid (RX.out.below hbv)
          replace RY := Lib.hid (RY.out.below hbv)
          replace PA := Lib.hid (PA.out.below hbv)
          replace PB := Lib.hid (PB.out.below hbv)
          have HBx := Lib.hid (bstep hHeld.2.2.2.2.2.2.2.2.2.2.2.2 hbv)
          replace le0 := Nat.le_trans le0 hbv.size
          clear hHeld hbv
          refine hK.out _ _ ?_ (fun hHeld => ?_)
          · exact ⟨RX.out.1.1, RX.out.1.2.1, RX.out.1.2.2.1, RX.out.1.2.2.2.1, RX.out.1.2.2.2.2.1, RX.out.1.2.2.2.2.2, RY.out.1.1, RY.out.1.2.1, RY.out.1.2.2.1, RY.out.1.2.2.2.1, RY.out.1.2.2.2.2.1, RY.out.1.2.2.2.2.2, HBx.out⟩
          clear hK K HBx
          try simp only [Act.put, List.setIfInBounds_toArray, List.set_cons_zero, List.set_cons_succ]
          obtain ⟨⟨d0, d1, d2, d3, d4, d5⟩, ⟨f0, f1, f2, f3, f4, f5⟩, f6⟩ := id PA.out
          refine wpAnyH_ready (rs := [6]) (by kernel_rfl) (by simp) ?_
          refine AllReadyH.cons (o := { dst := none, op := Go.Op.store 29 (Go.Operand.tmp 5) (Go.Operand.tmp 30), type := 0, pos := "law.go:119", after := #[{ on := 4, ground := Go.Ground.data }, { on := 1, ground := Go.Ground.data }, { on := 3, ground := Go.Ground.chain }, { on := 0, ground := Go.Ground.phase }, { on := 1, ground := Go.Ground.phase }, { on := 2, ground := Go.Ground.textOnly Go.Departure.lateStores }, { on := 3, ground := Go.Ground.textOnly Go.Departure.lateStoresUnsure }, { on := 4, ground := Go.Ground.phase }, { on := 5, ground := Go.Ground.phase }], guard := none }) rfl (fun K hK => ?_) AllReadyH.nil
          go_simp
          clear f0 f1 f2 f3 f4 f5 f6 d0 d1 d2 d3 d4 d5
          have HBx := Lib.hid (B6 hHeld.2.2.2.2.2.2.2.2.2.2.2.2 (g := gA) (by omega) (.int .i64 ay) (.int .i64 am) (.int .i64 ad) (.int .i64 as') (.bool xz) (.int .i64 ao))
          replace RX := Lib.hid (far6 RX.out (g := gA) (by omega) (.int .i64 ay) (.int .i64 am) (.int .i64 ad) (.int .i64 as') (.bool xz) (.int .i64 ao))
          replace RY := Lib.hid (far6 RY.out (g := gA) (by omega) (.int .i64 ay) (.int .i64 am) (.int .i64 ad) (.int .i64 as') (.bool xz) (.int .i64 ao))
          replace PB := Lib.hid (PB.out.far6 (g := gA) ne.symm (.int .i64 ay) (.int .i64 am) (.int .i64 ad) (.int .i64 as') (.bool xz) (.int .i64 ao))
          replace PA := Lib.hid (PA.out.put (y := ay) (m := am) (d := ad) (s := as') (z := xz) (o := ao))
          clear hHeld
          refine hK.out _ _ ?_ (fun hHeld => ?_)
          · exact ⟨RX.out.1.1, RX.out.1.2.1, RX.out.1.2.2.1, RX.out.1.2.2.2.1, RX.out.1.2.2.2.2.1, RX.out.1.2.2.2.2.2, RY.out.1.1, RY.out.1.2.1, RY.out.1.2.2.1, RY.out.1.2.2.2.1, RY.out.1.2.2.2.2.1, RY.out.1.2.2.2.2.2, HBx.out⟩
          clear hK K HBx
          try simp only [Act.put, List.setIfInBounds_toArray, List.set_cons_zero, List.set_cons_succ]
          obtain ⟨⟨d0, d1, d2, d3, d4, d5⟩, ⟨f0, f1, f2, f3, f4, f5⟩, f6⟩ := id PB.out
          refine wpAnyH_ready (rs := [7]) (by kernel_rfl) (by simp) ?_
          refine AllReadyH.cons (o := { dst := none, op := Go.Op.store 29 (Go.Operand.tmp 6) (Go.Operand.tmp 32), type := 0, pos := "law.go:119", after := #[{ on := 5, ground := Go.Ground.data }, { on := 3, ground := Go.Ground.data }, { on := 6, ground := Go.Ground.chain }, { on := 0, ground := Go.Ground.phase }, { on := 1, ground := Go.Ground.phase }, { on := 2, ground := Go.Ground.phase }, { on := 3, ground := Go.Ground.phase }, { on := 4, ground := Go.Ground.phase }, { on := 5, ground := Go.Ground.phase }, { on := 6, ground := Go.Ground.phase }], guard := none }) rfl (fun K hK => ?_) AllReadyH.nil
          go_simp
          clear f0 f1 f2 f3 f4 f5 f6 d0 d1 d2 d3 d4 d5
          have HBx := Lib.hid (B6 hHeld.2.2.2.2.2.2.2.2.2.2.2.2 (g := gB) (by omega) (.int .i64 by_) (.int .i64 bm) (.int .i64 bd) (.int .i64 bs) (.bool xz) (.int .i64 ao))
          replace RX := Lib.hid (far6 RX.out (g := gB) (by omega) (.int .i64 by_) (.int .i64 bm) (.int .i64 bd) (.int .i64 bs) (.bool xz) (.int .i64 ao))
          replace RY := Lib.hid (far6 RY.out (g := gB) (by omega) (.int .i64 by_) (.int .i64 bm) (.int .i64 bd) (.int .i64 bs) (.bool xz) (.int .i64 ao))
          replace PA := Lib.hid (PA.out.far6 (g := gB) ne (.int .i64 by_) (.int .i64 bm) (.int .i64 bd) (.int .i64 bs) (.bool xz) (.int .i64 ao))
          replace PB := Lib.hid (PB.out.put (y := by_) (m := bm) (d := bd) (s := bs) (z := xz) (o := ao))
          clear hHeld
          refine hK.out _ _ ?_ (fun hHeld => ?_)
          · exact ⟨RX.out.1.1, RX.out.1.2.1, RX.out.1.2.2.1, RX.out.1.2.2.2.1, RX.out.1.2.2.2.2.1, RX.out.1.2.2.2.2.2, RY.out.1.1, RY.out.1.2.1, RY.out.1.2.2.1, RY.out.1.2.2.2.1, RY.out.1.2.2.2.2.1, RY.out.1.2.2.2.2.2, HBx.out⟩
          clear hK K HBx
          try simp only [Act.put, List.setIfInBounds_toArray, List.set_cons_zero, List.set_cons_succ]
          refine wpAnyH_done (by kernel_rfl) ?_ _
          exact ⟨gA, gB, rfl, RX.out, RY.out, PA.out, PB.out, lePA, lePB, hHeld.2.2.2.2.2.2.2.2.2.2.2.2⟩
    · go_simp
      replace RX := Lib.hid (RX.out.alloc (MoC 0 0 0 0 false 0))
      replace RY := Lib.hid (RY.out.alloc (MoC 0 0 0 0 false 0))
      have PA := Lib.hid (HoldsN.new rfl : HoldsN (v0.alloc (MoC 0 0 0 0 false 0)) v0.heap.size 0 0 0 0 false 0)
      have lePA := le0
      replace le0 := Nat.le_trans le0 (Below.alloc (Below.refl v0.heap.size v0) (Nat.le_refl _) (MoC 0 0 0 0 false 0)).size
      have HBx := Lib.hid (ballD1 hHeld.2.2.2.2.2.2.2.2.2.2.2.2 (MoC 0 0 0 0 false 0))
      clear hHeld
      refine hK.out _ _ ?_ (fun hHeld => ?_)
      · exact ⟨RX.out.1.1, RX.out.1.2.1, RX.out.1.2.2.1, RX.out.1.2.2.2.1, RX.out.1.2.2.2.2.1, RX.out.1.2.2.2.2.2, RY.out.1.1, RY.out.1.2.1, RY.out.1.2.2.1, RY.out.1.2.2.2.1, RY.out.1.2.2.2.2.1, RY.out.1.2.2.2.2.2, HBx.out⟩
      clear hK K HBx
      try simp only [Act.put, List.setIfInBounds_toArray, List.set_cons_zero, List.set_cons_succ]
      generalize v0.alloc (MoC 0 0 0 0 false 0) = v1 at *
      obtain ⟨gA, hg⟩ : ∃ g, g = v0.heap.size := ⟨_, rfl⟩
      rw [← hg] at PA lePA ⊢
      clear hg
      refine wpAnyH_ready (rs := [1, 5]) (by kernel_rfl) (by simp) ?_
      refine AllReadyH.cons (o := { dst := some 30, op := Go.Op.call { callee := Go.Callee.value (Go.Operand.func 9), args := #[Go.Operand.tmp 29], argTypes := #[23] }, type := 29, pos := "law.go:119", after := #[{ on := 0, ground := Go.Ground.data }], guard := none }) rfl (fun K hK => ?_) (AllReadyH.cons (o := { dst := some 6, op := Go.Op.alloc 29, type := 0, pos := "law.go:119", after := #[], guard := none }) rfl (fun K hK => ?_) AllReadyH.nil)
      · go_simp
        refine (MA.out _).mono ?_
        rintro e v2 ⟨rfl, hbv⟩
        replace RX := Lib.hid (RX.out.below hbv)
        replace RY := Lib.hid (RY.out.below hbv)
        replace PA := Lib.hid (PA.out.below hbv)
        have HBx := Lib.hid (bstep hHeld.2.2.2.2.2.2.2.2.2.2.2.2 hbv)
        replace le0 := Nat.le_trans le0 hbv.size
        clear hHeld hbv
        refine hK.out _ _ ?_ (fun hHeld => ?_)
        · exact ⟨RX.out.1.1, RX.out.1.2.1, RX.out.1.2.2.1, RX.out.1.2.2.2.1, RX.out.1.2.2.2.2.1, RX.out.1.2.2.2.2.2, RY.out.1.1, RY.out.1.2.1, RY.out.1.2.2.1, RY.out.1.2.2.2.1, RY.out.1.2.2.2.2.1, RY.out.1.2.2.2.2.2, HBx.out⟩
        clear hK K HBx
        try simp only [Act.put, List.setIfInBounds_toArray, List.set_cons_zero, List.set_cons_succ]
        refine wpAnyH_ready (rs := [3, 5]) (by kernel_rfl) (by simp) ?_
        refine AllReadyH.cons (o := { dst := some 32, op := Go.Op.call { callee := Go.Callee.value (Go.Operand.func 9), args := #[Go.Operand.tmp 31], argTypes := #[23] }, type := 29, pos := "law.go:119", after := #[{ on := 2, ground := Go.Ground.data }, { on := 1, ground := Go.Ground.chain }], guard := none }) rfl (fun K hK => ?_) (AllReadyH.cons (o := { dst := some 6, op := Go.Op.alloc 29, type := 0, pos := "law.go:119", after := #[], guard := none }) rfl (fun K hK => ?_) AllReadyH.nil)
        · go_simp
          refine (MB.out _).mono ?_
          rintro e v3 ⟨rfl, hbv⟩
          replace RX := Lib.hid (RX.out.below hbv)
          replace RY := Lib.hid (RY.out.below hbv)
          replace PA := Lib.hid (PA.out.below hbv)
          have HBx := Lib.hid (bstep hHeld.2.2.2.2.2.2.2.2.2.2.2.2 hbv)
          replace le0 := Nat.le_trans le0 hbv.size
          clear hHeld hbv
          refine hK.out _ _ ?_ (fun hHeld => ?_)
          · exact ⟨RX.out.1.1, RX.out.1.2.1, RX.out.1.2.2.1, RX.out.1.2.2.2.1, RX.out.1.2.2.2.2.1, RX.out.1.2.2.2.2.2, RY.out.1.1, RY.out.1.2.1, RY.out.1.2.2.1, RY.out.1.2.2.2.1, RY.out.1.2.2.2.2.1, RY.out.1.2.2.2.2.2, HBx.out⟩
          clear hK K HBx
          try simp only [Act.put, List.setIfInBounds_toArray, List.set_cons_zero, List.set_cons_succ]
          refine wpAnyH_ready (rs := [5]) (by kernel_rfl) (by simp) ?_
          refine AllReadyH.cons (o := { dst := some 6, op := Go.Op.alloc 29, type := 0, pos := "law.go:119", after := #[], guard := none }) rfl (fun K hK => ?_) AllReadyH.nil
          go_simp
          have ne := Nat.ne_of_lt PA.out.2.2
          replace RX := Lib.hid (RX.out.alloc (MoC 0 0 0 0 false 0))
          replace RY := Lib.hid (RY.out.alloc (MoC 0 0 0 0 false 0))
          replace PA := Lib.hid (PA.out.alloc (MoC 0 0 0 0 false 0))
          have PB := Lib.hid (HoldsN.new rfl : HoldsN (v3.alloc (MoC 0 0 0 0 false 0)) v3.heap.size 0 0 0 0 false 0)
          have lePB := le0
          replace le0 := Nat.le_trans le0 (Below.alloc (Below.refl v3.heap.size v3) (Nat.le_refl _) (MoC 0 0 0 0 false 0)).size
          have HBx := Lib.hid (ballD1 hHeld.2.2.2.2.2.2.2.2.2.2.2.2 (MoC 0 0 0 0 false 0))
          clear hHeld
          refine hK.out _ _ ?_ (fun hHeld => ?_)
          · exact ⟨RX.out.1.1, RX.out.1.2.1, RX.out.1.2.2.1, RX.out.1.2.2.2.1, RX.out.1.2.2.2.2.1, RX.out.1.2.2.2.2.2, RY.out.1.1, RY.out.1.2.1, RY.out.1.2.2.1, RY.out.1.2.2.2.1, RY.out.1.2.2.2.2.1, RY.out.1.2.2.2.2.2, HBx.out⟩
          clear hK K HBx
          try simp only [Act.put, List.setIfInBounds_toArray, List.set_cons_zero, List.set_cons_succ]
          generalize v3.alloc (MoC 0 0 0 0 false 0) = v4 at *
          obtain ⟨gB, hg⟩ : ∃ g, g = v3.heap.size := ⟨_, rfl⟩
          rw [← hg] at PB lePB ne ⊢
          clear hg
          obtain ⟨⟨d0, d1, d2, d3, d4, d5⟩, ⟨f0, f1, f2, f3, f4, f5⟩, f6⟩ := id PA.out
          refine wpAnyH_ready (rs := [6]) (by kernel_rfl) (by simp) ?_
          refine AllReadyH.cons (o := { dst := none, op := Go.Op.store 29 (Go.Operand.tmp 5) (Go.Operand.tmp 30), type := 0, pos := "law.go:119", after := #[{ on := 4, ground := Go.Ground.data }, { on := 1, ground := Go.Ground.data }, { on := 3, ground := Go.Ground.chain }, { on := 0, ground := Go.Ground.phase }, { on := 1, ground := Go.Ground.phase }, { on := 2, ground := Go.Ground.textOnly Go.Departure.lateStores }, { on := 3, ground := Go.Ground.textOnly Go.Departure.lateStoresUnsure }, { on := 4, ground := Go.Ground.phase }, { on := 5, ground := Go.Ground.phase }], guard := none }) rfl (fun K hK => ?_) AllReadyH.nil
          go_simp
          clear f0 f1 f2 f3 f4 f5 f6 d0 d1 d2 d3 d4 d5
          have HBx := Lib.hid (B6 hHeld.2.2.2.2.2.2.2.2.2.2.2.2 (g := gA) (by omega) (.int .i64 ay) (.int .i64 am) (.int .i64 ad) (.int .i64 as') (.bool xz) (.int .i64 ao))
          replace RX := Lib.hid (far6 RX.out (g := gA) (by omega) (.int .i64 ay) (.int .i64 am) (.int .i64 ad) (.int .i64 as') (.bool xz) (.int .i64 ao))
          replace RY := Lib.hid (far6 RY.out (g := gA) (by omega) (.int .i64 ay) (.int .i64 am) (.int .i64 ad) (.int .i64 as') (.bool xz) (.int .i64 ao))
          replace PB := Lib.hid (PB.out.far6 (g := gA) ne.symm (.int .i64 ay) (.int .i64 am) (.int .i64 ad) (.int .i64 as') (.bool xz) (.int .i64 ao))
          replace PA := Lib.hid (PA.out.put (y := ay) (m := am) (d := ad) (s := as') (z := xz) (o := ao))
          clear hHeld
          refine hK.out _ _ ?_ (fun hHeld => ?_)
          · exact ⟨RX.out.1.1, RX.out.1.2.1, RX.out.1.2.2.1, RX.out.1.2.2.2.1, RX.out.1.2.2.2.2.1, RX.out.1.2.2.2.2.2, RY.out.1.1, RY.out.1.2.1, RY.out.1.2.2.1, RY.out.1.2.2.2.1, RY.out.1.2.2.2.2.1, RY.out.1.2.2.2.2.2, HBx.out⟩
          clear hK K HBx
          try simp only [Act.put, List.setIfInBounds_toArray, List.set_cons_zero, List.set_cons_succ]
          obtain ⟨⟨d0, d1, d2, d3, d4, d5⟩, ⟨f0, f1, f2, f3, f4, f5⟩, f6⟩ := id PB.out
          refine wpAnyH_ready (rs := [7]) (by kernel_rfl) (by simp) ?_
          refine AllReadyH.cons (o := { dst := none, op := Go.Op.store 29 (Go.Operand.tmp 6) (Go.Operand.tmp 32), type := 0, pos := "law.go:119", after := #[{ on := 5, ground := Go.Ground.data }, { on := 3, ground := Go.Ground.data }, { on := 6, ground := Go.Ground.chain }, { on := 0, ground := Go.Ground.phase }, { on := 1, ground := Go.Ground.phase }, { on := 2, ground := Go.Ground.phase }, { on := 3, ground := Go.Ground.phase }, { on := 4, ground := Go.Ground.phase }, { on := 5, ground := Go.Ground.phase }, { on := 6, ground := Go.Ground.phase }], guard := none }) rfl (fun K hK => ?_) AllReadyH.nil
          go_simp
          clear f0 f1 f2 f3 f4 f5 f6 d0 d1 d2 d3 d4 d5
          have HBx := Lib.hid (B6 hHeld.2.2.2.2.2.2.2.2.2.2.2.2 (g := gB) (by omega) (.int .i64 by_) (.int .i64 bm) (.int .i64 bd) (.int .i64 bs) (.bool xz) (.int .i64 ao))
          replace RX := Lib.hid (far6 RX.out (g := gB) (by omega) (.int .i64 by_) (.int .i64 bm) (.int .i64 bd) (.int .i64 bs) (.bool xz) (.int .i64 ao))
          replace RY := Lib.hid (far6 RY.out (g := gB) (by omega) (.int .i64 by_) (.int .i64 bm) (.int .i64 bd) (.int .i64 bs) (.bool xz) (.int .i64 ao))
          replace PA := Lib.hid (PA.out.far6 (g := gB) ne (.int .i64 by_) (.int .i64 bm) (.int .i64 bd) (.int .i64 bs) (.bool xz) (.int .i64 ao))
          replace PB := Lib.hid (PB.out.put (y := by_) (m := bm) (d := bd) (s := bs) (z := xz) (o := ao))
          clear hHeld
          refine hK.out _ _ ?_ (fun hHeld => ?_)
          · exact ⟨RX.out.1.1, RX.out.1.2.1, RX.out.1.2.2.1, RX.out.1.2.2.2.1, RX.out.1.2.2.2.2.1, RX.out.1.2.2.2.2.2, RY.out.1.1, RY.out.1.2.1, RY.out.1.2.2.1, RY.out.1.2.2.2.1, RY.out.1.2.2.2.2.1, RY.out.1.2.2.2.2.2, HBx.out⟩
          clear hK K HBx
          try simp only [Act.put, List.setIfInBounds_toArray, List.set_cons_zero, List.set_cons_succ]
          refine wpAnyH_done (by kernel_rfl) ?_ _
          exact ⟨gA, gB, rfl, RX.out, RY.out, PA.out, PB.out, lePA, lePB, hHeld.2.2.2.2.2.2.2.2.2.2.2.2⟩
        · go_simp
          have ne := Nat.ne_of_lt PA.out.2.2
          replace RX := Lib.hid (RX.out.alloc (MoC 0 0 0 0 false 0))
          replace RY := Lib.hid (RY.out.alloc (MoC 0 0 0 0 false 0))
          replace PA := Lib.hid (PA.out.alloc (MoC 0 0 0 0 false 0))
          have PB := Lib.hid (HoldsN.new rfl : HoldsN (v2.alloc (MoC 0 0 0 0 false 0)) v2.heap.size 0 0 0 0 false 0)
          have lePB := le0
          replace le0 := Nat.le_trans le0 (Below.alloc (Below.refl v2.heap.size v2) (Nat.le_refl _) (MoC 0 0 0 0 false 0)).size
          have HBx := Lib.hid (ballD1 hHeld.2.2.2.2.2.2.2.2.2.2.2.2 (MoC 0 0 0 0 false 0))
          clear hHeld
          refine hK.out _ _ ?_ (fun hHeld => ?_)
          · exact ⟨RX.out.1.1, RX.out.1.2.1, RX.out.1.2.2.1, RX.out.1.2.2.2.1, RX.out.1.2.2.2.2.1, RX.out.1.2.2.2.2.2, RY.out.1.1, RY.out.1.2.1, RY.out.1.2.2.1, RY.out.1.2.2.2.1, RY.out.1.2.2.2.2.1, RY.out.1.2.2.2.2.2, HBx.out⟩
          clear hK K HBx
          try simp only [Act.put, List.setIfInBounds_toArray, List.set_cons_zero, List.set_cons_succ]
          generalize v2.alloc (MoC 0 0 0 0 false 0) = v3 at *
          obtain ⟨gB, hg⟩ : ∃ g, g = v2.heap.size := ⟨_, rfl⟩
          rw [← hg] at PB lePB ne ⊢
          clear hg
          refine wpAnyH_ready (rs := [3]) (by kernel_rfl) (by simp) ?_
          refine AllReadyH.cons (o := { dst := some 32, op := Go.Op.call { callee := Go.Callee.value (Go.Operand.func 9), args := #[Go.Operand.tmp 31], argTypes := #[23] }, type := 29, pos := "law.go:119", after := #[{ on := 2, ground := Go.Ground.data }, { on := 1, ground := Go.Ground.chain }], guard := none }) rfl (fun K hK => ?_) AllReadyH.nil
          go_simp
          refine (MB.out _).mono ?_
          rintro e v4 ⟨rfl, hbv⟩
          replace RX := Lib.hid (RX.out.below hbv)
          replace RY := Lib.hid (RY.out.below hbv)
          replace PA := Lib.hid (PA.out.below hbv)
          replace PB := Lib.hid (PB.out.below hbv)
          have HBx := Lib.hid (bstep hHeld.2.2.2.2.2.2.2.2.2.2.2.2 hbv)
          replace le0 := Nat.le_trans le0 hbv.size
          clear hHeld hbv
          refine hK.out _ _ ?_ (fun hHeld => ?_)
          · exact ⟨RX.out.1.1, RX.out.1.2.1, RX.out.1.2.2.1, RX.out.1.2.2.2.1, RX.out.1.2.2.2.2.1, RX.out.1.2.2.2.2.2, RY.out.1.1, RY.out.1.2.1, RY.out.1.2.2.1, RY.out.1.2.2.2.1, RY.out.1.2.2.2.2.1, RY.out.1.2.2.2.2.2, HBx.out⟩
          clear hK K HBx
          try simp only [Act.put, List.setIfInBounds_toArray, List.set_cons_zero, List.set_cons_succ]
          obtain ⟨⟨d0, d1, d2, d3, d4, d5⟩, ⟨f0, f1, f2, f3, f4, f5⟩, f6⟩ := id PA.out
          refine wpAnyH_ready (rs := [6]) (by kernel_rfl) (by simp) ?_
          refine AllReadyH.cons (o := { dst := none, op := Go.Op.store 29 (Go.Operand.tmp 5) (Go.Operand.tmp 30), type := 0, pos := "law.go:119", after := #[{ on := 4, ground := Go.Ground.data }, { on := 1, ground := Go.Ground.data }, { on := 3, ground := Go.Ground.chain }, { on := 0, ground := Go.Ground.phase }, { on := 1, ground := Go.Ground.phase }, { on := 2, ground := Go.Ground.textOnly Go.Departure.lateStores }, { on := 3, ground := Go.Ground.textOnly Go.Departure.lateStoresUnsure }, { on := 4, ground := Go.Ground.phase }, { on := 5, ground := Go.Ground.phase }], guard := none }) rfl (fun K hK => ?_) AllReadyH.nil
          go_simp
          clear f0 f1 f2 f3 f4 f5 f6 d0 d1 d2 d3 d4 d5
          have HBx := Lib.hid (B6 hHeld.2.2.2.2.2.2.2.2.2.2.2.2 (g := gA) (by omega) (.int .i64 ay) (.int .i64 am) (.int .i64 ad) (.int .i64 as') (.bool xz) (.int .i64 ao))
          replace RX := Lib.hid (far6 RX.out (g := gA) (by omega) (.int .i64 ay) (.int .i64 am) (.int .i64 ad) (.int .i64 as') (.bool xz) (.int .i64 ao))
          replace RY := Lib.hid (far6 RY.out (g := gA) (by omega) (.int .i64 ay) (.int .i64 am) (.int .i64 ad) (.int .i64 as') (.bool xz) (.int .i64 ao))
          replace PB := Lib.hid (PB.out.far6 (g := gA) ne.symm (.int .i64 ay) (.int .i64 am) (.int .i64 ad) (.int .i64 as') (.bool xz) (.int .i64 ao))
          replace PA := Lib.hid (PA.out.put (y := ay) (m := am) (d := ad) (s := as') (z := xz) (o := ao))
          clear hHeld
          refine hK.out _ _ ?_ (fun hHeld => ?_)
          · exact ⟨RX.out.1.1, RX.out.1.2.1, RX.out.1.2.2.1, RX.out.1.2.2.2.1, RX.out.1.2.2.2.2.1, RX.out.1.2.2.2.2.2, RY.out.1.1, RY.out.1.2.1, RY.out.1.2.2.1, RY.out.1.2.2.2.1, RY.out.1.2.2.2.2.1, RY.out.1.2.2.2.2.2, HBx.out⟩
          clear hK K HBx
          try simp only [Act.put, List.setIfInBounds_toArray, List.set_cons_zero, List.set_cons_succ]
          obtain ⟨⟨d0, d1, d2, d3, d4, d5⟩, ⟨f0, f1, f2, f3, f4, f5⟩, f6⟩ := id PB.out
          refine wpAnyH_ready (rs := [7]) (by kernel_rfl) (by simp) ?_
          refine AllReadyH.cons (o := { dst := none, op := Go.Op.store 29 (Go.Operand.tmp 6) (Go.Operand.tmp 32), type := 0, pos := "law.go:119", after := #[{ on := 5, ground := Go.Ground.data }, { on := 3, ground := Go.Ground.data }, { on := 6, ground := Go.Ground.chain }, { on := 0, ground := Go.Ground.phase }, { on := 1, ground := Go.Ground.phase }, { on := 2, ground := Go.Ground.phase }, { on := 3, ground := Go.Ground.phase }, { on := 4, ground := Go.Ground.phase }, { on := 5, ground := Go.Ground.phase }, { on := 6, ground := Go.Ground.phase }], guard := none }) rfl (fun K hK => ?_) AllReadyH.nil
          go_simp
          clear f0 f1 f2 f3 f4 f5 f6 d0 d1 d2 d3 d4 d5
          have HBx := Lib.hid (B6 hHeld.2.2.2.2.2.2.2.2.2.2.2.2 (g := gB) (by omega) (.int .i64 by_) (.int .i64 bm) (.int .i64 bd) (.int .i64 bs) (.bool xz) (.int .i64 ao))
          replace RX := Lib.hid (far6 RX.out (g := gB) (by omega) (.int .i64 by_) (.int .i64 bm) (.int .i64 bd) (.int .i64 bs) (.bool xz) (.int .i64 ao))
          replace RY := Lib.hid (far6 RY.out (g := gB) (by omega) (.int .i64 by_) (.int .i64 bm) (.int .i64 bd) (.int .i64 bs) (.bool xz) (.int .i64 ao))
          replace PA := Lib.hid (PA.out.far6 (g := gB) ne (.int .i64 by_) (.int .i64 bm) (.int .i64 bd) (.int .i64 bs) (.bool xz) (.int .i64 ao))
          replace PB := Lib.hid (PB.out.put (y := by_) (m := bm) (d := bd) (s := bs) (z := xz) (o := ao))
          clear hHeld
          refine hK.out _ _ ?_ (fun hHeld => ?_)
          · exact ⟨RX.out.1.1, RX.out.1.2.1, RX.out.1.2.2.1, RX.out.1.2.2.2.1, RX.out.1.2.2.2.2.1, RX.out.1.2.2.2.2.2, RY.out.1.1, RY.out.1.2.1, RY.out.1.2.2.1, RY.out.1.2.2.2.1, RY.out.1.2.2.2.2.1, RY.out.1.2.2.2.2.2, HBx.out⟩
          clear hK K HBx
          try simp only [Act.put, List.setIfInBounds_toArray, List.set_cons_zero, List.set_cons_succ]
          refine wpAnyH_done (by kernel_rfl) ?_ _
          exact ⟨gA, gB, rfl, RX.out, RY.out, PA.out, PB.out, lePA, lePB, hHeld.2.2.2.2.2.2.2.2.2.2.2.2⟩
      · go_simp
        have ne := Nat.ne_of_lt PA.out.2.2
        replace RX := Lib.hid (RX.out.alloc (MoC 0 0 0 0 false 0))
        replace RY := Lib.hid (RY.out.alloc (MoC 0 0 0 0 false 0))
        replace PA := Lib.hid (PA.out.alloc (MoC 0 0 0 0 false 0))
        have PB := Lib.hid (HoldsN.new rfl : HoldsN (v1.alloc (MoC 0 0 0 0 false 0)) v1.heap.size 0 0 0 0 false 0)
        have lePB := le0
        replace le0 := Nat.le_trans le0 (Below.alloc (Below.refl v1.heap.size v1) (Nat.le_refl _) (MoC 0 0 0 0 false 0)).size
        have HBx := Lib.hid (ballD1 hHeld.2.2.2.2.2.2.2.2.2.2.2.2 (MoC 0 0 0 0 false 0))
        clear hHeld
        refine hK.out _ _ ?_ (fun hHeld => ?_)
        · exact ⟨RX.out.1.1, RX.out.1.2.1, RX.out.1.2.2.1, RX.out.1.2.2.2.1, RX.out.1.2.2.2.2.1, RX.out.1.2.2.2.2.2, RY.out.1.1, RY.out.1.2.1, RY.out.1.2.2.1, RY.out.1.2.2.2.1, RY.out.1.2.2.2.2.1, RY.out.1.2.2.2.2.2, HBx.out⟩
        clear hK K HBx
        try simp only [Act.put, List.setIfInBounds_toArray, List.set_cons_zero, List.set_cons_succ]
        generalize v1.alloc (MoC 0 0 0 0 false 0) = v2 at *
        obtain ⟨gB, hg⟩ : ∃ g, g = v1.heap.size := ⟨_, rfl⟩
        rw [← hg] at PB lePB ne ⊢
        clear hg
        refine wpAnyH_ready (rs := [1]) (by kernel_rfl) (by simp) ?_
        refine AllReadyH.cons (o := { dst := some 30, op := Go.Op.call { callee := Go.Callee.value (Go.Operand.func 9), args := #[Go.Operand.tmp 29], argTypes := #[23] }, type := 29, pos := "law.go:119", after := #[{ on := 0, ground := Go.Ground.data }], guard := none }) rfl (fun K hK => ?_) AllReadyH.nil
        go_simp
        refine (MA.out _).mono ?_
        rintro e v3 ⟨rfl, hbv⟩
        replace RX := Lib.hid (RX.out.below hbv)
        replace RY := Lib.hid (RY.out.below hbv)
        replace PA := Lib.hid (PA.out.below hbv)
        replace PB := Lib.hid (PB.out.below hbv)
        have HBx := Lib.hid (bstep hHeld.2.2.2.2.2.2.2.2.2.2.2.2 hbv)
        replace le0 := Nat.le_trans le0 hbv.size
        clear hHeld hbv
        refine hK.out _ _ ?_ (fun hHeld => ?_)
        · exact ⟨RX.out.1.1, RX.out.1.2.1, RX.out.1.2.2.1, RX.out.1.2.2.2.1, RX.out.1.2.2.2.2.1, RX.out.1.2.2.2.2.2, RY.out.1.1, RY.out.1.2.1, RY.out.1.2.2.1, RY.out.1.2.2.2.1, RY.out.1.2.2.2.2.1, RY.out.1.2.2.2.2.2, HBx.out⟩
        clear hK K HBx
        try simp only [Act.put, List.setIfInBounds_toArray, List.set_cons_zero, List.set_cons_succ]
        refine wpAnyH_ready (rs := [3]) (by kernel_rfl) (by simp) ?_
        refine AllReadyH.cons (o := { dst := some 32, op := Go.Op.call { callee := Go.Callee.value (Go.Operand.func 9), args := #[Go.Operand.tmp 31], argTypes := #[23] }, type := 29, pos := "law.go:119", after := #[{ on := 2, ground := Go.Ground.data }, { on := 1, ground := Go.Ground.chain }], guard := none }) rfl (fun K hK => ?_) AllReadyH.nil
        go_simp
        refine (MB.out _).mono ?_
        rintro e v4 ⟨rfl, hbv⟩
        replace RX := Lib.hid (RX.out.below hbv)
        replace RY := Lib.hid (RY.out.below hbv)
        replace PA := Lib.hid (PA.out.below hbv)
        replace PB := Lib.hid (PB.out.below hbv)
        have HBx := Lib.hid (bstep hHeld.2.2.2.2.2.2.2.2.2.2.2.2 hbv)
        replace le0 := Nat.le_trans le0 hbv.size
        clear hHeld hbv
        refine hK.out _ _ ?_ (fun hHeld => ?_)
        · exact ⟨RX.out.1.1, RX.out.1.2.1, RX.out.1.2.2.1, RX.out.1.2.2.2.1, RX.out.1.2.2.2.2.1, RX.out.1.2.2.2.2.2, RY.out.1.1, RY.out.1.2.1, RY.out.1.2.2.1, RY.out.1.2.2.2.1, RY.out.1.2.2.2.2.1, RY.out.1.2.2.2.2.2, HBx.out⟩
        clear hK K HBx
        try simp only [Act.put, List.setIfInBounds_toArray, List.set_cons_zero, List.set_cons_succ]
        obtain ⟨⟨d0, d1, d2, d3, d4, d5⟩, ⟨f0, f1, f2, f3, f4, f5⟩, f6⟩ := id PA.out
        refine wpAnyH_ready (rs := [6]) (by kernel_rfl) (by simp) ?_
        refine AllReadyH.cons (o := { dst := none, op := Go.Op.store 29 (Go.Operand.tmp 5) (Go.Operand.tmp 30), type := 0, pos := "law.go:119", after := #[{ on := 4, ground := Go.Ground.data }, { on := 1, ground := Go.Ground.data }, { on := 3, ground := Go.Ground.chain }, { on := 0, ground := Go.Ground.phase }, { on := 1, ground := Go.Ground.phase }, { on := 2, ground := Go.Ground.textOnly Go.Departure.lateStores }, { on := 3, ground := Go.Ground.textOnly Go.Departure.lateStoresUnsure }, { on := 4, ground := Go.Ground.phase }, { on := 5, ground := Go.Ground.phase }], guard := none }) rfl (fun K hK => ?_) AllReadyH.nil
        go_simp
        clear f0 f1 f2 f3 f4 f5 f6 d0 d1 d2 d3 d4 d5
        have HBx := Lib.hid (B6 hHeld.2.2.2.2.2.2.2.2.2.2.2.2 (g := gA) (by omega) (.int .i64 ay) (.int .i64 am) (.int .i64 ad) (.int .i64 as') (.bool xz) (.int .i64 ao))
        replace RX := Lib.hid (far6 RX.out (g := gA) (by omega) (.int .i64 ay) (.int .i64 am) (.int .i64 ad) (.int .i64 as') (.bool xz) (.int .i64 ao))
        replace RY := Lib.hid (far6 RY.out (g := gA) (by omega) (.int .i64 ay) (.int .i64 am) (.int .i64 ad) (.int .i64 as') (.bool xz) (.int .i64 ao))
        replace PB := Lib.hid (PB.out.far6 (g := gA) ne.symm (.int .i64 ay) (.int .i64 am) (.int .i64 ad) (.int .i64 as') (.bool xz) (.int .i64 ao))
        replace PA := Lib.hid (PA.out.put (y := ay) (m := am) (d := ad) (s := as') (z := xz) (o := ao))
        clear hHeld
        refine hK.out _ _ ?_ (fun hHeld => ?_)
        · exact ⟨RX.out.1.1, RX.out.1.2.1, RX.out.1.2.2.1, RX.out.1.2.2.2.1, RX.out.1.2.2.2.2.1, RX.out.1.2.2.2.2.2, RY.out.1.1, RY.out.1.2.1, RY.out.1.2.2.1, RY.out.1.2.2.2.1, RY.out.1.2.2.2.2.1, RY.out.1.2.2.2.2.2, HBx.out⟩
        clear hK K HBx
        try simp only [Act.put, List.setIfInBounds_toArray, List.set_cons_zero, List.set_cons_succ]
        obtain ⟨⟨d0, d1, d2, d3, d4, d5⟩, ⟨f0, f1, f2, f3, f4, f5⟩, f6⟩ := id PB.out
        refine wpAnyH_ready (rs := [7]) (by kernel_rfl) (by simp) ?_
        refine AllReadyH.cons (o := { dst := none, op := Go.Op.store 29 (Go.Operand.tmp 6) (Go.Operand.tmp 32), type := 0, pos := "law.go:119", after := #[{ on := 5, ground := Go.Ground.data }, { on := 3, ground := Go.Ground.data }, { on := 6, ground := Go.Ground.chain }, { on := 0, ground := Go.Ground.phase }, { on := 1, ground := Go.Ground.phase }, { on := 2, ground := Go.Ground.phase }, { on := 3, ground := Go.Ground.phase }, { on := 4, ground := Go.Ground.phase }, { on := 5, ground := Go.Ground.phase }, { on := 6, ground := Go.Ground.phase }], guard := none }) rfl (fun K hK => ?_) AllReadyH.nil
        go_simp
        clear f0 f1 f2 f3 f4 f5 f6 d0 d1 d2 d3 d4 d5
        have HBx := Lib.hid (B6 hHeld.2.2.2.2.2.2.2.2.2.2.2.2 (g := gB) (by omega) (.int .i64 by_) (.int .i64 bm) (.int .i64 bd) (.int .i64 bs) (.bool xz) (.int .i64 ao))
        replace RX := Lib.hid (far6 RX.out (g := gB) (by omega) (.int .i64 by_) (.int .i64 bm) (.int .i64 bd) (.int .i64 bs) (.bool xz) (.int .i64 ao))
        replace RY := Lib.hid (far6 RY.out (g := gB) (by omega) (.int .i64 by_) (.int .i64 bm) (.int .i64 bd) (.int .i64 bs) (.bool xz) (.int .i64 ao))
        replace PA := Lib.hid (PA.out.far6 (g := gB) ne (.int .i64 by_) (.int .i64 bm) (.int .i64 bd) (.int .i64 bs) (.bool xz) (.int .i64 ao))
        replace PB := Lib.hid (PB.out.put (y := by_) (m := bm) (d := bd) (s := bs) (z := xz) (o := ao))
        clear hHeld
        refine hK.out _ _ ?_ (fun hHeld => ?_)
        · exact ⟨RX.out.1.1, RX.out.1.2.1, RX.out.1.2.2.1, RX.out.1.2.2.2.1, RX.out.1.2.2.2.2.1, RX.out.1.2.2.2.2.2, RY.out.1.1, RY.out.1.2.1, RY.out.1.2.2.1, RY.out.1.2.2.2.1, RY.out.1.2.2.2.2.1, RY.out.1.2.2.2.2.2, HBx.out⟩
        clear hK K HBx
        try simp only [Act.put, List.setIfInBounds_toArray, List.set_cons_zero, List.set_cons_succ]
        refine wpAnyH_done (by kernel_rfl) ?_ _
        exact ⟨gA, gB, rfl, RX.out, RY.out, PA.out, PB.out, lePA, lePB, hHeld.2.2.2.2.2.2.2.2.2.2.2.2⟩
    · go_simp
      replace RX := Lib.hid (RX.out.alloc (MoC 0 0 0 0 false 0))
      replace RY := Lib.hid (RY.out.alloc (MoC 0 0 0 0 false 0))
      have PB := Lib.hid (HoldsN.new rfl : HoldsN (v0.alloc (MoC 0 0 0 0 false 0)) v0.heap.size 0 0 0 0 false 0)
      have lePB := le0
      replace le0 := Nat.le_trans le0 (Below.alloc (Below.refl v0.heap.size v0) (Nat.le_refl _) (MoC 0 0 0 0 false 0)).size
      have HBx := Lib.hid (ballD1 hHeld.2.2.2.2.2.2.2.2.2.2.2.2 (MoC 0 0 0 0 false 0))
      clear hHeld
      refine hK.out _ _ ?_ (fun hHeld => ?_)
      · exact ⟨RX.out.1.1, RX.out.1.2.1, RX.out.1.2.2.1, RX.out.1.2.2.2.1, RX.out.1.2.2.2.2.1, RX.out.1.2.2.2.2.2, RY.out.1.1, RY.out.1.2.1, RY.out.1.2.2.1, RY.out.1.2.2.2.1, RY.out.1.2.2.2.2.1, RY.out.1.2.2.2.2.2, HBx.out⟩
      clear hK K HBx
      try simp only [Act.put, List.setIfInBounds_toArray, List.set_cons_zero, List.set_cons_succ]
      generalize v0.alloc (MoC 0 0 0 0 false 0) = v1 at *
      obtain ⟨gB, hg⟩ : ∃ g, g = v0.heap.size := ⟨_, rfl⟩
      rw [← hg] at PB lePB ⊢
      clear hg
      refine wpAnyH_ready (rs := [1, 4]) (by kernel_rfl) (by simp) ?_
      refine AllReadyH.cons (o := { dst := some 30, op := Go.Op.call { callee := Go.Callee.value (Go.Operand.func 9), args := #[Go.Operand.tmp 29], argTypes := #[23] }, type := 29, pos := "law.go:119", after := #[{ on := 0, ground := Go.Ground.data }], guard := none }) rfl (fun K hK => ?_) (AllReadyH.cons (o := { dst := some 5, op := Go.Op.alloc 29, type := 0, pos := "law.go:119", after := #[], guard := none }) rfl (fun K hK => ?_) AllReadyH.nil)
      · go_simp
        refine (MA.out _).mono ?_
        rintro e v2 ⟨rfl, hbv⟩
        replace RX := Lib.hid (RX.out.below hbv)
        replace RY := Lib.hid (RY.out.below hbv)
        replace PB := Lib.hid (PB.out.below hbv)
        have HBx := Lib.hid (bstep hHeld.2.2.2.2.2.2.2.2.2.2.2.2 hbv)
        replace le0 := Nat.le_trans le0 hbv.size
        clear hHeld hbv
        refine hK.out _ _ ?_ (fun hHeld => ?_)
        · exact ⟨RX.out.1.1, RX.out.1.2.1, RX.out.1.2.2.1, RX.out.1.2.2.2.1, RX.out.1.2.2.2.2.1, RX.out.1.2.2.2.2.2, RY.out.1.1, RY.out.1.2.1, RY.out.1.2.2.1, RY.out.1.2.2.2.1, RY.out.1.2.2.2.2.1, RY.out.1.2.2.2.2.2, HBx.out⟩
        clear hK K HBx
        try simp only [Act.put, List.setIfInBounds_toArray, List.set_cons_zero, List.set_cons_succ]
        refine wpAnyH_ready (rs := [3, 4]) (by kernel_rfl) (by simp) ?_
        refine AllReadyH.cons (o := { dst := some 32, op := Go.Op.call { callee := Go.Callee.value (Go.Operand.func 9), args := #[Go.Operand.tmp 31], argTypes := #[23] }, type := 29, pos := "law.go:119", after := #[{ on := 2, ground := Go.Ground.data }, { on := 1, ground := Go.Ground.chain }], guard := none }) rfl (fun K hK => ?_) (AllReadyH.cons (o := { dst := some 5, op := Go.Op.alloc 29, type := 0, pos := "law.go:119", after := #[], guard := none }) rfl (fun K hK => ?_) AllReadyH.nil)
        · go_simp
          refine (MB.out _).mono ?_
          rintro e v3 ⟨rfl, hbv⟩
          replace RX := Lib.hid (RX.out.below hbv)
          replace RY := Lib.hid (RY.out.below hbv)
          replace PB := Lib.hid (PB.out.below hbv)
          have HBx := Lib.hid (bstep hHeld.2.2.2.2.2.2.2.2.2.2.2.2 hbv)
          replace le0 := Nat.le_trans le0 hbv.size
          clear hHeld hbv
          refine hK.out _ _ ?_ (fun hHeld => ?_)
          · exact ⟨RX.out.1.1, RX.out.1.2.1, RX.out.1.2.2.1, RX.out.1.2.2.2.1, RX.out.1.2.2.2.2.1, RX.out.1.2.2.2.2.2, RY.out.1.1, RY.out.1.2.1, RY.out.1.2.2.1, RY.out.1.2.2.2.1, RY.out.1.2.2.2.2.1, RY.out.1.2.2.2.2.2, HBx.out⟩
          clear hK K HBx
          try simp only [Act.put, List.setIfInBounds_toArray, List.set_cons_zero, List.set_cons_succ]
          refine wpAnyH_ready (rs := [4]) (by kernel_rfl) (by simp) ?_
          refine AllReadyH.cons (o := { dst := some 5, op := Go.Op.alloc 29, type := 0, pos := "law.go:119", after := #[], guard := none }) rfl (fun K hK => ?_) AllReadyH.nil
          go_simp
          have ne := Nat.ne_of_lt PB.out.2.2
          replace RX := Lib.hid (RX.out.alloc (MoC 0 0 0 0 false 0))
          replace RY := Lib.hid (RY.out.alloc (MoC 0 0 0 0 false 0))
          replace PB := Lib.hid (PB.out.alloc (MoC 0 0 0 0 false 0))
          have PA := Lib.hid (HoldsN.new rfl : HoldsN (v3.alloc (MoC 0 0 0 0 false 0)) v3.heap.size 0 0 0 0 false 0)
          have lePA := le0
          replace le0 := Nat.le_trans le0 (Below.alloc (Below.refl v3.heap.size v3) (Nat.le_refl _) (MoC 0 0 0 0 false 0)).size
          have HBx := Lib.hid (ballD1 hHeld.2.2.2.2.2.2.2.2.2.2.2.2 (MoC 0 0 0 0 false 0))
          clear hHeld
          refine hK.out _ _ ?_ (fun hHeld => ?_)
          · exact ⟨RX.out.1.1, RX.out.1.2.1, RX.out.1.2.2.1, RX.out.1.2.2.2.1, RX.out.1.2.2.2.2.1, RX.out.1.2.2.2.2.2, RY.out.1.1, RY.out.1.2.1, RY.out.1.2.2.1, RY.out.1.2.2.2.1, RY.out.1.2.2.2.2.1, RY.out.1.2.2.2.2.2, HBx.out⟩
          clear hK K HBx
          try simp only [Act.put, List.setIfInBounds_toArray, List.set_cons_zero, List.set_cons_succ]
          generalize v3.alloc (MoC 0 0 0 0 false 0) = v4 at *
          obtain ⟨gA, hg⟩ : ∃ g, g = v3.heap.size := ⟨_, rfl⟩
          rw [← hg] at PA lePA ne ⊢
          clear hg
          replace ne := ne.symm
          obtain ⟨⟨d0, d1, d2, d3, d4, d5⟩, ⟨f0, f1, f2, f3, f4, f5⟩, f6⟩ := id PA.out
          refine wpAnyH_ready (rs := [6]) (by kernel_rfl) (by simp) ?_
          refine AllReadyH.cons (o := { dst := none, op := Go.Op.store 29 (Go.Operand.tmp 5) (Go.Operand.tmp 30), type := 0, pos := "law.go:119", after := #[{ on := 4, ground := Go.Ground.data }, { on := 1, ground := Go.Ground.data }, { on := 3, ground := Go.Ground.chain }, { on := 0, ground := Go.Ground.phase }, { on := 1, ground := Go.Ground.phase }, { on := 2, ground := Go.Ground.textOnly Go.Departure.lateStores }, { on := 3, ground := Go.Ground.textOnly Go.Departure.lateStoresUnsure }, { on := 4, ground := Go.Ground.phase }, { on := 5, ground := Go.Ground.phase }], guard := none }) rfl (fun K hK => ?_) AllReadyH.nil
          go_simp
          clear f0 f1 f2 f3 f4 f5 f6 d0 d1 d2 d3 d4 d5
          have HBx := Lib.hid (B6 hHeld.2.2.2.2.2.2.2.2.2.2.2.2 (g := gA) (by omega) (.int .i64 ay) (.int .i64 am) (.int .i64 ad) (.int .i64 as') (.bool xz) (.int .i64 ao))
          replace RX := Lib.hid (far6 RX.out (g := gA) (by omega) (.int .i64 ay) (.int .i64 am) (.int .i64 ad) (.int .i64 as') (.bool xz) (.int .i64 ao))
          replace RY := Lib.hid (far6 RY.out (g := gA) (by omega) (.int .i64 ay) (.int .i64 am) (.int .i64 ad) (.int .i64 as') (.bool xz) (.int .i64 ao))
          replace PB := Lib.hid (PB.out.far6 (g := gA) ne.symm (.int .i64 ay) (.int .i64 am) (.int .i64 ad) (.int .i64 as') (.bool xz) (.int .i64 ao))
          replace PA := Lib.hid (PA.out.put (y := ay) (m := am) (d := ad) (s := as') (z := xz) (o := ao))
          clear hHeld
          refine hK.out _ _ ?_ (fun hHeld => ?_)
          · exact ⟨RX.out.1.1, RX.out.1.2.1, RX.out.1.2.2.1, RX.out.1.2.2.2.1, RX.out.1.2.2.2.2.1, RX.out.1.2.2.2.2.2, RY.out.1.1, RY.out.1.2.1, RY.out.1.2.2.1, RY.out.1.2.2.2.1, RY.out.1.2.2.2.2.1, RY.out.1.2.2.2.2.2, HBx.out⟩
          clear hK K HBx
          try simp only [Act.put, List.setIfInBounds_toArray, List.set_cons_zero, List.set_cons_succ]
          obtain ⟨⟨d0, d1, d2, d3, d4, d5⟩, ⟨f0, f1, f2, f3, f4, f5⟩, f6⟩ := id PB.out
          refine wpAnyH_ready (rs := [7]) (by kernel_rfl) (by simp) ?_
          refine AllReadyH.cons (o := { dst := none, op := Go.Op.store 29 (Go.Operand.tmp 6) (Go.Operand.tmp 32), type := 0, pos := "law.go:119", after := #[{ on := 5, ground := Go.Ground.data }, { on := 3, ground := Go.Ground.data }, { on := 6, ground := Go.Ground.chain }, { on := 0, ground := Go.Ground.phase }, { on := 1, ground := Go.Ground.phase }, { on := 2, ground := Go.Ground.phase }, { on := 3, ground := Go.Ground.phase }, { on := 4, ground := Go.Ground.phase }, { on := 5, ground := Go.Ground.phase }, { on := 6, ground := Go.Ground.phase }], guard := none }) rfl (fun K hK => ?_) AllReadyH.nil
          go_simp
          clear f0 f1 f2 f3 f4 f5 f6 d0 d1 d2 d3 d4 d5
          have HBx := Lib.hid (B6 hHeld.2.2.2.2.2.2.2.2.2.2.2.2 (g := gB) (by omega) (.int .i64 by_) (.int .i64 bm) (.int .i64 bd) (.int .i64 bs) (.bool xz) (.int .i64 ao))
          replace RX := Lib.hid (far6 RX.out (g := gB) (by omega) (.int .i64 by_) (.int .i64 bm) (.int .i64 bd) (.int .i64 bs) (.bool xz) (.int .i64 ao))
          replace RY := Lib.hid (far6 RY.out (g := gB) (by omega) (.int .i64 by_) (.int .i64 bm) (.int .i64 bd) (.int .i64 bs) (.bool xz) (.int .i64 ao))
          replace PA := Lib.hid (PA.out.far6 (g := gB) ne (.int .i64 by_) (.int .i64 bm) (.int .i64 bd) (.int .i64 bs) (.bool xz) (.int .i64 ao))
          replace PB := Lib.hid (PB.out.put (y := by_) (m := bm) (d := bd) (s := bs) (z := xz) (o := ao))
          clear hHeld
          refine hK.out _ _ ?_ (fun hHeld => ?_)
          · exact ⟨RX.out.1.1, RX.out.1.2.1, RX.out.1.2.2.1, RX.out.1.2.2.2.1, RX.out.1.2.2.2.2.1, RX.out.1.2.2.2.2.2, RY.out.1.1, RY.out.1.2.1, RY.out.1.2.2.1, RY.out.1.2.2.2.1, RY.out.1.2.2.2.2.1, RY.out.1.2.2.2.2.2, HBx.out⟩
          clear hK K HBx
          try simp only [Act.put, List.setIfInBounds_toArray, List.set_cons_zero, List.set_cons_succ]
          refine wpAnyH_done (by kernel_rfl) ?_ _
          exact ⟨gA, gB, rfl, RX.out, RY.out, PA.out, PB.out, lePA, lePB, hHeld.2.2.2.2.2.2.2.2.2.2.2.2⟩
        · go_simp
          have ne := Nat.ne_of_lt PB.out.2.2
          replace RX := Lib.hid (RX.out.alloc (MoC 0 0 0 0 false 0))
          replace RY := Lib.hid (RY.out.alloc (MoC 0 0 0 0 false 0))
          replace PB := Lib.hid (PB.out.alloc (MoC 0 0 0 0 false 0))
          have PA := Lib.hid (HoldsN.new rfl : HoldsN (v2.alloc (MoC 0 0 0 0 false 0)) v2.heap.size 0 0 0 0 false 0)
          have lePA := le0
          replace le0 := Nat.le_trans le0 (Below.alloc (Below.refl v2.heap.size v2) (Nat.le_refl _) (MoC 0 0 0 0 false 0)).size
          have HBx := Lib.hid (ballD1 hHeld.2.2.2.2.2.2.2.2.2.2.2.2 (MoC 0 0 0 0 false 0))
          clear hHeld
          refine hK.out _ _ ?_ (fun hHeld => ?_)
          · exact ⟨RX.out.1.1, RX.out.1.2.1, RX.out.1.2.2.1, RX.out.1.2.2.2.1, RX.out.1.2.2.2.2.1, RX.out.1.2.2.2.2.2, RY.out.1.1, RY.out.1.2.1, RY.out.1.2.2.1, RY.out.1.2.2.2.1, RY.out.1.2.2.2.2.1, RY.out.1.2.2.2.2.2, HBx.out⟩
          clear hK K HBx
          try simp only [Act.put, List.setIfInBounds_toArray, List.set_cons_zero, List.set_cons_succ]
          generalize v2.alloc (MoC 0 0 0 0 false 0) = v3 at *
          obtain ⟨gA, hg⟩ : ∃ g, g = v2.heap.size := ⟨_, rfl⟩
          rw [← hg] at PA lePA ne ⊢
          clear hg
          replace ne := ne.symm
          refine wpAnyH_ready (rs := [3]) (by kernel_rfl) (by simp) ?_
          refine AllReadyH.cons (o := { dst := some 32, op := Go.Op.call { callee := Go.Callee.value (Go.Operand.func 9), args := #[Go.Operand.tmp 31], argTypes := #[23] }, type := 29, pos := "law.go:119", after := #[{ on := 2, ground := Go.Ground.data }, { on := 1, ground := Go.Ground.chain }], guard := none }) rfl (fun K hK => ?_) AllReadyH.nil
          go_simp
          refine (MB.out _).mono ?_
          rintro e v4 ⟨rfl, hbv⟩
          replace RX := Lib.hid (RX.out.below hbv)
          replace RY := Lib.hid (RY.out.below hbv)
          replace PA := Lib.hid (PA.out.below hbv)
          replace PB := Lib.hid (PB.out.below hbv)
          have HBx := Lib.hid (bstep hHeld.2.2.2.2.2.2.2.2.2.2.2.2 hbv)
          replace le0 := Nat.le_trans le0 hbv.size
          clear hHeld hbv
          refine hK.out _ _ ?_ (fun hHeld => ?_)
          · exact ⟨RX.out.1.1, RX.out.1.2.1, RX.out.1.2.2.1, RX.out.1.2.2.2.1, RX.out.1.2.2.2.2.1, RX.out.1.2.2.2.2.2, RY.out.1.1, RY.out.1.2.1, RY.out.1.2.2.1, RY.out.1.2.2.2.1, RY.out.1.2.2.2.2.1, RY.out.1.2.2.2.2.2, HBx.out⟩
          clear hK K HBx
          try simp only [Act.put, List.setIfInBounds_toArray, List.set_cons_zero, List.set_cons_succ]
          obtain ⟨⟨d0, d1, d2, d3, d4, d5⟩, ⟨f0, f1, f2, f3, f4, f5⟩, f6⟩ := id PA.out
          refine wpAnyH_ready (rs := [6]) (by kernel_rfl) (by simp) ?_
          refine AllReadyH.cons (o := { dst := none, op := Go.Op.store 29 (Go.Operand.tmp 5) (Go.Operand.tmp 30), type := 0, pos := "law.go:119", after := #[{ on := 4, ground := Go.Ground.data }, { on := 1, ground := Go.Ground.data }, { on := 3, ground := Go.Ground.chain }, { on := 0, ground := Go.Ground.phase }, { on := 1, ground := Go.Ground.phase }, { on := 2, ground := Go.Ground.textOnly Go.Departure.lateStores }, { on := 3, ground := Go.Ground.textOnly Go.Departure.lateStoresUnsure }, { on := 4, ground := Go.Ground.phase }, { on := 5, ground := Go.Ground.phase }], guard := none }) rfl (fun K hK => ?_) AllReadyH.nil
          go_simp
          clear f0 f1 f2 f3 f4 f5 f6 d0 d1 d2 d3 d4 d5
          have HBx := Lib.hid (B6 hHeld.2.2.2.2.2.2.2.2.2.2.2.2 (g := gA) (by omega) (.int .i64 ay) (.int .i64 am) (.int .i64 ad) (.int .i64 as') (.bool xz) (.int .i64 ao))
          replace RX := Lib.hid (far6 RX.out (g := gA) (by omega) (.int .i64 ay) (.int .i64 am) (.int .i64 ad) (.int .i64 as') (.bool xz) (.int .i64 ao))
          replace RY := Lib.hid (far6 RY.out (g := gA) (by omega) (.int .i64 ay) (.int .i64 am) (.int .i64 ad) (.int .i64 as') (.bool xz) (.int .i64 ao))
          replace PB := Lib.hid (PB.out.far6 (g := gA) ne.symm (.int .i64 ay) (.int .i64 am) (.int .i64 ad) (.int .i64 as') (.bool xz) (.int .i64 ao))
          replace PA := Lib.hid (PA.out.put (y := ay) (m := am) (d := ad) (s := as') (z := xz) (o := ao))
          clear hHeld
          refine hK.out _ _ ?_ (fun hHeld => ?_)
          · exact ⟨RX.out.1.1, RX.out.1.2.1, RX.out.1.2.2.1, RX.out.1.2.2.2.1, RX.out.1.2.2.2.2.1, RX.out.1.2.2.2.2.2, RY.out.1.1, RY.out.1.2.1, RY.out.1.2.2.1, RY.out.1.2.2.2.1, RY.out.1.2.2.2.2.1, RY.out.1.2.2.2.2.2, HBx.out⟩
          clear hK K HBx
          try simp only [Act.put, List.setIfInBounds_toArray, List.set_cons_zero, List.set_cons_succ]
          obtain ⟨⟨d0, d1, d2, d3, d4, d5⟩, ⟨f0, f1, f2, f3, f4, f5⟩, f6⟩ := id PB.out
          refine wpAnyH_ready (rs := [7]) (by kernel_rfl) (by simp) ?_
          refine AllReadyH.cons (o := { dst := none, op := Go.Op.store 29 (Go.Operand.tmp 6) (Go.Operand.tmp 32), type := 0, pos := "law.go:119", after := #[{ on := 5, ground := Go.Ground.data }, { on := 3, ground := Go.Ground.data }, { on := 6, ground := Go.Ground.chain }, { on := 0, ground := Go.Ground.phase }, { on := 1, ground := Go.Ground.phase }, { on := 2, ground := Go.Ground.phase }, { on := 3, ground := Go.Ground.phase }, { on := 4, ground := Go.Ground.phase }, { on := 5, ground := Go.Ground.phase }, { on := 6, ground := Go.Ground.phase }], guard := none }) rfl (fun K hK => ?_) AllReadyH.nil
          go_simp
          clear f0 f1 f2 f3 f4 f5 f6 d0 d1 d2 d3 d4 d5
          have HBx := Lib.hid (B6 hHeld.2.2.2.2.2.2.2.2.2.2.2.2 (g := gB) (by omega) (.int .i64 by_) (.int .i64 bm) (.int .i64 bd) (.int .i64 bs) (.bool xz) (.int .i64 ao))
          replace RX := Lib.hid (far6 RX.out (g := gB) (by omega) (.int .i64 by_) (.int .i64 bm) (.int .i64 bd) (.int .i64 bs) (.bool xz) (.int .i64 ao))
          replace RY := Lib.hid (far6 RY.out (g := gB) (by omega) (.int .i64 by_) (.int .i64 bm) (.int .i64 bd) (.int .i64 bs) (.bool xz) (.int .i64 ao))
          replace PA := Lib.hid (PA.out.far6 (g := gB) ne (.int .i64 by_) (.int .i64 bm) (.int .i64 bd) (.int .i64 bs) (.bool xz) (.int .i64 ao))
          replace PB := Lib.hid (PB.out.put (y := by_) (m := bm) (d := bd) (s := bs) (z := xz) (o := ao))
          clear hHeld
          refine hK.out _ _ ?_ (fun hHeld => ?_)
          · exact ⟨RX.out.1.1, RX.out.1.2.1, RX.out.1.2.2.1, RX.out.1.2.2.2.1, RX.out.1.2.2.2.2.1, RX.out.1.2.2.2.2.2, RY.out.1.1, RY.out.1.2.1, RY.out.1.2.2.1, RY.out.1.2.2.2.1, RY.out.1.2.2.2.2.1, RY.out.1.2.2.2.2.2, HBx.out⟩
          clear hK K HBx
          try simp only [Act.put, List.setIfInBounds_toArray, List.set_cons_zero, List.set_cons_succ]
          refine wpAnyH_done (by kernel_rfl) ?_ _
          exact ⟨gA, gB, rfl, RX.out, RY.out, PA.out, PB.out, lePA, lePB, hHeld.2.2.2.2.2.2.2.2.2.2.2.2⟩
      · go_simp
        have ne := Nat.ne_of_lt PB.out.2.2
        replace RX := Lib.hid (RX.out.alloc (MoC 0 0 0 0 false 0))
        replace RY := Lib.hid (RY.out.alloc (MoC 0 0 0 0 false 0))
        replace PB := Lib.hid (PB.out.alloc (MoC 0 0 0 0 false 0))
        have PA := Lib.hid (HoldsN.new rfl : HoldsN (v1.alloc (MoC 0 0 0 0 false 0)) v1.heap.size 0 0 0 0 false 0)
        have lePA := le0
        replace le0 := Nat.le_trans le0 (Below.alloc (Below.refl v1.heap.size v1) (Nat.le_refl _) (MoC 0 0 0 0 false 0)).size
        have HBx := Lib.hid (ballD1 hHeld.2.2.2.2.2.2.2.2.2.2.2.2 (MoC 0 0 0 0 false 0))
        clear hHeld
        refine hK.out _ _ ?_ (fun hHeld => ?_)
        · exact ⟨RX.out.1.1, RX.out.1.2.1, RX.out.1.2.2.1, RX.out.1.2.2.2.1, RX.out.1.2.2.2.2.1, RX.out.1.2.2.2.2.2, RY.out.1.1, RY.out.1.2.1, RY.out.1.2.2.1, RY.out.1.2.2.2.1, RY.out.1.2.2.2.2.1, RY.out.1.2.2.2.2.2, HBx.out⟩
        clear hK K HBx
        try simp only [Act.put, List.setIfInBounds_toArray, List.set_cons_zero, List.set_cons_succ]
        generalize v1.alloc (MoC 0 0 0 0 false 0) = v2 at *
        obtain ⟨gA, hg⟩ : ∃ g, g = v1.heap.size := ⟨_, rfl⟩
        rw [← hg] at PA lePA ne ⊢
        clear hg
        replace ne := ne.symm
        refine wpAnyH_ready (rs := [1]) (by kernel_rfl) (by simp) ?_
        refine AllReadyH.cons (o := { dst := some 30, op := Go.Op.call { callee := Go.Callee.value (Go.Operand.func 9), args := #[Go.Operand.tmp 29], argTypes := #[23] }, type := 29, pos := "law.go:119", after := #[{ on := 0, ground := Go.Ground.data }], guard := none }) rfl (fun K hK => ?_) AllReadyH.nil
        go_simp
        refine (MA.out _).mono ?_
        rintro e v3 ⟨rfl, hbv⟩
        replace RX := Lib.hid (RX.out.below hbv)
        replace RY := Lib.hid (RY.out.below hbv)
        replace PA := Lib.hid (PA.out.below hbv)
        replace PB := Lib.hid (PB.out.below hbv)
        have HBx := Lib.hid (bstep hHeld.2.2.2.2.2.2.2.2.2.2.2.2 hbv)
        replace le0 := Nat.le_trans le0 hbv.size
        clear hHeld hbv
        refine hK.out _ _ ?_ (fun hHeld => ?_)
        · exact ⟨RX.out.1.1, RX.out.1.2.1, RX.out.1.2.2.1, RX.out.1.2.2.2.1, RX.out.1.2.2.2.2.1, RX.out.1.2.2.2.2.2, RY.out.1.1, RY.out.1.2.1, RY.out.1.2.2.1, RY.out.1.2.2.2.1, RY.out.1.2.2.2.2.1, RY.out.1.2.2.2.2.2, HBx.out⟩
        clear hK K HBx
        try simp only [Act.put, List.setIfInBounds_toArray, List.set_cons_zero, List.set_cons_succ]
        refine wpAnyH_ready (rs := [3]) (by kernel_rfl) (by simp) ?_
        refine AllReadyH.cons (o := { dst := some 32, op := Go.Op.call { callee := Go.Callee.value (Go.Operand.func 9), args := #[Go.Operand.tmp 31], argTypes := #[23] }, type := 29, pos := "law.go:119", after := #[{ on := 2, ground := Go.Ground.data }, { on := 1, ground := Go.Ground.chain }], guard := none }) rfl (fun K hK => ?_) AllReadyH.nil
        go_simp
        refine (MB.out _).mono ?_
        rintro e v4 ⟨rfl, hbv⟩
        replace RX := Lib.hid (RX.out.below hbv)
        replace RY := Lib.hid (RY.out.below hbv)
        replace PA := Lib.hid (PA.out.below hbv)
        replace PB := Lib.hid (PB.out.below hbv)
        have HBx := Lib.hid (bstep hHeld.2.2.2.2.2.2.2.2.2.2.2.2 hbv)
        replace le0 := Nat.le_trans le0 hbv.size
        clear hHeld hbv
        refine hK.out _ _ ?_ (fun hHeld => ?_)
        · exact ⟨RX.out.1.1, RX.out.1.2.1, RX.out.1.2.2.1, RX.out.1.2.2.2.1, RX.out.1.2.2.2.2.1, RX.out.1.2.2.2.2.2, RY.out.1.1, RY.out.1.2.1, RY.out.1.2.2.1, RY.out.1.2.2.2.1, RY.out.1.2.2.2.2.1, RY.out.1.2.2.2.2.2, HBx.out⟩
        clear hK K HBx
        try simp only [Act.put, List.setIfInBounds_toArray, List.set_cons_zero, List.set_cons_succ]
        obtain ⟨⟨d0, d1, d2, d3, d4, d5⟩, ⟨f0, f1, f2, f3, f4, f5⟩, f6⟩ := id PA.out
        refine wpAnyH_ready (rs := [6]) (by kernel_rfl) (by simp) ?_
        refine AllReadyH.cons (o := { dst := none, op := Go.Op.store 29 (Go.Operand.tmp 5) (Go.Operand.tmp 30), type := 0, pos := "law.go:119", after := #[{ on := 4, ground := Go.Ground.data }, { on := 1, ground := Go.Ground.data }, { on := 3, ground := Go.Ground.chain }, { on := 0, ground := Go.Ground.phase }, { on := 1, ground := Go.Ground.phase }, { on := 2, ground := Go.Ground.textOnly Go.Departure.lateStores }, { on := 3, ground := Go.Ground.textOnly Go.Departure.lateStoresUnsure }, { on := 4, ground := Go.Ground.phase }, { on := 5, ground := Go.Ground.phase }], guard := none }) rfl (fun K hK => ?_) AllReadyH.nil
        go_simp
        clear f0 f1 f2 f3 f4 f5 f6 d0 d1 d2 d3 d4 d5
        have HBx := Lib.hid (B6 hHeld.2.2.2.2.2.2.2.2.2.2.2.2 (g := gA) (by omega) (.int .i64 ay) (.int .i64 am) (.int .i64 ad) (.int .i64 as') (.bool xz) (.int .i64 ao))
        replace RX := Lib.hid (far6 RX.out (g := gA) (by omega) (.int .i64 ay) (.int .i64 am) (.int .i64 ad) (.int .i64 as') (.bool xz) (.int .i64 ao))
        replace RY := Lib.hid (far6 RY.out (g := gA) (by omega) (.int .i64 ay) (.int .i64 am) (.int .i64 ad) (.int .i64 as') (.bool xz) (.int .i64 ao))
        replace PB := Lib.hid (PB.out.far6 (g := gA) ne.symm (.int .i64 ay) (.int .i64 am) (.int .i64 ad) (.int .i64 as') (.bool xz) (.int .i64 ao))
        replace PA := Lib.hid (PA.out.put (y := ay) (m := am) (d := ad) (s := as') (z := xz) (o := ao))
        clear hHeld
        refine hK.out _ _ ?_ (fun hHeld => ?_)
        · exact ⟨RX.out.1.1, RX.out.1.2.1, RX.out.1.2.2.1, RX.out.1.2.2.2.1, RX.out.1.2.2.2.2.1, RX.out.1.2.2.2.2.2, RY.out.1.1, RY.out.1.2.1, RY.out.1.2.2.1, RY.out.1.2.2.2.1, RY.out.1.2.2.2.2.1, RY.out.1.2.2.2.2.2, HBx.out⟩
        clear hK K HBx
        try simp only [Act.put, List.setIfInBounds_toArray, List.set_cons_zero, List.set_cons_succ]
        obtain ⟨⟨d0, d1, d2, d3, d4, d5⟩, ⟨f0, f1, f2, f3, f4, f5⟩, f6⟩ := id PB.out
        refine wpAnyH_ready (rs := [7]) (by kernel_rfl) (by simp) ?_
        refine AllReadyH.cons (o := { dst := none, op := Go.Op.store 29 (Go.Operand.tmp 6) (Go.Operand.tmp 32), type := 0, pos := "law.go:119", after := #[{ on := 5, ground := Go.Ground.data }, { on := 3, ground := Go.Ground.data }, { on := 6, ground := Go.Ground.chain }, { on := 0, ground := Go.Ground.phase }, { on := 1, ground := Go.Ground.phase }, { on := 2, ground := Go.Ground.phase }, { on := 3, ground := Go.Ground.phase }, { on := 4, ground := Go.Ground.phase }, { on := 5, ground := Go.Ground.phase }, { on := 6, ground := Go.Ground.phase }], guard := none }) rfl (fun K hK => ?_) AllReadyH.nil
        go_simp
        clear f0 f1 f2 f3 f4 f5 f6 d0 d1 d2 d3 d4 d5
        have HBx := Lib.hid (B6 hHeld.2.2.2.2.2.2.2.2.2.2.2.2 (g := gB) (by omega) (.int .i64 by_) (.int .i64 bm) (.int .i64 bd) (.int .i64 bs) (.bool xz) (.int .i64 ao))
        replace RX := Lib.hid (far6 RX.out (g := gB) (by omega) (.int .i64 by_) (.int .i64 bm) (.int .i64 bd) (.int .i64 bs) (.bool xz) (.int .i64 ao))
        replace RY := Lib.hid (far6 RY.out (g := gB) (by omega) (.int .i64 by_) (.int .i64 bm) (.int .i64 bd) (.int .i64 bs) (.bool xz) (.int .i64 ao))
        replace PA := Lib.hid (PA.out.far6 (g := gB) ne (.int .i64 by_) (.int .i64 bm) (.int .i64 bd) (.int .i64 bs) (.bool xz) (.int .i64 ao))
        replace PB := Lib.hid (PB.out.put (y := by_) (m := bm) (d := bd) (s := bs) (z := xz) (o := ao))
        clear hHeld
        refine hK.out _ _ ?_ (fun hHeld => ?_)
        · exact ⟨RX.out.1.1, RX.out.1.2.1, RX.out.1.2.2.1, RX.out.1.2.2.2.1, RX.out.1.2.2.2.2.1, RX.out.1.2.2.2.2.2, RY.out.1.1, RY.out.1.2.1, RY.out.1.2.2.1, RY.out.1.2.2.2.1, RY.out.1.2.2.2.2.1, RY.out.1.2.2.2.2.2, HBx.out⟩
        clear hK K HBx
        try simp only [Act.put, List.setIfInBounds_toArray, List.set_cons_zero, List.set_cons_succ]
        refine wpAnyH_done (by kernel_rfl) ?_ _
        exact ⟨gA, gB, rfl, RX.out, RY.out, PA.out, PB.out, lePA, lePB, hHeld.2.2.2.2.2.2.2.2.2.2.2.2⟩
  · rintro a' W ⟨gA, gB, rfl, RX0, RY0, PA0, PB0, lA, lB, B1⟩
    clear RX RY
    have PA := Lib.hid PA0
    have PB := Lib.hid PB0
    clear RX0 RY0 PA0 PB0 MA MB B
    have B := B1
    clear B1 lA lB sz
    simp only [Act.put, List.setIfInBounds_toArray, List.set_cons_zero, List.set_cons_succ]
    obtain ⟨⟨c0_0, c0_1, c0_2, c0_3, c0_4, c0_5⟩, -, c0z⟩ := PA.out
    obtain ⟨⟨c1_0, c1_1, c1_2, c1_3, c1_4, c1_5⟩, -, c1z⟩ := PB.out
    go_wp2_with fail
    refine (N1.out _).mono ?_
    rintro e w50 ⟨rfl, hb⟩
    replace PA := Lib.hid (PA.out.below hb)
    replace PB := Lib.hid (PB.out.below hb)
    replace B := bstep B hb
    clear hb N1
    clear c0_0 c0_1 c0_2 c0_3 c0_4 c0_5 c0z c1_0 c1_1 c1_2 c1_3 c1_4 c1_5 c1z
    obtain ⟨⟨c0_0, c0_1, c0_2, c0_3, c0_4, c0_5⟩, -, c0z⟩ := PA.out
    obtain ⟨⟨c1_0, c1_1, c1_2, c1_3, c1_4, c1_5⟩, -, c1z⟩ := PB.out
    go_wp2_with fail
    refine (N2.out _).mono ?_
    rintro e w51 ⟨rfl, hb⟩
    replace PA := Lib.hid (PA.out.below hb)
    replace PB := Lib.hid (PB.out.below hb)
    replace B := bstep B hb
    clear hb N2
    clear c0_0 c0_1 c0_2 c0_3 c0_4 c0_5 c0z c1_0 c1_1 c1_2 c1_3 c1_4 c1_5 c1z
    obtain ⟨⟨c0_0, c0_1, c0_2, c0_3, c0_4, c0_5⟩, -, c0z⟩ := PA.out
    obtain ⟨⟨c1_0, c1_1, c1_2, c1_3, c1_4, c1_5⟩, -, c1z⟩ := PB.out
    go_wp2_with fail
    refine (CC.out _).mono ?_
    rintro e w52 ⟨rfl, hb⟩
    replace PA := Lib.hid (PA.out.below hb)
    replace PB := Lib.hid (PB.out.below hb)
    replace B := bstep B hb
    clear hb CC
    clear c0_0 c0_1 c0_2 c0_3 c0_4 c0_5 c0z c1_0 c1_1 c1_2 c1_3 c1_4 c1_5 c1z
    cases p1 <;> cases p2 <;> cases q1 <;> cases q2
    all_goals first | (exfalso; revert any; decide) | (exfalso; revert all; decide) | skip
    all_goals
      obtain ⟨⟨c0_0, c0_1, c0_2, c0_3, c0_4, c0_5⟩, -, c0z⟩ := PA.out
      obtain ⟨⟨c1_0, c1_1, c1_2, c1_3, c1_4, c1_5⟩, -, c1z⟩ := PB.out
      go_wp2
      go_ret
      exact ⟨rfl, B⟩
set_option linter.unusedSimpArgs false in
set_option linter.unusedVariables false in
set_option maxRecDepth 100000 in
set_option maxHeartbeats 16000000 in
theorem monthly_main (x0 x1 x2 x3 x4 : Int) (xz : Bool) (y0 y1 y2 y3 y4 : Int) (yz : Bool) (ay am ad as' ao by_ bm bd bs n m k : Int) (sy sm sd ss : Int) (sz : Bool) (so : Int) (ty tm td ts : Int) (tz : Bool) (tp i j : Int) (has c2 : Bool) (e1 : decide (0 < k) = false) (e2 : decide (28 < ad) = false) (e3 : decide (0 ≤ n) = true) (e4 : decide (i ≤ 0) = true) (hj0 : has = true → 0 < j) (f2 : wrap64 (n + 1) = n + 1) (g2 : IntKind.i64.wrap (n + 1) = n + 1) (MS0 : ∀ w : World, Calls Try.prog 18 #[Mo ay am ad as' xz ao, .int .i64 n] w (Ret (.tuple #[Mo sy sm sd ss sz so, .bool true]) w)) (MT0 : ∀ w : World, Calls Try.prog 18 #[Mo ay am ad as' xz ao, .int .i64 (n + 1)] w (Ret (.tuple #[Mo ty tm td ts tz tp, .bool has]) w)) (C10 : ∀ w : World, Calls Try.prog 20 #[Mo sy sm sd ss sz so, Mo by_ bm bd bs xz ao] w (Ret (.tuple #[.int .i64 i, .bool true]) w)) (C20 : ∀ w : World, Calls Try.prog 20 #[Mo ty tm td ts tz tp, Mo by_ bm bd bs xz ao] w (Ret (.tuple #[.int .i64 j, .bool c2]) w)) (MA0 : ∀ w : World, Calls Try.prog 9 #[Rw x0 x1 x2 x3 x4 xz] w (Ret (Mo ay am ad as' xz ao) w)) (MB0 : ∀ w : World, Calls Try.prog 9 #[Rw y0 y1 y2 y3 x4 xz] w (Ret (Mo by_ bm bd bs xz ao) w)) (N10 : ∀ w : World, Calls Try.prog 21 #[Mo ay am ad as' xz ao, Mo by_ bm bd bs xz ao] w (Ret (.tuple #[.int .i64 n, .bool true]) w)) (N20 : ∀ w : World, Calls Try.prog 21 #[Mo by_ bm bd bs xz ao, Mo ay am ad as' xz ao] w (Ret (.tuple #[.int .i64 m, .bool true]) w)) (f1 : wrap64 (-m) = n) (g1 : IntKind.i64.wrap (-m) = n) (CC0 : ∀ w : World, Calls Try.prog 20 #[Mo ay am ad as' xz ao, Mo by_ bm bd bs xz ao] w (Ret (.tuple #[.int .i64 k, .bool true]) w)) (w : World) : Calls Try.prog 7 #[Rw x0 x1 x2 x3 x4 xz, Rw y0 y1 y2 y3 y4 yz] w (Ret (.bool true) w) := by
  have AW := Lib.hid awake8
  have MA := Lib.hid MA0
  have MB := Lib.hid MB0
  have N1 := Lib.hid N10
  have N2 := Lib.hid N20
  have CC := Lib.hid CC0
  have MS := Lib.hid MS0
  have MT := Lib.hid MT0
  have C1 := Lib.hid C10
  have C2 := Lib.hid C20
  have hj := Lib.hid hj0
  clear MA0 MB0 N10 N20 CC0 MS0 MT0 C10 C20 hj0
  go_enter Try.func7, Try.ntmps7
  go_upto_region 1 with fail
  have RX := Lib.hid (HoldsR.alloc (HoldsR.new rfl) _ : HoldsR ((w.alloc (RwC x0 x1 x2 x3 x4 xz)).alloc (RwC y0 y1 y2 y3 y4 yz)) w.heap.size x0 x1 x2 x3 x4 xz)
  have RY := Lib.hid (HoldsR.new (by simp) : HoldsR ((w.alloc (RwC x0 x1 x2 x3 x4 xz)).alloc (RwC y0 y1 y2 y3 y4 yz)) (w.heap.size + 1) y0 y1 y2 y3 y4 yz)
  have B := ballD1 (ballD1 (Below.refl w.heap.size w) (RwC x0 x1 x2 x3 x4 xz)) (RwC y0 y1 y2 y3 y4 yz)
  change Code.wp _ _ _ _ ((w.alloc (RwC x0 x1 x2 x3 x4 xz)).alloc (RwC y0 y1 y2 y3 y4 yz))
  generalize ((w.alloc (RwC x0 x1 x2 x3 x4 xz)).alloc (RwC y0 y1 y2 y3 y4 yz)) = w0 at *
  obtain ⟨⟨c0_0, c0_1, c0_2, c0_3, c0_4, c0_5⟩, -, c0z⟩ := RX.out
  obtain ⟨⟨c1_0, c1_1, c1_2, c1_3, c1_4, c1_5⟩, -, c1z⟩ := RY.out
  go_wp2_with fail
  refine (AW.out _).mono ?_
  rintro e w1 ⟨rfl, hb⟩
  replace RX := Lib.hid (RX.out.below hb)
  replace RY := Lib.hid (RY.out.below hb)
  replace B := bstep B hb
  clear hb AW
  clear c0_0 c0_1 c0_2 c0_3 c0_4 c0_5 c0z c1_0 c1_1 c1_2 c1_3 c1_4 c1_5 c1z
  go_upto_region 3 with fail
  generalize w1 = V at *
  refine wp_region_held_drew (S := fun w' => w'.cell? ⟨w.heap.size, 0, none⟩ = some (.int .i64 x0) ∧ w'.cell? ⟨w.heap.size, 1, none⟩ = some (.int .i64 x1) ∧ w'.cell? ⟨w.heap.size, 2, none⟩ = some (.int .i64 x2) ∧ w'.cell? ⟨w.heap.size, 3, none⟩ = some (.int .i64 x3) ∧ w'.cell? ⟨w.heap.size, 4, none⟩ = some (.int .i64 x4) ∧ w'.cell? ⟨w.heap.size, 5, none⟩ = some (.bool xz) ∧ Below w.heap.size w w') (by kernel_rfl) ?_ (fun hHeld => ?_)
  · exact ⟨RX.out.1.1, RX.out.1.2.1, RX.out.1.2.2.1, RX.out.1.2.2.2.1, RX.out.1.2.2.2.2.1, RX.out.1.2.2.2.2.2, B.drew⟩
  replace RX := Lib.hid RX.out.drew
  replace RY := Lib.hid RY.out.drew
  generalize V.drew = v0 at *
  refine wpAnyH_take (i := 0) (oi := { dst := some 23, op := Go.Op.fieldAddr 23 (Go.Operand.tmp 2) 5, type := 0, pos := "law.go:118", after := #[], guard := none }) (v := ?_) rfl (by kernel_rfl) (by kernel_rfl) (by kernel_rfl) (fun _ _ _ h => h) (Or.inl ⟨by rfl, ?_⟩) (by assumption) ?_
  rotate_left
  · intro w hSw
    try dsimp only at hSw
    go_simp
    try with_reducible rfl
  try simp only [Act.put, List.setIfInBounds_toArray, List.set_cons_zero, List.set_cons_succ]
  refine wpAnyH_take (i := 2) (oi := { dst := some 25, op := Go.Op.fieldAddr 23 (Go.Operand.tmp 2) 4, type := 0, pos := "law.go:118", after := #[{ on := 5, ground := Go.Ground.gcOnly Go.Departure.lateStores }], guard := none }) (v := ?_) rfl (by kernel_rfl) (by kernel_rfl) (by kernel_rfl) (fun _ _ _ h => h) (Or.inl ⟨by rfl, ?_⟩) (by assumption) ?_
  rotate_left
  · intro w hSw
    try dsimp only at hSw
    go_simp
    try with_reducible rfl
  try simp only [Act.put, List.setIfInBounds_toArray, List.set_cons_zero, List.set_cons_succ]
  refine wpAnyH_take (i := 1) (oi := { dst := some 24, op := Go.Op.load 4 (Go.Operand.tmp 23), type := 4, pos := "law.go:118", after := #[{ on := 0, ground := Go.Ground.data }], guard := none }) (v := ?_) rfl (by kernel_rfl) (by kernel_rfl) (by kernel_rfl) (fun _ _ _ h => h) (Or.inl ⟨by rfl, ?_⟩) (by assumption) ?_
  rotate_left
  · intro w hSw
    try dsimp only at hSw
    go_simp
    try with_reducible rfl
  try simp only [Act.put, List.setIfInBounds_toArray, List.set_cons_zero, List.set_cons_succ]
  refine wpAnyH_take (i := 3) (oi := { dst := some 26, op := Go.Op.load 3 (Go.Operand.tmp 25), type := 3, pos := "law.go:118", after := #[{ on := 2, ground := Go.Ground.data }, { on := 5, ground := Go.Ground.gcOnly Go.Departure.lateStores }], guard := none }) (v := ?_) rfl (by kernel_rfl) (by kernel_rfl) (by kernel_rfl) (fun _ _ _ h => h) (Or.inl ⟨by rfl, ?_⟩) (by assumption) ?_
  rotate_left
  · intro w hSw
    try dsimp only at hSw
    go_simp
    try with_reducible rfl
  try simp only [Act.put, List.setIfInBounds_toArray, List.set_cons_zero, List.set_cons_succ]
  refine wpAnyH_take (i := 4) (oi := { dst := some 27, op := Go.Op.fieldAddr 23 (Go.Operand.tmp 3) 5, type := 0, pos := "law.go:118", after := #[{ on := 0, ground := Go.Ground.phase }, { on := 1, ground := Go.Ground.phase }, { on := 2, ground := Go.Ground.textOnly Go.Departure.lateStores }, { on := 3, ground := Go.Ground.textOnly Go.Departure.lateStores }], guard := none }) (v := ?_) rfl (by kernel_rfl) (by kernel_rfl) (by kernel_rfl) (fun _ _ _ h => h) (Or.inl ⟨by rfl, ?_⟩) (by assumption) ?_
  rotate_left
  · intro w hSw
    try dsimp only at hSw
    go_simp
    try with_reducible rfl
  try simp only [Act.put, List.setIfInBounds_toArray, List.set_cons_zero, List.set_cons_succ]
  obtain ⟨⟨d0, d1, d2, d3, d4, d5⟩, ⟨f0, f1, f2, f3, f4, f5⟩, f6⟩ := id RY.out
  refine wpAnyH_ready (rs := [5]) (by kernel_rfl) (by simp) ?_
  refine AllReadyH.cons (o := { dst := none, op := Go.Op.store 4 (Go.Operand.tmp 27) (Go.Operand.tmp 24), type := 0, pos := "law.go:118", after := #[{ on := 4, ground := Go.Ground.data }, { on := 1, ground := Go.Ground.data }, { on := 0, ground := Go.Ground.phase }, { on := 1, ground := Go.Ground.phase }, { on := 2, ground := Go.Ground.textOnly Go.Departure.lateStores }, { on := 3, ground := Go.Ground.textOnly Go.Departure.lateStores }], guard := none }) rfl (fun K hK => ?_) AllReadyH.nil
  go_simp
  clear f0 f1 f2 f3 f4 f5 f6 d0 d1 d2 d3 d4 d5
  have HBx := Lib.hid (hHeld.2.2.2.2.2.2.setCell (p := ⟨w.heap.size + 1, 5, none⟩) (by show w.heap.size ≤ w.heap.size + 1; omega) (.bool xz))
  replace RX := Lib.hid (RX.out.far (p := ⟨w.heap.size + 1, 5, none⟩) (by show w.heap.size ≠ w.heap.size + 1; omega) (.bool xz))
  replace RY := Lib.hid (RY.out.put5 (z' := xz))
  clear hHeld
  refine hK.out _ _ ?_ (fun hHeld => ?_)
  · exact ⟨RX.out.1.1, RX.out.1.2.1, RX.out.1.2.2.1, RX.out.1.2.2.2.1, RX.out.1.2.2.2.2.1, RX.out.1.2.2.2.2.2, HBx.out⟩
  clear hK K HBx
  try simp only [Act.put, List.setIfInBounds_toArray, List.set_cons_zero, List.set_cons_succ]
  generalize (v0.setCell ⟨w.heap.size + 1, 5, none⟩ (.bool xz)) = v1 at *
  refine wpAnyH_take (i := 6) (oi := { dst := some 28, op := Go.Op.fieldAddr 23 (Go.Operand.tmp 3) 4, type := 0, pos := "law.go:118", after := #[{ on := 0, ground := Go.Ground.phase }, { on := 1, ground := Go.Ground.phase }, { on := 2, ground := Go.Ground.phase }, { on := 3, ground := Go.Ground.phase }, { on := 4, ground := Go.Ground.phase }, { on := 5, ground := Go.Ground.phase }], guard := none }) (v := ?_) rfl (by kernel_rfl) (by kernel_rfl) (by kernel_rfl) (fun _ _ _ h => h) (Or.inl ⟨by rfl, ?_⟩) (by assumption) ?_
  rotate_left
  · intro w hSw
    try dsimp only at hSw
    go_simp
    try with_reducible rfl
  try simp only [Act.put, List.setIfInBounds_toArray, List.set_cons_zero, List.set_cons_succ]
  obtain ⟨⟨d0, d1, d2, d3, d4, d5⟩, ⟨f0, f1, f2, f3, f4, f5⟩, f6⟩ := id RY.out
  refine wpAnyH_ready (rs := [7]) (by kernel_rfl) (by simp) ?_
  refine AllReadyH.cons (o := { dst := none, op := Go.Op.store 3 (Go.Operand.tmp 28) (Go.Operand.tmp 26), type := 0, pos := "law.go:118", after := #[{ on := 6, ground := Go.Ground.data }, { on := 3, ground := Go.Ground.data }, { on := 5, ground := Go.Ground.chain }, { on := 0, ground := Go.Ground.phase }, { on := 1, ground := Go.Ground.phase }, { on := 2, ground := Go.Ground.phase }, { on := 3, ground := Go.Ground.phase }, { on := 4, ground := Go.Ground.phase }, { on := 5, ground := Go.Ground.phase }], guard := none }) rfl (fun K hK => ?_) AllReadyH.nil
  go_simp
  clear f0 f1 f2 f3 f4 f5 f6 d0 d1 d2 d3 d4 d5
  have HBx := Lib.hid (hHeld.2.2.2.2.2.2.setCell (p := ⟨w.heap.size + 1, 4, none⟩) (by show w.heap.size ≤ w.heap.size + 1; omega) (.int .i64 x4))
  replace RX := Lib.hid (RX.out.far (p := ⟨w.heap.size + 1, 4, none⟩) (by show w.heap.size ≠ w.heap.size + 1; omega) (.int .i64 x4))
  replace RY := Lib.hid (RY.out.put4 (o' := x4))
  clear hHeld
  refine hK.out _ _ ?_ (fun hHeld => ?_)
  · exact ⟨RX.out.1.1, RX.out.1.2.1, RX.out.1.2.2.1, RX.out.1.2.2.2.1, RX.out.1.2.2.2.2.1, RX.out.1.2.2.2.2.2, HBx.out⟩
  clear hK K HBx
  try simp only [Act.put, List.setIfInBounds_toArray, List.set_cons_zero, List.set_cons_succ]
  generalize (v1.setCell ⟨w.heap.size + 1, 4, none⟩ (.int .i64 x4)) = v2 at *
  refine wpAnyH_done (by kernel_rfl) ?_ _
  replace B := hHeld.2.2.2.2.2.2
  clear hHeld
  go_upto_region 4 with fail
  clear V
  generalize v2 = V at *
  have sz : w.heap.size + 1 < V.heap.size := RY.out.2.2
  refine region_via (fun a a' w' => ∃ gA gB : Nat, a' = ((((((a.put (some 29) (Rw x0 x1 x2 x3 x4 xz)).put (some 30) (Mo ay am ad as' xz ao)).put (some 31) (Rw y0 y1 y2 y3 x4 xz)).put (some 32) (Mo by_ bm bd bs xz ao)).put (some 5) (.pointer (some ⟨gA, 0, none⟩))).put (some 6) (.pointer (some ⟨gB, 0, none⟩))) ∧ HoldsR w' w.heap.size x0 x1 x2 x3 x4 xz ∧ HoldsR w' (w.heap.size + 1) y0 y1 y2 y3 x4 xz ∧ HoldsN w' gA ay am ad as' xz ao ∧ HoldsN w' gB by_ bm bd bs xz ao ∧ V.heap.size ≤ gA ∧ V.heap.size ≤ gB ∧ Below w.heap.size w w') ?_ ?_
  · refine wp_region_held_drew (S := fun w' => w'.cell? ⟨w.heap.size, 0, none⟩ = some (.int .i64 x0) ∧ w'.cell? ⟨w.heap.size, 1, none⟩ = some (.int .i64 x1) ∧ w'.cell? ⟨w.heap.size, 2, none⟩ = some (.int .i64 x2) ∧ w'.cell? ⟨w.heap.size, 3, none⟩ = some (.int .i64 x3) ∧ w'.cell? ⟨w.heap.size, 4, none⟩ = some (.int .i64 x4) ∧ w'.cell? ⟨w.heap.size, 5, none⟩ = some (.bool xz) ∧ w'.cell? ⟨(w.heap.size + 1), 0, none⟩ = some (.int .i64 y0) ∧ w'.cell? ⟨(w.heap.size + 1), 1, none⟩ = some (.int .i64 y1) ∧ w'.cell? ⟨(w.heap.size + 1), 2, none⟩ = some (.int .i64 y2) ∧ w'.cell? ⟨(w.heap.size + 1), 3, none⟩ = some (.int .i64 y3) ∧ w'.cell? ⟨(w.heap.size + 1), 4, none⟩ = some (.int .i64 x4) ∧ w'.cell? ⟨(w.heap.size + 1), 5, none⟩ = some (.bool xz) ∧ Below w.heap.size w w') (by kernel_rfl) ?_ (fun hHeld => ?_)
    · exact ⟨RX.out.1.1, RX.out.1.2.1, RX.out.1.2.2.1, RX.out.1.2.2.2.1, RX.out.1.2.2.2.2.1, RX.out.1.2.2.2.2.2, RY.out.1.1, RY.out.1.2.1, RY.out.1.2.2.1, RY.out.1.2.2.2.1, RY.out.1.2.2.2.2.1, RY.out.1.2.2.2.2.2, B.drew⟩
    replace RX := Lib.hid RX.out.drew
    replace RY := Lib.hid RY.out.drew
    have le0 : V.heap.size ≤ V.drew.heap.size := Nat.le_refl _
    generalize V.drew = v0 at *
    refine wpAnyH_take (i := 0) (oi := { dst := some 29, op := Go.Op.load 23 (Go.Operand.tmp 2), type := 23, pos := "law.go:119", after := #[], guard := none }) (v := ?_) rfl (by kernel_rfl) (by kernel_rfl) (by kernel_rfl) (fun _ _ _ h => h) (Or.inl ⟨by rfl, ?_⟩) (by assumption) ?_
    rotate_left
    · intro w hSw
      try dsimp only at hSw
      go_simp
      try with_reducible rfl
    try simp only [Act.put, List.setIfInBounds_toArray, List.set_cons_zero, List.set_cons_succ]
    refine wpAnyH_take (i := 2) (oi := { dst := some 31, op := Go.Op.load 23 (Go.Operand.tmp 3), type := 23, pos := "law.go:119", after := #[], guard := none }) (v := ?_) rfl (by kernel_rfl) (by kernel_rfl) (by kernel_rfl) (fun _ _ _ h => h) (Or.inl ⟨by rfl, ?_⟩) (by assumption) ?_
    rotate_left
    · intro w hSw
      try dsimp only at hSw
      go_simp
      try with_reducible rfl
    try simp only [Act.put, List.setIfInBounds_toArray, List.set_cons_zero, List.set_cons_succ]
    refine wpAnyH_ready (rs := [1, 4, 5]) (by kernel_rfl) (by simp) ?_
    refine AllReadyH.cons (o := { dst := some 30, op := Go.Op.call { callee := Go.Callee.value (Go.Operand.func 9), args := #[Go.Operand.tmp 29], argTypes := #[23] }, type := 29, pos := "law.go:119", after := #[{ on := 0, ground := Go.Ground.data }], guard := none }) rfl (fun K hK => ?_) (AllReadyH.cons (o := { dst := some 5, op := Go.Op.alloc 29, type := 0, pos := "law.go:119", after := #[], guard := none }) rfl (fun K hK => ?_) (AllReadyH.cons (o := { dst := some 6, op := Go.Op.alloc 29, type := 0, pos := "law.go:119", after := #[], guard := none }) rfl (fun K hK => ?_) AllReadyH.nil))
    · go_simp
      refine (MA.out _).mono ?_
      rintro e v1 ⟨rfl, hbv⟩
      replace RX := Lib.hid (RX.out.below hbv)
      replace RY := Lib.hid (RY.out.below hbv)
      have HBx := Lib.hid (bstep hHeld.2.2.2.2.2.2.2.2.2.2.2.2 hbv)
      replace le0 := Nat.le_trans le0 hbv.size
      clear hHeld hbv
      refine hK.out _ _ ?_ (fun hHeld => ?_)
      · exact ⟨RX.out.1.1, RX.out.1.2.1, RX.out.1.2.2.1, RX.out.1.2.2.2.1, RX.out.1.2.2.2.2.1, RX.out.1.2.2.2.2.2, RY.out.1.1, RY.out.1.2.1, RY.out.1.2.2.1, RY.out.1.2.2.2.1, RY.out.1.2.2.2.2.1, RY.out.1.2.2.2.2.2, HBx.out⟩
      clear hK K HBx
      try simp only [Act.put, List.setIfInBounds_toArray, List.set_cons_zero, List.set_cons_succ]
      refine wpAnyH_ready (rs := [3, 4, 5]) (by kernel_rfl) (by simp) ?_
      refine AllReadyH.cons (o := { dst := some 32, op := Go.Op.call { callee := Go.Callee.value (Go.Operand.func 9), args := #[Go.Operand.tmp 31], argTypes := #[23] }, type := 29, pos := "law.go:119", after := #[{ on := 2, ground := Go.Ground.data }, { on := 1, ground := Go.Ground.chain }], guard := none }) rfl (fun K hK => ?_) (AllReadyH.cons (o := { dst := some 5, op := Go.Op.alloc 29, type := 0, pos := "law.go:119", after := #[], guard := none }) rfl (fun K hK => ?_) (AllReadyH.cons (o := { dst := some 6, op := Go.Op.alloc 29, type := 0, pos := "law.go:119", after := #[], guard := none }) rfl (fun K hK => ?_) AllReadyH.nil))
      · go_simp
        refine (MB.out _).mono ?_
        rintro e v2 ⟨rfl, hbv⟩
        replace RX := Lib.hid (RX.out.below hbv)
        replace RY := Lib.hid (RY.out.below hbv)
        have HBx := Lib.hid (bstep hHeld.2.2.2.2.2.2.2.2.2.2.2.2 hbv)
        replace le0 := Nat.le_trans le0 hbv.size
        clear hHeld hbv
        refine hK.out _ _ ?_ (fun hHeld => ?_)
        · exact ⟨RX.out.1.1, RX.out.1.2.1, RX.out.1.2.2.1, RX.out.1.2.2.2.1, RX.out.1.2.2.2.2.1, RX.out.1.2.2.2.2.2, RY.out.1.1, RY.out.1.2.1, RY.out.1.2.2.1, RY.out.1.2.2.2.1, RY.out.1.2.2.2.2.1, RY.out.1.2.2.2.2.2, HBx.out⟩
        clear hK K HBx
        try simp only [Act.put, List.setIfInBounds_toArray, List.set_cons_zero, List.set_cons_succ]
        refine wpAnyH_ready (rs := [4, 5]) (by kernel_rfl) (by simp) ?_
        refine AllReadyH.cons (o := { dst := some 5, op := Go.Op.alloc 29, type := 0, pos := "law.go:119", after := #[], guard := none }) rfl (fun K hK => ?_) (AllReadyH.cons (o := { dst := some 6, op := Go.Op.alloc 29, type := 0, pos := "law.go:119", after := #[], guard := none }) rfl (fun K hK => ?_) AllReadyH.nil)
        · go_simp
          replace RX := Lib.hid (RX.out.alloc (MoC 0 0 0 0 false 0))
          replace RY := Lib.hid (RY.out.alloc (MoC 0 0 0 0 false 0))
          have PA := Lib.hid (HoldsN.new rfl : HoldsN (v2.alloc (MoC 0 0 0 0 false 0)) v2.heap.size 0 0 0 0 false 0)
          have lePA := le0
          replace le0 := Nat.le_trans le0 (Below.alloc (Below.refl v2.heap.size v2) (Nat.le_refl _) (MoC 0 0 0 0 false 0)).size
          have HBx := Lib.hid (ballD1 hHeld.2.2.2.2.2.2.2.2.2.2.2.2 (MoC 0 0 0 0 false 0))
          clear hHeld
          refine hK.out _ _ ?_ (fun hHeld => ?_)
          · exact ⟨RX.out.1.1, RX.out.1.2.1, RX.out.1.2.2.1, RX.out.1.2.2.2.1, RX.out.1.2.2.2.2.1, RX.out.1.2.2.2.2.2, RY.out.1.1, RY.out.1.2.1, RY.out.1.2.2.1, RY.out.1.2.2.2.1, RY.out.1.2.2.2.2.1, RY.out.1.2.2.2.2.2, HBx.out⟩
          clear hK K HBx
          try simp only [Act.put, List.setIfInBounds_toArray, List.set_cons_zero, List.set_cons_succ]
          generalize v2.alloc (MoC 0 0 0 0 false 0) = v3 at *
          obtain ⟨gA, hg⟩ : ∃ g, g = v2.heap.size := ⟨_, rfl⟩
          rw [← hg] at PA lePA ⊢
          clear hg
          refine wpAnyH_ready (rs := [5]) (by kernel_rfl) (by simp) ?_
          refine AllReadyH.cons (o := { dst := some 6, op := Go.Op.alloc 29, type := 0, pos := "law.go:119", after := #[], guard := none }) rfl (fun K hK => ?_) AllReadyH.nil
          go_simp
          have ne := Nat.ne_of_lt PA.out.2.2
          replace RX := Lib.hid (RX.out.alloc (MoC 0 0 0 0 false 0))
          replace RY := Lib.hid (RY.out.alloc (MoC 0 0 0 0 false 0))
          replace PA := Lib.hid (PA.out.alloc (MoC 0 0 0 0 false 0))
          have PB := Lib.hid (HoldsN.new rfl : HoldsN (v3.alloc (MoC 0 0 0 0 false 0)) v3.heap.size 0 0 0 0 false 0)
          have lePB := le0
          replace le0 := Nat.le_trans le0 (Below.alloc (Below.refl v3.heap.size v3) (Nat.le_refl _) (MoC 0 0 0 0 false 0)).size
          have HBx := Lib.hid (ballD1 hHeld.2.2.2.2.2.2.2.2.2.2.2.2 (MoC 0 0 0 0 false 0))
          clear hHeld
          refine hK.out _ _ ?_ (fun hHeld => ?_)
          · exact ⟨RX.out.1.1, RX.out.1.2.1, RX.out.1.2.2.1, RX.out.1.2.2.2.1, RX.out.1.2.2.2.2.1, RX.out.1.2.2.2.2.2, RY.out.1.1, RY.out.1.2.1, RY.out.1.2.2.1, RY.out.1.2.2.2.1, RY.out.1.2.2.2.2.1, RY.out.1.2.2.2.2.2, HBx.out⟩
          clear hK K HBx
          try simp only [Act.put, List.setIfInBounds_toArray, List.set_cons_zero, List.set_cons_succ]
          generalize v3.alloc (MoC 0 0 0 0 false 0) = v4 at *
          obtain ⟨gB, hg⟩ : ∃ g, g = v3.heap.size := ⟨_, rfl⟩
          rw [← hg] at PB lePB ne ⊢
          clear hg
          obtain ⟨⟨d0, d1, d2, d3, d4, d5⟩, ⟨f0, f1, f2, f3, f4, f5⟩, f6⟩ := id PA.out
          refine wpAnyH_ready (rs := [6]) (by kernel_rfl) (by simp) ?_
          refine AllReadyH.cons (o := { dst := none, op := Go.Op.store 29 (Go.Operand.tmp 5) (Go.Operand.tmp 30), type := 0, pos := "law.go:119", after := #[{ on := 4, ground := Go.Ground.data }, { on := 1, ground := Go.Ground.data }, { on := 3, ground := Go.Ground.chain }, { on := 0, ground := Go.Ground.phase }, { on := 1, ground := Go.Ground.phase }, { on := 2, ground := Go.Ground.textOnly Go.Departure.lateStores }, { on := 3, ground := Go.Ground.textOnly Go.Departure.lateStoresUnsure }, { on := 4, ground := Go.Ground.phase }, { on := 5, ground := Go.Ground.phase }], guard := none }) rfl (fun K hK => ?_) AllReadyH.nil
          go_simp
          clear f0 f1 f2 f3 f4 f5 f6 d0 d1 d2 d3 d4 d5
          have HBx := Lib.hid (B6 hHeld.2.2.2.2.2.2.2.2.2.2.2.2 (g := gA) (by omega) (.int .i64 ay) (.int .i64 am) (.int .i64 ad) (.int .i64 as') (.bool xz) (.int .i64 ao))
          replace RX := Lib.hid (far6 RX.out (g := gA) (by omega) (.int .i64 ay) (.int .i64 am) (.int .i64 ad) (.int .i64 as') (.bool xz) (.int .i64 ao))
          replace RY := Lib.hid (far6 RY.out (g := gA) (by omega) (.int .i64 ay) (.int .i64 am) (.int .i64 ad) (.int .i64 as') (.bool xz) (.int .i64 ao))
          replace PB := Lib.hid (PB.out.far6 (g := gA) ne.symm (.int .i64 ay) (.int .i64 am) (.int .i64 ad) (.int .i64 as') (.bool xz) (.int .i64 ao))
          replace PA := Lib.hid (PA.out.put (y := ay) (m := am) (d := ad) (s := as') (z := xz) (o := ao))
          clear hHeld
          refine hK.out _ _ ?_ (fun hHeld => ?_)
          · exact ⟨RX.out.1.1, RX.out.1.2.1, RX.out.1.2.2.1, RX.out.1.2.2.2.1, RX.out.1.2.2.2.2.1, RX.out.1.2.2.2.2.2, RY.out.1.1, RY.out.1.2.1, RY.out.1.2.2.1, RY.out.1.2.2.2.1, RY.out.1.2.2.2.2.1, RY.out.1.2.2.2.2.2, HBx.out⟩
          clear hK K HBx
          try simp only [Act.put, List.setIfInBounds_toArray, List.set_cons_zero, List.set_cons_succ]
          obtain ⟨⟨d0, d1, d2, d3, d4, d5⟩, ⟨f0, f1, f2, f3, f4, f5⟩, f6⟩ := id PB.out
          refine wpAnyH_ready (rs := [7]) (by kernel_rfl) (by simp) ?_
          refine AllReadyH.cons (o := { dst := none, op := Go.Op.store 29 (Go.Operand.tmp 6) (Go.Operand.tmp 32), type := 0, pos := "law.go:119", after := #[{ on := 5, ground := Go.Ground.data }, { on := 3, ground := Go.Ground.data }, { on := 6, ground := Go.Ground.chain }, { on := 0, ground := Go.Ground.phase }, { on := 1, ground := Go.Ground.phase }, { on := 2, ground := Go.Ground.phase }, { on := 3, ground := Go.Ground.phase }, { on := 4, ground := Go.Ground.phase }, { on := 5, ground := Go.Ground.phase }, { on := 6, ground := Go.Ground.phase }], guard := none }) rfl (fun K hK => ?_) AllReadyH.nil
          go_simp
          clear f0 f1 f2 f3 f4 f5 f6 d0 d1 d2 d3 d4 d5
          have HBx := Lib.hid (B6 hHeld.2.2.2.2.2.2.2.2.2.2.2.2 (g := gB) (by omega) (.int .i64 by_) (.int .i64 bm) (.int .i64 bd) (.int .i64 bs) (.bool xz) (.int .i64 ao))
          replace RX := Lib.hid (far6 RX.out (g := gB) (by omega) (.int .i64 by_) (.int .i64 bm) (.int .i64 bd) (.int .i64 bs) (.bool xz) (.int .i64 ao))
          replace RY := Lib.hid (far6 RY.out (g := gB) (by omega) (.int .i64 by_) (.int .i64 bm) (.int .i64 bd) (.int .i64 bs) (.bool xz) (.int .i64 ao))
          replace PA := Lib.hid (PA.out.far6 (g := gB) ne (.int .i64 by_) (.int .i64 bm) (.int .i64 bd) (.int .i64 bs) (.bool xz) (.int .i64 ao))
          replace PB := Lib.hid (PB.out.put (y := by_) (m := bm) (d := bd) (s := bs) (z := xz) (o := ao))
          clear hHeld
          refine hK.out _ _ ?_ (fun hHeld => ?_)
          · exact ⟨RX.out.1.1, RX.out.1.2.1, RX.out.1.2.2.1, RX.out.1.2.2.2.1, RX.out.1.2.2.2.2.1, RX.out.1.2.2.2.2.2, RY.out.1.1, RY.out.1.2.1, RY.out.1.2.2.1, RY.out.1.2.2.2.1, RY.out.1.2.2.2.2.1, RY.out.1.2.2.2.2.2, HBx.out⟩
          clear hK K HBx
          try simp only [Act.put, List.setIfInBounds_toArray, List.set_cons_zero, List.set_cons_succ]
          refine wpAnyH_done (by kernel_rfl) ?_ _
          exact ⟨gA, gB, rfl, RX.out, RY.out, PA.out, PB.out, lePA, lePB, hHeld.2.2.2.2.2.2.2.2.2.2.2.2⟩
        · go_simp
          replace RX := Lib.hid (RX.out.alloc (MoC 0 0 0 0 false 0))
          replace RY := Lib.hid (RY.out.alloc (MoC 0 0 0 0 false 0))
          have PB := Lib.hid (HoldsN.new rfl : HoldsN (v2.alloc (MoC 0 0 0 0 false 0)) v2.heap.size 0 0 0 0 false 0)
          have lePB := le0
          replace le0 := Nat.le_trans le0 (Below.alloc (Below.refl v2.heap.size v2) (Nat.le_refl _) (MoC 0 0 0 0 false 0)).size
          have HBx := Lib.hid (ballD1 hHeld.2.2.2.2.2.2.2.2.2.2.2.2 (MoC 0 0 0 0 false 0))
          clear hHeld
          refine hK.out _ _ ?_ (fun hHeld => ?_)
          · exact ⟨RX.out.1.1, RX.out.1.2.1, RX.out.1.2.2.1, RX.out.1.2.2.2.1, RX.out.1.2.2.2.2.1, RX.out.1.2.2.2.2.2, RY.out.1.1, RY.out.1.2.1, RY.out.1.2.2.1, RY.out.1.2.2.2.1, RY.out.1.2.2.2.2.1, RY.out.1.2.2.2.2.2, HBx.out⟩
          clear hK K HBx
          try simp only [Act.put, List.setIfInBounds_toArray, List.set_cons_zero, List.set_cons_succ]
          generalize v2.alloc (MoC 0 0 0 0 false 0) = v3 at *
          obtain ⟨gB, hg⟩ : ∃ g, g = v2.heap.size := ⟨_, rfl⟩
          rw [← hg] at PB lePB ⊢
          clear hg
          refine wpAnyH_ready (rs := [4]) (by kernel_rfl) (by simp) ?_
          refine AllReadyH.cons (o := { dst := some 5, op := Go.Op.alloc 29, type := 0, pos := "law.go:119", after := #[], guard := none }) rfl (fun K hK => ?_) AllReadyH.nil
          go_simp
          have ne := Nat.ne_of_lt PB.out.2.2
          replace RX := Lib.hid (RX.out.alloc (MoC 0 0 0 0 false 0))
          replace RY := Lib.hid (RY.out.alloc (MoC 0 0 0 0 false 0))
          replace PB := Lib.hid (PB.out.alloc (MoC 0 0 0 0 false 0))
          have PA := Lib.hid (HoldsN.new rfl : HoldsN (v3.alloc (MoC 0 0 0 0 false 0)) v3.heap.size 0 0 0 0 false 0)
          have lePA := le0
          replace le0 := Nat.le_trans le0 (Below.alloc (Below.refl v3.heap.size v3) (Nat.le_refl _) (MoC 0 0 0 0 false 0)).size
          have HBx := Lib.hid (ballD1 hHeld.2.2.2.2.2.2.2.2.2.2.2.2 (MoC 0 0 0 0 false 0))
          clear hHeld
          refine hK.out _ _ ?_ (fun hHeld => ?_)
          · exact ⟨RX.out.1.1, RX.out.1.2.1, RX.out.1.2.2.1, RX.out.1.2.2.2.1, RX.out.1.2.2.2.2.1, RX.out.1.2.2.2.2.2, RY.out.1.1, RY.out.1.2.1, RY.out.1.2.2.1, RY.out.1.2.2.2.1, RY.out.1.2.2.2.2.1, RY.out.1.2.2.2.2.2, HBx.out⟩
          clear hK K HBx
          try simp only [Act.put, List.setIfInBounds_toArray, List.set_cons_zero, List.set_cons_succ]
          generalize v3.alloc (MoC 0 0 0 0 false 0) = v4 at *
          obtain ⟨gA, hg⟩ : ∃ g, g = v3.heap.size := ⟨_, rfl⟩
          rw [← hg] at PA lePA ne ⊢
          clear hg
          replace ne := ne.symm
          obtain ⟨⟨d0, d1, d2, d3, d4, d5⟩, ⟨f0, f1, f2, f3, f4, f5⟩, f6⟩ := id PA.out
          refine wpAnyH_ready (rs := [6]) (by kernel_rfl) (by simp) ?_
          refine AllReadyH.cons (o := { dst := none, op := Go.Op.store 29 (Go.Operand.tmp 5) (Go.Operand.tmp 30), type := 0, pos := "law.go:119", after := #[{ on := 4, ground := Go.Ground.data }, { on := 1, ground := Go.Ground.data }, { on := 3, ground := Go.Ground.chain }, { on := 0, ground := Go.Ground.phase }, { on := 1, ground := Go.Ground.phase }, { on := 2, ground := Go.Ground.textOnly Go.Departure.lateStores }, { on := 3, ground := Go.Ground.textOnly Go.Departure.lateStoresUnsure }, { on := 4, ground := Go.Ground.phase }, { on := 5, ground := Go.Ground.phase }], guard := none }) rfl (fun K hK => ?_) AllReadyH.nil
          go_simp
          clear f0 f1 f2 f3 f4 f5 f6 d0 d1 d2 d3 d4 d5
          have HBx := Lib.hid (B6 hHeld.2.2.2.2.2.2.2.2.2.2.2.2 (g := gA) (by omega) (.int .i64 ay) (.int .i64 am) (.int .i64 ad) (.int .i64 as') (.bool xz) (.int .i64 ao))
          replace RX := Lib.hid (far6 RX.out (g := gA) (by omega) (.int .i64 ay) (.int .i64 am) (.int .i64 ad) (.int .i64 as') (.bool xz) (.int .i64 ao))
          replace RY := Lib.hid (far6 RY.out (g := gA) (by omega) (.int .i64 ay) (.int .i64 am) (.int .i64 ad) (.int .i64 as') (.bool xz) (.int .i64 ao))
          replace PB := Lib.hid (PB.out.far6 (g := gA) ne.symm (.int .i64 ay) (.int .i64 am) (.int .i64 ad) (.int .i64 as') (.bool xz) (.int .i64 ao))
          replace PA := Lib.hid (PA.out.put (y := ay) (m := am) (d := ad) (s := as') (z := xz) (o := ao))
          clear hHeld
          refine hK.out _ _ ?_ (fun hHeld => ?_)
          · exact ⟨RX.out.1.1, RX.out.1.2.1, RX.out.1.2.2.1, RX.out.1.2.2.2.1, RX.out.1.2.2.2.2.1, RX.out.1.2.2.2.2.2, RY.out.1.1, RY.out.1.2.1, RY.out.1.2.2.1, RY.out.1.2.2.2.1, RY.out.1.2.2.2.2.1, RY.out.1.2.2.2.2.2, HBx.out⟩
          clear hK K HBx
          try simp only [Act.put, List.setIfInBounds_toArray, List.set_cons_zero, List.set_cons_succ]
          obtain ⟨⟨d0, d1, d2, d3, d4, d5⟩, ⟨f0, f1, f2, f3, f4, f5⟩, f6⟩ := id PB.out
          refine wpAnyH_ready (rs := [7]) (by kernel_rfl) (by simp) ?_
          refine AllReadyH.cons (o := { dst := none, op := Go.Op.store 29 (Go.Operand.tmp 6) (Go.Operand.tmp 32), type := 0, pos := "law.go:119", after := #[{ on := 5, ground := Go.Ground.data }, { on := 3, ground := Go.Ground.data }, { on := 6, ground := Go.Ground.chain }, { on := 0, ground := Go.Ground.phase }, { on := 1, ground := Go.Ground.phase }, { on := 2, ground := Go.Ground.phase }, { on := 3, ground := Go.Ground.phase }, { on := 4, ground := Go.Ground.phase }, { on := 5, ground := Go.Ground.phase }, { on := 6, ground := Go.Ground.phase }], guard := none }) rfl (fun K hK => ?_) AllReadyH.nil
          go_simp
          clear f0 f1 f2 f3 f4 f5 f6 d0 d1 d2 d3 d4 d5
          have HBx := Lib.hid (B6 hHeld.2.2.2.2.2.2.2.2.2.2.2.2 (g := gB) (by omega) (.int .i64 by_) (.int .i64 bm) (.int .i64 bd) (.int .i64 bs) (.bool xz) (.int .i64 ao))
          replace RX := Lib.hid (far6 RX.out (g := gB) (by omega) (.int .i64 by_) (.int .i64 bm) (.int .i64 bd) (.int .i64 bs) (.bool xz) (.int .i64 ao))
          replace RY := Lib.hid (far6 RY.out (g := gB) (by omega) (.int .i64 by_) (.int .i64 bm) (.int .i64 bd) (.int .i64 bs) (.bool xz) (.int .i64 ao))
          replace PA := Lib.hid (PA.out.far6 (g := gB) ne (.int .i64 by_) (.int .i64 bm) (.int .i64 bd) (.int .i64 bs) (.bool xz) (.int .i64 ao))
          replace PB := Lib.hid (PB.out.put (y := by_) (m := bm) (d := bd) (s := bs) (z := xz) (o := ao))
          clear hHeld
          refine hK.out _ _ ?_ (fun hHeld => ?_)
          · exact ⟨RX.out.1.1, RX.out.1.2.1, RX.out.1.2.2.1, RX.out.1.2.2.2.1, RX.out.1.2.2.2.2.1, RX.out.1.2.2.2.2.2, RY.out.1.1, RY.out.1.2.1, RY.out.1.2.2.1, RY.out.1.2.2.2.1, RY.out.1.2.2.2.2.1, RY.out.1.2.2.2.2.2, HBx.out⟩
          clear hK K HBx
          try simp only [Act.put, List.setIfInBounds_toArray, List.set_cons_zero, List.set_cons_succ]
          refine wpAnyH_done (by kernel_rfl) ?_ _
          exact ⟨gA, gB, rfl, RX.out, RY.out, PA.out, PB.out, lePA, lePB, hHeld.2.2.2.2.2.2.2.2.2.2.2.2⟩
      · go_simp
        replace RX := Lib.hid (RX.out.alloc (MoC 0 0 0 0 false 0))
        replace RY := Lib.hid (RY.out.alloc (MoC 0 0 0 0 false 0))
        have PA := Lib.hid (HoldsN.new rfl : HoldsN (v1.alloc (MoC 0 0 0 0 false 0)) v1.heap.size 0 0 0 0 false 0)
        have lePA := le0
        replace le0 := Nat.le_trans le0 (Below.alloc (Below.refl v1.heap.size v1) (Nat.le_refl _) (MoC 0 0 0 0 false 0)).size
        have HBx := Lib.hid (ballD1 hHeld.2.2.2.2.2.2.2.2.2.2.2.2 (MoC 0 0 0 0 false 0))
        clear hHeld
        refine hK.out _ _ ?_ (fun hHeld => ?_)
        · exact ⟨RX.out.1.1, RX.out.1.2.1, RX.out.1.2.2.1, RX.out.1.2.2.2.1, RX.out.1.2.2.2.2.1, RX.out.1.2.2.2.2.2, RY.out.1.1, RY.out.1.2.1, RY.out.1.2.2.1, RY.out.1.2.2.2.1, RY.out.1.2.2.2.2.1, RY.out.1.2.2.2.2.2, HBx.out⟩
        clear hK K HBx
        try simp only [Act.put, List.setIfInBounds_toArray, List.set_cons_zero, List.set_cons_succ]
        generalize v1.alloc (MoC 0 0 0 0 false 0) = v2 at *
        obtain ⟨gA, hg⟩ : ∃ g, g = v1.heap.size := ⟨_, rfl⟩
        rw [← hg] at PA lePA ⊢
        clear hg
        refine wpAnyH_ready (rs := [3, 5]) (by kernel_rfl) (by simp) ?_
        refine AllReadyH.cons (o := { dst := some 32, op := Go.Op.call { callee := Go.Callee.value (Go.Operand.func 9), args := #[Go.Operand.tmp 31], argTypes := #[23] }, type := 29, pos := "law.go:119", after := #[{ on := 2, ground := Go.Ground.data }, { on := 1, ground := Go.Ground.chain }], guard := none }) rfl (fun K hK => ?_) (AllReadyH.cons (o := { dst := some 6, op := Go.Op.alloc 29, type := 0, pos := "law.go:119", after := #[], guard := none }) rfl (fun K hK => ?_) AllReadyH.nil)
        · go_simp
          refine (MB.out _).mono ?_
          rintro e v3 ⟨rfl, hbv⟩
          replace RX := Lib.hid (RX.out.below hbv)
          replace RY := Lib.hid (RY.out.below hbv)
          replace PA := Lib.hid (PA.out.below hbv)
          have HBx := Lib.hid (bstep hHeld.2.2.2.2.2.2.2.2.2.2.2.2 hbv)
          replace le0 := Nat.le_trans le0 hbv.size
          clear hHeld hbv
          refine hK.out _ _ ?_ (fun hHeld => ?_)
          · exact ⟨RX.out.1.1, RX.out.1.2.1, RX.out.1.2.2.1, RX.out.1.2.2.2.1, RX.out.1.2.2.2.2.1, RX.out.1.2.2.2.2.2, RY.out.1.1, RY.out.1.2.1, RY.out.1.2.2.1, RY.out.1.2.2.2.1, RY.out.1.2.2.2.2.1, RY.out.1.2.2.2.2.2, HBx.out⟩
          clear hK K HBx
          try simp only [Act.put, List.setIfInBounds_toArray, List.set_cons_zero, List.set_cons_succ]
          refine wpAnyH_ready (rs := [5]) (by kernel_rfl) (by simp) ?_
          refine AllReadyH.cons (o := { dst := some 6, op := Go.Op.alloc 29, type := 0, pos := "law.go:119", after := #[], guard := none }) rfl (fun K hK => ?_) AllReadyH.nil
          go_simp
          have ne := Nat.ne_of_lt PA.out.2.2
          replace RX := Lib.hid (RX.out.alloc (MoC 0 0 0 0 false 0))
          replace RY := Lib.hid (RY.out.alloc (MoC 0 0 0 0 false 0))
          replace PA := Lib.hid (PA.out.alloc (MoC 0 0 0 0 false 0))
          have PB := Lib.hid (HoldsN.new rfl : HoldsN (v3.alloc (MoC 0 0 0 0 false 0)) v3.heap.size 0 0 0 0 false 0)
          have lePB := le0
          replace le0 := Nat.le_trans le0 (Below.alloc (Below.refl v3.heap.size v3) (Nat.le_refl _) (MoC 0 0 0 0 false 0)).size
          have HBx := Lib.hid (ballD1 hHeld.2.2.2.2.2.2.2.2.2.2.2.2 (MoC 0 0 0 0 false 0))
          clear hHeld
          refine hK.out _ _ ?_ (fun hHeld => ?_)
          · exact ⟨RX.out.1.1, RX.out.1.2.1, RX.out.1.2.2.1, RX.out.1.2.2.2.1, RX.out.1.2.2.2.2.1, RX.out.1.2.2.2.2.2, RY.out.1.1, RY.out.1.2.1, RY.out.1.2.2.1, RY.out.1.2.2.2.1, RY.out.1.2.2.2.2.1, RY.out.1.2.2.2.2.2, HBx.out⟩
          clear hK K HBx
          try simp only [Act.put, List.setIfInBounds_toArray, List.set_cons_zero, List.set_cons_succ]
          generalize v3.alloc (MoC 0 0 0 0 false 0) = v4 at *
          obtain ⟨gB, hg⟩ : ∃ g, g = v3.heap.size := ⟨_, rfl⟩
          rw [← hg] at PB lePB ne ⊢
          clear hg
          obtain ⟨⟨d0, d1, d2, d3, d4, d5⟩, ⟨f0, f1, f2, f3, f4, f5⟩, f6⟩ := id PA.out
          refine wpAnyH_ready (rs := [6]) (by kernel_rfl) (by simp) ?_
          refine AllReadyH.cons (o := { dst := none, op := Go.Op.store 29 (Go.Operand.tmp 5) (Go.Operand.tmp 30), type := 0, pos := "law.go:119", after := #[{ on := 4, ground := Go.Ground.data }, { on := 1, ground := Go.Ground.data }, { on := 3, ground := Go.Ground.chain }, { on := 0, ground := Go.Ground.phase }, { on := 1, ground := Go.Ground.phase }, { on := 2, ground := Go.Ground.textOnly Go.Departure.lateStores }, { on := 3, ground := Go.Ground.textOnly Go.Departure.lateStoresUnsure }, { on := 4, ground := Go.Ground.phase }, { on := 5, ground := Go.Ground.phase }], guard := none }) rfl (fun K hK => ?_) AllReadyH.nil
          go_simp
          clear f0 f1 f2 f3 f4 f5 f6 d0 d1 d2 d3 d4 d5
          have HBx := Lib.hid (B6 hHeld.2.2.2.2.2.2.2.2.2.2.2.2 (g := gA) (by omega) (.int .i64 ay) (.int .i64 am) (.int .i64 ad) (.int .i64 as') (.bool xz) (.int .i64 ao))
          replace RX := Lib.hid (far6 RX.out (g := gA) (by omega) (.int .i64 ay) (.int .i64 am) (.int .i64 ad) (.int .i64 as') (.bool xz) (.int .i64 ao))
          replace RY := Lib.hid (far6 RY.out (g := gA) (by omega) (.int .i64 ay) (.int .i64 am) (.int .i64 ad) (.int .i64 as') (.bool xz) (.int .i64 ao))
          replace PB := Lib.hid (PB.out.far6 (g := gA) ne.symm (.int .i64 ay) (.int .i64 am) (.int .i64 ad) (.int .i64 as') (.bool xz) (.int .i64 ao))
          replace PA := Lib.hid (PA.out.put (y := ay) (m := am) (d := ad) (s := as') (z := xz) (o := ao))
          clear hHeld
          refine hK.out _ _ ?_ (fun hHeld => ?_)
          · exact ⟨RX.out.1.1, RX.out.1.2.1, RX.out.1.2.2.1, RX.out.1.2.2.2.1, RX.out.1.2.2.2.2.1, RX.out.1.2.2.2.2.2, RY.out.1.1, RY.out.1.2.1, RY.out.1.2.2.1, RY.out.1.2.2.2.1, RY.out.1.2.2.2.2.1, RY.out.1.2.2.2.2.2, HBx.out⟩
          clear hK K HBx
          try simp only [Act.put, List.setIfInBounds_toArray, List.set_cons_zero, List.set_cons_succ]
          obtain ⟨⟨d0, d1, d2, d3, d4, d5⟩, ⟨f0, f1, f2, f3, f4, f5⟩, f6⟩ := id PB.out
          refine wpAnyH_ready (rs := [7]) (by kernel_rfl) (by simp) ?_
          refine AllReadyH.cons (o := { dst := none, op := Go.Op.store 29 (Go.Operand.tmp 6) (Go.Operand.tmp 32), type := 0, pos := "law.go:119", after := #[{ on := 5, ground := Go.Ground.data }, { on := 3, ground := Go.Ground.data }, { on := 6, ground := Go.Ground.chain }, { on := 0, ground := Go.Ground.phase }, { on := 1, ground := Go.Ground.phase }, { on := 2, ground := Go.Ground.phase }, { on := 3, ground := Go.Ground.phase }, { on := 4, ground := Go.Ground.phase }, { on := 5, ground := Go.Ground.phase }, { on := 6, ground := Go.Ground.phase }], guard := none }) rfl (fun K hK => ?_) AllReadyH.nil
          go_simp
          clear f0 f1 f2 f3 f4 f5 f6 d0 d1 d2 d3 d4 d5
          have HBx := Lib.hid (B6 hHeld.2.2.2.2.2.2.2.2.2.2.2.2 (g := gB) (by omega) (.int .i64 by_) (.int .i64 bm) (.int .i64 bd) (.int .i64 bs) (.bool xz) (.int .i64 ao))
          replace RX := Lib.hid (far6 RX.out (g := gB) (by omega) (.int .i64 by_) (.int .i64 bm) (.int .i64 bd) (.int .i64 bs) (.bool xz) (.int .i64 ao))
          replace RY := Lib.hid (far6 RY.out (g := gB) (by omega) (.int .i64 by_) (.int .i64 bm) (.int .i64 bd) (.int .i64 bs) (.bool xz) (.int .i64 ao))
          replace PA := Lib.hid (PA.out.far6 (g := gB) ne (.int .i64 by_) (.int .i64 bm) (.int .i64 bd) (.int .i64 bs) (.bool xz) (.int .i64 ao))
          replace PB := Lib.hid (PB.out.put (y := by_) (m := bm) (d := bd) (s := bs) (z := xz) (o := ao))
          clear hHeld
          refine hK.out _ _ ?_ (fun hHeld => ?_)
          · exact ⟨RX.out.1.1, RX.out.1.2.1, RX.out.1.2.2.1, RX.out.1.2.2.2.1, RX.out.1.2.2.2.2.1, RX.out.1.2.2.2.2.2, RY.out.1.1, RY.out.1.2.1, RY.out.1.2.2.1, RY.out.1.2.2.2.1, RY.out.1.2.2.2.2.1, RY.out.1.2.2.2.2.2, HBx.out⟩
          clear hK K HBx
          try simp only [Act.put, List.setIfInBounds_toArray, List.set_cons_zero, List.set_cons_succ]
          refine wpAnyH_done (by kernel_rfl) ?_ _
          exact ⟨gA, gB, rfl, RX.out, RY.out, PA.out, PB.out, lePA, lePB, hHeld.2.2.2.2.2.2.2.2.2.2.2.2⟩
        · go_simp
          have ne := Nat.ne_of_lt PA.out.2.2
          replace RX := Lib.hid (RX.out.alloc (MoC 0 0 0 0 false 0))
          replace RY := Lib.hid (RY.out.alloc (MoC 0 0 0 0 false 0))
          replace PA := Lib.hid (PA.out.alloc (MoC 0 0 0 0 false 0))
          have PB := Lib.hid (HoldsN.new rfl : HoldsN (v2.alloc (MoC 0 0 0 0 false 0)) v2.heap.size 0 0 0 0 false 0)
          have lePB := le0
          replace le0 := Nat.le_trans le0 (Below.alloc (Below.refl v2.heap.size v2) (Nat.le_refl _) (MoC 0 0 0 0 false 0)).size
          have HBx := Lib.hid (ballD1 hHeld.2.2.2.2.2.2.2.2.2.2.2.2 (MoC 0 0 0 0 false 0))
          clear hHeld
          refine hK.out _ _ ?_ (fun hHeld => ?_)
          · exact ⟨RX.out.1.1, RX.out.1.2.1, RX.out.1.2.2.1, RX.out.1.2.2.2.1, RX.out.1.2.2.2.2.1, RX.out.1.2.2.2.2.2, RY.out.1.1, RY.out.1.2.1, RY.out.1.2.2.1, RY.out.1.2.2.2.1, RY.out.1.2.2.2.2.1, RY.out.1.2.2.2.2.2, HBx.out⟩
          clear hK K HBx
          try simp only [Act.put, List.setIfInBounds_toArray, List.set_cons_zero, List.set_cons_succ]
          generalize v2.alloc (MoC 0 0 0 0 false 0) = v3 at *
          obtain ⟨gB, hg⟩ : ∃ g, g = v2.heap.size := ⟨_, rfl⟩
          rw [← hg] at PB lePB ne ⊢
          clear hg
          refine wpAnyH_ready (rs := [3]) (by kernel_rfl) (by simp) ?_
          refine AllReadyH.cons (o := { dst := some 32, op := Go.Op.call { callee := Go.Callee.value (Go.Operand.func 9), args := #[Go.Operand.tmp 31], argTypes := #[23] }, type := 29, pos := "law.go:119", after := #[{ on := 2, ground := Go.Ground.data }, { on := 1, ground := Go.Ground.chain }], guard := none }) rfl (fun K hK => ?_) AllReadyH.nil
          go_simp
          refine (MB.out _).mono ?_
          rintro e v4 ⟨rfl, hbv⟩
          replace RX := Lib.hid (RX.out.below hbv)
          replace RY := Lib.hid (RY.out.below hbv)
          replace PA := Lib.hid (PA.out.below hbv)
          replace PB := Lib.hid (PB.out.below hbv)
          have HBx := Lib.hid (bstep hHeld.2.2.2.2.2.2.2.2.2.2.2.2 hbv)
          replace le0 := Nat.le_trans le0 hbv.size
          clear hHeld hbv
          refine hK.out _ _ ?_ (fun hHeld => ?_)
          · exact ⟨RX.out.1.1, RX.out.1.2.1, RX.out.1.2.2.1, RX.out.1.2.2.2.1, RX.out.1.2.2.2.2.1, RX.out.1.2.2.2.2.2, RY.out.1.1, RY.out.1.2.1, RY.out.1.2.2.1, RY.out.1.2.2.2.1, RY.out.1.2.2.2.2.1, RY.out.1.2.2.2.2.2, HBx.out⟩
          clear hK K HBx
          try simp only [Act.put, List.setIfInBounds_toArray, List.set_cons_zero, List.set_cons_succ]
          obtain ⟨⟨d0, d1, d2, d3, d4, d5⟩, ⟨f0, f1, f2, f3, f4, f5⟩, f6⟩ := id PA.out
          refine wpAnyH_ready (rs := [6]) (by kernel_rfl) (by simp) ?_
          refine AllReadyH.cons (o := { dst := none, op := Go.Op.store 29 (Go.Operand.tmp 5) (Go.Operand.tmp 30), type := 0, pos := "law.go:119", after := #[{ on := 4, ground := Go.Ground.data }, { on := 1, ground := Go.Ground.data }, { on := 3, ground := Go.Ground.chain }, { on := 0, ground := Go.Ground.phase }, { on := 1, ground := Go.Ground.phase }, { on := 2, ground := Go.Ground.textOnly Go.Departure.lateStores }, { on := 3, ground := Go.Ground.textOnly Go.Departure.lateStoresUnsure }, { on := 4, ground := Go.Ground.phase }, { on := 5, ground := Go.Ground.phase }], guard := none }) rfl (fun K hK => ?_) AllReadyH.nil
          go_simp
          clear f0 f1 f2 f3 f4 f5 f6 d0 d1 d2 d3 d4 d5
          have HBx := Lib.hid (B6 hHeld.2.2.2.2.2.2.2.2.2.2.2.2 (g := gA) (by omega) (.int .i64 ay) (.int .i64 am) (.int .i64 ad) (.int .i64 as') (.bool xz) (.int .i64 ao))
          replace RX := Lib.hid (far6 RX.out (g := gA) (by omega) (.int .i64 ay) (.int .i64 am) (.int .i64 ad) (.int .i64 as') (.bool xz) (.int .i64 ao))
          replace RY := Lib.hid (far6 RY.out (g := gA) (by omega) (.int .i64 ay) (.int .i64 am) (.int .i64 ad) (.int .i64 as') (.bool xz) (.int .i64 ao))
          replace PB := Lib.hid (PB.out.far6 (g := gA) ne.symm (.int .i64 ay) (.int .i64 am) (.int .i64 ad) (.int .i64 as') (.bool xz) (.int .i64 ao))
          replace PA := Lib.hid (PA.out.put (y := ay) (m := am) (d := ad) (s := as') (z := xz) (o := ao))
          clear hHeld
          refine hK.out _ _ ?_ (fun hHeld => ?_)
          · exact ⟨RX.out.1.1, RX.out.1.2.1, RX.out.1.2.2.1, RX.out.1.2.2.2.1, RX.out.1.2.2.2.2.1, RX.out.1.2.2.2.2.2, RY.out.1.1, RY.out.1.2.1, RY.out.1.2.2.1, RY.out.1.2.2.2.1, RY.out.1.2.2.2.2.1, RY.out.1.2.2.2.2.2, HBx.out⟩
          clear hK K HBx
          try simp only [Act.put, List.setIfInBounds_toArray, List.set_cons_zero, List.set_cons_succ]
          obtain ⟨⟨d0, d1, d2, d3, d4, d5⟩, ⟨f0, f1, f2, f3, f4, f5⟩, f6⟩ := id PB.out
          refine wpAnyH_ready (rs := [7]) (by kernel_rfl) (by simp) ?_
          refine AllReadyH.cons (o := { dst := none, op := Go.Op.store 29 (Go.Operand.tmp 6) (Go.Operand.tmp 32), type := 0, pos := "law.go:119", after := #[{ on := 5, ground := Go.Ground.data }, { on := 3, ground := Go.Ground.data }, { on := 6, ground := Go.Ground.chain }, { on := 0, ground := Go.Ground.phase }, { on := 1, ground := Go.Ground.phase }, { on := 2, ground := Go.Ground.phase }, { on := 3, ground := Go.Ground.phase }, { on := 4, ground := Go.Ground.phase }, { on := 5, ground := Go.Ground.phase }, { on := 6, ground := Go.Ground.phase }], guard := none }) rfl (fun K hK => ?_) AllReadyH.nil
          go_simp
          clear f0 f1 f2 f3 f4 f5 f6 d0 d1 d2 d3 d4 d5
          have HBx := Lib.hid (B6 hHeld.2.2.2.2.2.2.2.2.2.2.2.2 (g := gB) (by omega) (.int .i64 by_) (.int .i64 bm) (.int .i64 bd) (.int .i64 bs) (.bool xz) (.int .i64 ao))
          replace RX := Lib.hid (far6 RX.out (g := gB) (by omega) (.int .i64 by_) (.int .i64 bm) (.int .i64 bd) (.int .i64 bs) (.bool xz) (.int .i64 ao))
          replace RY := Lib.hid (far6 RY.out (g := gB) (by omega) (.int .i64 by_) (.int .i64 bm) (.int .i64 bd) (.int .i64 bs) (.bool xz) (.int .i64 ao))
          replace PA := Lib.hid (PA.out.far6 (g := gB) ne (.int .i64 by_) (.int .i64 bm) (.int .i64 bd) (.int .i64 bs) (.bool xz) (.int .i64 ao))
          replace PB := Lib.hid (PB.out.put (y := by_) (m := bm) (d := bd) (s := bs) (z := xz) (o := ao))
          clear hHeld
          refine hK.out _ _ ?_ (fun hHeld => ?_)
          · exact ⟨RX.out.1.1, RX.out.1.2.1, RX.out.1.2.2.1, RX.out.1.2.2.2.1, RX.out.1.2.2.2.2.1, RX.out.1.2.2.2.2.2, RY.out.1.1, RY.out.1.2.1, RY.out.1.2.2.1, RY.out.1.2.2.2.1, RY.out.1.2.2.2.2.1, RY.out.1.2.2.2.2.2, HBx.out⟩
          clear hK K HBx
          try simp only [Act.put, List.setIfInBounds_toArray, List.set_cons_zero, List.set_cons_succ]
          refine wpAnyH_done (by kernel_rfl) ?_ _
          exact ⟨gA, gB, rfl, RX.out, RY.out, PA.out, PB.out, lePA, lePB, hHeld.2.2.2.2.2.2.2.2.2.2.2.2⟩
      · go_simp
        replace RX := Lib.hid (RX.out.alloc (MoC 0 0 0 0 false 0))
        replace RY := Lib.hid (RY.out.alloc (MoC 0 0 0 0 false 0))
        have PB := Lib.hid (HoldsN.new rfl : HoldsN (v1.alloc (MoC 0 0 0 0 false 0)) v1.heap.size 0 0 0 0 false 0)
        have lePB := le0
        replace le0 := Nat.le_trans le0 (Below.alloc (Below.refl v1.heap.size v1) (Nat.le_refl _) (MoC 0 0 0 0 false 0)).size
        have HBx := Lib.hid (ballD1 hHeld.2.2.2.2.2.2.2.2.2.2.2.2 (MoC 0 0 0 0 false 0))
        clear hHeld
        refine hK.out _ _ ?_ (fun hHeld => ?_)
        · exact ⟨RX.out.1.1, RX.out.1.2.1, RX.out.1.2.2.1, RX.out.1.2.2.2.1, RX.out.1.2.2.2.2.1, RX.out.1.2.2.2.2.2, RY.out.1.1, RY.out.1.2.1, RY.out.1.2.2.1, RY.out.1.2.2.2.1, RY.out.1.2.2.2.2.1, RY.out.1.2.2.2.2.2, HBx.out⟩
        clear hK K HBx
        try simp only [Act.put, List.setIfInBounds_toArray, List.set_cons_zero, List.set_cons_succ]
        generalize v1.alloc (MoC 0 0 0 0 false 0) = v2 at *
        obtain ⟨gB, hg⟩ : ∃ g, g = v1.heap.size := ⟨_, rfl⟩
        rw [← hg] at PB lePB ⊢
        clear hg
        refine wpAnyH_ready (rs := [3, 4]) (by kernel_rfl) (by simp) ?_
        refine AllReadyH.cons (o := { dst := some 32, op := Go.Op.call { callee := Go.Callee.value (Go.Operand.func 9), args := #[Go.Operand.tmp 31], argTypes := #[23] }, type := 29, pos := "law.go:119", after := #[{ on := 2, ground := Go.Ground.data }, { on := 1, ground := Go.Ground.chain }], guard := none }) rfl (fun K hK => ?_) (AllReadyH.cons (o := { dst := some 5, op := Go.Op.alloc 29, type := 0, pos := "law.go:119", after := #[], guard := none }) rfl (fun K hK => ?_) AllReadyH.nil)
        · go_simp
          refine (MB.out _).mono ?_
          rintro e v3 ⟨rfl, hbv⟩
          replace RX := Lib.hid (RX.out.below hbv)
          replace RY := Lib.hid (RY.out.below hbv)
          replace PB := Lib.hid (PB.out.below hbv)
          have HBx := Lib.hid (bstep hHeld.2.2.2.2.2.2.2.2.2.2.2.2 hbv)
          replace le0 := Nat.le_trans le0 hbv.size
          clear hHeld hbv
          refine hK.out _ _ ?_ (fun hHeld => ?_)
          · exact ⟨RX.out.1.1, RX.out.1.2.1, RX.out.1.2.2.1, RX.out.1.2.2.2.1, RX.out.1.2.2.2.2.1, RX.out.1.2.2.2.2.2, RY.out.1.1, RY.out.1.2.1, RY.out.1.2.2.1, RY.out.1.2.2.2.1, RY.out.1.2.2.2.2.1, RY.out.1.2.2.2.2.2, HBx.out⟩
          clear hK K HBx
          try simp only [Act.put, List.setIfInBounds_toArray, List.set_cons_zero, List.set_cons_succ]
          refine wpAnyH_ready (rs := [4]) (by kernel_rfl) (by simp) ?_
          refine AllReadyH.cons (o := { dst := some 5, op := Go.Op.alloc 29, type := 0, pos := "law.go:119", after := #[], guard := none }) rfl (fun K hK => ?_) AllReadyH.nil
          go_simp
          have ne := Nat.ne_of_lt PB.out.2.2
          replace RX := Lib.hid (RX.out.alloc (MoC 0 0 0 0 false 0))
          replace RY := Lib.hid (RY.out.alloc (MoC 0 0 0 0 false 0))
          replace PB := Lib.hid (PB.out.alloc (MoC 0 0 0 0 false 0))
          have PA := Lib.hid (HoldsN.new rfl : HoldsN (v3.alloc (MoC 0 0 0 0 false 0)) v3.heap.size 0 0 0 0 false 0)
          have lePA := le0
          replace le0 := Nat.le_trans le0 (Below.alloc (Below.refl v3.heap.size v3) (Nat.le_refl _) (MoC 0 0 0 0 false 0)).size
          have HBx := Lib.hid (ballD1 hHeld.2.2.2.2.2.2.2.2.2.2.2.2 (MoC 0 0 0 0 false 0))
          clear hHeld
          refine hK.out _ _ ?_ (fun hHeld => ?_)
          · exact ⟨RX.out.1.1, RX.out.1.2.1, RX.out.1.2.2.1, RX.out.1.2.2.2.1, RX.out.1.2.2.2.2.1, RX.out.1.2.2.2.2.2, RY.out.1.1, RY.out.1.2.1, RY.out.1.2.2.1, RY.out.1.2.2.2.1, RY.out.1.2.2.2.2.1, RY.out.1.2.2.2.2.2, HBx.out⟩
          clear hK K HBx
          try simp only [Act.put, List.setIfInBounds_toArray, List.set_cons_zero, List.set_cons_succ]
          generalize v3.alloc (MoC 0 0 0 0 false 0) = v4 at *
          obtain ⟨gA, hg⟩ : ∃ g, g = v3.heap.size := ⟨_, rfl⟩
          rw [← hg] at PA lePA ne ⊢
          clear hg
          replace ne := ne.symm
          obtain ⟨⟨d0, d1, d2, d3, d4, d5⟩, ⟨f0, f1, f2, f3, f4, f5⟩, f6⟩ := id PA.out
          refine wpAnyH_ready (rs := [6]) (by kernel_rfl) (by simp) ?_
          refine AllReadyH.cons (o := { dst := none, op := Go.Op.store 29 (Go.Operand.tmp 5) (Go.Operand.tmp 30), type := 0, pos := "law.go:119", after := #[{ on := 4, ground := Go.Ground.data }, { on := 1, ground := Go.Ground.data }, { on := 3, ground := Go.Ground.chain }, { on := 0, ground := Go.Ground.phase }, { on := 1, ground := Go.Ground.phase }, { on := 2, ground := Go.Ground.textOnly Go.Departure.lateStores }, { on := 3, ground := Go.Ground.textOnly Go.Departure.lateStoresUnsure }, { on := 4, ground := Go.Ground.phase }, { on := 5, ground := Go.Ground.phase }], guard := none }) rfl (fun K hK => ?_) AllReadyH.nil
          go_simp
          clear f0 f1 f2 f3 f4 f5 f6 d0 d1 d2 d3 d4 d5
          have HBx := Lib.hid (B6 hHeld.2.2.2.2.2.2.2.2.2.2.2.2 (g := gA) (by omega) (.int .i64 ay) (.int .i64 am) (.int .i64 ad) (.int .i64 as') (.bool xz) (.int .i64 ao))
          replace RX := Lib.hid (far6 RX.out (g := gA) (by omega) (.int .i64 ay) (.int .i64 am) (.int .i64 ad) (.int .i64 as') (.bool xz) (.int .i64 ao))
          replace RY := Lib.hid (far6 RY.out (g := gA) (by omega) (.int .i64 ay) (.int .i64 am) (.int .i64 ad) (.int .i64 as') (.bool xz) (.int .i64 ao))
          replace PB := Lib.hid (PB.out.far6 (g := gA) ne.symm (.int .i64 ay) (.int .i64 am) (.int .i64 ad) (.int .i64 as') (.bool xz) (.int .i64 ao))
          replace PA := Lib.hid (PA.out.put (y := ay) (m := am) (d := ad) (s := as') (z := xz) (o := ao))
          clear hHeld
          refine hK.out _ _ ?_ (fun hHeld => ?_)
          · exact ⟨RX.out.1.1, RX.out.1.2.1, RX.out.1.2.2.1, RX.out.1.2.2.2.1, RX.out.1.2.2.2.2.1, RX.out.1.2.2.2.2.2, RY.out.1.1, RY.out.1.2.1, RY.out.1.2.2.1, RY.out.1.2.2.2.1, RY.out.1.2.2.2.2.1, RY.out.1.2.2.2.2.2, HBx.out⟩
          clear hK K HBx
          try simp only [Act.put, List.setIfInBounds_toArray, List.set_cons_zero, List.set_cons_succ]
          obtain ⟨⟨d0, d1, d2, d3, d4, d5⟩, ⟨f0, f1, f2, f3, f4, f5⟩, f6⟩ := id PB.out
          refine wpAnyH_ready (rs := [7]) (by kernel_rfl) (by simp) ?_
          refine AllReadyH.cons (o := { dst := none, op := Go.Op.store 29 (Go.Operand.tmp 6) (Go.Operand.tmp 32), type := 0, pos := "law.go:119", after := #[{ on := 5, ground := Go.Ground.data }, { on := 3, ground := Go.Ground.data }, { on := 6, ground := Go.Ground.chain }, { on := 0, ground := Go.Ground.phase }, { on := 1, ground := Go.Ground.phase }, { on := 2, ground := Go.Ground.phase }, { on := 3, ground := Go.Ground.phase }, { on := 4, ground := Go.Ground.phase }, { on := 5, ground := Go.Ground.phase }, { on := 6, ground := Go.Ground.phase }], guard := none }) rfl (fun K hK => ?_) AllReadyH.nil
          go_simp
          clear f0 f1 f2 f3 f4 f5 f6 d0 d1 d2 d3 d4 d5
          have HBx := Lib.hid (B6 hHeld.2.2.2.2.2.2.2.2.2.2.2.2 (g := gB) (by omega) (.int .i64 by_) (.int .i64 bm) (.int .i64 bd) (.int .i64 bs) (.bool xz) (.int .i64 ao))
          replace RX := Lib.hid (far6 RX.out (g := gB) (by omega) (.int .i64 by_) (.int .i64 bm) (.int .i64 bd) (.int .i64 bs) (.bool xz) (.int .i64 ao))
          replace RY := Lib.hid (far6 RY.out (g := gB) (by omega) (.int .i64 by_) (.int .i64 bm) (.int .i64 bd) (.int .i64 bs) (.bool xz) (.int .i64 ao))
          replace PA := Lib.hid (PA.out.far6 (g := gB) ne (.int .i64 by_) (.int .i64 bm) (.int .i64 bd) (.int .i64 bs) (.bool xz) (.int .i64 ao))
          replace PB := Lib.hid (PB.out.put (y := by_) (m := bm) (d := bd) (s := bs) (z := xz) (o := ao))
          clear hHeld
          refine hK.out _ _ ?_ (fun hHeld => ?_)
          · exact ⟨RX.out.1.1, RX.out.1.2.1, RX.out.1.2.2.1, RX.out.1.2.2.2.1, RX.out.1.2.2.2.2.1, RX.out.1.2.2.2.2.2, RY.out.1.1, RY.out.1.2.1, RY.out.1.2.2.1, RY.out.1.2.2.2.1, RY.out.1.2.2.2.2.1, RY.out.1.2.2.2.2.2, HBx.out⟩
          clear hK K HBx
          try simp only [Act.put, List.setIfInBounds_toArray, List.set_cons_zero, List.set_cons_succ]
          refine wpAnyH_done (by kernel_rfl) ?_ _
          exact ⟨gA, gB, rfl, RX.out, RY.out, PA.out, PB.out, lePA, lePB, hHeld.2.2.2.2.2.2.2.2.2.2.2.2⟩
        · go_simp
          have ne := Nat.ne_of_lt PB.out.2.2
          replace RX := Lib.hid (RX.out.alloc (MoC 0 0 0 0 false 0))
          replace RY := Lib.hid (RY.out.alloc (MoC 0 0 0 0 false 0))
          replace PB := Lib.hid (PB.out.alloc (MoC 0 0 0 0 false 0))
          have PA := Lib.hid (HoldsN.new rfl : HoldsN (v2.alloc (MoC 0 0 0 0 false 0)) v2.heap.size 0 0 0 0 false 0)
          have lePA := le0
          replace le0 := Nat.le_trans le0 (Below.alloc (Below.refl v2.heap.size v2) (Nat.le_refl _) (MoC 0 0 0 0 false 0)).size
          have HBx := Lib.hid (ballD1 hHeld.2.2.2.2.2.2.2.2.2.2.2.2 (MoC 0 0 0 0 false 0))
          clear hHeld
          refine hK.out _ _ ?_ (fun hHeld => ?_)
          · exact ⟨RX.out.1.1, RX.out.1.2.1, RX.out.1.2.2.1, RX.out.1.2.2.2.1, RX.out.1.2.2.2.2.1, RX.out.1.2.2.2.2.2, RY.out.1.1, RY.out.1.2.1, RY.out.1.2.2.1, RY.out.1.2.2.2.1, RY.out.1.2.2.2.2.1, RY.out.1.2.2.2.2.2, HBx.out⟩
          clear hK K HBx
          try simp only [Act.put, List.setIfInBounds_toArray, List.set_cons_zero, List.set_cons_succ]
          generalize v2.alloc (MoC 0 0 0 0 false 0) = v3 at *
          obtain ⟨gA, hg⟩ : ∃ g, g = v2.heap.size := ⟨_, rfl⟩
          rw [← hg] at PA lePA ne ⊢
          clear hg
          replace ne := ne.symm
          refine wpAnyH_ready (rs := [3]) (by kernel_rfl) (by simp) ?_
          refine AllReadyH.cons (o := { dst := some 32, op := Go.Op.call { callee := Go.Callee.value (Go.Operand.func 9), args := #[Go.Operand.tmp 31], argTypes := #[23] }, type := 29, pos := "law.go:119", after := #[{ on := 2, ground := Go.Ground.data }, { on := 1, ground := Go.Ground.chain }], guard := none }) rfl (fun K hK => ?_) AllReadyH.nil
          go_simp
          refine (MB.out _).mono ?_
          rintro e v4 ⟨rfl, hbv⟩
          replace RX := Lib.hid (RX.out.below hbv)
          replace RY := Lib.hid (RY.out.below hbv)
          replace PA := Lib.hid (PA.out.below hbv)
          replace PB := Lib.hid (PB.out.below hbv)
          have HBx := Lib.hid (bstep hHeld.2.2.2.2.2.2.2.2.2.2.2.2 hbv)
          replace le0 := Nat.le_trans le0 hbv.size
          clear hHeld hbv
          refine hK.out _ _ ?_ (fun hHeld => ?_)
          · exact ⟨RX.out.1.1, RX.out.1.2.1, RX.out.1.2.2.1, RX.out.1.2.2.2.1, RX.out.1.2.2.2.2.1, RX.out.1.2.2.2.2.2, RY.out.1.1, RY.out.1.2.1, RY.out.1.2.2.1, RY.out.1.2.2.2.1, RY.out.1.2.2.2.2.1, RY.out.1.2.2.2.2.2, HBx.out⟩
          clear hK K HBx
          try simp only [Act.put, List.setIfInBounds_toArray, List.set_cons_zero, List.set_cons_succ]
          obtain ⟨⟨d0, d1, d2, d3, d4, d5⟩, ⟨f0, f1, f2, f3, f4, f5⟩, f6⟩ := id PA.out
          refine wpAnyH_ready (rs := [6]) (by kernel_rfl) (by simp) ?_
          refine AllReadyH.cons (o := { dst := none, op := Go.Op.store 29 (Go.Operand.tmp 5) (Go.Operand.tmp 30), type := 0, pos := "law.go:119", after := #[{ on := 4, ground := Go.Ground.data }, { on := 1, ground := Go.Ground.data }, { on := 3, ground := Go.Ground.chain }, { on := 0, ground := Go.Ground.phase }, { on := 1, ground := Go.Ground.phase }, { on := 2, ground := Go.Ground.textOnly Go.Departure.lateStores }, { on := 3, ground := Go.Ground.textOnly Go.Departure.lateStoresUnsure }, { on := 4, ground := Go.Ground.phase }, { on := 5, ground := Go.Ground.phase }], guard := none }) rfl (fun K hK => ?_) AllReadyH.nil
          go_simp
          clear f0 f1 f2 f3 f4 f5 f6 d0 d1 d2 d3 d4 d5
          have HBx := Lib.hid (B6 hHeld.2.2.2.2.2.2.2.2.2.2.2.2 (g := gA) (by omega) (.int .i64 ay) (.int .i64 am) (.int .i64 ad) (.int .i64 as') (.bool xz) (.int .i64 ao))
          replace RX := Lib.hid (far6 RX.out (g := gA) (by omega) (.int .i64 ay) (.int .i64 am) (.int .i64 ad) (.int .i64 as') (.bool xz) (.int .i64 ao))
          replace RY := Lib.hid (far6 RY.out (g := gA) (by omega) (.int .i64 ay) (.int .i64 am) (.int .i64 ad) (.int .i64 as') (.bool xz) (.int .i64 ao))
          replace PB := Lib.hid (PB.out.far6 (g := gA) ne.symm (.int .i64 ay) (.int .i64 am) (.int .i64 ad) (.int .i64 as') (.bool xz) (.int .i64 ao))
          replace PA := Lib.hid (PA.out.put (y := ay) (m := am) (d := ad) (s := as') (z := xz) (o := ao))
          clear hHeld
          refine hK.out _ _ ?_ (fun hHeld => ?_)
          · exact ⟨RX.out.1.1, RX.out.1.2.1, RX.out.1.2.2.1, RX.out.1.2.2.2.1, RX.out.1.2.2.2.2.1, RX.out.1.2.2.2.2.2, RY.out.1.1, RY.out.1.2.1, RY.out.1.2.2.1, RY.out.1.2.2.2.1, RY.out.1.2.2.2.2.1, RY.out.1.2.2.2.2.2, HBx.out⟩
          clear hK K HBx
          try simp only [Act.put, List.setIfInBounds_toArray, List.set_cons_zero, List.set_cons_succ]
          obtain ⟨⟨d0, d1, d2, d3, d4, d5⟩, ⟨f0, f1, f2, f3, f4, f5⟩, f6⟩ := id PB.out
          refine wpAnyH_ready (rs := [7]) (by kernel_rfl) (by simp) ?_
          refine AllReadyH.cons (o := { dst := none, op := Go.Op.store 29 (Go.Operand.tmp 6) (Go.Operand.tmp 32), type := 0, pos := "law.go:119", after := #[{ on := 5, ground := Go.Ground.data }, { on := 3, ground := Go.Ground.data }, { on := 6, ground := Go.Ground.chain }, { on := 0, ground := Go.Ground.phase }, { on := 1, ground := Go.Ground.phase }, { on := 2, ground := Go.Ground.phase }, { on := 3, ground := Go.Ground.phase }, { on := 4, ground := Go.Ground.phase }, { on := 5, ground := Go.Ground.phase }, { on := 6, ground := Go.Ground.phase }], guard := none }) rfl (fun K hK => ?_) AllReadyH.nil
          go_simp
          clear f0 f1 f2 f3 f4 f5 f6 d0 d1 d2 d3 d4 d5
          have HBx := Lib.hid (B6 hHeld.2.2.2.2.2.2.2.2.2.2.2.2 (g := gB) (by omega) (.int .i64 by_) (.int .i64 bm) (.int .i64 bd) (.int .i64 bs) (.bool xz) (.int .i64 ao))
          replace RX := Lib.hid (far6 RX.out (g := gB) (by omega) (.int .i64 by_) (.int .i64 bm) (.int .i64 bd) (.int .i64 bs) (.bool xz) (.int .i64 ao))
          replace RY := Lib.hid (far6 RY.out (g := gB) (by omega) (.int .i64 by_) (.int .i64 bm) (.int .i64 bd) (.int .i64 bs) (.bool xz) (.int .i64 ao))
          replace PA := Lib.hid (PA.out.far6 (g := gB) ne (.int .i64 by_) (.int .i64 bm) (.int .i64 bd) (.int .i64 bs) (.bool xz) (.int .i64 ao))
          replace PB := Lib.hid (PB.out.put (y := by_) (m := bm) (d := bd) (s := bs) (z := xz) (o := ao))
          clear hHeld
          refine hK.out _ _ ?_ (fun hHeld => ?_)
          · exact ⟨RX.out.1.1, RX.out.1.2.1, RX.out.1.2.2.1, RX.out.1.2.2.2.1, RX.out.1.2.2.2.2.1, RX.out.1.2.2.2.2.2, RY.out.1.1, RY.out.1.2.1, RY.out.1.2.2.1, RY.out.1.2.2.2.1, RY.out.1.2.2.2.2.1, RY.out.1.2.2.2.2.2, HBx.out⟩
          clear hK K HBx
          try simp only [Act.put, List.setIfInBounds_toArray, List.set_cons_zero, List.set_cons_succ]
          refine wpAnyH_done (by kernel_rfl) ?_ _
          exact ⟨gA, gB, rfl, RX.out, RY.out, PA.out, PB.out, lePA, lePB, hHeld.2.2.2.2.2.2.2.2.2.2.2.2⟩
    · go_simp
      replace RX := Lib.hid (RX.out.alloc (MoC 0 0 0 0 false 0))
      replace RY := Lib.hid (RY.out.alloc (MoC 0 0 0 0 false 0))
      have PA := Lib.hid (HoldsN.new rfl : HoldsN (v0.alloc (MoC 0 0 0 0 false 0)) v0.heap.size 0 0 0 0 false 0)
      have lePA := le0
      replace le0 := Nat.le_trans le0 (Below.alloc (Below.refl v0.heap.size v0) (Nat.le_refl _) (MoC 0 0 0 0 false 0)).size
      have HBx := Lib.hid (ballD1 hHeld.2.2.2.2.2.2.2.2.2.2.2.2 (MoC 0 0 0 0 false 0))
      clear hHeld
      refine hK.out _ _ ?_ (fun hHeld => ?_)
      · exact ⟨RX.out.1.1, RX.out.1.2.1, RX.out.1.2.2.1, RX.out.1.2.2.2.1, RX.out.1.2.2.2.2.1, RX.out.1.2.2.2.2.2, RY.out.1.1, RY.out.1.2.1, RY.out.1.2.2.1, RY.out.1.2.2.2.1, RY.out.1.2.2.2.2.1, RY.out.1.2.2.2.2.2, HBx.out⟩
      clear hK K HBx
      try simp only [Act.put, List.setIfInBounds_toArray, List.set_cons_zero, List.set_cons_succ]
      generalize v0.alloc (MoC 0 0 0 0 false 0) = v1 at *
      obtain ⟨gA, hg⟩ : ∃ g, g = v0.heap.size := ⟨_, rfl⟩
      rw [← hg] at PA lePA ⊢
      clear hg
      refine wpAnyH_ready (rs := [1, 5]) (by kernel_rfl) (by simp) ?_
      refine AllReadyH.cons (o := { dst := some 30, op := Go.Op.call { callee := Go.Callee.value (Go.Operand.func 9), args := #[Go.Operand.tmp 29], argTypes := #[23] }, type := 29, pos := "law.go:119", after := #[{ on := 0, ground := Go.Ground.data }], guard := none }) rfl (fun K hK => ?_) (AllReadyH.cons (o := { dst := some 6, op := Go.Op.alloc 29, type := 0, pos := "law.go:119", after := #[], guard := none }) rfl (fun K hK => ?_) AllReadyH.nil)
      · go_simp
        refine (MA.out _).mono ?_
        rintro e v2 ⟨rfl, hbv⟩
        replace RX := Lib.hid (RX.out.below hbv)
        replace RY := Lib.hid (RY.out.below hbv)
        replace PA := Lib.hid (PA.out.below hbv)
        have HBx := Lib.hid (bstep hHeld.2.2.2.2.2.2.2.2.2.2.2.2 hbv)
        replace le0 := Nat.le_trans le0 hbv.size
        clear hHeld hbv
        refine hK.out _ _ ?_ (fun hHeld => ?_)
        · exact ⟨RX.out.1.1, RX.out.1.2.1, RX.out.1.2.2.1, RX.out.1.2.2.2.1, RX.out.1.2.2.2.2.1, RX.out.1.2.2.2.2.2, RY.out.1.1, RY.out.1.2.1, RY.out.1.2.2.1, RY.out.1.2.2.2.1, RY.out.1.2.2.2.2.1, RY.out.1.2.2.2.2.2, HBx.out⟩
        clear hK K HBx
        try simp only [Act.put, List.setIfInBounds_toArray, List.set_cons_zero, List.set_cons_succ]
        refine wpAnyH_ready (rs := [3, 5]) (by kernel_rfl) (by simp) ?_
        refine AllReadyH.cons (o := { dst := some 32, op := Go.Op.call { callee := Go.Callee.value (Go.Operand.func 9), args := #[Go.Operand.tmp 31], argTypes := #[23] }, type := 29, pos := "law.go:119", after := #[{ on := 2, ground := Go.Ground.data }, { on := 1, ground := Go.Ground.chain }], guard := none }) rfl (fun K hK => ?_) (AllReadyH.cons (o := { dst := some 6, op := Go.Op.alloc 29, type := 0, pos := "law.go:119", after := #[], guard := none }) rfl (fun K hK => ?_) AllReadyH.nil)
        · go_simp
          refine (MB.out _).mono ?_
          rintro e v3 ⟨rfl, hbv⟩
          replace RX := Lib.hid (RX.out.below hbv)
          replace RY := Lib.hid (RY.out.below hbv)
          replace PA := Lib.hid (PA.out.below hbv)
          have HBx := Lib.hid (bstep hHeld.2.2.2.2.2.2.2.2.2.2.2.2 hbv)
          replace le0 := Nat.le_trans le0 hbv.size
          clear hHeld hbv
          refine hK.out _ _ ?_ (fun hHeld => ?_)
          · exact ⟨RX.out.1.1, RX.out.1.2.1, RX.out.1.2.2.1, RX.out.1.2.2.2.1, RX.out.1.2.2.2.2.1, RX.out.1.2.2.2.2.2, RY.out.1.1, RY.out.1.2.1, RY.out.1.2.2.1, RY.out.1.2.2.2.1, RY.out.1.2.2.2.2.1, RY.out.1.2.2.2.2.2, HBx.out⟩
          clear hK K HBx
          try simp only [Act.put, List.setIfInBounds_toArray, List.set_cons_zero, List.set_cons_succ]
          refine wpAnyH_ready (rs := [5]) (by kernel_rfl) (by simp) ?_
          refine AllReadyH.cons (o := { dst := some 6, op := Go.Op.alloc 29, type := 0, pos := "law.go:119", after := #[], guard := none }) rfl (fun K hK => ?_) AllReadyH.nil
          go_simp
          have ne := Nat.ne_of_lt PA.out.2.2
          replace RX := Lib.hid (RX.out.alloc (MoC 0 0 0 0 false 0))
          replace RY := Lib.hid (RY.out.alloc (MoC 0 0 0 0 false 0))
          replace PA := Lib.hid (PA.out.alloc (MoC 0 0 0 0 false 0))
          have PB := Lib.hid (HoldsN.new rfl : HoldsN (v3.alloc (MoC 0 0 0 0 false 0)) v3.heap.size 0 0 0 0 false 0)
          have lePB := le0
          replace le0 := Nat.le_trans le0 (Below.alloc (Below.refl v3.heap.size v3) (Nat.le_refl _) (MoC 0 0 0 0 false 0)).size
          have HBx := Lib.hid (ballD1 hHeld.2.2.2.2.2.2.2.2.2.2.2.2 (MoC 0 0 0 0 false 0))
          clear hHeld
          refine hK.out _ _ ?_ (fun hHeld => ?_)
          · exact ⟨RX.out.1.1, RX.out.1.2.1, RX.out.1.2.2.1, RX.out.1.2.2.2.1, RX.out.1.2.2.2.2.1, RX.out.1.2.2.2.2.2, RY.out.1.1, RY.out.1.2.1, RY.out.1.2.2.1, RY.out.1.2.2.2.1, RY.out.1.2.2.2.2.1, RY.out.1.2.2.2.2.2, HBx.out⟩
          clear hK K HBx
          try simp only [Act.put, List.setIfInBounds_toArray, List.set_cons_zero, List.set_cons_succ]
          generalize v3.alloc (MoC 0 0 0 0 false 0) = v4 at *
          obtain ⟨gB, hg⟩ : ∃ g, g = v3.heap.size := ⟨_, rfl⟩
          rw [← hg] at PB lePB ne ⊢
          clear hg
          obtain ⟨⟨d0, d1, d2, d3, d4, d5⟩, ⟨f0, f1, f2, f3, f4, f5⟩, f6⟩ := id PA.out
          refine wpAnyH_ready (rs := [6]) (by kernel_rfl) (by simp) ?_
          refine AllReadyH.cons (o := { dst := none, op := Go.Op.store 29 (Go.Operand.tmp 5) (Go.Operand.tmp 30), type := 0, pos := "law.go:119", after := #[{ on := 4, ground := Go.Ground.data }, { on := 1, ground := Go.Ground.data }, { on := 3, ground := Go.Ground.chain }, { on := 0, ground := Go.Ground.phase }, { on := 1, ground := Go.Ground.phase }, { on := 2, ground := Go.Ground.textOnly Go.Departure.lateStores }, { on := 3, ground := Go.Ground.textOnly Go.Departure.lateStoresUnsure }, { on := 4, ground := Go.Ground.phase }, { on := 5, ground := Go.Ground.phase }], guard := none }) rfl (fun K hK => ?_) AllReadyH.nil
          go_simp
          clear f0 f1 f2 f3 f4 f5 f6 d0 d1 d2 d3 d4 d5
          have HBx := Lib.hid (B6 hHeld.2.2.2.2.2.2.2.2.2.2.2.2 (g := gA) (by omega) (.int .i64 ay) (.int .i64 am) (.int .i64 ad) (.int .i64 as') (.bool xz) (.int .i64 ao))
          replace RX := Lib.hid (far6 RX.out (g := gA) (by omega) (.int .i64 ay) (.int .i64 am) (.int .i64 ad) (.int .i64 as') (.bool xz) (.int .i64 ao))
          replace RY := Lib.hid (far6 RY.out (g := gA) (by omega) (.int .i64 ay) (.int .i64 am) (.int .i64 ad) (.int .i64 as') (.bool xz) (.int .i64 ao))
          replace PB := Lib.hid (PB.out.far6 (g := gA) ne.symm (.int .i64 ay) (.int .i64 am) (.int .i64 ad) (.int .i64 as') (.bool xz) (.int .i64 ao))
          replace PA := Lib.hid (PA.out.put (y := ay) (m := am) (d := ad) (s := as') (z := xz) (o := ao))
          clear hHeld
          refine hK.out _ _ ?_ (fun hHeld => ?_)
          · exact ⟨RX.out.1.1, RX.out.1.2.1, RX.out.1.2.2.1, RX.out.1.2.2.2.1, RX.out.1.2.2.2.2.1, RX.out.1.2.2.2.2.2, RY.out.1.1, RY.out.1.2.1, RY.out.1.2.2.1, RY.out.1.2.2.2.1, RY.out.1.2.2.2.2.1, RY.out.1.2.2.2.2.2, HBx.out⟩
          clear hK K HBx
          try simp only [Act.put, List.setIfInBounds_toArray, List.set_cons_zero, List.set_cons_succ]
          obtain ⟨⟨d0, d1, d2, d3, d4, d5⟩, ⟨f0, f1, f2, f3, f4, f5⟩, f6⟩ := id PB.out
          refine wpAnyH_ready (rs := [7]) (by kernel_rfl) (by simp) ?_
          refine AllReadyH.cons (o := { dst := none, op := Go.Op.store 29 (Go.Operand.tmp 6) (Go.Operand.tmp 32), type := 0, pos := "law.go:119", after := #[{ on := 5, ground := Go.Ground.data }, { on := 3, ground := Go.Ground.data }, { on := 6, ground := Go.Ground.chain }, { on := 0, ground := Go.Ground.phase }, { on := 1, ground := Go.Ground.phase }, { on := 2, ground := Go.Ground.phase }, { on := 3, ground := Go.Ground.phase }, { on := 4, ground := Go.Ground.phase }, { on := 5, ground := Go.Ground.phase }, { on := 6, ground := Go.Ground.phase }], guard := none }) rfl (fun K hK => ?_) AllReadyH.nil
          go_simp
          clear f0 f1 f2 f3 f4 f5 f6 d0 d1 d2 d3 d4 d5
          have HBx := Lib.hid (B6 hHeld.2.2.2.2.2.2.2.2.2.2.2.2 (g := gB) (by omega) (.int .i64 by_) (.int .i64 bm) (.int .i64 bd) (.int .i64 bs) (.bool xz) (.int .i64 ao))
          replace RX := Lib.hid (far6 RX.out (g := gB) (by omega) (.int .i64 by_) (.int .i64 bm) (.int .i64 bd) (.int .i64 bs) (.bool xz) (.int .i64 ao))
          replace RY := Lib.hid (far6 RY.out (g := gB) (by omega) (.int .i64 by_) (.int .i64 bm) (.int .i64 bd) (.int .i64 bs) (.bool xz) (.int .i64 ao))
          replace PA := Lib.hid (PA.out.far6 (g := gB) ne (.int .i64 by_) (.int .i64 bm) (.int .i64 bd) (.int .i64 bs) (.bool xz) (.int .i64 ao))
          replace PB := Lib.hid (PB.out.put (y := by_) (m := bm) (d := bd) (s := bs) (z := xz) (o := ao))
          clear hHeld
          refine hK.out _ _ ?_ (fun hHeld => ?_)
          · exact ⟨RX.out.1.1, RX.out.1.2.1, RX.out.1.2.2.1, RX.out.1.2.2.2.1, RX.out.1.2.2.2.2.1, RX.out.1.2.2.2.2.2, RY.out.1.1, RY.out.1.2.1, RY.out.1.2.2.1, RY.out.1.2.2.2.1, RY.out.1.2.2.2.2.1, RY.out.1.2.2.2.2.2, HBx.out⟩
          clear hK K HBx
          try simp only [Act.put, List.setIfInBounds_toArray, List.set_cons_zero, List.set_cons_succ]
          refine wpAnyH_done (by kernel_rfl) ?_ _
          exact ⟨gA, gB, rfl, RX.out, RY.out, PA.out, PB.out, lePA, lePB, hHeld.2.2.2.2.2.2.2.2.2.2.2.2⟩
        · go_simp
          have ne := Nat.ne_of_lt PA.out.2.2
          replace RX := Lib.hid (RX.out.alloc (MoC 0 0 0 0 false 0))
          replace RY := Lib.hid (RY.out.alloc (MoC 0 0 0 0 false 0))
          replace PA := Lib.hid (PA.out.alloc (MoC 0 0 0 0 false 0))
          have PB := Lib.hid (HoldsN.new rfl : HoldsN (v2.alloc (MoC 0 0 0 0 false 0)) v2.heap.size 0 0 0 0 false 0)
          have lePB := le0
          replace le0 := Nat.le_trans le0 (Below.alloc (Below.refl v2.heap.size v2) (Nat.le_refl _) (MoC 0 0 0 0 false 0)).size
          have HBx := Lib.hid (ballD1 hHeld.2.2.2.2.2.2.2.2.2.2.2.2 (MoC 0 0 0 0 false 0))
          clear hHeld
          refine hK.out _ _ ?_ (fun hHeld => ?_)
          · exact ⟨RX.out.1.1, RX.out.1.2.1, RX.out.1.2.2.1, RX.out.1.2.2.2.1, RX.out.1.2.2.2.2.1, RX.out.1.2.2.2.2.2, RY.out.1.1, RY.out.1.2.1, RY.out.1.2.2.1, RY.out.1.2.2.2.1, RY.out.1.2.2.2.2.1, RY.out.1.2.2.2.2.2, HBx.out⟩
          clear hK K HBx
          try simp only [Act.put, List.setIfInBounds_toArray, List.set_cons_zero, List.set_cons_succ]
          generalize v2.alloc (MoC 0 0 0 0 false 0) = v3 at *
          obtain ⟨gB, hg⟩ : ∃ g, g = v2.heap.size := ⟨_, rfl⟩
          rw [← hg] at PB lePB ne ⊢
          clear hg
          refine wpAnyH_ready (rs := [3]) (by kernel_rfl) (by simp) ?_
          refine AllReadyH.cons (o := { dst := some 32, op := Go.Op.call { callee := Go.Callee.value (Go.Operand.func 9), args := #[Go.Operand.tmp 31], argTypes := #[23] }, type := 29, pos := "law.go:119", after := #[{ on := 2, ground := Go.Ground.data }, { on := 1, ground := Go.Ground.chain }], guard := none }) rfl (fun K hK => ?_) AllReadyH.nil
          go_simp
          refine (MB.out _).mono ?_
          rintro e v4 ⟨rfl, hbv⟩
          replace RX := Lib.hid (RX.out.below hbv)
          replace RY := Lib.hid (RY.out.below hbv)
          replace PA := Lib.hid (PA.out.below hbv)
          replace PB := Lib.hid (PB.out.below hbv)
          have HBx := Lib.hid (bstep hHeld.2.2.2.2.2.2.2.2.2.2.2.2 hbv)
          replace le0 := Nat.le_trans le0 hbv.size
          clear hHeld hbv
          refine hK.out _ _ ?_ (fun hHeld => ?_)
          · exact ⟨RX.out.1.1, RX.out.1.2.1, RX.out.1.2.2.1, RX.out.1.2.2.2.1, RX.out.1.2.2.2.2.1, RX.out.1.2.2.2.2.2, RY.out.1.1, RY.out.1.2.1, RY.out.1.2.2.1, RY.out.1.2.2.2.1, RY.out.1.2.2.2.2.1, RY.out.1.2.2.2.2.2, HBx.out⟩
          clear hK K HBx
          try simp only [Act.put, List.setIfInBounds_toArray, List.set_cons_zero, List.set_cons_succ]
          obtain ⟨⟨d0, d1, d2, d3, d4, d5⟩, ⟨f0, f1, f2, f3, f4, f5⟩, f6⟩ := id PA.out
          refine wpAnyH_ready (rs := [6]) (by kernel_rfl) (by simp) ?_
          refine AllReadyH.cons (o := { dst := none, op := Go.Op.store 29 (Go.Operand.tmp 5) (Go.Operand.tmp 30), type := 0, pos := "law.go:119", after := #[{ on := 4, ground := Go.Ground.data }, { on := 1, ground := Go.Ground.data }, { on := 3, ground := Go.Ground.chain }, { on := 0, ground := Go.Ground.phase }, { on := 1, ground := Go.Ground.phase }, { on := 2, ground := Go.Ground.textOnly Go.Departure.lateStores }, { on := 3, ground := Go.Ground.textOnly Go.Departure.lateStoresUnsure }, { on := 4, ground := Go.Ground.phase }, { on := 5, ground := Go.Ground.phase }], guard := none }) rfl (fun K hK => ?_) AllReadyH.nil
          go_simp
          clear f0 f1 f2 f3 f4 f5 f6 d0 d1 d2 d3 d4 d5
          have HBx := Lib.hid (B6 hHeld.2.2.2.2.2.2.2.2.2.2.2.2 (g := gA) (by omega) (.int .i64 ay) (.int .i64 am) (.int .i64 ad) (.int .i64 as') (.bool xz) (.int .i64 ao))
          replace RX := Lib.hid (far6 RX.out (g := gA) (by omega) (.int .i64 ay) (.int .i64 am) (.int .i64 ad) (.int .i64 as') (.bool xz) (.int .i64 ao))
          replace RY := Lib.hid (far6 RY.out (g := gA) (by omega) (.int .i64 ay) (.int .i64 am) (.int .i64 ad) (.int .i64 as') (.bool xz) (.int .i64 ao))
          replace PB := Lib.hid (PB.out.far6 (g := gA) ne.symm (.int .i64 ay) (.int .i64 am) (.int .i64 ad) (.int .i64 as') (.bool xz) (.int .i64 ao))
          replace PA := Lib.hid (PA.out.put (y := ay) (m := am) (d := ad) (s := as') (z := xz) (o := ao))
          clear hHeld
          refine hK.out _ _ ?_ (fun hHeld => ?_)
          · exact ⟨RX.out.1.1, RX.out.1.2.1, RX.out.1.2.2.1, RX.out.1.2.2.2.1, RX.out.1.2.2.2.2.1, RX.out.1.2.2.2.2.2, RY.out.1.1, RY.out.1.2.1, RY.out.1.2.2.1, RY.out.1.2.2.2.1, RY.out.1.2.2.2.2.1, RY.out.1.2.2.2.2.2, HBx.out⟩
          clear hK K HBx
          try simp only [Act.put, List.setIfInBounds_toArray, List.set_cons_zero, List.set_cons_succ]
          obtain ⟨⟨d0, d1, d2, d3, d4, d5⟩, ⟨f0, f1, f2, f3, f4, f5⟩, f6⟩ := id PB.out
          refine wpAnyH_ready (rs := [7]) (by kernel_rfl) (by simp) ?_
          refine AllReadyH.cons (o := { dst := none, op := Go.Op.store 29 (Go.Operand.tmp 6) (Go.Operand.tmp 32), type := 0, pos := "law.go:119", after := #[{ on := 5, ground := Go.Ground.data }, { on := 3, ground := Go.Ground.data }, { on := 6, ground := Go.Ground.chain }, { on := 0, ground := Go.Ground.phase }, { on := 1, ground := Go.Ground.phase }, { on := 2, ground := Go.Ground.phase }, { on := 3, ground := Go.Ground.phase }, { on := 4, ground := Go.Ground.phase }, { on := 5, ground := Go.Ground.phase }, { on := 6, ground := Go.Ground.phase }], guard := none }) rfl (fun K hK => ?_) AllReadyH.nil
          go_simp
          clear f0 f1 f2 f3 f4 f5 f6 d0 d1 d2 d3 d4 d5
          have HBx := Lib.hid (B6 hHeld.2.2.2.2.2.2.2.2.2.2.2.2 (g := gB) (by omega) (.int .i64 by_) (.int .i64 bm) (.int .i64 bd) (.int .i64 bs) (.bool xz) (.int .i64 ao))
          replace RX := Lib.hid (far6 RX.out (g := gB) (by omega) (.int .i64 by_) (.int .i64 bm) (.int .i64 bd) (.int .i64 bs) (.bool xz) (.int .i64 ao))
          replace RY := Lib.hid (far6 RY.out (g := gB) (by omega) (.int .i64 by_) (.int .i64 bm) (.int .i64 bd) (.int .i64 bs) (.bool xz) (.int .i64 ao))
          replace PA := Lib.hid (PA.out.far6 (g := gB) ne (.int .i64 by_) (.int .i64 bm) (.int .i64 bd) (.int .i64 bs) (.bool xz) (.int .i64 ao))
          replace PB := Lib.hid (PB.out.put (y := by_) (m := bm) (d := bd) (s := bs) (z := xz) (o := ao))
          clear hHeld
          refine hK.out _ _ ?_ (fun hHeld => ?_)
          · exact ⟨RX.out.1.1, RX.out.1.2.1, RX.out.1.2.2.1, RX.out.1.2.2.2.1, RX.out.1.2.2.2.2.1, RX.out.1.2.2.2.2.2, RY.out.1.1, RY.out.1.2.1, RY.out.1.2.2.1, RY.out.1.2.2.2.1, RY.out.1.2.2.2.2.1, RY.out.1.2.2.2.2.2, HBx.out⟩
          clear hK K HBx
          try simp only [Act.put, List.setIfInBounds_toArray, List.set_cons_zero, List.set_cons_succ]
          refine wpAnyH_done (by kernel_rfl) ?_ _
          exact ⟨gA, gB, rfl, RX.out, RY.out, PA.out, PB.out, lePA, lePB, hHeld.2.2.2.2.2.2.2.2.2.2.2.2⟩
      · go_simp
        have ne := Nat.ne_of_lt PA.out.2.2
        replace RX := Lib.hid (RX.out.alloc (MoC 0 0 0 0 false 0))
        replace RY := Lib.hid (RY.out.alloc (MoC 0 0 0 0 false 0))
        replace PA := Lib.hid (PA.out.alloc (MoC 0 0 0 0 false 0))
        have PB := Lib.hid (HoldsN.new rfl : HoldsN (v1.alloc (MoC 0 0 0 0 false 0)) v1.heap.size 0 0 0 0 false 0)
        have lePB := le0
        replace le0 := Nat.le_trans le0 (Below.alloc (Below.refl v1.heap.size v1) (Nat.le_refl _) (MoC 0 0 0 0 false 0)).size
        have HBx := Lib.hid (ballD1 hHeld.2.2.2.2.2.2.2.2.2.2.2.2 (MoC 0 0 0 0 false 0))
        clear hHeld
        refine hK.out _ _ ?_ (fun hHeld => ?_)
        · exact ⟨RX.out.1.1, RX.out.1.2.1, RX.out.1.2.2.1, RX.out.1.2.2.2.1, RX.out.1.2.2.2.2.1, RX.out.1.2.2.2.2.2, RY.out.1.1, RY.out.1.2.1, RY.out.1.2.2.1, RY.out.1.2.2.2.1, RY.out.1.2.2.2.2.1, RY.out.1.2.2.2.2.2, HBx.out⟩
        clear hK K HBx
        try simp only [Act.put, List.setIfInBounds_toArray, List.set_cons_zero, List.set_cons_succ]
        generalize v1.alloc (MoC 0 0 0 0 false 0) = v2 at *
        obtain ⟨gB, hg⟩ : ∃ g, g = v1.heap.size := ⟨_, rfl⟩
        rw [← hg] at PB lePB ne ⊢
        clear hg
        refine wpAnyH_ready (rs := [1]) (by kernel_rfl) (by simp) ?_
        refine AllReadyH.cons (o := { dst := some 30, op := Go.Op.call { callee := Go.Callee.value (Go.Operand.func 9), args := #[Go.Operand.tmp 29], argTypes := #[23] }, type := 29, pos := "law.go:119", after := #[{ on := 0, ground := Go.Ground.data }], guard := none }) rfl (fun K hK => ?_) AllReadyH.nil
        go_simp
        refine (MA.out _).mono ?_
        rintro e v3 ⟨rfl, hbv⟩
        replace RX := Lib.hid (RX.out.below hbv)
        replace RY := Lib.hid (RY.out.below hbv)
        replace PA := Lib.hid (PA.out.below hbv)
        replace PB := Lib.hid (PB.out.below hbv)
        have HBx := Lib.hid (bstep hHeld.2.2.2.2.2.2.2.2.2.2.2.2 hbv)
        replace le0 := Nat.le_trans le0 hbv.size
        clear hHeld hbv
        refine hK.out _ _ ?_ (fun hHeld => ?_)
        · exact ⟨RX.out.1.1, RX.out.1.2.1, RX.out.1.2.2.1, RX.out.1.2.2.2.1, RX.out.1.2.2.2.2.1, RX.out.1.2.2.2.2.2, RY.out.1.1, RY.out.1.2.1, RY.out.1.2.2.1, RY.out.1.2.2.2.1, RY.out.1.2.2.2.2.1, RY.out.1.2.2.2.2.2, HBx.out⟩
        clear hK K HBx
        try simp only [Act.put, List.setIfInBounds_toArray, List.set_cons_zero, List.set_cons_succ]
        refine wpAnyH_ready (rs := [3]) (by kernel_rfl) (by simp) ?_
        refine AllReadyH.cons (o := { dst := some 32, op := Go.Op.call { callee := Go.Callee.value (Go.Operand.func 9), args := #[Go.Operand.tmp 31], argTypes := #[23] }, type := 29, pos := "law.go:119", after := #[{ on := 2, ground := Go.Ground.data }, { on := 1, ground := Go.Ground.chain }], guard := none }) rfl (fun K hK => ?_) AllReadyH.nil
        go_simp
        refine (MB.out _).mono ?_
        rintro e v4 ⟨rfl, hbv⟩
        replace RX := Lib.hid (RX.out.below hbv)
        replace RY := Lib.hid (RY.out.below hbv)
        replace PA := Lib.hid (PA.out.below hbv)
        replace PB := Lib.hid (PB.out.below hbv)
        have HBx := Lib.hid (bstep hHeld.2.2.2.2.2.2.2.2.2.2.2.2 hbv)
        replace le0 := Nat.le_trans le0 hbv.size
        clear hHeld hbv
        refine hK.out _ _ ?_ (fun hHeld => ?_)
        · exact ⟨RX.out.1.1, RX.out.1.2.1, RX.out.1.2.2.1, RX.out.1.2.2.2.1, RX.out.1.2.2.2.2.1, RX.out.1.2.2.2.2.2, RY.out.1.1, RY.out.1.2.1, RY.out.1.2.2.1, RY.out.1.2.2.2.1, RY.out.1.2.2.2.2.1, RY.out.1.2.2.2.2.2, HBx.out⟩
        clear hK K HBx
        try simp only [Act.put, List.setIfInBounds_toArray, List.set_cons_zero, List.set_cons_succ]
        obtain ⟨⟨d0, d1, d2, d3, d4, d5⟩, ⟨f0, f1, f2, f3, f4, f5⟩, f6⟩ := id PA.out
        refine wpAnyH_ready (rs := [6]) (by kernel_rfl) (by simp) ?_
        refine AllReadyH.cons (o := { dst := none, op := Go.Op.store 29 (Go.Operand.tmp 5) (Go.Operand.tmp 30), type := 0, pos := "law.go:119", after := #[{ on := 4, ground := Go.Ground.data }, { on := 1, ground := Go.Ground.data }, { on := 3, ground := Go.Ground.chain }, { on := 0, ground := Go.Ground.phase }, { on := 1, ground := Go.Ground.phase }, { on := 2, ground := Go.Ground.textOnly Go.Departure.lateStores }, { on := 3, ground := Go.Ground.textOnly Go.Departure.lateStoresUnsure }, { on := 4, ground := Go.Ground.phase }, { on := 5, ground := Go.Ground.phase }], guard := none }) rfl (fun K hK => ?_) AllReadyH.nil
        go_simp
        clear f0 f1 f2 f3 f4 f5 f6 d0 d1 d2 d3 d4 d5
        have HBx := Lib.hid (B6 hHeld.2.2.2.2.2.2.2.2.2.2.2.2 (g := gA) (by omega) (.int .i64 ay) (.int .i64 am) (.int .i64 ad) (.int .i64 as') (.bool xz) (.int .i64 ao))
        replace RX := Lib.hid (far6 RX.out (g := gA) (by omega) (.int .i64 ay) (.int .i64 am) (.int .i64 ad) (.int .i64 as') (.bool xz) (.int .i64 ao))
        replace RY := Lib.hid (far6 RY.out (g := gA) (by omega) (.int .i64 ay) (.int .i64 am) (.int .i64 ad) (.int .i64 as') (.bool xz) (.int .i64 ao))
        replace PB := Lib.hid (PB.out.far6 (g := gA) ne.symm (.int .i64 ay) (.int .i64 am) (.int .i64 ad) (.int .i64 as') (.bool xz) (.int .i64 ao))
        replace PA := Lib.hid (PA.out.put (y := ay) (m := am) (d := ad) (s := as') (z := xz) (o := ao))
        clear hHeld
        refine hK.out _ _ ?_ (fun hHeld => ?_)
        · exact ⟨RX.out.1.1, RX.out.1.2.1, RX.out.1.2.2.1, RX.out.1.2.2.2.1, RX.out.1.2.2.2.2.1, RX.out.1.2.2.2.2.2, RY.out.1.1, RY.out.1.2.1, RY.out.1.2.2.1, RY.out.1.2.2.2.1, RY.out.1.2.2.2.2.1, RY.out.1.2.2.2.2.2, HBx.out⟩
        clear hK K HBx
        try simp only [Act.put, List.setIfInBounds_toArray, List.set_cons_zero, List.set_cons_succ]
        obtain ⟨⟨d0, d1, d2, d3, d4, d5⟩, ⟨f0, f1, f2, f3, f4, f5⟩, f6⟩ := id PB.out
        refine wpAnyH_ready (rs := [7]) (by kernel_rfl) (by simp) ?_
        refine AllReadyH.cons (o := { dst := none, op := Go.Op.store 29 (Go.Operand.tmp 6) (Go.Operand.tmp 32), type := 0, pos := "law.go:119", after := #[{ on := 5, ground := Go.Ground.data }, { on := 3, ground := Go.Ground.data }, { on := 6, ground := Go.Ground.chain }, { on := 0, ground := Go.Ground.phase }, { on := 1, ground := Go.Ground.phase }, { on := 2, ground := Go.Ground.phase }, { on := 3, ground := Go.Ground.phase }, { on := 4, ground := Go.Ground.phase }, { on := 5, ground := Go.Ground.phase }, { on := 6, ground := Go.Ground.phase }], guard := none }) rfl (fun K hK => ?_) AllReadyH.nil
        go_simp
        clear f0 f1 f2 f3 f4 f5 f6 d0 d1 d2 d3 d4 d5
        have HBx := Lib.hid (B6 hHeld.2.2.2.2.2.2.2.2.2.2.2.2 (g := gB) (by omega) (.int .i64 by_) (.int .i64 bm) (.int .i64 bd) (.int .i64 bs) (.bool xz) (.int .i64 ao))
        replace RX := Lib.hid (far6 RX.out (g := gB) (by omega) (.int .i64 by_) (.int .i64 bm) (.int .i64 bd) (.int .i64 bs) (.bool xz) (.int .i64 ao))
        replace RY := Lib.hid (far6 RY.out (g := gB) (by omega) (.int .i64 by_) (.int .i64 bm) (.int .i64 bd) (.int .i64 bs) (.bool xz) (.int .i64 ao))
        replace PA := Lib.hid (PA.out.far6 (g := gB) ne (.int .i64 by_) (.int .i64 bm) (.int .i64 bd) (.int .i64 bs) (.bool xz) (.int .i64 ao))
        replace PB := Lib.hid (PB.out.put (y := by_) (m := bm) (d := bd) (s := bs) (z := xz) (o := ao))
        clear hHeld
        refine hK.out _ _ ?_ (fun hHeld => ?_)
        · exact ⟨RX.out.1.1, RX.out.1.2.1, RX.out.1.2.2.1, RX.out.1.2.2.2.1, RX.out.1.2.2.2.2.1, RX.out.1.2.2.2.2.2, RY.out.1.1, RY.out.1.2.1, RY.out.1.2.2.1, RY.out.1.2.2.2.1, RY.out.1.2.2.2.2.1, RY.out.1.2.2.2.2.2, HBx.out⟩
        clear hK K HBx
        try simp only [Act.put, List.setIfInBounds_toArray, List.set_cons_zero, List.set_cons_succ]
        refine wpAnyH_done (by kernel_rfl) ?_ _
        exact ⟨gA, gB, rfl, RX.out, RY.out, PA.out, PB.out, lePA, lePB, hHeld.2.2.2.2.2.2.2.2.2.2.2.2⟩
    · go_simp
      replace RX := Lib.hid (RX.out.alloc (MoC 0 0 0 0 false 0))
      replace RY := Lib.hid (RY.out.alloc (MoC 0 0 0 0 false 0))
      have PB := Lib.hid (HoldsN.new rfl : HoldsN (v0.alloc (MoC 0 0 0 0 false 0)) v0.heap.size 0 0 0 0 false 0)
      have lePB := le0
      replace le0 := Nat.le_trans le0 (Below.alloc (Below.refl v0.heap.size v0) (Nat.le_refl _) (MoC 0 0 0 0 false 0)).size
      have HBx := Lib.hid (ballD1 hHeld.2.2.2.2.2.2.2.2.2.2.2.2 (MoC 0 0 0 0 false 0))
      clear hHeld
      refine hK.out _ _ ?_ (fun hHeld => ?_)
      · exact ⟨RX.out.1.1, RX.out.1.2.1, RX.out.1.2.2.1, RX.out.1.2.2.2.1, RX.out.1.2.2.2.2.1, RX.out.1.2.2.2.2.2, RY.out.1.1, RY.out.1.2.1, RY.out.1.2.2.1, RY.out.1.2.2.2.1, RY.out.1.2.2.2.2.1, RY.out.1.2.2.2.2.2, HBx.out⟩
      clear hK K HBx
      try simp only [Act.put, List.setIfInBounds_toArray, List.set_cons_zero, List.set_cons_succ]
      generalize v0.alloc (MoC 0 0 0 0 false 0) = v1 at *
      obtain ⟨gB, hg⟩ : ∃ g, g = v0.heap.size := ⟨_, rfl⟩
      rw [← hg] at PB lePB ⊢
      clear hg
      refine wpAnyH_ready (rs := [1, 4]) (by kernel_rfl) (by simp) ?_
      refine AllReadyH.cons (o := { dst := some 30, op := Go.Op.call { callee := Go.Callee.value (Go.Operand.func 9), args := #[Go.Operand.tmp 29], argTypes := #[23] }, type := 29, pos := "law.go:119", after := #[{ on := 0, ground := Go.Ground.data }], guard := none }) rfl (fun K hK => ?_) (AllReadyH.cons (o := { dst := some 5, op := Go.Op.alloc 29, type := 0, pos := "law.go:119", after := #[], guard := none }) rfl (fun K hK => ?_) AllReadyH.nil)
      · go_simp
        refine (MA.out _).mono ?_
        rintro e v2 ⟨rfl, hbv⟩
        replace RX := Lib.hid (RX.out.below hbv)
        replace RY := Lib.hid (RY.out.below hbv)
        replace PB := Lib.hid (PB.out.below hbv)
        have HBx := Lib.hid (bstep hHeld.2.2.2.2.2.2.2.2.2.2.2.2 hbv)
        replace le0 := Nat.le_trans le0 hbv.size
        clear hHeld hbv
        refine hK.out _ _ ?_ (fun hHeld => ?_)
        · exact ⟨RX.out.1.1, RX.out.1.2.1, RX.out.1.2.2.1, RX.out.1.2.2.2.1, RX.out.1.2.2.2.2.1, RX.out.1.2.2.2.2.2, RY.out.1.1, RY.out.1.2.1, RY.out.1.2.2.1, RY.out.1.2.2.2.1, RY.out.1.2.2.2.2.1, RY.out.1.2.2.2.2.2, HBx.out⟩
        clear hK K HBx
        try simp only [Act.put, List.setIfInBounds_toArray, List.set_cons_zero, List.set_cons_succ]
        refine wpAnyH_ready (rs := [3, 4]) (by kernel_rfl) (by simp) ?_
        refine AllReadyH.cons (o := { dst := some 32, op := Go.Op.call { callee := Go.Callee.value (Go.Operand.func 9), args := #[Go.Operand.tmp 31], argTypes := #[23] }, type := 29, pos := "law.go:119", after := #[{ on := 2, ground := Go.Ground.data }, { on := 1, ground := Go.Ground.chain }], guard := none }) rfl (fun K hK => ?_) (AllReadyH.cons (o := { dst := some 5, op := Go.Op.alloc 29, type := 0, pos := "law.go:119", after := #[], guard := none }) rfl (fun K hK => ?_) AllReadyH.nil)
        · go_simp
          refine (MB.out _).mono ?_
          rintro e v3 ⟨rfl, hbv⟩
          replace RX := Lib.hid (RX.out.below hbv)
          replace RY := Lib.hid (RY.out.below hbv)
          replace PB := Lib.hid (PB.out.below hbv)
          have HBx := Lib.hid (bstep hHeld.2.2.2.2.2.2.2.2.2.2.2.2 hbv)
          replace le0 := Nat.le_trans le0 hbv.size
          clear hHeld hbv
          refine hK.out _ _ ?_ (fun hHeld => ?_)
          · exact ⟨RX.out.1.1, RX.out.1.2.1, RX.out.1.2.2.1, RX.out.1.2.2.2.1, RX.out.1.2.2.2.2.1, RX.out.1.2.2.2.2.2, RY.out.1.1, RY.out.1.2.1, RY.out.1.2.2.1, RY.out.1.2.2.2.1, RY.out.1.2.2.2.2.1, RY.out.1.2.2.2.2.2, HBx.out⟩
          clear hK K HBx
          try simp only [Act.put, List.setIfInBounds_toArray, List.set_cons_zero, List.set_cons_succ]
          refine wpAnyH_ready (rs := [4]) (by kernel_rfl) (by simp) ?_
          refine AllReadyH.cons (o := { dst := some 5, op := Go.Op.alloc 29, type := 0, pos := "law.go:119", after := #[], guard := none }) rfl (fun K hK => ?_) AllReadyH.nil
          go_simp
          have ne := Nat.ne_of_lt PB.out.2.2
          replace RX := Lib.hid (RX.out.alloc (MoC 0 0 0 0 false 0))
          replace RY := Lib.hid (RY.out.alloc (MoC 0 0 0 0 false 0))
          replace PB := Lib.hid (PB.out.alloc (MoC 0 0 0 0 false 0))
          have PA := Lib.hid (HoldsN.new rfl : HoldsN (v3.alloc (MoC 0 0 0 0 false 0)) v3.heap.size 0 0 0 0 false 0)
          have lePA := le0
          replace le0 := Nat.le_trans le0 (Below.alloc (Below.refl v3.heap.size v3) (Nat.le_refl _) (MoC 0 0 0 0 false 0)).size
          have HBx := Lib.hid (ballD1 hHeld.2.2.2.2.2.2.2.2.2.2.2.2 (MoC 0 0 0 0 false 0))
          clear hHeld
          refine hK.out _ _ ?_ (fun hHeld => ?_)
          · exact ⟨RX.out.1.1, RX.out.1.2.1, RX.out.1.2.2.1, RX.out.1.2.2.2.1, RX.out.1.2.2.2.2.1, RX.out.1.2.2.2.2.2, RY.out.1.1, RY.out.1.2.1, RY.out.1.2.2.1, RY.out.1.2.2.2.1, RY.out.1.2.2.2.2.1, RY.out.1.2.2.2.2.2, HBx.out⟩
          clear hK K HBx
          try simp only [Act.put, List.setIfInBounds_toArray, List.set_cons_zero, List.set_cons_succ]
          generalize v3.alloc (MoC 0 0 0 0 false 0) = v4 at *
          obtain ⟨gA, hg⟩ : ∃ g, g = v3.heap.size := ⟨_, rfl⟩
          rw [← hg] at PA lePA ne ⊢
          clear hg
          replace ne := ne.symm
          obtain ⟨⟨d0, d1, d2, d3, d4, d5⟩, ⟨f0, f1, f2, f3, f4, f5⟩, f6⟩ := id PA.out
          refine wpAnyH_ready (rs := [6]) (by kernel_rfl) (by simp) ?_
          refine AllReadyH.cons (o := { dst := none, op := Go.Op.store 29 (Go.Operand.tmp 5) (Go.Operand.tmp 30), type := 0, pos := "law.go:119", after := #[{ on := 4, ground := Go.Ground.data }, { on := 1, ground := Go.Ground.data }, { on := 3, ground := Go.Ground.chain }, { on := 0, ground := Go.Ground.phase }, { on := 1, ground := Go.Ground.phase }, { on := 2, ground := Go.Ground.textOnly Go.Departure.lateStores }, { on := 3, ground := Go.Ground.textOnly Go.Departure.lateStoresUnsure }, { on := 4, ground := Go.Ground.phase }, { on := 5, ground := Go.Ground.phase }], guard := none }) rfl (fun K hK => ?_) AllReadyH.nil
          go_simp
          clear f0 f1 f2 f3 f4 f5 f6 d0 d1 d2 d3 d4 d5
          have HBx := Lib.hid (B6 hHeld.2.2.2.2.2.2.2.2.2.2.2.2 (g := gA) (by omega) (.int .i64 ay) (.int .i64 am) (.int .i64 ad) (.int .i64 as') (.bool xz) (.int .i64 ao))
          replace RX := Lib.hid (far6 RX.out (g := gA) (by omega) (.int .i64 ay) (.int .i64 am) (.int .i64 ad) (.int .i64 as') (.bool xz) (.int .i64 ao))
          replace RY := Lib.hid (far6 RY.out (g := gA) (by omega) (.int .i64 ay) (.int .i64 am) (.int .i64 ad) (.int .i64 as') (.bool xz) (.int .i64 ao))
          replace PB := Lib.hid (PB.out.far6 (g := gA) ne.symm (.int .i64 ay) (.int .i64 am) (.int .i64 ad) (.int .i64 as') (.bool xz) (.int .i64 ao))
          replace PA := Lib.hid (PA.out.put (y := ay) (m := am) (d := ad) (s := as') (z := xz) (o := ao))
          clear hHeld
          refine hK.out _ _ ?_ (fun hHeld => ?_)
          · exact ⟨RX.out.1.1, RX.out.1.2.1, RX.out.1.2.2.1, RX.out.1.2.2.2.1, RX.out.1.2.2.2.2.1, RX.out.1.2.2.2.2.2, RY.out.1.1, RY.out.1.2.1, RY.out.1.2.2.1, RY.out.1.2.2.2.1, RY.out.1.2.2.2.2.1, RY.out.1.2.2.2.2.2, HBx.out⟩
          clear hK K HBx
          try simp only [Act.put, List.setIfInBounds_toArray, List.set_cons_zero, List.set_cons_succ]
          obtain ⟨⟨d0, d1, d2, d3, d4, d5⟩, ⟨f0, f1, f2, f3, f4, f5⟩, f6⟩ := id PB.out
          refine wpAnyH_ready (rs := [7]) (by kernel_rfl) (by simp) ?_
          refine AllReadyH.cons (o := { dst := none, op := Go.Op.store 29 (Go.Operand.tmp 6) (Go.Operand.tmp 32), type := 0, pos := "law.go:119", after := #[{ on := 5, ground := Go.Ground.data }, { on := 3, ground := Go.Ground.data }, { on := 6, ground := Go.Ground.chain }, { on := 0, ground := Go.Ground.phase }, { on := 1, ground := Go.Ground.phase }, { on := 2, ground := Go.Ground.phase }, { on := 3, ground := Go.Ground.phase }, { on := 4, ground := Go.Ground.phase }, { on := 5, ground := Go.Ground.phase }, { on := 6, ground := Go.Ground.phase }], guard := none }) rfl (fun K hK => ?_) AllReadyH.nil
          go_simp
          clear f0 f1 f2 f3 f4 f5 f6 d0 d1 d2 d3 d4 d5
          have HBx := Lib.hid (B6 hHeld.2.2.2.2.2.2.2.2.2.2.2.2 (g := gB) (by omega) (.int .i64 by_) (.int .i64 bm) (.int .i64 bd) (.int .i64 bs) (.bool xz) (.int .i64 ao))
          replace RX := Lib.hid (far6 RX.out (g := gB) (by omega) (.int .i64 by_) (.int .i64 bm) (.int .i64 bd) (.int .i64 bs) (.bool xz) (.int .i64 ao))
          replace RY := Lib.hid (far6 RY.out (g := gB) (by omega) (.int .i64 by_) (.int .i64 bm) (.int .i64 bd) (.int .i64 bs) (.bool xz) (.int .i64 ao))
          replace PA := Lib.hid (PA.out.far6 (g := gB) ne (.int .i64 by_) (.int .i64 bm) (.int .i64 bd) (.int .i64 bs) (.bool xz) (.int .i64 ao))
          replace PB := Lib.hid (PB.out.put (y := by_) (m := bm) (d := bd) (s := bs) (z := xz) (o := ao))
          clear hHeld
          refine hK.out _ _ ?_ (fun hHeld => ?_)
          · exact ⟨RX.out.1.1, RX.out.1.2.1, RX.out.1.2.2.1, RX.out.1.2.2.2.1, RX.out.1.2.2.2.2.1, RX.out.1.2.2.2.2.2, RY.out.1.1, RY.out.1.2.1, RY.out.1.2.2.1, RY.out.1.2.2.2.1, RY.out.1.2.2.2.2.1, RY.out.1.2.2.2.2.2, HBx.out⟩
          clear hK K HBx
          try simp only [Act.put, List.setIfInBounds_toArray, List.set_cons_zero, List.set_cons_succ]
          refine wpAnyH_done (by kernel_rfl) ?_ _
          exact ⟨gA, gB, rfl, RX.out, RY.out, PA.out, PB.out, lePA, lePB, hHeld.2.2.2.2.2.2.2.2.2.2.2.2⟩
        · go_simp
          have ne := Nat.ne_of_lt PB.out.2.2
          replace RX := Lib.hid (RX.out.alloc (MoC 0 0 0 0 false 0))
          replace RY := Lib.hid (RY.out.alloc (MoC 0 0 0 0 false 0))
          replace PB := Lib.hid (PB.out.alloc (MoC 0 0 0 0 false 0))
          have PA := Lib.hid (HoldsN.new rfl : HoldsN (v2.alloc (MoC 0 0 0 0 false 0)) v2.heap.size 0 0 0 0 false 0)
          have lePA := le0
          replace le0 := Nat.le_trans le0 (Below.alloc (Below.refl v2.heap.size v2) (Nat.le_refl _) (MoC 0 0 0 0 false 0)).size
          have HBx := Lib.hid (ballD1 hHeld.2.2.2.2.2.2.2.2.2.2.2.2 (MoC 0 0 0 0 false 0))
          clear hHeld
          refine hK.out _ _ ?_ (fun hHeld => ?_)
          · exact ⟨RX.out.1.1, RX.out.1.2.1, RX.out.1.2.2.1, RX.out.1.2.2.2.1, RX.out.1.2.2.2.2.1, RX.out.1.2.2.2.2.2, RY.out.1.1, RY.out.1.2.1, RY.out.1.2.2.1, RY.out.1.2.2.2.1, RY.out.1.2.2.2.2.1, RY.out.1.2.2.2.2.2, HBx.out⟩
          clear hK K HBx
          try simp only [Act.put, List.setIfInBounds_toArray, List.set_cons_zero, List.set_cons_succ]
          generalize v2.alloc (MoC 0 0 0 0 false 0) = v3 at *
          obtain ⟨gA, hg⟩ : ∃ g, g = v2.heap.size := ⟨_, rfl⟩
          rw [← hg] at PA lePA ne ⊢
          clear hg
          replace ne := ne.symm
          refine wpAnyH_ready (rs := [3]) (by kernel_rfl) (by simp) ?_
          refine AllReadyH.cons (o := { dst := some 32, op := Go.Op.call { callee := Go.Callee.value (Go.Operand.func 9), args := #[Go.Operand.tmp 31], argTypes := #[23] }, type := 29, pos := "law.go:119", after := #[{ on := 2, ground := Go.Ground.data }, { on := 1, ground := Go.Ground.chain }], guard := none }) rfl (fun K hK => ?_) AllReadyH.nil
          go_simp
          refine (MB.out _).mono ?_
          rintro e v4 ⟨rfl, hbv⟩
          replace RX := Lib.hid (RX.out.below hbv)
          replace RY := Lib.hid (RY.out.below hbv)
          replace PA := Lib.hid (PA.out.below hbv)
          replace PB := Lib.hid (PB.out.below hbv)
          have HBx := Lib.hid (bstep hHeld.2.2.2.2.2.2.2.2.2.2.2.2 hbv)
          replace le0 := Nat.le_trans le0 hbv.size
          clear hHeld hbv
          refine hK.out _ _ ?_ (fun hHeld => ?_)
          · exact ⟨RX.out.1.1, RX.out.1.2.1, RX.out.1.2.2.1, RX.out.1.2.2.2.1, RX.out.1.2.2.2.2.1, RX.out.1.2.2.2.2.2, RY.out.1.1, RY.out.1.2.1, RY.out.1.2.2.1, RY.out.1.2.2.2.1, RY.out.1.2.2.2.2.1, RY.out.1.2.2.2.2.2, HBx.out⟩
          clear hK K HBx
          try simp only [Act.put, List.setIfInBounds_toArray, List.set_cons_zero, List.set_cons_succ]
          obtain ⟨⟨d0, d1, d2, d3, d4, d5⟩, ⟨f0, f1, f2, f3, f4, f5⟩, f6⟩ := id PA.out
          refine wpAnyH_ready (rs := [6]) (by kernel_rfl) (by simp) ?_
          refine AllReadyH.cons (o := { dst := none, op := Go.Op.store 29 (Go.Operand.tmp 5) (Go.Operand.tmp 30), type := 0, pos := "law.go:119", after := #[{ on := 4, ground := Go.Ground.data }, { on := 1, ground := Go.Ground.data }, { on := 3, ground := Go.Ground.chain }, { on := 0, ground := Go.Ground.phase }, { on := 1, ground := Go.Ground.phase }, { on := 2, ground := Go.Ground.textOnly Go.Departure.lateStores }, { on := 3, ground := Go.Ground.textOnly Go.Departure.lateStoresUnsure }, { on := 4, ground := Go.Ground.phase }, { on := 5, ground := Go.Ground.phase }], guard := none }) rfl (fun K hK => ?_) AllReadyH.nil
          go_simp
          clear f0 f1 f2 f3 f4 f5 f6 d0 d1 d2 d3 d4 d5
          have HBx := Lib.hid (B6 hHeld.2.2.2.2.2.2.2.2.2.2.2.2 (g := gA) (by omega) (.int .i64 ay) (.int .i64 am) (.int .i64 ad) (.int .i64 as') (.bool xz) (.int .i64 ao))
          replace RX := Lib.hid (far6 RX.out (g := gA) (by omega) (.int .i64 ay) (.int .i64 am) (.int .i64 ad) (.int .i64 as') (.bool xz) (.int .i64 ao))
          replace RY := Lib.hid (far6 RY.out (g := gA) (by omega) (.int .i64 ay) (.int .i64 am) (.int .i64 ad) (.int .i64 as') (.bool xz) (.int .i64 ao))
          replace PB := Lib.hid (PB.out.far6 (g := gA) ne.symm (.int .i64 ay) (.int .i64 am) (.int .i64 ad) (.int .i64 as') (.bool xz) (.int .i64 ao))
          replace PA := Lib.hid (PA.out.put (y := ay) (m := am) (d := ad) (s := as') (z := xz) (o := ao))
          clear hHeld
          refine hK.out _ _ ?_ (fun hHeld => ?_)
          · exact ⟨RX.out.1.1, RX.out.1.2.1, RX.out.1.2.2.1, RX.out.1.2.2.2.1, RX.out.1.2.2.2.2.1, RX.out.1.2.2.2.2.2, RY.out.1.1, RY.out.1.2.1, RY.out.1.2.2.1, RY.out.1.2.2.2.1, RY.out.1.2.2.2.2.1, RY.out.1.2.2.2.2.2, HBx.out⟩
          clear hK K HBx
          try simp only [Act.put, List.setIfInBounds_toArray, List.set_cons_zero, List.set_cons_succ]
          obtain ⟨⟨d0, d1, d2, d3, d4, d5⟩, ⟨f0, f1, f2, f3, f4, f5⟩, f6⟩ := id PB.out
          refine wpAnyH_ready (rs := [7]) (by kernel_rfl) (by simp) ?_
          refine AllReadyH.cons (o := { dst := none, op := Go.Op.store 29 (Go.Operand.tmp 6) (Go.Operand.tmp 32), type := 0, pos := "law.go:119", after := #[{ on := 5, ground := Go.Ground.data }, { on := 3, ground := Go.Ground.data }, { on := 6, ground := Go.Ground.chain }, { on := 0, ground := Go.Ground.phase }, { on := 1, ground := Go.Ground.phase }, { on := 2, ground := Go.Ground.phase }, { on := 3, ground := Go.Ground.phase }, { on := 4, ground := Go.Ground.phase }, { on := 5, ground := Go.Ground.phase }, { on := 6, ground := Go.Ground.phase }], guard := none }) rfl (fun K hK => ?_) AllReadyH.nil
          go_simp
          clear f0 f1 f2 f3 f4 f5 f6 d0 d1 d2 d3 d4 d5
          have HBx := Lib.hid (B6 hHeld.2.2.2.2.2.2.2.2.2.2.2.2 (g := gB) (by omega) (.int .i64 by_) (.int .i64 bm) (.int .i64 bd) (.int .i64 bs) (.bool xz) (.int .i64 ao))
          replace RX := Lib.hid (far6 RX.out (g := gB) (by omega) (.int .i64 by_) (.int .i64 bm) (.int .i64 bd) (.int .i64 bs) (.bool xz) (.int .i64 ao))
          replace RY := Lib.hid (far6 RY.out (g := gB) (by omega) (.int .i64 by_) (.int .i64 bm) (.int .i64 bd) (.int .i64 bs) (.bool xz) (.int .i64 ao))
          replace PA := Lib.hid (PA.out.far6 (g := gB) ne (.int .i64 by_) (.int .i64 bm) (.int .i64 bd) (.int .i64 bs) (.bool xz) (.int .i64 ao))
          replace PB := Lib.hid (PB.out.put (y := by_) (m := bm) (d := bd) (s := bs) (z := xz) (o := ao))
          clear hHeld
          refine hK.out _ _ ?_ (fun hHeld => ?_)
          · exact ⟨RX.out.1.1, RX.out.1.2.1, RX.out.1.2.2.1, RX.out.1.2.2.2.1, RX.out.1.2.2.2.2.1, RX.out.1.2.2.2.2.2, RY.out.1.1, RY.out.1.2.1, RY.out.1.2.2.1, RY.out.1.2.2.2.1, RY.out.1.2.2.2.2.1, RY.out.1.2.2.2.2.2, HBx.out⟩
          clear hK K HBx
          try simp only [Act.put, List.setIfInBounds_toArray, List.set_cons_zero, List.set_cons_succ]
          refine wpAnyH_done (by kernel_rfl) ?_ _
          exact ⟨gA, gB, rfl, RX.out, RY.out, PA.out, PB.out, lePA, lePB, hHeld.2.2.2.2.2.2.2.2.2.2.2.2⟩
      · go_simp
        have ne := Nat.ne_of_lt PB.out.2.2
        replace RX := Lib.hid (RX.out.alloc (MoC 0 0 0 0 false 0))
        replace RY := Lib.hid (RY.out.alloc (MoC 0 0 0 0 false 0))
        replace PB := Lib.hid (PB.out.alloc (MoC 0 0 0 0 false 0))
        have PA := Lib.hid (HoldsN.new rfl : HoldsN (v1.alloc (MoC 0 0 0 0 false 0)) v1.heap.size 0 0 0 0 false 0)
        have lePA := le0
        replace le0 := Nat.le_trans le0 (Below.alloc (Below.refl v1.heap.size v1) (Nat.le_refl _) (MoC 0 0 0 0 false 0)).size
        have HBx := Lib.hid (ballD1 hHeld.2.2.2.2.2.2.2.2.2.2.2.2 (MoC 0 0 0 0 false 0))
        clear hHeld
        refine hK.out _ _ ?_ (fun hHeld => ?_)
        · exact ⟨RX.out.1.1, RX.out.1.2.1, RX.out.1.2.2.1, RX.out.1.2.2.2.1, RX.out.1.2.2.2.2.1, RX.out.1.2.2.2.2.2, RY.out.1.1, RY.out.1.2.1, RY.out.1.2.2.1, RY.out.1.2.2.2.1, RY.out.1.2.2.2.2.1, RY.out.1.2.2.2.2.2, HBx.out⟩
        clear hK K HBx
        try simp only [Act.put, List.setIfInBounds_toArray, List.set_cons_zero, List.set_cons_succ]
        generalize v1.alloc (MoC 0 0 0 0 false 0) = v2 at *
        obtain ⟨gA, hg⟩ : ∃ g, g = v1.heap.size := ⟨_, rfl⟩
        rw [← hg] at PA lePA ne ⊢
        clear hg
        replace ne := ne.symm
        refine wpAnyH_ready (rs := [1]) (by kernel_rfl) (by simp) ?_
        refine AllReadyH.cons (o := { dst := some 30, op := Go.Op.call { callee := Go.Callee.value (Go.Operand.func 9), args := #[Go.Operand.tmp 29], argTypes := #[23] }, type := 29, pos := "law.go:119", after := #[{ on := 0, ground := Go.Ground.data }], guard := none }) rfl (fun K hK => ?_) AllReadyH.nil
        go_simp
        refine (MA.out _).mono ?_
        rintro e v3 ⟨rfl, hbv⟩
        replace RX := Lib.hid (RX.out.below hbv)
        replace RY := Lib.hid (RY.out.below hbv)
        replace PA := Lib.hid (PA.out.below hbv)
        replace PB := Lib.hid (PB.out.below hbv)
        have HBx := Lib.hid (bstep hHeld.2.2.2.2.2.2.2.2.2.2.2.2 hbv)
        replace le0 := Nat.le_trans le0 hbv.size
        clear hHeld hbv
        refine hK.out _ _ ?_ (fun hHeld => ?_)
        · exact ⟨RX.out.1.1, RX.out.1.2.1, RX.out.1.2.2.1, RX.out.1.2.2.2.1, RX.out.1.2.2.2.2.1, RX.out.1.2.2.2.2.2, RY.out.1.1, RY.out.1.2.1, RY.out.1.2.2.1, RY.out.1.2.2.2.1, RY.out.1.2.2.2.2.1, RY.out.1.2.2.2.2.2, HBx.out⟩
        clear hK K HBx
        try simp only [Act.put, List.setIfInBounds_toArray, List.set_cons_zero, List.set_cons_succ]
        refine wpAnyH_ready (rs := [3]) (by kernel_rfl) (by simp) ?_
        refine AllReadyH.cons (o := { dst := some 32, op := Go.Op.call { callee := Go.Callee.value (Go.Operand.func 9), args := #[Go.Operand.tmp 31], argTypes := #[23] }, type := 29, pos := "law.go:119", after := #[{ on := 2, ground := Go.Ground.data }, { on := 1, ground := Go.Ground.chain }], guard := none }) rfl (fun K hK => ?_) AllReadyH.nil
        go_simp
        refine (MB.out _).mono ?_
        rintro e v4 ⟨rfl, hbv⟩
        replace RX := Lib.hid (RX.out.below hbv)
        replace RY := Lib.hid (RY.out.below hbv)
        replace PA := Lib.hid (PA.out.below hbv)
        replace PB := Lib.hid (PB.out.below hbv)
        have HBx := Lib.hid (bstep hHeld.2.2.2.2.2.2.2.2.2.2.2.2 hbv)
        replace le0 := Nat.le_trans le0 hbv.size
        clear hHeld hbv
        refine hK.out _ _ ?_ (fun hHeld => ?_)
        · exact ⟨RX.out.1.1, RX.out.1.2.1, RX.out.1.2.2.1, RX.out.1.2.2.2.1, RX.out.1.2.2.2.2.1, RX.out.1.2.2.2.2.2, RY.out.1.1, RY.out.1.2.1, RY.out.1.2.2.1, RY.out.1.2.2.2.1, RY.out.1.2.2.2.2.1, RY.out.1.2.2.2.2.2, HBx.out⟩
        clear hK K HBx
        try simp only [Act.put, List.setIfInBounds_toArray, List.set_cons_zero, List.set_cons_succ]
        obtain ⟨⟨d0, d1, d2, d3, d4, d5⟩, ⟨f0, f1, f2, f3, f4, f5⟩, f6⟩ := id PA.out
        refine wpAnyH_ready (rs := [6]) (by kernel_rfl) (by simp) ?_
        refine AllReadyH.cons (o := { dst := none, op := Go.Op.store 29 (Go.Operand.tmp 5) (Go.Operand.tmp 30), type := 0, pos := "law.go:119", after := #[{ on := 4, ground := Go.Ground.data }, { on := 1, ground := Go.Ground.data }, { on := 3, ground := Go.Ground.chain }, { on := 0, ground := Go.Ground.phase }, { on := 1, ground := Go.Ground.phase }, { on := 2, ground := Go.Ground.textOnly Go.Departure.lateStores }, { on := 3, ground := Go.Ground.textOnly Go.Departure.lateStoresUnsure }, { on := 4, ground := Go.Ground.phase }, { on := 5, ground := Go.Ground.phase }], guard := none }) rfl (fun K hK => ?_) AllReadyH.nil
        go_simp
        clear f0 f1 f2 f3 f4 f5 f6 d0 d1 d2 d3 d4 d5
        have HBx := Lib.hid (B6 hHeld.2.2.2.2.2.2.2.2.2.2.2.2 (g := gA) (by omega) (.int .i64 ay) (.int .i64 am) (.int .i64 ad) (.int .i64 as') (.bool xz) (.int .i64 ao))
        replace RX := Lib.hid (far6 RX.out (g := gA) (by omega) (.int .i64 ay) (.int .i64 am) (.int .i64 ad) (.int .i64 as') (.bool xz) (.int .i64 ao))
        replace RY := Lib.hid (far6 RY.out (g := gA) (by omega) (.int .i64 ay) (.int .i64 am) (.int .i64 ad) (.int .i64 as') (.bool xz) (.int .i64 ao))
        replace PB := Lib.hid (PB.out.far6 (g := gA) ne.symm (.int .i64 ay) (.int .i64 am) (.int .i64 ad) (.int .i64 as') (.bool xz) (.int .i64 ao))
        replace PA := Lib.hid (PA.out.put (y := ay) (m := am) (d := ad) (s := as') (z := xz) (o := ao))
        clear hHeld
        refine hK.out _ _ ?_ (fun hHeld => ?_)
        · exact ⟨RX.out.1.1, RX.out.1.2.1, RX.out.1.2.2.1, RX.out.1.2.2.2.1, RX.out.1.2.2.2.2.1, RX.out.1.2.2.2.2.2, RY.out.1.1, RY.out.1.2.1, RY.out.1.2.2.1, RY.out.1.2.2.2.1, RY.out.1.2.2.2.2.1, RY.out.1.2.2.2.2.2, HBx.out⟩
        clear hK K HBx
        try simp only [Act.put, List.setIfInBounds_toArray, List.set_cons_zero, List.set_cons_succ]
        obtain ⟨⟨d0, d1, d2, d3, d4, d5⟩, ⟨f0, f1, f2, f3, f4, f5⟩, f6⟩ := id PB.out
        refine wpAnyH_ready (rs := [7]) (by kernel_rfl) (by simp) ?_
        refine AllReadyH.cons (o := { dst := none, op := Go.Op.store 29 (Go.Operand.tmp 6) (Go.Operand.tmp 32), type := 0, pos := "law.go:119", after := #[{ on := 5, ground := Go.Ground.data }, { on := 3, ground := Go.Ground.data }, { on := 6, ground := Go.Ground.chain }, { on := 0, ground := Go.Ground.phase }, { on := 1, ground := Go.Ground.phase }, { on := 2, ground := Go.Ground.phase }, { on := 3, ground := Go.Ground.phase }, { on := 4, ground := Go.Ground.phase }, { on := 5, ground := Go.Ground.phase }, { on := 6, ground := Go.Ground.phase }], guard := none }) rfl (fun K hK => ?_) AllReadyH.nil
        go_simp
        clear f0 f1 f2 f3 f4 f5 f6 d0 d1 d2 d3 d4 d5
        have HBx := Lib.hid (B6 hHeld.2.2.2.2.2.2.2.2.2.2.2.2 (g := gB) (by omega) (.int .i64 by_) (.int .i64 bm) (.int .i64 bd) (.int .i64 bs) (.bool xz) (.int .i64 ao))
        replace RX := Lib.hid (far6 RX.out (g := gB) (by omega) (.int .i64 by_) (.int .i64 bm) (.int .i64 bd) (.int .i64 bs) (.bool xz) (.int .i64 ao))
        replace RY := Lib.hid (far6 RY.out (g := gB) (by omega) (.int .i64 by_) (.int .i64 bm) (.int .i64 bd) (.int .i64 bs) (.bool xz) (.int .i64 ao))
        replace PA := Lib.hid (PA.out.far6 (g := gB) ne (.int .i64 by_) (.int .i64 bm) (.int .i64 bd) (.int .i64 bs) (.bool xz) (.int .i64 ao))
        replace PB := Lib.hid (PB.out.put (y := by_) (m := bm) (d := bd) (s := bs) (z := xz) (o := ao))
        clear hHeld
        refine hK.out _ _ ?_ (fun hHeld => ?_)
        · exact ⟨RX.out.1.1, RX.out.1.2.1, RX.out.1.2.2.1, RX.out.1.2.2.2.1, RX.out.1.2.2.2.2.1, RX.out.1.2.2.2.2.2, RY.out.1.1, RY.out.1.2.1, RY.out.1.2.2.1, RY.out.1.2.2.2.1, RY.out.1.2.2.2.2.1, RY.out.1.2.2.2.2.2, HBx.out⟩
        clear hK K HBx
        try simp only [Act.put, List.setIfInBounds_toArray, List.set_cons_zero, List.set_cons_succ]
        refine wpAnyH_done (by kernel_rfl) ?_ _
        exact ⟨gA, gB, rfl, RX.out, RY.out, PA.out, PB.out, lePA, lePB, hHeld.2.2.2.2.2.2.2.2.2.2.2.2⟩
  · rintro a' W ⟨gA, gB, rfl, RX0, RY0, PA0, PB0, lA, lB, B1⟩
    clear RX RY
    have PA := Lib.hid PA0
    have PB := Lib.hid PB0
    clear RX0 RY0 PA0 PB0 MA MB B
    have B := B1
    clear B1 lA lB sz
    simp only [Act.put, List.setIfInBounds_toArray, List.set_cons_zero, List.set_cons_succ]
    obtain ⟨⟨c0_0, c0_1, c0_2, c0_3, c0_4, c0_5⟩, -, c0z⟩ := PA.out
    obtain ⟨⟨c1_0, c1_1, c1_2, c1_3, c1_4, c1_5⟩, -, c1z⟩ := PB.out
    go_wp2_with fail
    refine (N1.out _).mono ?_
    rintro e w50 ⟨rfl, hb⟩
    replace PA := Lib.hid (PA.out.below hb)
    replace PB := Lib.hid (PB.out.below hb)
    replace B := bstep B hb
    clear hb N1
    clear c0_0 c0_1 c0_2 c0_3 c0_4 c0_5 c0z c1_0 c1_1 c1_2 c1_3 c1_4 c1_5 c1z
    obtain ⟨⟨c0_0, c0_1, c0_2, c0_3, c0_4, c0_5⟩, -, c0z⟩ := PA.out
    obtain ⟨⟨c1_0, c1_1, c1_2, c1_3, c1_4, c1_5⟩, -, c1z⟩ := PB.out
    go_wp2_with fail
    refine (N2.out _).mono ?_
    rintro e w51 ⟨rfl, hb⟩
    replace PA := Lib.hid (PA.out.below hb)
    replace PB := Lib.hid (PB.out.below hb)
    replace B := bstep B hb
    clear hb N2
    clear c0_0 c0_1 c0_2 c0_3 c0_4 c0_5 c0z c1_0 c1_1 c1_2 c1_3 c1_4 c1_5 c1z
    obtain ⟨⟨c0_0, c0_1, c0_2, c0_3, c0_4, c0_5⟩, -, c0z⟩ := PA.out
    obtain ⟨⟨c1_0, c1_1, c1_2, c1_3, c1_4, c1_5⟩, -, c1z⟩ := PB.out
    go_wp2_with fail
    refine (CC.out _).mono ?_
    rintro e w52 ⟨rfl, hb⟩
    replace PA := Lib.hid (PA.out.below hb)
    replace PB := Lib.hid (PB.out.below hb)
    replace B := bstep B hb
    clear hb CC
    clear c0_0 c0_1 c0_2 c0_3 c0_4 c0_5 c0z c1_0 c1_1 c1_2 c1_3 c1_4 c1_5 c1z
    obtain ⟨⟨c0_0, c0_1, c0_2, c0_3, c0_4, c0_5⟩, -, c0z⟩ := PA.out
    obtain ⟨⟨c1_0, c1_1, c1_2, c1_3, c1_4, c1_5⟩, -, c1z⟩ := PB.out
    go_wp2_with fail
    refine (MS.out _).mono ?_
    rintro e w53 ⟨rfl, hb⟩
    replace PA := Lib.hid (PA.out.below hb)
    replace PB := Lib.hid (PB.out.below hb)
    replace B := bstep B hb
    clear hb MS
    clear c0_0 c0_1 c0_2 c0_3 c0_4 c0_5 c0z c1_0 c1_1 c1_2 c1_3 c1_4 c1_5 c1z
    replace PA := Lib.hid (PA.out.alloc (MoC sy sm sd ss sz so))
    replace PB := Lib.hid (PB.out.alloc (MoC sy sm sd ss sz so))
    have PS := Lib.hid (HoldsN.new rfl : HoldsN (w53.alloc (MoC sy sm sd ss sz so)) w53.heap.size sy sm sd ss sz so)
    replace B := ballD1 B (MoC sy sm sd ss sz so)
    go_upto_region 13 with fail
    change Code.wp _ _ _ _ (w53.alloc (MoC sy sm sd ss sz so))
    generalize w53.alloc (MoC sy sm sd ss sz so) = w54 at *
    obtain ⟨gPS, hg⟩ : ∃ g, g = w53.heap.size := ⟨_, rfl⟩
    rw [← hg] at PS ⊢
    clear hg
    obtain ⟨⟨c0_0, c0_1, c0_2, c0_3, c0_4, c0_5⟩, -, c0z⟩ := PA.out
    obtain ⟨⟨c1_0, c1_1, c1_2, c1_3, c1_4, c1_5⟩, -, c1z⟩ := PB.out
    obtain ⟨⟨c2_0, c2_1, c2_2, c2_3, c2_4, c2_5⟩, -, c2z⟩ := PS.out
    go_wp2_with fail
    refine (MT.out _).mono ?_
    rintro e w55 ⟨rfl, hb⟩
    replace PA := Lib.hid (PA.out.below hb)
    replace PB := Lib.hid (PB.out.below hb)
    replace PS := Lib.hid (PS.out.below hb)
    replace B := bstep B hb
    clear hb MT
    clear c0_0 c0_1 c0_2 c0_3 c0_4 c0_5 c0z c1_0 c1_1 c1_2 c1_3 c1_4 c1_5 c1z c2_0 c2_1 c2_2 c2_3 c2_4 c2_5 c2z
    replace PA := Lib.hid (PA.out.alloc (MoC ty tm td ts tz tp))
    replace PB := Lib.hid (PB.out.alloc (MoC ty tm td ts tz tp))
    replace PS := Lib.hid (PS.out.alloc (MoC ty tm td ts tz tp))
    have PT := Lib.hid (HoldsN.new rfl : HoldsN (w55.alloc (MoC ty tm td ts tz tp)) w55.heap.size ty tm td ts tz tp)
    replace B := ballD1 B (MoC ty tm td ts tz tp)
    go_upto_region 14 with fail
    change Code.wp _ _ _ _ (w55.alloc (MoC ty tm td ts tz tp))
    generalize w55.alloc (MoC ty tm td ts tz tp) = w56 at *
    obtain ⟨gPT, hg⟩ : ∃ g, g = w55.heap.size := ⟨_, rfl⟩
    rw [← hg] at PT ⊢
    clear hg
    obtain ⟨⟨c0_0, c0_1, c0_2, c0_3, c0_4, c0_5⟩, -, c0z⟩ := PA.out
    obtain ⟨⟨c1_0, c1_1, c1_2, c1_3, c1_4, c1_5⟩, -, c1z⟩ := PB.out
    obtain ⟨⟨c2_0, c2_1, c2_2, c2_3, c2_4, c2_5⟩, -, c2z⟩ := PS.out
    obtain ⟨⟨c3_0, c3_1, c3_2, c3_3, c3_4, c3_5⟩, -, c3z⟩ := PT.out
    go_wp2_with fail
    refine (C1.out _).mono ?_
    rintro e w57 ⟨rfl, hb⟩
    replace PA := Lib.hid (PA.out.below hb)
    replace PB := Lib.hid (PB.out.below hb)
    replace PS := Lib.hid (PS.out.below hb)
    replace PT := Lib.hid (PT.out.below hb)
    replace B := bstep B hb
    clear hb C1
    clear c0_0 c0_1 c0_2 c0_3 c0_4 c0_5 c0z c1_0 c1_1 c1_2 c1_3 c1_4 c1_5 c1z c2_0 c2_1 c2_2 c2_3 c2_4 c2_5 c2z c3_0 c3_1 c3_2 c3_3 c3_4 c3_5 c3z
    obtain ⟨⟨c0_0, c0_1, c0_2, c0_3, c0_4, c0_5⟩, -, c0z⟩ := PA.out
    obtain ⟨⟨c1_0, c1_1, c1_2, c1_3, c1_4, c1_5⟩, -, c1z⟩ := PB.out
    obtain ⟨⟨c2_0, c2_1, c2_2, c2_3, c2_4, c2_5⟩, -, c2z⟩ := PS.out
    obtain ⟨⟨c3_0, c3_1, c3_2, c3_3, c3_4, c3_5⟩, -, c3z⟩ := PT.out
    go_wp2_with fail
    refine (C2.out _).mono ?_
    rintro e w58 ⟨rfl, hb⟩
    replace PA := Lib.hid (PA.out.below hb)
    replace PB := Lib.hid (PB.out.below hb)
    replace PS := Lib.hid (PS.out.below hb)
    replace PT := Lib.hid (PT.out.below hb)
    replace B := bstep B hb
    clear hb C2
    clear c0_0 c0_1 c0_2 c0_3 c0_4 c0_5 c0z c1_0 c1_1 c1_2 c1_3 c1_4 c1_5 c1z c2_0 c2_1 c2_2 c2_3 c2_4 c2_5 c2z c3_0 c3_1 c3_2 c3_3 c3_4 c3_5 c3z
    cases has
    · clear hj
      go_wp2
      go_ret
      exact ⟨rfl, B⟩
    · have e6 : decide (0 < j) = true := decide_eq_true (hj.out (by trivial))
      clear hj
      go_wp2
      go_ret
      exact ⟨rfl, B⟩
/-! ### What lies between two moments of one offset -/
theorem inst_lt {y m d s y' m' d' s' o : Int} {z z' : Bool} (h : Day y m d) (k : mayM s z o = true) (h' : Day y' m' d') (k' : mayM s' z' o = true) : instI y m d s o < instI y' m' d' s' o ↔ y < y' ∨ y = y' ∧ (m < m' ∨ m = m' ∧ (d < d' ∨ d = d' ∧ s < s')) := by
  have a := num_lt h h'
  have b := num_lt h' h
  have c := num_inj h h'
  have r := may_sec k
  have r' := may_sec k'
  have e : y = y' → m = m' → d = d' → numI y m d = numI y' m' d' := by rintro rfl rfl rfl; rfl
  unfold instI
  generalize numI y m d = N at *
  generalize numI y' m' d' = N' at *
  constructor
  · intro q
    rcases Int.lt_trichotomy N N' with u | u | u
    · have := a.1 u; omega
    · have := c u; omega
    · omega
  · intro q
    by_cases u : N < N'
    · omega
    by_cases v : N' < N
    · have := b.1 v; omega
    have := c (by omega)
    omega
theorem ah_true {d s d' s' : Int} : ahB d s d' s' = true ↔ d < d' ∨ d = d' ∧ s < s' := by
  unfold ahB
  by_cases h : d = d'
  · subst h; simp
  · simp [h]
/-- The months between two moments, the first of which is not behind: so many months on from it lead not beyond the second one, and one more does. -/
theorem months_lead {y m d s y' m' d' s' o : Int} {z : Bool} (h : Day y m d) (k : mayM s z o = true) (h' : Day y' m' d') (k' : mayM s' z o = true) (le : instI y m d s o ≤ instI y' m' d' s' o) (h28 : d ≤ 28) :
    0 ≤ mbV y m d s y' m' d' s' ∧ Day (moY y m (mbV y m d s y' m' d' s')) (moM m (mbV y m d s y' m' d' s')) d ∧ instI (moY y m (mbV y m d s y' m' d' s')) (moM m (mbV y m d s y' m' d' s')) d s o ≤ instI y' m' d' s' o ∧
    (Day (moY y m (mbV y m d s y' m' d' s' + 1)) (moM m (mbV y m d s y' m' d' s' + 1)) d → instI y' m' d' s' o < instI (moY y m (mbV y m d s y' m' d' s' + 1)) (moM m (mbV y m d s y' m' d' s' + 1)) d s o) := by
  have L := h.lims
  have L' := h'.lims
  have lt := (not_congr (inst_lt h' k' h k)).1 (by omega)
  have A := ah_true (d := d') (s := s') (d' := d) (s' := s)
  obtain ⟨n, hn⟩ : ∃ n, mbV y m d s y' m' d' s' = n := ⟨_, rfl⟩
  rw [hn]
  have key : ∀ e : Bool, ahB d' s' d s = e → n = (if e then (y' - y) * 12 + m' - m - 1 else (y' - y) * 12 + m' - m) := by
    intro e he
    rw [← hn]
    unfold mbV
    rw [he]
  have day : ∀ Y M : Int, -999999999 ≤ Y → Y ≤ 999999999 → 1 ≤ M → M ≤ 12 → Day Y M d := fun Y M a b c e => ⟨⟨a, b⟩, ⟨c, e⟩, by have := lenI_pos Y c e; omega, by have := lenI_pos Y c e; omega⟩
  cases e : ahB d' s' d s
  · have n1 := key false e
    simp only [Bool.false_eq_true, if_false] at n1
    have na := (not_congr A).1 (by rw [e]; simp)
    have e1 : moY y m n = y' := by unfold moY; omega
    have e2 : moM m n = m' := by unfold moM; omega
    have d1 := day y' m' (by omega) (by omega) (by omega) (by omega)
    rw [e1, e2]
    refine ⟨by omega, d1, ?_, fun d2 => ?_⟩
    · have := (not_congr (inst_lt h' k' d1 k)).2 (by omega)
      omega
    · refine (inst_lt h' k' d2 k).2 ?_
      unfold moY moM
      omega
  · have n1 := key true e
    simp only [if_true] at n1
    have na := A.1 e
    have e1 : moY y m (n + 1) = y' := by unfold moY; omega
    have e2 : moM m (n + 1) = m' := by unfold moM; omega
    have d1 := day y' m' (by omega) (by omega) (by omega) (by omega)
    have d0 : Day (moY y m n) (moM m n) d := by
      exact day _ _ (by unfold moY; omega) (by unfold moY; omega) (by unfold moM; omega) (by unfold moM; omega)
    rw [e1, e2]
    refine ⟨by omega, d0, ?_, fun _ => ?_⟩
    · have := (not_congr (inst_lt h' k' d0 k)).2 (by unfold moY moM; omega)
      omega
    · exact (inst_lt h' k' d1 k).2 (by omega)
theorem mbV_same (y m d s : Int) : mbV y m d s y m d s = 0 := by
  unfold mbV ahB
  simp
/-- The months between two moments turn with both. -/
theorem msV_turn {y m d s y' m' d' s' o : Int} {z : Bool} (h : Day y m d) (k : mayM s z o = true) (h' : Day y' m' d') (k' : mayM s' z o = true) : -(msV y' m' d' s' o y m d s) = msV y m d s o y' m' d' s' := by
  have a := not_congr (inst_lt h k h' k')
  have b := not_congr (inst_lt h' k' h k)
  unfold msV
  by_cases c : 0 ≤ instI y' m' d' s' o - instI y m d s o
  · rw [if_pos c]
    by_cases e : 0 ≤ instI y m d s o - instI y' m' d' s' o
    · rw [if_pos e]
      have u := a.1 (by omega)
      have v := b.1 (by omega)
      have e1 : y = y' := by omega
      have e2 : m = m' := by omega
      have e3 : d = d' := by omega
      have e4 : s = s' := by omega
      subst e1 e2 e3 e4
      rw [mbV_same]
      rfl
    · rw [if_neg e]
      omega
  · rw [if_neg c, if_pos (by omega)]
theorem day_min {y m d Y M : Int} (h28 : d ≤ 28) (_h : Day y m d) (h' : 1 ≤ M ∧ M ≤ 12) : min d (lenI Y M) = d := by
  have := lenI_pos Y h'.1 h'.2
  omega
theorem moM_range (m n : Int) : 1 ≤ moM m n ∧ moM m n ≤ 12 := by unfold moM; omega
theorem momentMonthly_walk (x0 x1 x2 x3 x4 : Int) (xz : Bool) (y0 y1 y2 y3 y4 : Int) (yz : Bool) (w : World) : Calls Try.prog 7 #[Rw x0 x1 x2 x3 x4 xz, Rw y0 y1 y2 y3 y4 yz] w (Ret (.bool true) w) := by
  obtain ⟨ay, am, ad, as', ao, eo, MA, dayA, mayA⟩ : ∃ (y m d s o : Int), o = offM xz x4 ∧ (∀ w : World, Calls Try.prog 9 #[Rw x0 x1 x2 x3 x4 xz] w (Ret (Mo y m d s xz o) w)) ∧ Day y m d ∧ mayM s xz o = true := ⟨_, _, _, _, _, rfl, make8_any x0 x1 x2 x3 x4 xz, make_day x0 x1 x2, makeM_may x3 xz x4⟩
  obtain ⟨by_, bm, bd, bs, MB, dayB, mayB⟩ : ∃ (y m d s : Int), (∀ w : World, Calls Try.prog 9 #[Rw y0 y1 y2 y3 x4 xz] w (Ret (Mo y m d s xz ao) w)) ∧ Day y m d ∧ mayM s xz ao = true := ⟨_, _, _, _, by rw [eo]; exact make8_any y0 y1 y2 y3 x4 xz, make_day y0 y1 y2, by rw [eo]; exact makeM_may y3 xz x4⟩
  clear eo
  have N1 := months_same ay am ad as' xz ao by_ bm bd bs dayA mayA dayB mayB
  have N2 := months_same by_ bm bd bs xz ao ay am ad as' dayB mayB dayA mayA
  have turn := msV_turn dayA mayA dayB mayB
  have r1 := mbV_range (s := as') (s' := bs) dayA dayB
  have r2 := mbV_range (s := bs) (s' := as') dayB dayA
  have rn : -24000000000 ≤ msV ay am ad as' ao by_ bm bd bs ∧ msV ay am ad as' ao by_ bm bd bs ≤ 24000000000 := by unfold msV; split <;> omega
  have f1 : wrap64 (-(msV by_ bm bd bs ao ay am ad as')) = msV ay am ad as' ao by_ bm bd bs := by rw [turn]; exact I64.wrap' (by unfold I64; omega)
  have g1 : IntKind.i64.wrap (-(msV by_ bm bd bs ao ay am ad as')) = msV ay am ad as' ao by_ bm bd bs := by rw [turn]; exact I64.wrap (by unfold I64; omega)
  have bt := btI_of dayA mayA dayB mayB rfl
  have BT := between_any ay am ad as' xz ao by_ bm bd bs xz ao
  rw [bt.1, bt.2] at BT
  have CC := cmpN_of ay am ad as' xz ao by_ bm bd bs xz ao _ true BT
  by_cases skip : ordI 0 (instI by_ bm bd bs ao - instI ay am ad as' ao) ≤ 0 ∧ ad ≤ 28
  · have oc := ordI_cases8 0 (instI by_ bm bd bs ao - instI ay am ad as' ao)
    have le : instI ay am ad as' ao ≤ instI by_ bm bd bs ao := by omega
    obtain ⟨n0, d1, s1, t1⟩ := months_lead dayA mayA dayB mayB le skip.2
    have ms : msV ay am ad as' ao by_ bm bd bs = mbV ay am ad as' by_ bm bd bs := by unfold msV; exact if_pos (by omega)
    rw [ms] at N1 f1 g1
    generalize mbV ay am ad as' by_ bm bd bs = n at *
    have CM := months_yes ay am ad n dayA (by omega) (by omega) d1.lims.1
    rw [day_min skip.2 dayA (moM_range am n)] at CM
    have MS := monthsN_yes ay am ad as' xz ao n (mayN_of dayA mayA) _ _ _ CM
    have bs1 := btI_of d1 mayA dayB mayB rfl
    have B1 := between_any (moY ay am n) (moM am n) ad as' xz ao by_ bm bd bs xz ao
    rw [bs1.1, bs1.2] at B1
    have C1 := cmpN_of _ _ _ _ _ _ _ _ _ _ _ _ _ true B1
    have oi := ordI_cases8 0 (instI by_ bm bd bs ao - instI (moY ay am n) (moM am n) ad as' ao)
    by_cases far : moY ay am (n + 1) < -999999999 ∨ 999999999 < moY ay am (n + 1)
    · have MT := monthsN_far ay am ad as' xz ao (n + 1) (mayN_of dayA mayA) _ _ _ (months_far ay am ad (n + 1) dayA (by omega) (by omega) far)
      have C2 := cmpN_of 0 0 0 0 false 0 by_ bm bd bs xz ao _ _ (between_any 0 0 0 0 false 0 by_ bm bd bs xz ao)
      exact monthly_main x0 x1 x2 x3 x4 xz y0 y1 y2 y3 y4 yz ay am ad as' ao by_ bm bd bs n _ _ _ _ _ _ _ _ 0 0 0 0 false 0 _ _ false _ (decide_eq_false (by omega)) (decide_eq_false (by omega)) (decide_eq_true n0) (decide_eq_true (by omega)) (fun c => by cases c) (I64.wrap' (by unfold I64; omega)) (I64.wrap (by unfold I64; omega)) MS MT C1 C2 MA MB N1 N2 f1 g1 CC w
    · have mr := moM_range am (n + 1)
      have d2 : Day (moY ay am (n + 1)) (moM am (n + 1)) ad := ⟨⟨by omega, by omega⟩, mr, dayA.lims.2.2.1, by have := lenI_pos (moY ay am (n + 1)) mr.1 mr.2; omega⟩
      have CN := months_yes ay am ad (n + 1) dayA (by omega) (by omega) (by omega)
      rw [day_min skip.2 dayA mr] at CN
      have MT := monthsN_yes ay am ad as' xz ao (n + 1) (mayN_of dayA mayA) _ _ _ CN
      have bs2 := btI_of d2 mayA dayB mayB rfl
      have B2 := between_any (moY ay am (n + 1)) (moM am (n + 1)) ad as' xz ao by_ bm bd bs xz ao
      rw [bs2.1, bs2.2] at B2
      have C2 := cmpN_of _ _ _ _ _ _ _ _ _ _ _ _ _ true B2
      have oj := ordI_cases8 0 (instI by_ bm bd bs ao - instI (moY ay am (n + 1)) (moM am (n + 1)) ad as' ao)
      have lt := t1 d2
      exact monthly_main x0 x1 x2 x3 x4 xz y0 y1 y2 y3 y4 yz ay am ad as' ao by_ bm bd bs n _ _ _ _ _ _ _ _ _ _ _ _ _ _ _ _ true true (decide_eq_false (by omega)) (decide_eq_false (by omega)) (decide_eq_true n0) (decide_eq_true (by omega)) (fun _ => by omega) (I64.wrap' (by unfold I64; omega)) (I64.wrap (by unfold I64; omega)) MS MT C1 C2 MA MB N1 N2 f1 g1 CC w
  · refine monthly_skip x0 x1 x2 x3 x4 xz y0 y1 y2 y3 y4 yz ay am ad as' ao by_ bm bd bs _ _ _ _ _ _ _ rfl rfl rfl rfl ?_ ?_ MA MB N1 N2 f1 g1 CC w
    · simp only [Bool.or_eq_true, decide_eq_true_eq]
      omega
    · simp only [Bool.or_eq_true, decide_eq_true_eq]
      have oc := ordI_cases8 0 (instI by_ bm bd bs ao - instI ay am ad as' ao)
      by_cases le : instI ay am ad as' ao ≤ instI by_ bm bd bs ao
      · exact .inl (by omega)
      · refine .inr ?_
        have q : 0 ≤ mbV by_ bm bd bs ay am ad as' := by
          have lt := (inst_lt dayB mayB dayA mayA).1 (by omega)
          have A := ah_true (d := ad) (s := as') (d' := bd) (s' := bs)
          have LA := dayA.lims
          have LB := dayB.lims
          unfold mbV
          cases e : ahB ad as' bd bs
          · simp only [Bool.false_eq_true, if_false]
            omega
          · have := A.1 e
            simp only [if_true]
            omega
        unfold msV
        rw [if_neg (by omega)]
        omega
end Go.Proofs.Ytelgnfkjldghdaa

/-
  Moments of one offset: the months between them; the document's examples of layer 8 (awake of its statements): each as a contract of its call.
-/
import Derived.Test.YtelgnfkjldghdaaMc
import Derived.Test.YtelgnfkjldghdaaMd
import Derived.Deep.DeepCutAuto
import Derived.Deep.CutBlock
namespace Go.Proofs.Ytelgnfkjldghdaa
open Go.RowKit

theorem keepN {W w' : World} {g : Nat} {v0 v1 v2 v3 v4 v5 : Value} (h : W.cell? ⟨g, 0, none⟩ = some v0 ∧ W.cell? ⟨g, 1, none⟩ = some v1 ∧ W.cell? ⟨g, 2, none⟩ = some v2 ∧ W.cell? ⟨g, 3, none⟩ = some v3 ∧ W.cell? ⟨g, 4, none⟩ = some v4 ∧ W.cell? ⟨g, 5, none⟩ = some v5) (s : g < W.heap.size) (hb : Below W.heap.size W w') : w'.cell? ⟨g, 0, none⟩ = some v0 ∧ w'.cell? ⟨g, 1, none⟩ = some v1 ∧ w'.cell? ⟨g, 2, none⟩ = some v2 ∧ w'.cell? ⟨g, 3, none⟩ = some v3 ∧ w'.cell? ⟨g, 4, none⟩ = some v4 ∧ w'.cell? ⟨g, 5, none⟩ = some v5 ∧ Below W.heap.size W w' :=
  ⟨((bcell hb).1 _ _ s).trans h.1, ((bcell hb).1 _ _ s).trans h.2.1, ((bcell hb).1 _ _ s).trans h.2.2.1, ((bcell hb).1 _ _ s).trans h.2.2.2.1, ((bcell hb).1 _ _ s).trans h.2.2.2.2.1, ((bcell hb).1 _ _ s).trans h.2.2.2.2.2, hb⟩
/-- How many whole months a moment is behind another one of the same offset, where it is not ahead. -/
def mbV (y m d s y' m' d' s' : Int) : Int := if ahB d' s' d s then (y' - y) * 12 + m' - m - 1 else (y' - y) * 12 + m' - m
theorem Day.lims {y m d : Int} (h : Day y m d) : (-999999999 ≤ y ∧ y ≤ 999999999) ∧ (1 ≤ m ∧ m ≤ 12) ∧ 1 ≤ d ∧ d ≤ lenI y m := by
  obtain ⟨a, b, c, e⟩ := h
  exact ⟨a, b, c, e⟩
theorem inst_back {y m d s : Int} {z : Bool} {o : Int} (_h : Day y m d) (k : mayM s z o = true) : (instI y m d s o + o) / 86400 = numI y m d ∧ (instI y m d s o + o) % 86400 = s := by
  have := may_sec k
  unfold instI
  omega
theorem behind_same (y m d s : Int) (z : Bool) (o y' m' d' s' : Int) (h : Day y m d) (k : mayM s z o = true) (h' : Day y' m' d') (k' : mayM s' z o = true) (w : World) : Calls Try.prog 34 #[Mo y m d s z o, Mo y' m' d' s' z o] w (Ret (.tuple #[.int .i64 (mbV y m d s y' m' d' s'), .bool true]) w) := by
  have e := inst_back h' k'
  have r := inst_range h' k'
  have OF := ofN_yes (instI y' m' d' s' o) s z o y' m' d' k (by omega) h' e.1.symm
  rw [e.2] at OF
  have a := h.lims
  have b := h'.lims
  refine behind_of y m d s z o y' m' d' s' z o _ y' m' d' s' z o true true _ _ rfl (fun c => by cases c) (fun _ c => ?_) (fun _ c => ?_) (instant_yes y' m' d' s' z o h' k') OF ⟨a.1, b.1, ⟨by omega, by omega⟩, by omega, by omega⟩ w
  · unfold mbV; rw [c]; rfl
  · unfold mbV; rw [c]; rfl
/-- The months between two moments of the same offset. -/
def msV (y m d s o y' m' d' s' : Int) : Int := if 0 ≤ instI y' m' d' s' o - instI y m d s o then mbV y m d s y' m' d' s' else -(mbV y' m' d' s' y m d s)
theorem mbV_range {y m d s y' m' d' s' : Int} (h : Day y m d) (h' : Day y' m' d') : -24000000000 ≤ mbV y m d s y' m' d' s' ∧ mbV y m d s y' m' d' s' ≤ 24000000000 := by
  have a := h.lims
  have b := h'.lims
  unfold mbV
  split <;> omega
theorem months_same (y m d s : Int) (z : Bool) (o y' m' d' s' : Int) (h : Day y m d) (k : mayM s z o = true) (h' : Day y' m' d') (k' : mayM s' z o = true) (w : World) : Calls Try.prog 21 #[Mo y m d s z o, Mo y' m' d' s' z o] w (Ret (.tuple #[.int .i64 (msV y m d s o y' m' d' s'), .bool true]) w) := by
  have bt := btI_of h k h' k' rfl
  have BT := between_any y m d s z o y' m' d' s' z o
  rw [bt.1, bt.2] at BT
  unfold msV
  split
  · exact mb_up y m d s z o y' m' d' s' z o _ _ true BT (by assumption) (behind_same y m d s z o y' m' d' s' h k h' k') w
  · have r := mbV_range (s := s') (s' := s) h' h
    exact mb_down y m d s z o y' m' d' s' z o _ _ true BT (by omega) (by unfold I64; omega) (behind_same y' m' d' s' z o y m d s h' k' h k) w
set_option linter.unusedSimpArgs false in
set_option maxRecDepth 100000 in
set_option maxHeartbeats 4000000 in
theorem awake8 (w : World) : Calls Try.prog 8 #[] w (Ret (.bool true) w) := by
  have d1 : Day 1970 1 2 := by unfold Day; decide
  have d2 : Day 2024 2 28 := by unfold Day; decide
  have d3 : Day 2024 2 29 := by unfold Day; decide
  have d4 : Day 2024 1 31 := by unfold Day; decide
  have d5 : Day 2024 1 29 := by unfold Day; decide
  have d6 : Day 2024 3 1 := by unfold Day; decide
  have IN0 := instant_yes 1970 1 2 0 true 3600 d1 (by decide)
  rw [show instI 1970 1 2 0 3600 = 82800 by decide] at IN0
  have OF0 := ofN_yes (instI 2024 2 28 86399 0 + 1) 86399 false 0 2024 2 29 (by decide) (by decide) d3 (by decide)
  rw [show (instI 2024 2 28 86399 0 + 1 + 0) % 86400 = 0 by decide] at OF0
  have LA0 := laterN_of 2024 2 28 86399 false 0 1 d2 (by decide) (by decide) _ _ _ _ _ _ true OF0
  have M10 := months_same 2024 1 31 0 false 0 2024 2 29 0 d4 (by decide) d3 (by decide)
  rw [show msV 2024 1 31 0 0 2024 2 29 0 = 0 by decide] at M10
  have M20 := months_same 2024 1 29 0 false 0 2024 3 1 0 d5 (by decide) d6 (by decide)
  rw [show msV 2024 1 29 0 0 2024 3 1 0 = 1 by decide] at M20
  have D1 := Lib.hid (day8_any 2 28 86399)
  have D2 := Lib.hid (day8_any 1 31 0)
  have D3 := Lib.hid (day8_any 2 29 0)
  have D4 := Lib.hid (day8_any 1 29 0)
  have D5 := Lib.hid (day8_any 3 1 0)
  have D6 := Lib.hid (day8_any 2 29 0)
  have IN := Lib.hid IN0
  have LA := Lib.hid LA0
  have M1 := Lib.hid M10
  have M2 := Lib.hid M20
  clear d1 d2 d3 d4 d5 d6 IN0 OF0 LA0 M10 M20
  go_enter Try.func8, Try.ntmps8
  go_wp2_with fail
  refine (IN.out _).mono ?_
  rintro e w1 ⟨rfl, hb⟩
  have B : Below w.heap.size w w1 := bstep (by go_grown) hb
  clear hb IN
  go_wp2_with fail
  refine (D1.out _).mono ?_
  rintro e w2 ⟨rfl, hb⟩
  replace B := bstep B hb
  clear hb D1
  go_wp2_with fail
  refine (LA.out _).mono ?_
  rintro e w3 ⟨rfl, hb⟩
  replace B := bstep B hb
  clear hb LA
  have PL := Lib.hid (HoldsN.new rfl : HoldsN (w3.alloc (MoC 2024 2 29 0 false 0)) w3.heap.size 2024 2 29 0 false 0)
  replace B := ballD1 B (MoC 2024 2 29 0 false 0)
  go_upto_region 3 with fail
  change Code.wp _ _ _ _ (w3.alloc (MoC 2024 2 29 0 false 0))
  generalize w3.alloc (MoC 2024 2 29 0 false 0) = w4 at *
  obtain ⟨gPL, hg⟩ : ∃ g, g = w3.heap.size := ⟨_, rfl⟩
  rw [← hg] at PL ⊢
  clear hg
  obtain ⟨⟨c0_0, c0_1, c0_2, c0_3, c0_4, c0_5⟩, -, c0z⟩ := PL.out
  go_wp2_with fail
  refine (D2.out _).mono ?_
  rintro e w5 ⟨rfl, hb⟩
  replace PL := Lib.hid (PL.out.below hb)
  replace B := bstep B hb
  clear hb D2
  clear c0_0 c0_1 c0_2 c0_3 c0_4 c0_5 c0z
  obtain ⟨⟨c0_0, c0_1, c0_2, c0_3, c0_4, c0_5⟩, -, c0z⟩ := PL.out
  go_wp2_with fail
  refine (D3.out _).mono ?_
  rintro e w6 ⟨rfl, hb⟩
  replace PL := Lib.hid (PL.out.below hb)
  replace B := bstep B hb
  clear hb D3
  clear c0_0 c0_1 c0_2 c0_3 c0_4 c0_5 c0z
  obtain ⟨⟨c0_0, c0_1, c0_2, c0_3, c0_4, c0_5⟩, -, c0z⟩ := PL.out
  go_wp2_with fail
  refine (M1.out _).mono ?_
  rintro e w7 ⟨rfl, hb⟩
  replace PL := Lib.hid (PL.out.below hb)
  replace B := bstep B hb
  clear hb M1
  clear c0_0 c0_1 c0_2 c0_3 c0_4 c0_5 c0z
  obtain ⟨⟨c0_0, c0_1, c0_2, c0_3, c0_4, c0_5⟩, -, c0z⟩ := PL.out
  go_wp2_with fail
  refine (D4.out _).mono ?_
  rintro e w8 ⟨rfl, hb⟩
  replace PL := Lib.hid (PL.out.below hb)
  replace B := bstep B hb
  clear hb D4
  clear c0_0 c0_1 c0_2 c0_3 c0_4 c0_5 c0z
  obtain ⟨⟨c0_0, c0_1, c0_2, c0_3, c0_4, c0_5⟩, -, c0z⟩ := PL.out
  go_wp2_with fail
  refine (D5.out _).mono ?_
  rintro e w9 ⟨rfl, hb⟩
  replace PL := Lib.hid (PL.out.below hb)
  replace B := bstep B hb
  clear hb D5
  clear c0_0 c0_1 c0_2 c0_3 c0_4 c0_5 c0z
  obtain ⟨⟨c0_0, c0_1, c0_2, c0_3, c0_4, c0_5⟩, -, c0z⟩ := PL.out
  go_wp2_with fail
  refine (M2.out _).mono ?_
  rintro e w10 ⟨rfl, hb⟩
  replace PL := Lib.hid (PL.out.below hb)
  replace B := bstep B hb
  clear hb M2
  clear c0_0 c0_1 c0_2 c0_3 c0_4 c0_5 c0z
  go_upto_region 5 with fail
  generalize w10 = V at *
  refine wp_region_held_drew (S := fun w' => w'.cell? ⟨gPL, 0, none⟩ = some (.int .i64 2024) ∧ w'.cell? ⟨gPL, 1, none⟩ = some (.int .i64 2) ∧ w'.cell? ⟨gPL, 2, none⟩ = some (.int .i64 29) ∧ w'.cell? ⟨gPL, 3, none⟩ = some (.int .i64 0) ∧ w'.cell? ⟨gPL, 4, none⟩ = some (.bool false) ∧ w'.cell? ⟨gPL, 5, none⟩ = some (.int .i64 0) ∧ Below V.heap.size V w') (by kernel_rfl) ?_ (fun hHeld => ?_)
  · exact keepN PL.out.1 PL.out.2.2 (Below.refl _ _).drew
  refine wpAnyH_take (i := 0) (oi := { dst := some 33, op := Go.Op.move (Go.Operand.tmp 2), type := 4, pos := "law.go:35", after := #[], guard := none }) (v := ?_) rfl (by kernel_rfl) (by kernel_rfl) (by kernel_rfl) (fun _ _ _ h => h) (Or.inl ⟨by rfl, ?_⟩) (by assumption) ?_
  rotate_left
  · intro w hSw
    try dsimp only at hSw
    go_simp
    try with_reducible rfl
  try simp only [Act.put, List.setIfInBounds_toArray, List.set_cons_zero, List.set_cons_succ]
  refine wpAnyH_take (i := 1) (oi := { dst := some 34, op := Go.Op.move (Go.Operand.tmp 33), type := 4, pos := "law.go:35", after := #[{ on := 0, ground := Go.Ground.data }], guard := none }) (v := ?_) rfl (by kernel_rfl) (by kernel_rfl) (by kernel_rfl) (fun _ _ _ h => h) (Or.inl ⟨by rfl, ?_⟩) (by assumption) ?_
  rotate_left
  · intro w hSw
    try dsimp only at hSw
    go_simp
    try with_reducible rfl
  try simp only [Act.put, List.setIfInBounds_toArray, List.set_cons_zero, List.set_cons_succ]
  refine wpAnyH_take (i := 2) (oi := { dst := some 35, op := Go.Op.move (Go.Operand.tmp 1), type := 3, pos := "law.go:35", after := #[{ on := 1, ground := Go.Ground.guard }], guard := some (1, true) }) (v := ?_) rfl (by kernel_rfl) (by kernel_rfl) (by kernel_rfl) (fun _ _ _ h => h) (Or.inl ⟨by rfl, ?_⟩) (by assumption) ?_
  rotate_left
  · intro w hSw
    try dsimp only at hSw
    go_simp
    try with_reducible rfl
  try simp only [Act.put, List.setIfInBounds_toArray, List.set_cons_zero, List.set_cons_succ]
  refine wpAnyH_take (i := 3) (oi := { dst := some 36, op := Go.Op.binOp Go.BinOp.eql 3 (Go.Operand.tmp 35) (Go.Operand.const (Go.Value.int Go.IntKind.i64 82800)) 3, type := 4, pos := "law.go:35", after := #[{ on := 2, ground := Go.Ground.data }, { on := 1, ground := Go.Ground.guard }], guard := some (1, true) }) (v := ?_) rfl (by kernel_rfl) (by kernel_rfl) (by kernel_rfl) (fun _ _ _ h => h) (Or.inl ⟨by rfl, ?_⟩) (by assumption) ?_
  rotate_left
  · intro w hSw
    try dsimp only at hSw
    go_simp
    try with_reducible rfl
  try simp only [Act.put, List.setIfInBounds_toArray, List.set_cons_zero, List.set_cons_succ]
  refine wpAnyH_take (i := 4) (oi := { dst := some 37, op := Go.Op.pick (Go.Operand.tmp 34) (Go.Operand.tmp 36) (Go.Operand.const (Go.Value.bool false)), type := 4, pos := "law.go:35", after := #[{ on := 1, ground := Go.Ground.data }, { on := 3, ground := Go.Ground.data }], guard := none }) (v := ?_) rfl (by kernel_rfl) (by kernel_rfl) (by kernel_rfl) (fun _ _ _ h => h) (Or.inl ⟨by rfl, ?_⟩) (by assumption) ?_
  rotate_left
  · intro w hSw
    try dsimp only at hSw
    go_simp
    try with_reducible rfl
  try simp only [Act.put, List.setIfInBounds_toArray, List.set_cons_zero, List.set_cons_succ]
  refine wpAnyH_take (i := 5) (oi := { dst := some 38, op := Go.Op.move (Go.Operand.tmp 37), type := 4, pos := "law.go:35", after := #[{ on := 4, ground := Go.Ground.data }, { on := 1, ground := Go.Ground.chain }], guard := none }) (v := ?_) rfl (by kernel_rfl) (by kernel_rfl) (by kernel_rfl) (fun _ _ _ h => h) (Or.inl ⟨by rfl, ?_⟩) (by assumption) ?_
  rotate_left
  · intro w hSw
    try dsimp only at hSw
    go_simp
    try with_reducible rfl
  try simp only [Act.put, List.setIfInBounds_toArray, List.set_cons_zero, List.set_cons_succ]
  refine wpAnyH_take (i := 6) (oi := { dst := some 39, op := Go.Op.move (Go.Operand.tmp 4), type := 4, pos := "law.go:35", after := #[{ on := 5, ground := Go.Ground.guard }], guard := some (5, true) }) (v := ?_) rfl (by kernel_rfl) (by kernel_rfl) (by kernel_rfl) (fun _ _ _ h => h) (Or.inl ⟨by rfl, ?_⟩) (by assumption) ?_
  rotate_left
  · intro w hSw
    try dsimp only at hSw
    go_simp
    try with_reducible rfl
  try simp only [Act.put, List.setIfInBounds_toArray, List.set_cons_zero, List.set_cons_succ]
  refine wpAnyH_take (i := 7) (oi := { dst := some 40, op := Go.Op.pick (Go.Operand.tmp 38) (Go.Operand.tmp 39) (Go.Operand.const (Go.Value.bool false)), type := 4, pos := "law.go:35", after := #[{ on := 5, ground := Go.Ground.data }, { on := 6, ground := Go.Ground.data }], guard := none }) (v := ?_) rfl (by kernel_rfl) (by kernel_rfl) (by kernel_rfl) (fun _ _ _ h => h) (Or.inl ⟨by rfl, ?_⟩) (by assumption) ?_
  rotate_left
  · intro w hSw
    try dsimp only at hSw
    go_simp
    try with_reducible rfl
  try simp only [Act.put, List.setIfInBounds_toArray, List.set_cons_zero, List.set_cons_succ]
  refine wpAnyH_take (i := 8) (oi := { dst := some 41, op := Go.Op.move (Go.Operand.tmp 40), type := 4, pos := "law.go:35", after := #[{ on := 7, ground := Go.Ground.data }, { on := 5, ground := Go.Ground.chain }], guard := none }) (v := ?_) rfl (by kernel_rfl) (by kernel_rfl) (by kernel_rfl) (fun _ _ _ h => h) (Or.inl ⟨by rfl, ?_⟩) (by assumption) ?_
  rotate_left
  · intro w hSw
    try dsimp only at hSw
    go_simp
    try with_reducible rfl
  try simp only [Act.put, List.setIfInBounds_toArray, List.set_cons_zero, List.set_cons_succ]
  refine wpAnyH_take (i := 9) (oi := { dst := some 42, op := Go.Op.load 29 (Go.Operand.tmp 3), type := 29, pos := "law.go:35", after := #[{ on := 8, ground := Go.Ground.guard }], guard := some (8, true) }) (v := ?_) rfl (by kernel_rfl) (by kernel_rfl) (by kernel_rfl) (fun _ _ _ h => h) (Or.inl ⟨by rfl, ?_⟩) (by assumption) ?_
  rotate_left
  · intro w hSw
    try dsimp only at hSw
    go_simp
    try with_reducible rfl
  try simp only [Act.put, List.setIfInBounds_toArray, List.set_cons_zero, List.set_cons_succ]
  refine wpAnyH_ready (rs := [10]) (by kernel_rfl) (by simp) ?_
  refine AllReadyH.cons (o := { dst := some 43, op := Go.Op.call { callee := Go.Callee.value (Go.Operand.func 22), args := #[Go.Operand.const (Go.Value.int Go.IntKind.i64 2), Go.Operand.const (Go.Value.int Go.IntKind.i64 29), Go.Operand.const (Go.Value.int Go.IntKind.i64 0)], argTypes := #[3, 3, 3] }, type := 29, pos := "law.go:35", after := #[{ on := 8, ground := Go.Ground.chain }, { on := 8, ground := Go.Ground.guard }], guard := some (8, true) }) rfl (fun K hK => ?_) AllReadyH.nil
  go_simp
  refine (D6.out _).mono ?_
  rintro e v1 ⟨rfl, hb1⟩
  have HBx := Lib.hid (bstep hHeld.2.2.2.2.2.2 hb1)
  clear hHeld hb1
  refine hK.out _ _ ?_ (fun hHeld => ?_)
  · exact keepN PL.out.1 PL.out.2.2 HBx.out
  clear hK K HBx
  try simp only [Act.put, List.setIfInBounds_toArray, List.set_cons_zero, List.set_cons_succ]
  refine wpAnyH_take (i := 11) (oi := { dst := some 44, op := Go.Op.binOp Go.BinOp.eql 29 (Go.Operand.tmp 42) (Go.Operand.tmp 43) 29, type := 4, pos := "law.go:35", after := #[{ on := 9, ground := Go.Ground.data }, { on := 10, ground := Go.Ground.data }, { on := 8, ground := Go.Ground.guard }], guard := some (8, true) }) (v := ?_) rfl (by kernel_rfl) (by kernel_rfl) (by kernel_rfl) (fun _ _ _ h => h) (Or.inl ⟨by rfl, ?_⟩) (by assumption) ?_
  rotate_left
  · intro w hSw
    try dsimp only at hSw
    go_simp
    try with_reducible rfl
  try simp only [Act.put, List.setIfInBounds_toArray, List.set_cons_zero, List.set_cons_succ]
  refine wpAnyH_take (i := 12) (oi := { dst := some 45, op := Go.Op.pick (Go.Operand.tmp 41) (Go.Operand.tmp 44) (Go.Operand.const (Go.Value.bool false)), type := 4, pos := "law.go:35", after := #[{ on := 8, ground := Go.Ground.data }, { on := 11, ground := Go.Ground.data }], guard := none }) (v := ?_) rfl (by kernel_rfl) (by kernel_rfl) (by kernel_rfl) (fun _ _ _ h => h) (Or.inl ⟨by rfl, ?_⟩) (by assumption) ?_
  rotate_left
  · intro w hSw
    try dsimp only at hSw
    go_simp
    try with_reducible rfl
  try simp only [Act.put, List.setIfInBounds_toArray, List.set_cons_zero, List.set_cons_succ]
  refine wpAnyH_take (i := 13) (oi := { dst := some 46, op := Go.Op.move (Go.Operand.tmp 45), type := 4, pos := "law.go:35", after := #[{ on := 12, ground := Go.Ground.data }, { on := 10, ground := Go.Ground.chain }], guard := none }) (v := ?_) rfl (by kernel_rfl) (by kernel_rfl) (by kernel_rfl) (fun _ _ _ h => h) (Or.inl ⟨by rfl, ?_⟩) (by assumption) ?_
  rotate_left
  · intro w hSw
    try dsimp only at hSw
    go_simp
    try with_reducible rfl
  try simp only [Act.put, List.setIfInBounds_toArray, List.set_cons_zero, List.set_cons_succ]
  refine wpAnyH_take (i := 14) (oi := { dst := some 47, op := Go.Op.move (Go.Operand.tmp 6), type := 4, pos := "law.go:35", after := #[{ on := 13, ground := Go.Ground.guard }], guard := some (13, true) }) (v := ?_) rfl (by kernel_rfl) (by kernel_rfl) (by kernel_rfl) (fun _ _ _ h => h) (Or.inl ⟨by rfl, ?_⟩) (by assumption) ?_
  rotate_left
  · intro w hSw
    try dsimp only at hSw
    go_simp
    try with_reducible rfl
  try simp only [Act.put, List.setIfInBounds_toArray, List.set_cons_zero, List.set_cons_succ]
  refine wpAnyH_take (i := 15) (oi := { dst := some 48, op := Go.Op.pick (Go.Operand.tmp 46) (Go.Operand.tmp 47) (Go.Operand.const (Go.Value.bool false)), type := 4, pos := "law.go:35", after := #[{ on := 13, ground := Go.Ground.data }, { on := 14, ground := Go.Ground.data }], guard := none }) (v := ?_) rfl (by kernel_rfl) (by kernel_rfl) (by kernel_rfl) (fun _ _ _ h => h) (Or.inl ⟨by rfl, ?_⟩) (by assumption) ?_
  rotate_left
  · intro w hSw
    try dsimp only at hSw
    go_simp
    try with_reducible rfl
  try simp only [Act.put, List.setIfInBounds_toArray, List.set_cons_zero, List.set_cons_succ]
  refine wpAnyH_take (i := 16) (oi := { dst := some 49, op := Go.Op.move (Go.Operand.tmp 48), type := 4, pos := "law.go:35", after := #[{ on := 15, ground := Go.Ground.data }, { on := 13, ground := Go.Ground.chain }], guard := none }) (v := ?_) rfl (by kernel_rfl) (by kernel_rfl) (by kernel_rfl) (fun _ _ _ h => h) (Or.inl ⟨by rfl, ?_⟩) (by assumption) ?_
  rotate_left
  · intro w hSw
    try dsimp only at hSw
    go_simp
    try with_reducible rfl
  try simp only [Act.put, List.setIfInBounds_toArray, List.set_cons_zero, List.set_cons_succ]
  refine wpAnyH_take (i := 17) (oi := { dst := some 50, op := Go.Op.move (Go.Operand.tmp 5), type := 3, pos := "law.go:35", after := #[{ on := 16, ground := Go.Ground.guard }], guard := some (16, true) }) (v := ?_) rfl (by kernel_rfl) (by kernel_rfl) (by kernel_rfl) (fun _ _ _ h => h) (Or.inl ⟨by rfl, ?_⟩) (by assumption) ?_
  rotate_left
  · intro w hSw
    try dsimp only at hSw
    go_simp
    try with_reducible rfl
  try simp only [Act.put, List.setIfInBounds_toArray, List.set_cons_zero, List.set_cons_succ]
  refine wpAnyH_take (i := 18) (oi := { dst := some 51, op := Go.Op.binOp Go.BinOp.eql 3 (Go.Operand.tmp 50) (Go.Operand.const (Go.Value.int Go.IntKind.i64 0)) 3, type := 4, pos := "law.go:35", after := #[{ on := 17, ground := Go.Ground.data }, { on := 16, ground := Go.Ground.guard }], guard := some (16, true) }) (v := ?_) rfl (by kernel_rfl) (by kernel_rfl) (by kernel_rfl) (fun _ _ _ h => h) (Or.inl ⟨by rfl, ?_⟩) (by assumption) ?_
  rotate_left
  · intro w hSw
    try dsimp only at hSw
    go_simp
    try with_reducible rfl
  try simp only [Act.put, List.setIfInBounds_toArray, List.set_cons_zero, List.set_cons_succ]
  refine wpAnyH_take (i := 19) (oi := { dst := some 52, op := Go.Op.pick (Go.Operand.tmp 49) (Go.Operand.tmp 51) (Go.Operand.const (Go.Value.bool false)), type := 4, pos := "law.go:35", after := #[{ on := 16, ground := Go.Ground.data }, { on := 18, ground := Go.Ground.data }], guard := none }) (v := ?_) rfl (by kernel_rfl) (by kernel_rfl) (by kernel_rfl) (fun _ _ _ h => h) (Or.inl ⟨by rfl, ?_⟩) (by assumption) ?_
  rotate_left
  · intro w hSw
    try dsimp only at hSw
    go_simp
    try with_reducible rfl
  try simp only [Act.put, List.setIfInBounds_toArray, List.set_cons_zero, List.set_cons_succ]
  refine wpAnyH_take (i := 20) (oi := { dst := some 53, op := Go.Op.move (Go.Operand.tmp 52), type := 4, pos := "law.go:35", after := #[{ on := 19, ground := Go.Ground.data }, { on := 16, ground := Go.Ground.chain }], guard := none }) (v := ?_) rfl (by kernel_rfl) (by kernel_rfl) (by kernel_rfl) (fun _ _ _ h => h) (Or.inl ⟨by rfl, ?_⟩) (by assumption) ?_
  rotate_left
  · intro w hSw
    try dsimp only at hSw
    go_simp
    try with_reducible rfl
  try simp only [Act.put, List.setIfInBounds_toArray, List.set_cons_zero, List.set_cons_succ]
  refine wpAnyH_take (i := 21) (oi := { dst := some 54, op := Go.Op.move (Go.Operand.tmp 8), type := 4, pos := "law.go:35", after := #[{ on := 20, ground := Go.Ground.guard }], guard := some (20, true) }) (v := ?_) rfl (by kernel_rfl) (by kernel_rfl) (by kernel_rfl) (fun _ _ _ h => h) (Or.inl ⟨by rfl, ?_⟩) (by assumption) ?_
  rotate_left
  · intro w hSw
    try dsimp only at hSw
    go_simp
    try with_reducible rfl
  try simp only [Act.put, List.setIfInBounds_toArray, List.set_cons_zero, List.set_cons_succ]
  refine wpAnyH_take (i := 22) (oi := { dst := some 55, op := Go.Op.pick (Go.Operand.tmp 53) (Go.Operand.tmp 54) (Go.Operand.const (Go.Value.bool false)), type := 4, pos := "law.go:35", after := #[{ on := 20, ground := Go.Ground.data }, { on := 21, ground := Go.Ground.data }], guard := none }) (v := ?_) rfl (by kernel_rfl) (by kernel_rfl) (by kernel_rfl) (fun _ _ _ h => h) (Or.inl ⟨by rfl, ?_⟩) (by assumption) ?_
  rotate_left
  · intro w hSw
    try dsimp only at hSw
    go_simp
    try with_reducible rfl
  try simp only [Act.put, List.setIfInBounds_toArray, List.set_cons_zero, List.set_cons_succ]
  refine wpAnyH_take (i := 23) (oi := { dst := some 56, op := Go.Op.move (Go.Operand.tmp 55), type := 4, pos := "law.go:35", after := #[{ on := 22, ground := Go.Ground.data }, { on := 20, ground := Go.Ground.chain }], guard := none }) (v := ?_) rfl (by kernel_rfl) (by kernel_rfl) (by kernel_rfl) (fun _ _ _ h => h) (Or.inl ⟨by rfl, ?_⟩) (by assumption) ?_
  rotate_left
  · intro w hSw
    try dsimp only at hSw
    go_simp
    try with_reducible rfl
  try simp only [Act.put, List.setIfInBounds_toArray, List.set_cons_zero, List.set_cons_succ]
  refine wpAnyH_take (i := 24) (oi := { dst := some 57, op := Go.Op.move (Go.Operand.tmp 7), type := 3, pos := "law.go:35", after := #[{ on := 23, ground := Go.Ground.guard }], guard := some (23, true) }) (v := ?_) rfl (by kernel_rfl) (by kernel_rfl) (by kernel_rfl) (fun _ _ _ h => h) (Or.inl ⟨by rfl, ?_⟩) (by assumption) ?_
  rotate_left
  · intro w hSw
    try dsimp only at hSw
    go_simp
    try with_reducible rfl
  try simp only [Act.put, List.setIfInBounds_toArray, List.set_cons_zero, List.set_cons_succ]
  refine wpAnyH_take (i := 25) (oi := { dst := some 58, op := Go.Op.binOp Go.BinOp.eql 3 (Go.Operand.tmp 57) (Go.Operand.const (Go.Value.int Go.IntKind.i64 1)) 3, type := 4, pos := "law.go:35", after := #[{ on := 24, ground := Go.Ground.data }, { on := 23, ground := Go.Ground.guard }], guard := some (23, true) }) (v := ?_) rfl (by kernel_rfl) (by kernel_rfl) (by kernel_rfl) (fun _ _ _ h => h) (Or.inl ⟨by rfl, ?_⟩) (by assumption) ?_
  rotate_left
  · intro w hSw
    try dsimp only at hSw
    go_simp
    try with_reducible rfl
  try simp only [Act.put, List.setIfInBounds_toArray, List.set_cons_zero, List.set_cons_succ]
  refine wpAnyH_take (i := 26) (oi := { dst := some 59, op := Go.Op.pick (Go.Operand.tmp 56) (Go.Operand.tmp 58) (Go.Operand.const (Go.Value.bool false)), type := 4, pos := "law.go:35", after := #[{ on := 23, ground := Go.Ground.data }, { on := 25, ground := Go.Ground.data }], guard := none }) (v := ?_) rfl (by kernel_rfl) (by kernel_rfl) (by kernel_rfl) (fun _ _ _ h => h) (Or.inl ⟨by rfl, ?_⟩) (by assumption) ?_
  rotate_left
  · intro w hSw
    try dsimp only at hSw
    go_simp
    try with_reducible rfl
  try simp only [Act.put, List.setIfInBounds_toArray, List.set_cons_zero, List.set_cons_succ]
  refine wpAnyH_take (i := 27) (oi := { dst := some 0, op := Go.Op.assign (Go.Operand.tmp 59), type := 4, pos := "law.go:35", after := #[{ on := 26, ground := Go.Ground.data }, { on := 23, ground := Go.Ground.chain }, { on := 0, ground := Go.Ground.phase }, { on := 1, ground := Go.Ground.phase }, { on := 2, ground := Go.Ground.phase }, { on := 3, ground := Go.Ground.phase }, { on := 4, ground := Go.Ground.phase }, { on := 5, ground := Go.Ground.phase }, { on := 6, ground := Go.Ground.phase }, { on := 7, ground := Go.Ground.phase }, { on := 8, ground := Go.Ground.phase }, { on := 9, ground := Go.Ground.phase }, { on := 10, ground := Go.Ground.phase }, { on := 11, ground := Go.Ground.phase }, { on := 12, ground := Go.Ground.phase }, { on := 13, ground := Go.Ground.phase }, { on := 14, ground := Go.Ground.phase }, { on := 15, ground := Go.Ground.phase }, { on := 16, ground := Go.Ground.phase }, { on := 17, ground := Go.Ground.phase }, { on := 18, ground := Go.Ground.phase }, { on := 19, ground := Go.Ground.phase }, { on := 20, ground := Go.Ground.phase }, { on := 21, ground := Go.Ground.phase }, { on := 22, ground := Go.Ground.phase }, { on := 23, ground := Go.Ground.phase }, { on := 24, ground := Go.Ground.phase }, { on := 25, ground := Go.Ground.phase }, { on := 26, ground := Go.Ground.phase }], guard := none }) (v := ?_) rfl (by kernel_rfl) (by kernel_rfl) (by kernel_rfl) (fun _ _ _ h => h) (Or.inl ⟨by rfl, ?_⟩) (by assumption) ?_
  rotate_left
  · intro w hSw
    try dsimp only at hSw
    go_simp
    try with_reducible rfl
  try simp only [Act.put, List.setIfInBounds_toArray, List.set_cons_zero, List.set_cons_succ]
  refine wpAnyH_done (by kernel_rfl) ?_ _
  replace B := bstep B hHeld.2.2.2.2.2.2
  clear hHeld PL
  go_wp2
  go_ret
  exact ⟨rfl, B⟩
end Go.Proofs.Ytelgnfkjldghdaa

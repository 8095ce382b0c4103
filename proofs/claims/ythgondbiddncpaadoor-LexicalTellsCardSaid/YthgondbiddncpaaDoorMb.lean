/-
  Package moment: the moment of an instant (Of), one so many seconds or months later (Later, Months); the moments of the statements (Make, day): each as a contract of its call.
-/
import Derived.Test.YthgondbiddncpaaDoorMa
import Derived.Deep.DeepCutAuto
namespace Go.Proofs.YthgondbiddncpaaDoor
open Go.RowKit

/-- A moment as it is handed in -/
abbrev Rw (y m d s o : Int) (z : Bool) : Value := .agg #[.int .i64 y, .int .i64 m, .int .i64 d, .int .i64 s, .int .i64 o, .bool z]
abbrev RwC (y m d s o : Int) (z : Bool) : Obj := .cells #[.int .i64 y, .int .i64 m, .int .i64 d, .int .i64 s, .int .i64 o, .bool z] 23
def HoldsR (W : World) (g : Nat) (y m d s o : Int) (z : Bool) : Prop := (W.cell? ⟨g, 0, none⟩ = some (.int .i64 y) ∧ W.cell? ⟨g, 1, none⟩ = some (.int .i64 m) ∧ W.cell? ⟨g, 2, none⟩ = some (.int .i64 d) ∧ W.cell? ⟨g, 3, none⟩ = some (.int .i64 s) ∧ W.cell? ⟨g, 4, none⟩ = some (.int .i64 o) ∧ W.cell? ⟨g, 5, none⟩ = some (.bool z)) ∧ (W.frozen? ⟨g, 0, none⟩ = false ∧ W.frozen? ⟨g, 1, none⟩ = false ∧ W.frozen? ⟨g, 2, none⟩ = false ∧ W.frozen? ⟨g, 3, none⟩ = false ∧ W.frozen? ⟨g, 4, none⟩ = false ∧ W.frozen? ⟨g, 5, none⟩ = false) ∧ g < W.heap.size
theorem HoldsR.below {W W' : World} {g : Nat} {y m d s o : Int} {z : Bool} (H : HoldsR W g y m d s o z) (hb : Below W.heap.size W W') : HoldsR W' g y m d s o z := by
  obtain ⟨⟨a0, a1, a2, a3, a4, a5⟩, ⟨b0, b1, b2, b3, b4, b5⟩, k⟩ := H
  obtain ⟨hc, hf⟩ := bcell hb
  exact ⟨⟨(hc _ _ k).trans a0, (hc _ _ k).trans a1, (hc _ _ k).trans a2, (hc _ _ k).trans a3, (hc _ _ k).trans a4, (hc _ _ k).trans a5⟩, ⟨(hf _ _ k).trans b0, (hf _ _ k).trans b1, (hf _ _ k).trans b2, (hf _ _ k).trans b3, (hf _ _ k).trans b4, (hf _ _ k).trans b5⟩, Nat.lt_of_lt_of_le k hb.size⟩
theorem HoldsR.alloc {W : World} {g : Nat} {y m d s o : Int} {z : Bool} (H : HoldsR W g y m d s o z) (x : Obj) : HoldsR (W.alloc x) g y m d s o z := H.below ((Below.refl _ _).alloc (Nat.le_refl _) x)
theorem HoldsR.drew {W : World} {g : Nat} {y m d s o : Int} {z : Bool} (H : HoldsR W g y m d s o z) : HoldsR W.drew g y m d s o z := H
theorem HoldsR.new {W : World} {g t : Nat} {y m d s o : Int} {z : Bool} (hg : g = W.heap.size) : HoldsR (W.alloc (.cells #[.int .i64 y, .int .i64 m, .int .i64 d, .int .i64 s, .int .i64 o, .bool z] t)) g y m d s o z := by
  subst hg
  simp [HoldsR, go_sem]
theorem HoldsR.far {W : World} {g : Nat} {y m d s o : Int} {z : Bool} (H : HoldsR W g y m d s o z) {p : Addr} (hp : g ≠ p.block) (u : Value) : HoldsR (W.setCell p u) g y m d s o z := by
  obtain ⟨⟨a0, a1, a2, a3, a4, a5⟩, ⟨b0, b1, b2, b3, b4, b5⟩, k⟩ := H
  have n := Below.heap_setCell W p u g hp
  exact ⟨⟨(World.cell?_of_block (a := ⟨g, 0, none⟩) n).trans a0, (World.cell?_of_block (a := ⟨g, 1, none⟩) n).trans a1, (World.cell?_of_block (a := ⟨g, 2, none⟩) n).trans a2, (World.cell?_of_block (a := ⟨g, 3, none⟩) n).trans a3, (World.cell?_of_block (a := ⟨g, 4, none⟩) n).trans a4, (World.cell?_of_block (a := ⟨g, 5, none⟩) n).trans a5⟩, ⟨(World.frozen?_of_block (a := ⟨g, 0, none⟩) n).trans b0, (World.frozen?_of_block (a := ⟨g, 1, none⟩) n).trans b1, (World.frozen?_of_block (a := ⟨g, 2, none⟩) n).trans b2, (World.frozen?_of_block (a := ⟨g, 3, none⟩) n).trans b3, (World.frozen?_of_block (a := ⟨g, 4, none⟩) n).trans b4, (World.frozen?_of_block (a := ⟨g, 5, none⟩) n).trans b5⟩, by simpa using k⟩
theorem keepR {w w' : World} {g : Nat} {y m d s o : Int} {z : Bool} (H : HoldsR w' g y m d s o z) (B : Below w.heap.size w w') : w'.cell? ⟨g, 0, none⟩ = some (.int .i64 y) ∧ w'.cell? ⟨g, 1, none⟩ = some (.int .i64 m) ∧ w'.cell? ⟨g, 2, none⟩ = some (.int .i64 d) ∧ w'.cell? ⟨g, 3, none⟩ = some (.int .i64 s) ∧ w'.cell? ⟨g, 4, none⟩ = some (.int .i64 o) ∧ w'.cell? ⟨g, 5, none⟩ = some (.bool z) ∧ g < w'.heap.size ∧ Below w.heap.size w w' :=
  ⟨H.1.1, H.1.2.1, H.1.2.2.1, H.1.2.2.2.1, H.1.2.2.2.2.1, H.1.2.2.2.2.2, H.2.2, B⟩
theorem far6 {W : World} {g k : Nat} {y m d s o : Int} {z : Bool} (H : HoldsR W k y m d s o z) (ne : k ≠ g) (v0 v1 v2 v3 v4 v5 : Value) : HoldsR ((((((W.setCell ⟨g, 0, none⟩ v0).setCell ⟨g, 1, none⟩ v1).setCell ⟨g, 2, none⟩ v2).setCell ⟨g, 3, none⟩ v3).setCell ⟨g, 4, none⟩ v4).setCell ⟨g, 5, none⟩ v5) k y m d s o z :=
  (((((H.far ne v0).far ne v1).far ne v2).far ne v3).far ne v4).far ne v5

/-! ### Make, day -/
set_option maxRecDepth 100000 in
set_option maxHeartbeats 4000000 in
theorem make8_any (y m d s o : Int) (z : Bool) (w : World) : Calls Tryd.prog 9 #[Rw y m d s o z] w (Ret (Mo (y.tmod 1000000000) (mkM m) (mkD d (lenI (y.tmod 1000000000) (mkM m))) (s % 86400) z (offM z o)) w) := by
  have MT := Lib.hid (make_any y m d)
  have MC := Lib.hid (makeM_any s z o)
  generalize mkD d (lenI (y.tmod 1000000000) (mkM m)) = D at *
  generalize y.tmod 1000000000 = Y at *
  generalize mkM m = M at *
  generalize s % 86400 = S at *
  generalize offM z o = O at *
  go_enter Tryd.func9, Tryd.ntmps9
  go_upto_region 1 with fail
  have RR := Lib.hid (HoldsR.alloc (HoldsR.new rfl) _ : HoldsR ((w.alloc (RwC y m d s o z)).alloc (MoC 0 0 0 0 false 0)) w.heap.size y m d s o z)
  have RS := Lib.hid (HoldsN.new (by simp) : HoldsN ((w.alloc (RwC y m d s o z)).alloc (MoC 0 0 0 0 false 0)) (w.heap.size + 1) 0 0 0 0 false 0)
  have B := ballD1 (ballD1 (Below.refl w.heap.size w) (RwC y m d s o z)) (MoC 0 0 0 0 false 0)
  change Code.wp _ _ _ _ ((w.alloc (RwC y m d s o z)).alloc (MoC 0 0 0 0 false 0))
  generalize ((w.alloc (RwC y m d s o z)).alloc (MoC 0 0 0 0 false 0)) = w0 at *
  refine wp_region_held_drew (S := fun w' => w'.cell? ⟨w.heap.size, 0, none⟩ = some (.int .i64 y) ∧ w'.cell? ⟨w.heap.size, 1, none⟩ = some (.int .i64 m) ∧ w'.cell? ⟨w.heap.size, 2, none⟩ = some (.int .i64 d) ∧ w'.cell? ⟨w.heap.size, 3, none⟩ = some (.int .i64 s) ∧ w'.cell? ⟨w.heap.size, 4, none⟩ = some (.int .i64 o) ∧ w'.cell? ⟨w.heap.size, 5, none⟩ = some (.bool z) ∧ w.heap.size < w'.heap.size ∧ Below w.heap.size w w') (by kernel_rfl) ?_ (fun hHeld => ?_)
  · exact keepR RR.out.drew B.drew
  replace RR := Lib.hid RR.out.drew
  replace RS := Lib.hid RS.out.drew
  refine wpAnyH_take (i := 0) (oi := { dst := some 3, op := Go.Op.fieldAddr 23 (Go.Operand.tmp 1) 0, type := 0, pos := "law.go:21", after := #[], guard := none }) (v := ?_) rfl (by kernel_rfl) (by kernel_rfl) (by kernel_rfl) (fun _ _ _ h => h) (Or.inl ⟨by rfl, ?_⟩) (by assumption) ?_
  rotate_left
  · intro w hSw
    try dsimp only at hSw
    go_simp
    try with_reducible rfl
  try simp only [Act.put, List.setIfInBounds_toArray, List.set_cons_zero, List.set_cons_succ]
  refine wpAnyH_take (i := 2) (oi := { dst := some 5, op := Go.Op.fieldAddr 23 (Go.Operand.tmp 1) 1, type := 0, pos := "law.go:21", after := #[], guard := none }) (v := ?_) rfl (by kernel_rfl) (by kernel_rfl) (by kernel_rfl) (fun _ _ _ h => h) (Or.inl ⟨by rfl, ?_⟩) (by assumption) ?_
  rotate_left
  · intro w hSw
    try dsimp only at hSw
    go_simp
    try with_reducible rfl
  try simp only [Act.put, List.setIfInBounds_toArray, List.set_cons_zero, List.set_cons_succ]
  refine wpAnyH_take (i := 4) (oi := { dst := some 7, op := Go.Op.fieldAddr 23 (Go.Operand.tmp 1) 2, type := 0, pos := "law.go:21", after := #[], guard := none }) (v := ?_) rfl (by kernel_rfl) (by kernel_rfl) (by kernel_rfl) (fun _ _ _ h => h) (Or.inl ⟨by rfl, ?_⟩) (by assumption) ?_
  rotate_left
  · intro w hSw
    try dsimp only at hSw
    go_simp
    try with_reducible rfl
  try simp only [Act.put, List.setIfInBounds_toArray, List.set_cons_zero, List.set_cons_succ]
  refine wpAnyH_take (i := 7) (oi := { dst := some 10, op := Go.Op.fieldAddr 23 (Go.Operand.tmp 1) 3, type := 0, pos := "law.go:21", after := #[], guard := none }) (v := ?_) rfl (by kernel_rfl) (by kernel_rfl) (by kernel_rfl) (fun _ _ _ h => h) (Or.inl ⟨by rfl, ?_⟩) (by assumption) ?_
  rotate_left
  · intro w hSw
    try dsimp only at hSw
    go_simp
    try with_reducible rfl
  try simp only [Act.put, List.setIfInBounds_toArray, List.set_cons_zero, List.set_cons_succ]
  refine wpAnyH_take (i := 9) (oi := { dst := some 12, op := Go.Op.fieldAddr 23 (Go.Operand.tmp 1) 5, type := 0, pos := "law.go:21", after := #[], guard := none }) (v := ?_) rfl (by kernel_rfl) (by kernel_rfl) (by kernel_rfl) (fun _ _ _ h => h) (Or.inl ⟨by rfl, ?_⟩) (by assumption) ?_
  rotate_left
  · intro w hSw
    try dsimp only at hSw
    go_simp
    try with_reducible rfl
  try simp only [Act.put, List.setIfInBounds_toArray, List.set_cons_zero, List.set_cons_succ]
  refine wpAnyH_take (i := 11) (oi := { dst := some 14, op := Go.Op.fieldAddr 23 (Go.Operand.tmp 1) 4, type := 0, pos := "law.go:21", after := #[], guard := none }) (v := ?_) rfl (by kernel_rfl) (by kernel_rfl) (by kernel_rfl) (fun _ _ _ h => h) (Or.inl ⟨by rfl, ?_⟩) (by assumption) ?_
  rotate_left
  · intro w hSw
    try dsimp only at hSw
    go_simp
    try with_reducible rfl
  try simp only [Act.put, List.setIfInBounds_toArray, List.set_cons_zero, List.set_cons_succ]
  refine wpAnyH_take (i := 1) (oi := { dst := some 4, op := Go.Op.load 3 (Go.Operand.tmp 3), type := 3, pos := "law.go:21", after := #[{ on := 0, ground := Go.Ground.data }], guard := none }) (v := ?_) rfl (by kernel_rfl) (by kernel_rfl) (by kernel_rfl) (fun _ _ _ h => h) (Or.inl ⟨by rfl, ?_⟩) (by assumption) ?_
  rotate_left
  · intro w hSw
    try dsimp only at hSw
    go_simp
    try with_reducible rfl
  try simp only [Act.put, List.setIfInBounds_toArray, List.set_cons_zero, List.set_cons_succ]
  refine wpAnyH_take (i := 3) (oi := { dst := some 6, op := Go.Op.load 3 (Go.Operand.tmp 5), type := 3, pos := "law.go:21", after := #[{ on := 2, ground := Go.Ground.data }], guard := none }) (v := ?_) rfl (by kernel_rfl) (by kernel_rfl) (by kernel_rfl) (fun _ _ _ h => h) (Or.inl ⟨by rfl, ?_⟩) (by assumption) ?_
  rotate_left
  · intro w hSw
    try dsimp only at hSw
    go_simp
    try with_reducible rfl
  try simp only [Act.put, List.setIfInBounds_toArray, List.set_cons_zero, List.set_cons_succ]
  refine wpAnyH_take (i := 5) (oi := { dst := some 8, op := Go.Op.load 3 (Go.Operand.tmp 7), type := 3, pos := "law.go:21", after := #[{ on := 4, ground := Go.Ground.data }], guard := none }) (v := ?_) rfl (by kernel_rfl) (by kernel_rfl) (by kernel_rfl) (fun _ _ _ h => h) (Or.inl ⟨by rfl, ?_⟩) (by assumption) ?_
  rotate_left
  · intro w hSw
    try dsimp only at hSw
    go_simp
    try with_reducible rfl
  try simp only [Act.put, List.setIfInBounds_toArray, List.set_cons_zero, List.set_cons_succ]
  refine wpAnyH_take (i := 8) (oi := { dst := some 11, op := Go.Op.load 3 (Go.Operand.tmp 10), type := 3, pos := "law.go:21", after := #[{ on := 7, ground := Go.Ground.data }], guard := none }) (v := ?_) rfl (by kernel_rfl) (by kernel_rfl) (by kernel_rfl) (fun _ _ _ h => h) (Or.inl ⟨by rfl, ?_⟩) (by assumption) ?_
  rotate_left
  · intro w hSw
    try dsimp only at hSw
    go_simp
    try with_reducible rfl
  try simp only [Act.put, List.setIfInBounds_toArray, List.set_cons_zero, List.set_cons_succ]
  refine wpAnyH_take (i := 10) (oi := { dst := some 13, op := Go.Op.load 4 (Go.Operand.tmp 12), type := 4, pos := "law.go:21", after := #[{ on := 9, ground := Go.Ground.data }], guard := none }) (v := ?_) rfl (by kernel_rfl) (by kernel_rfl) (by kernel_rfl) (fun _ _ _ h => h) (Or.inl ⟨by rfl, ?_⟩) (by assumption) ?_
  rotate_left
  · intro w hSw
    try dsimp only at hSw
    go_simp
    try with_reducible rfl
  try simp only [Act.put, List.setIfInBounds_toArray, List.set_cons_zero, List.set_cons_succ]
  refine wpAnyH_take (i := 12) (oi := { dst := some 15, op := Go.Op.load 3 (Go.Operand.tmp 14), type := 3, pos := "law.go:21", after := #[{ on := 11, ground := Go.Ground.data }], guard := none }) (v := ?_) rfl (by kernel_rfl) (by kernel_rfl) (by kernel_rfl) (fun _ _ _ h => h) (Or.inl ⟨by rfl, ?_⟩) (by assumption) ?_
  rotate_left
  · intro w hSw
    try dsimp only at hSw
    go_simp
    try with_reducible rfl
  try simp only [Act.put, List.setIfInBounds_toArray, List.set_cons_zero, List.set_cons_succ]
  refine wpAnyH_ready (rs := [6]) (by kernel_rfl) (by simp) ?_
  refine AllReadyH.cons (o := { dst := some 9, op := Go.Op.call { callee := Go.Callee.value (Go.Operand.func 28), args := #[Go.Operand.tmp 4, Go.Operand.tmp 6, Go.Operand.tmp 8], argTypes := #[3, 3, 3] }, type := 26, pos := "law.go:21", after := #[{ on := 1, ground := Go.Ground.data }, { on := 3, ground := Go.Ground.data }, { on := 5, ground := Go.Ground.data }], guard := none }) rfl (fun K hK => ?_) AllReadyH.nil
  go_simp
  refine (MT.out _).mono ?_
  rintro e v1 ⟨rfl, hb1⟩
  replace RR := Lib.hid (RR.out.below hb1)
  replace RS := Lib.hid (RS.out.below hb1)
  have HBx := Lib.hid (bstep hHeld.2.2.2.2.2.2.2 hb1)
  clear hHeld hb1
  refine hK.out _ _ ?_ (fun hHeld => ?_)
  · exact keepR RR.out HBx.out
  clear hK K HBx
  try simp only [Act.put, List.setIfInBounds_toArray, List.set_cons_zero, List.set_cons_succ]
  refine wpAnyH_ready (rs := [13]) (by kernel_rfl) (by simp) ?_
  refine AllReadyH.cons (o := { dst := some 16, op := Go.Op.call { callee := Go.Callee.value (Go.Operand.func 29), args := #[Go.Operand.tmp 11, Go.Operand.tmp 13, Go.Operand.tmp 15], argTypes := #[3, 4, 3] }, type := 28, pos := "law.go:21", after := #[{ on := 8, ground := Go.Ground.data }, { on := 10, ground := Go.Ground.data }, { on := 12, ground := Go.Ground.data }, { on := 6, ground := Go.Ground.chain }], guard := none }) rfl (fun K hK => ?_) AllReadyH.nil
  go_simp
  refine (MC.out _).mono ?_
  rintro e v2 ⟨rfl, hb2⟩
  replace RR := Lib.hid (RR.out.below hb2)
  replace RS := Lib.hid (RS.out.below hb2)
  have HBx := Lib.hid (bstep hHeld.2.2.2.2.2.2.2 hb2)
  clear hHeld hb2
  refine hK.out _ _ ?_ (fun hHeld => ?_)
  · exact keepR RR.out HBx.out
  clear hK K HBx
  try simp only [Act.put, List.setIfInBounds_toArray, List.set_cons_zero, List.set_cons_succ]
  refine wpAnyH_take (i := 14) (oi := { dst := some 17, op := Go.Op.build 30 #[(0, Go.Operand.tmp 9), (1, Go.Operand.tmp 16)], type := 30, pos := "law.go:21", after := #[{ on := 6, ground := Go.Ground.data }, { on := 13, ground := Go.Ground.data }], guard := none }) (v := ?_) rfl (by kernel_rfl) (by kernel_rfl) (by kernel_rfl) (fun _ _ _ h => h) (Or.inl ⟨by rfl, ?_⟩) (by assumption) ?_
  rotate_left
  · intro w hSw
    try dsimp only at hSw
    go_simp
    try with_reducible rfl
  try simp only [Act.put, List.setIfInBounds_toArray, List.set_cons_zero, List.set_cons_succ]
  obtain ⟨-, ⟨f0, f1, f2, f3, f4, f5⟩, f6⟩ := id RS.out
  obtain ⟨⟨d0, d1, d2, d3, d4, d5⟩, -, -⟩ := id RS.out
  refine wpAnyH_ready (rs := [15]) (by kernel_rfl) (by simp) ?_
  refine AllReadyH.cons (o := { dst := none, op := Go.Op.store 30 (Go.Operand.tmp 2) (Go.Operand.tmp 17), type := 0, pos := "law.go:21", after := #[{ on := 14, ground := Go.Ground.data }, { on := 13, ground := Go.Ground.chain }, { on := 0, ground := Go.Ground.phase }, { on := 1, ground := Go.Ground.phase }, { on := 2, ground := Go.Ground.phase }, { on := 3, ground := Go.Ground.phase }, { on := 4, ground := Go.Ground.phase }, { on := 5, ground := Go.Ground.phase }, { on := 6, ground := Go.Ground.phase }, { on := 7, ground := Go.Ground.phase }, { on := 8, ground := Go.Ground.phase }, { on := 9, ground := Go.Ground.phase }, { on := 10, ground := Go.Ground.phase }, { on := 11, ground := Go.Ground.phase }, { on := 12, ground := Go.Ground.phase }, { on := 13, ground := Go.Ground.phase }, { on := 14, ground := Go.Ground.phase }], guard := none }) rfl (fun K hK => ?_) AllReadyH.nil
  go_simp
  clear f0 f1 f2 f3 f4 f5 f6 d0 d1 d2 d3 d4 d5
  have HBx := Lib.hid (B6 hHeld.2.2.2.2.2.2.2 (Nat.le_succ w.heap.size) (.int .i64 Y) (.int .i64 M) (.int .i64 D) (.int .i64 S) (.bool z) (.int .i64 O))
  replace RR := Lib.hid (far6 RR.out (g := w.heap.size + 1) (by omega) (.int .i64 Y) (.int .i64 M) (.int .i64 D) (.int .i64 S) (.bool z) (.int .i64 O))
  replace RS := Lib.hid (RS.out.put (y := Y) (m := M) (d := D) (s := S) (z := z) (o := O))
  clear hHeld
  refine hK.out _ _ ?_ (fun hHeld => ?_)
  · exact keepR RR.out HBx.out
  clear hK K HBx
  try simp only [Act.put, List.setIfInBounds_toArray, List.set_cons_zero, List.set_cons_succ]
  refine wpAnyH_done (by kernel_rfl) ?_ _
  replace B := hHeld.2.2.2.2.2.2.2
  clear hHeld RR
  go_wp2
  refine ret_via (v := Mo Y M D S z O) (fun V => HoldsN V (w.heap.size + 1) Y M D S z O) (fun VF hq => ?_) RS.out rfl ⟨rfl, B⟩
  obtain ⟨⟨d0, d1, d2, d3, d4, d5⟩, -, -⟩ := hq
  simp [results, Tryd.results9, go_sem, d0, d1, d2, d3, d4, d5]
end Go.Proofs.YthgondbiddncpaaDoor

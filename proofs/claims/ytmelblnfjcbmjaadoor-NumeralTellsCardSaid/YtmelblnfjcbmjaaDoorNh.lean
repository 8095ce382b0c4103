/-
  The document's examples of layer 5 (awake of its statements), as a contract of its call.
-/
import Derived.Test.YtmelblnfjcbmjaaDoorNall
import Derived.Test.YtmelblnfjcbmjaaDoorOf
namespace Go.Proofs.YtmelblnfjcbmjaaDoor
open Go.RowKit

theorem read_at (s : ByteArray) (hs : s.size ≤ 200000000000000) {n : Bool} {c : Nat} {x : Int} (h : readL s.data.toList = some (n, c, x)) (hc : c < 18446744073709551616) (w : World) (ht : Tab w) : Calls Tryd.prog 30 #[.string s] w fun e w' => e = .returned (.tuple #[Dv n 0 c x, .bool true]) ∧ Below w.heap.size w w' := by
  have k := read_any s hs w ht
  rw [h] at k
  refine k.mono ?_
  rintro e w' ⟨m, a, b, y, ok, N, rfl, hb⟩
  obtain ⟨rfl, rfl, rfl, rfl, rfl⟩ := numO_small hc N
  exact ⟨rfl, hb⟩
theorem sign_at (s : ByteArray) (hs : s.size ≤ 200000000000000) {n : Bool} {c : Nat} {x : Int} (h : signL s.data.toList = some (n, c, x)) (hc : c < 18446744073709551616) (w : World) (ht : Tab w) : Calls Tryd.prog 27 #[.string s] w fun e w' => e = .returned (.tuple #[Dv n 0 c x, .bool true]) ∧ Below w.heap.size w w' := by
  have k := signed_any s hs w ht
  rw [h] at k
  refine k.mono ?_
  rintro e w' ⟨m, a, b, y, ok, N, rfl, hb⟩
  obtain ⟨rfl, rfl, rfl, rfl, rfl⟩ := numO_small hc N
  exact ⟨rfl, hb⟩
theorem of_at (c : Nat) (x : Int) (w : World) : Calls Tryd.prog 36 #[.int .u64 (c : Int), .int .i64 x] w fun e w' => e = .returned (Dv false 0 c x) ∧ Below w.heap.size w w' := by
  refine (of5 c x w).mono ?_
  rintro e w' ⟨n, h, l, y, ⟨rfl, rfl, rfl, rfl⟩, rfl, hb⟩
  exact ⟨rfl, hb⟩
theorem text_at (c : Nat) (x : Int) (hc : c < 18446744073709551616) (hn : NumD c x) {l : List UInt8} (h : textL false c x = l) (w : World) (ht : Tab w) (ht2 : Tab2 w) : Calls Tryd.prog 26 #[Dv false 0 c x] w fun e w' => e = .returned (.string ⟨l.toArray⟩) ∧ Below w.heap.size w w' := by
  have k := textN_any false 0 c x (ww1 hc) (by rw [nv01]; exact hn) w ht ht2
  rw [nv01, h] at k
  exact k
theorem keep12 {W w' : World} {g k q : Nat} {v0 v1 v2 v3 u0 u1 u2 u3 t0 t1 t2 t3 : Value} (h : W.cell? ⟨g, 0, none⟩ = some v0 ∧ W.cell? ⟨g, 1, none⟩ = some v1 ∧ W.cell? ⟨g, 2, none⟩ = some v2 ∧ W.cell? ⟨g, 3, none⟩ = some v3) (h' : W.cell? ⟨k, 0, none⟩ = some u0 ∧ W.cell? ⟨k, 1, none⟩ = some u1 ∧ W.cell? ⟨k, 2, none⟩ = some u2 ∧ W.cell? ⟨k, 3, none⟩ = some u3) (h'' : W.cell? ⟨q, 0, none⟩ = some t0 ∧ W.cell? ⟨q, 1, none⟩ = some t1 ∧ W.cell? ⟨q, 2, none⟩ = some t2 ∧ W.cell? ⟨q, 3, none⟩ = some t3) (hb : Below W.heap.size W w') :
    w'.cell? ⟨g, 0, none⟩ = some v0 ∧ w'.cell? ⟨g, 1, none⟩ = some v1 ∧ w'.cell? ⟨g, 2, none⟩ = some v2 ∧ w'.cell? ⟨g, 3, none⟩ = some v3 ∧ w'.cell? ⟨k, 0, none⟩ = some u0 ∧ w'.cell? ⟨k, 1, none⟩ = some u1 ∧ w'.cell? ⟨k, 2, none⟩ = some u2 ∧ w'.cell? ⟨k, 3, none⟩ = some u3 ∧ w'.cell? ⟨q, 0, none⟩ = some t0 ∧ w'.cell? ⟨q, 1, none⟩ = some t1 ∧ w'.cell? ⟨q, 2, none⟩ = some t2 ∧ w'.cell? ⟨q, 3, none⟩ = some t3 ∧ Below W.heap.size W w' :=
  ⟨keepCell2 h.1 hb, keepCell2 h.2.1 hb, keepCell2 h.2.2.1 hb, keepCell2 h.2.2.2 hb, keepCell2 h'.1 hb, keepCell2 h'.2.1 hb, keepCell2 h'.2.2.1 hb, keepCell2 h'.2.2.2 hb, keepCell2 h''.1 hb, keepCell2 h''.2.1 hb, keepCell2 h''.2.2.1 hb, keepCell2 h''.2.2.2 hb, hb⟩

set_option linter.unusedSimpArgs false in
set_option maxRecDepth 100000 in
set_option maxHeartbeats 8000000 in
theorem awake5 (w : World) (ht : Tab w) (ht2 : Tab2 w) : Calls Tryd.prog 25 #[] w (RetB true w) := by
  have HT := Lib.hid (And.intro ht ht2)
  have R1 := Lib.hid (fun (w : World) (h : Tab w) => (show Calls Tryd.prog 30 #[.string ⟨#[49, 46, 50, 48, 69, 43, 51]⟩] w (fun e w' => e = .returned (.tuple #[.agg #[.bool false, .int .u64 0, .int .u64 120, .int .i64 1], .bool true]) ∧ Below w.heap.size w w') from read_at ⟨#[49, 46, 50, 48, 69, 43, 51]⟩ (by decide) (show readL [49, 46, 50, 48, 69, 43, 51] = _ from ex_read1) (by decide) w h))
  have R2 := Lib.hid (fun (w : World) (h : Tab w) => (show Calls Tryd.prog 30 #[.string ⟨#[46, 53]⟩] w (fun e w' => e = .returned (.tuple #[.agg #[.bool false, .int .u64 0, .int .u64 5, .int .i64 (-1)], .bool true]) ∧ Below w.heap.size w w') from read_at ⟨#[46, 53]⟩ (by decide) (show readL [46, 53] = _ from ex_read2) (by decide) w h))
  have R3 := Lib.hid (fun (w : World) (h : Tab w) => (show Calls Tryd.prog 27 #[.string ⟨#[45, 48]⟩] w (fun e w' => e = .returned (.tuple #[.agg #[.bool false, .int .u64 0, .int .u64 0, .int .i64 0], .bool true]) ∧ Below w.heap.size w w') from sign_at ⟨#[45, 48]⟩ (by decide) (show signL [45, 48] = _ from ex_read3) (by decide) w h))
  have O1 := Lib.hid (fun (w : World) => (show Calls Tryd.prog 36 #[.int .u64 250, .int .i64 (-2)] w (fun e w' => e = .returned (.agg #[.bool false, .int .u64 0, .int .u64 250, .int .i64 (-2)]) ∧ Below w.heap.size w w') from of_at 250 (-2) w))
  have O2 := Lib.hid (fun (w : World) => (show Calls Tryd.prog 36 #[.int .u64 5, .int .i64 (-3)] w (fun e w' => e = .returned (.agg #[.bool false, .int .u64 0, .int .u64 5, .int .i64 (-3)]) ∧ Below w.heap.size w w') from of_at 5 (-3) w))
  have O3 := Lib.hid (fun (w : World) => (show Calls Tryd.prog 36 #[.int .u64 12, .int .i64 3] w (fun e w' => e = .returned (.agg #[.bool false, .int .u64 0, .int .u64 12, .int .i64 3]) ∧ Below w.heap.size w w') from of_at 12 3 w))
  have O4 := Lib.hid (fun (w : World) => (show Calls Tryd.prog 36 #[.int .u64 120, .int .i64 1] w (fun e w' => e = .returned (.agg #[.bool false, .int .u64 0, .int .u64 120, .int .i64 1]) ∧ Below w.heap.size w w') from of_at 120 1 w))
  have O5 := Lib.hid (fun (w : World) => (show Calls Tryd.prog 36 #[.int .u64 5, .int .i64 (-1)] w (fun e w' => e = .returned (.agg #[.bool false, .int .u64 0, .int .u64 5, .int .i64 (-1)]) ∧ Below w.heap.size w w') from of_at 5 (-1) w))
  have O6 := Lib.hid (fun (w : World) => (show Calls Tryd.prog 36 #[.int .u64 0, .int .i64 0] w (fun e w' => e = .returned (.agg #[.bool false, .int .u64 0, .int .u64 0, .int .i64 0]) ∧ Below w.heap.size w w') from of_at 0 0 w))
  have T1 := Lib.hid (fun (w : World) (h : Tab w) (h2 : Tab2 w) => (show Calls Tryd.prog 26 #[.agg #[.bool false, .int .u64 0, .int .u64 250, .int .i64 (-2)]] w (fun e w' => e = .returned (.string ⟨#[50, 46, 53, 48]⟩) ∧ Below w.heap.size w w') from text_at 250 (-2) (by decide) (by unfold NumD; decide) ex_text1 w h h2))
  have T2 := Lib.hid (fun (w : World) (h : Tab w) (h2 : Tab2 w) => (show Calls Tryd.prog 26 #[.agg #[.bool false, .int .u64 0, .int .u64 5, .int .i64 (-3)]] w (fun e w' => e = .returned (.string ⟨#[48, 46, 48, 48, 53]⟩) ∧ Below w.heap.size w w') from text_at 5 (-3) (by decide) (by unfold NumD; decide) ex_text2 w h h2))
  have T3 := Lib.hid (fun (w : World) (h : Tab w) (h2 : Tab2 w) => (show Calls Tryd.prog 26 #[.agg #[.bool false, .int .u64 0, .int .u64 12, .int .i64 3]] w (fun e w' => e = .returned (.string ⟨#[49, 50, 69, 51]⟩) ∧ Below w.heap.size w w') from text_at 12 3 (by decide) (by unfold NumD; decide) ex_text3 w h h2))
  have SH := Lib.hid (fun (w : World) => (show Calls Tryd.prog 32 #[.string ⟨#[49, 46]⟩] w (RetB false w) from shape_any ⟨#[49, 46]⟩ (by decide) w))
  have L1 := Lib.hid (fun (w : World) (h : Tab w) (h2 : Tab2 w) => (show Calls Tryd.prog 29 #[.string ⟨#[49, 69, 48]⟩] w (RetB false w) from (show plainL [49, 69, 48] = false by unfold plainL; rw [ex_read4]; show decide (textL false 1 0 = _) = false; rw [ex_text4]; decide) ▸ plain_any ⟨#[49, 69, 48]⟩ (by decide) w h h2))
  have L2 := Lib.hid (fun (w : World) (h : Tab w) (h2 : Tab2 w) => (show Calls Tryd.prog 29 #[.string ⟨#[50, 46, 53, 48]⟩] w (RetB true w) from (show plainL [50, 46, 53, 48] = true by unfold plainL; rw [ex_read5]; show decide (textL false 250 (-2) = _) = true; rw [ex_text1]; decide) ▸ plain_any ⟨#[50, 46, 53, 48]⟩ (by decide) w h h2))
  clear ht ht2
  go_enter Tryd.func25, Tryd.ntmps25
  go_wp2_with fail
  refine (R1.out _ (HT.out.1.below (by go_grown))).mono ?_
  rintro e y1 ⟨rfl, hb⟩
  have B0 : Below w.heap.size w y1 := bstep (by go_grown) hb
  have B := ballD1 B0 (.cells #[.bool false, .int .u64 0, .int .u64 120, .int .i64 1] 28)
  clear B0
  have P1 := Lib.hid (HoldsD.new4 rfl : HoldsD (y1.alloc (.cells #[.bool false, .int .u64 0, .int .u64 120, .int .i64 1] 28)) y1.heap.size false 0 120 1)
  clear hb R1
  go_upto_region 2 with fail
  change Code.wp _ _ _ _ (y1.alloc (.cells #[.bool false, .int .u64 0, .int .u64 120, .int .i64 1] 28))
  generalize y1.alloc (.cells #[.bool false, .int .u64 0, .int .u64 120, .int .i64 1] 28) = V1 at *
  obtain ⟨g1, hg⟩ : ∃ g, g = y1.heap.size := ⟨_, rfl⟩
  rw [← hg] at P1 ⊢
  clear hg
  go_wp2_with fail
  refine (R2.out _ (HT.out.1.below B)).mono ?_
  rintro e y2 ⟨rfl, hb⟩
  replace P1 := Lib.hid ((P1.out.below hb).alloc (.cells #[.bool false, .int .u64 0, .int .u64 5, .int .i64 (-1)] 28))
  replace B := ballD1 (bstep (B) hb) (.cells #[.bool false, .int .u64 0, .int .u64 5, .int .i64 (-1)] 28)
  have P2 := Lib.hid (HoldsD.new4 rfl : HoldsD (y2.alloc (.cells #[.bool false, .int .u64 0, .int .u64 5, .int .i64 (-1)] 28)) y2.heap.size false 0 5 (-1))
  clear hb R2
  go_upto_region 3 with fail
  change Code.wp _ _ _ _ (y2.alloc (.cells #[.bool false, .int .u64 0, .int .u64 5, .int .i64 (-1)] 28))
  generalize y2.alloc (.cells #[.bool false, .int .u64 0, .int .u64 5, .int .i64 (-1)] 28) = V2 at *
  obtain ⟨g2, hg⟩ : ∃ g, g = y2.heap.size := ⟨_, rfl⟩
  rw [← hg] at P2 ⊢
  clear hg
  go_wp2_with fail
  refine (R3.out _ (HT.out.1.below B)).mono ?_
  rintro e y3 ⟨rfl, hb⟩
  replace P1 := Lib.hid ((P1.out.below hb).alloc (.cells #[.bool false, .int .u64 0, .int .u64 0, .int .i64 0] 28))
  replace P2 := Lib.hid ((P2.out.below hb).alloc (.cells #[.bool false, .int .u64 0, .int .u64 0, .int .i64 0] 28))
  replace B := ballD1 (bstep (B) hb) (.cells #[.bool false, .int .u64 0, .int .u64 0, .int .i64 0] 28)
  have P3 := Lib.hid (HoldsD.new4 rfl : HoldsD (y3.alloc (.cells #[.bool false, .int .u64 0, .int .u64 0, .int .i64 0] 28)) y3.heap.size false 0 0 0)
  clear hb R3
  go_upto_region 4 with fail
  change Code.wp _ _ _ _ (y3.alloc (.cells #[.bool false, .int .u64 0, .int .u64 0, .int .i64 0] 28))
  generalize y3.alloc (.cells #[.bool false, .int .u64 0, .int .u64 0, .int .i64 0] 28) = V3 at *
  obtain ⟨g3, hg⟩ : ∃ g, g = y3.heap.size := ⟨_, rfl⟩
  rw [← hg] at P3 ⊢
  clear hg
  refine wp_region_held_drew (S := fun w' => w'.cell? ⟨g1, 0, none⟩ = some (.bool false) ∧ w'.cell? ⟨g1, 1, none⟩ = some (.int .u64 0) ∧ w'.cell? ⟨g1, 2, none⟩ = some (.int .u64 120) ∧ w'.cell? ⟨g1, 3, none⟩ = some (.int .i64 1) ∧ w'.cell? ⟨g2, 0, none⟩ = some (.bool false) ∧ w'.cell? ⟨g2, 1, none⟩ = some (.int .u64 0) ∧ w'.cell? ⟨g2, 2, none⟩ = some (.int .u64 5) ∧ w'.cell? ⟨g2, 3, none⟩ = some (.int .i64 (-1)) ∧ w'.cell? ⟨g3, 0, none⟩ = some (.bool false) ∧ w'.cell? ⟨g3, 1, none⟩ = some (.int .u64 0) ∧ w'.cell? ⟨g3, 2, none⟩ = some (.int .u64 0) ∧ w'.cell? ⟨g3, 3, none⟩ = some (.int .i64 0) ∧ Below V3.heap.size V3 w') (by kernel_rfl) ?_ (fun hHeld => ?_)
  · exact keep12 P1.out.1 P2.out.1 P3.out.1 (Below.refl _ _).drew
  refine wpAnyH_ready (rs := [0]) (by kernel_rfl) (by simp) ?_
  refine AllReadyH.cons (o := { dst := some 19, op := Go.Op.call { callee := Go.Callee.value (Go.Operand.func 36), args := #[Go.Operand.const (Go.Value.int Go.IntKind.u64 250), Go.Operand.const (Go.Value.int Go.IntKind.i64 (-2))], argTypes := #[22, 3] }, type := 28, pos := "law.go:20", after := #[], guard := none }) rfl (fun K hK => ?_) AllReadyH.nil
  go_simp
  refine (O1.out _).mono ?_
  rintro e v0 ⟨rfl, hbv0⟩
  have HBx := Lib.hid (bstep hHeld.2.2.2.2.2.2.2.2.2.2.2.2 hbv0)
  clear hHeld hbv0
  refine hK.out _ _ ?_ (fun hHeld => ?_)
  · exact keep12 P1.out.1 P2.out.1 P3.out.1 HBx.out
  clear hK K HBx
  try simp only [Act.put, List.setIfInBounds_toArray, List.set_cons_zero, List.set_cons_succ]
  refine wpAnyH_ready (rs := [1]) (by kernel_rfl) (by simp) ?_
  refine AllReadyH.cons (o := { dst := some 20, op := Go.Op.call { callee := Go.Callee.value (Go.Operand.func 26), args := #[Go.Operand.tmp 19], argTypes := #[28] }, type := 9, pos := "law.go:20", after := #[{ on := 0, ground := Go.Ground.data }, { on := 0, ground := Go.Ground.chain }], guard := none }) rfl (fun K hK => ?_) AllReadyH.nil
  go_simp
  refine (T1.out _ (HT.out.1.below (bstep B hHeld.2.2.2.2.2.2.2.2.2.2.2.2)) (HT.out.2.below (bstep B hHeld.2.2.2.2.2.2.2.2.2.2.2.2))).mono ?_
  rintro e v1 ⟨rfl, hbv1⟩
  have HBx := Lib.hid (bstep hHeld.2.2.2.2.2.2.2.2.2.2.2.2 hbv1)
  clear hHeld hbv1
  refine hK.out _ _ ?_ (fun hHeld => ?_)
  · exact keep12 P1.out.1 P2.out.1 P3.out.1 HBx.out
  clear hK K HBx
  try simp only [Act.put, List.setIfInBounds_toArray, List.set_cons_zero, List.set_cons_succ]
  refine wpAnyH_take (i := 2) (oi := { dst := some 21, op := Go.Op.binOp Go.BinOp.eql 9 (Go.Operand.tmp 20) (Go.Operand.const (Go.Value.string { data := #[50, 46, 53, 48] })) 9, type := 4, pos := "law.go:20", after := #[{ on := 1, ground := Go.Ground.data }], guard := none }) (v := ?_) rfl (by kernel_rfl) (by kernel_rfl) (by kernel_rfl) (fun _ _ _ h => h) (Or.inl ⟨by rfl, ?_⟩) (by assumption) ?_
  rotate_left
  · intro w hSw
    try dsimp only at hSw
    go_simp
    try with_reducible rfl
  try simp only [Act.put, List.setIfInBounds_toArray, List.set_cons_zero, List.set_cons_succ]
  refine wpAnyH_take (i := 3) (oi := { dst := some 22, op := Go.Op.move (Go.Operand.tmp 21), type := 4, pos := "law.go:20", after := #[{ on := 2, ground := Go.Ground.data }, { on := 1, ground := Go.Ground.chain }], guard := none }) (v := ?_) rfl (by kernel_rfl) (by kernel_rfl) (by kernel_rfl) (fun _ _ _ h => h) (Or.inl ⟨by rfl, ?_⟩) (by assumption) ?_
  rotate_left
  · intro w hSw
    try dsimp only at hSw
    go_simp
    try with_reducible rfl
  try simp only [Act.put, List.setIfInBounds_toArray, List.set_cons_zero, List.set_cons_succ]
  refine wpAnyH_ready (rs := [4]) (by kernel_rfl) (by simp) ?_
  refine AllReadyH.cons (o := { dst := some 23, op := Go.Op.call { callee := Go.Callee.value (Go.Operand.func 36), args := #[Go.Operand.const (Go.Value.int Go.IntKind.u64 5), Go.Operand.const (Go.Value.int Go.IntKind.i64 (-3))], argTypes := #[22, 3] }, type := 28, pos := "law.go:20", after := #[{ on := 3, ground := Go.Ground.chain }, { on := 3, ground := Go.Ground.guard }], guard := some (3, true) }) rfl (fun K hK => ?_) AllReadyH.nil
  go_simp
  refine (O2.out _).mono ?_
  rintro e v2 ⟨rfl, hbv2⟩
  have HBx := Lib.hid (bstep hHeld.2.2.2.2.2.2.2.2.2.2.2.2 hbv2)
  clear hHeld hbv2
  refine hK.out _ _ ?_ (fun hHeld => ?_)
  · exact keep12 P1.out.1 P2.out.1 P3.out.1 HBx.out
  clear hK K HBx
  try simp only [Act.put, List.setIfInBounds_toArray, List.set_cons_zero, List.set_cons_succ]
  refine wpAnyH_ready (rs := [5]) (by kernel_rfl) (by simp) ?_
  refine AllReadyH.cons (o := { dst := some 24, op := Go.Op.call { callee := Go.Callee.value (Go.Operand.func 26), args := #[Go.Operand.tmp 23], argTypes := #[28] }, type := 9, pos := "law.go:20", after := #[{ on := 4, ground := Go.Ground.data }, { on := 4, ground := Go.Ground.chain }, { on := 3, ground := Go.Ground.guard }], guard := some (3, true) }) rfl (fun K hK => ?_) AllReadyH.nil
  go_simp
  refine (T2.out _ (HT.out.1.below (bstep B hHeld.2.2.2.2.2.2.2.2.2.2.2.2)) (HT.out.2.below (bstep B hHeld.2.2.2.2.2.2.2.2.2.2.2.2))).mono ?_
  rintro e v3 ⟨rfl, hbv3⟩
  have HBx := Lib.hid (bstep hHeld.2.2.2.2.2.2.2.2.2.2.2.2 hbv3)
  clear hHeld hbv3
  refine hK.out _ _ ?_ (fun hHeld => ?_)
  · exact keep12 P1.out.1 P2.out.1 P3.out.1 HBx.out
  clear hK K HBx
  try simp only [Act.put, List.setIfInBounds_toArray, List.set_cons_zero, List.set_cons_succ]
  refine wpAnyH_take (i := 6) (oi := { dst := some 25, op := Go.Op.binOp Go.BinOp.eql 9 (Go.Operand.tmp 24) (Go.Operand.const (Go.Value.string { data := #[48, 46, 48, 48, 53] })) 9, type := 4, pos := "law.go:20", after := #[{ on := 5, ground := Go.Ground.data }, { on := 3, ground := Go.Ground.guard }], guard := some (3, true) }) (v := ?_) rfl (by kernel_rfl) (by kernel_rfl) (by kernel_rfl) (fun _ _ _ h => h) (Or.inl ⟨by rfl, ?_⟩) (by assumption) ?_
  rotate_left
  · intro w hSw
    try dsimp only at hSw
    go_simp
    try with_reducible rfl
  try simp only [Act.put, List.setIfInBounds_toArray, List.set_cons_zero, List.set_cons_succ]
  refine wpAnyH_take (i := 7) (oi := { dst := some 26, op := Go.Op.pick (Go.Operand.tmp 22) (Go.Operand.tmp 25) (Go.Operand.const (Go.Value.bool false)), type := 4, pos := "law.go:20", after := #[{ on := 3, ground := Go.Ground.data }, { on := 6, ground := Go.Ground.data }], guard := none }) (v := ?_) rfl (by kernel_rfl) (by kernel_rfl) (by kernel_rfl) (fun _ _ _ h => h) (Or.inl ⟨by rfl, ?_⟩) (by assumption) ?_
  rotate_left
  · intro w hSw
    try dsimp only at hSw
    go_simp
    try with_reducible rfl
  try simp only [Act.put, List.setIfInBounds_toArray, List.set_cons_zero, List.set_cons_succ]
  refine wpAnyH_take (i := 8) (oi := { dst := some 27, op := Go.Op.move (Go.Operand.tmp 26), type := 4, pos := "law.go:20", after := #[{ on := 7, ground := Go.Ground.data }, { on := 5, ground := Go.Ground.chain }], guard := none }) (v := ?_) rfl (by kernel_rfl) (by kernel_rfl) (by kernel_rfl) (fun _ _ _ h => h) (Or.inl ⟨by rfl, ?_⟩) (by assumption) ?_
  rotate_left
  · intro w hSw
    try dsimp only at hSw
    go_simp
    try with_reducible rfl
  try simp only [Act.put, List.setIfInBounds_toArray, List.set_cons_zero, List.set_cons_succ]
  refine wpAnyH_ready (rs := [9]) (by kernel_rfl) (by simp) ?_
  refine AllReadyH.cons (o := { dst := some 28, op := Go.Op.call { callee := Go.Callee.value (Go.Operand.func 36), args := #[Go.Operand.const (Go.Value.int Go.IntKind.u64 12), Go.Operand.const (Go.Value.int Go.IntKind.i64 3)], argTypes := #[22, 3] }, type := 28, pos := "law.go:20", after := #[{ on := 8, ground := Go.Ground.chain }, { on := 8, ground := Go.Ground.guard }], guard := some (8, true) }) rfl (fun K hK => ?_) AllReadyH.nil
  go_simp
  refine (O3.out _).mono ?_
  rintro e v4 ⟨rfl, hbv4⟩
  have HBx := Lib.hid (bstep hHeld.2.2.2.2.2.2.2.2.2.2.2.2 hbv4)
  clear hHeld hbv4
  refine hK.out _ _ ?_ (fun hHeld => ?_)
  · exact keep12 P1.out.1 P2.out.1 P3.out.1 HBx.out
  clear hK K HBx
  try simp only [Act.put, List.setIfInBounds_toArray, List.set_cons_zero, List.set_cons_succ]
  refine wpAnyH_ready (rs := [10]) (by kernel_rfl) (by simp) ?_
  refine AllReadyH.cons (o := { dst := some 29, op := Go.Op.call { callee := Go.Callee.value (Go.Operand.func 26), args := #[Go.Operand.tmp 28], argTypes := #[28] }, type := 9, pos := "law.go:20", after := #[{ on := 9, ground := Go.Ground.data }, { on := 9, ground := Go.Ground.chain }, { on := 8, ground := Go.Ground.guard }], guard := some (8, true) }) rfl (fun K hK => ?_) AllReadyH.nil
  go_simp
  refine (T3.out _ (HT.out.1.below (bstep B hHeld.2.2.2.2.2.2.2.2.2.2.2.2)) (HT.out.2.below (bstep B hHeld.2.2.2.2.2.2.2.2.2.2.2.2))).mono ?_
  rintro e v5 ⟨rfl, hbv5⟩
  have HBx := Lib.hid (bstep hHeld.2.2.2.2.2.2.2.2.2.2.2.2 hbv5)
  clear hHeld hbv5
  refine hK.out _ _ ?_ (fun hHeld => ?_)
  · exact keep12 P1.out.1 P2.out.1 P3.out.1 HBx.out
  clear hK K HBx
  try simp only [Act.put, List.setIfInBounds_toArray, List.set_cons_zero, List.set_cons_succ]
  refine wpAnyH_take (i := 11) (oi := { dst := some 30, op := Go.Op.binOp Go.BinOp.eql 9 (Go.Operand.tmp 29) (Go.Operand.const (Go.Value.string { data := #[49, 50, 69, 51] })) 9, type := 4, pos := "law.go:20", after := #[{ on := 10, ground := Go.Ground.data }, { on := 8, ground := Go.Ground.guard }], guard := some (8, true) }) (v := ?_) rfl (by kernel_rfl) (by kernel_rfl) (by kernel_rfl) (fun _ _ _ h => h) (Or.inl ⟨by rfl, ?_⟩) (by assumption) ?_
  rotate_left
  · intro w hSw
    try dsimp only at hSw
    go_simp
    try with_reducible rfl
  try simp only [Act.put, List.setIfInBounds_toArray, List.set_cons_zero, List.set_cons_succ]
  refine wpAnyH_take (i := 12) (oi := { dst := some 31, op := Go.Op.pick (Go.Operand.tmp 27) (Go.Operand.tmp 30) (Go.Operand.const (Go.Value.bool false)), type := 4, pos := "law.go:20", after := #[{ on := 8, ground := Go.Ground.data }, { on := 11, ground := Go.Ground.data }], guard := none }) (v := ?_) rfl (by kernel_rfl) (by kernel_rfl) (by kernel_rfl) (fun _ _ _ h => h) (Or.inl ⟨by rfl, ?_⟩) (by assumption) ?_
  rotate_left
  · intro w hSw
    try dsimp only at hSw
    go_simp
    try with_reducible rfl
  try simp only [Act.put, List.setIfInBounds_toArray, List.set_cons_zero, List.set_cons_succ]
  refine wpAnyH_take (i := 13) (oi := { dst := some 32, op := Go.Op.move (Go.Operand.tmp 31), type := 4, pos := "law.go:20", after := #[{ on := 12, ground := Go.Ground.data }, { on := 10, ground := Go.Ground.chain }], guard := none }) (v := ?_) rfl (by kernel_rfl) (by kernel_rfl) (by kernel_rfl) (fun _ _ _ h => h) (Or.inl ⟨by rfl, ?_⟩) (by assumption) ?_
  rotate_left
  · intro w hSw
    try dsimp only at hSw
    go_simp
    try with_reducible rfl
  try simp only [Act.put, List.setIfInBounds_toArray, List.set_cons_zero, List.set_cons_succ]
  refine wpAnyH_take (i := 14) (oi := { dst := some 33, op := Go.Op.move (Go.Operand.tmp 2), type := 4, pos := "law.go:20", after := #[{ on := 13, ground := Go.Ground.guard }], guard := some (13, true) }) (v := ?_) rfl (by kernel_rfl) (by kernel_rfl) (by kernel_rfl) (fun _ _ _ h => h) (Or.inl ⟨by rfl, ?_⟩) (by assumption) ?_
  rotate_left
  · intro w hSw
    try dsimp only at hSw
    go_simp
    try with_reducible rfl
  try simp only [Act.put, List.setIfInBounds_toArray, List.set_cons_zero, List.set_cons_succ]
  refine wpAnyH_take (i := 15) (oi := { dst := some 34, op := Go.Op.pick (Go.Operand.tmp 32) (Go.Operand.tmp 33) (Go.Operand.const (Go.Value.bool false)), type := 4, pos := "law.go:20", after := #[{ on := 13, ground := Go.Ground.data }, { on := 14, ground := Go.Ground.data }], guard := none }) (v := ?_) rfl (by kernel_rfl) (by kernel_rfl) (by kernel_rfl) (fun _ _ _ h => h) (Or.inl ⟨by rfl, ?_⟩) (by assumption) ?_
  rotate_left
  · intro w hSw
    try dsimp only at hSw
    go_simp
    try with_reducible rfl
  try simp only [Act.put, List.setIfInBounds_toArray, List.set_cons_zero, List.set_cons_succ]
  refine wpAnyH_take (i := 16) (oi := { dst := some 35, op := Go.Op.move (Go.Operand.tmp 34), type := 4, pos := "law.go:20", after := #[{ on := 15, ground := Go.Ground.data }, { on := 13, ground := Go.Ground.chain }], guard := none }) (v := ?_) rfl (by kernel_rfl) (by kernel_rfl) (by kernel_rfl) (fun _ _ _ h => h) (Or.inl ⟨by rfl, ?_⟩) (by assumption) ?_
  rotate_left
  · intro w hSw
    try dsimp only at hSw
    go_simp
    try with_reducible rfl
  try simp only [Act.put, List.setIfInBounds_toArray, List.set_cons_zero, List.set_cons_succ]
  refine wpAnyH_take (i := 17) (oi := { dst := some 36, op := Go.Op.load 28 (Go.Operand.tmp 1), type := 28, pos := "law.go:20", after := #[{ on := 16, ground := Go.Ground.guard }], guard := some (16, true) }) (v := ?_) rfl (by kernel_rfl) (by kernel_rfl) (by kernel_rfl) (fun _ _ _ h => h) (Or.inl ⟨by rfl, ?_⟩) (by assumption) ?_
  rotate_left
  · intro w hSw
    try dsimp only at hSw
    go_simp
    try with_reducible rfl
  try simp only [Act.put, List.setIfInBounds_toArray, List.set_cons_zero, List.set_cons_succ]
  refine wpAnyH_ready (rs := [18]) (by kernel_rfl) (by simp) ?_
  refine AllReadyH.cons (o := { dst := some 37, op := Go.Op.call { callee := Go.Callee.value (Go.Operand.func 36), args := #[Go.Operand.const (Go.Value.int Go.IntKind.u64 120), Go.Operand.const (Go.Value.int Go.IntKind.i64 1)], argTypes := #[22, 3] }, type := 28, pos := "law.go:20", after := #[{ on := 16, ground := Go.Ground.chain }, { on := 16, ground := Go.Ground.guard }], guard := some (16, true) }) rfl (fun K hK => ?_) AllReadyH.nil
  go_simp
  refine (O4.out _).mono ?_
  rintro e v6 ⟨rfl, hbv6⟩
  have HBx := Lib.hid (bstep hHeld.2.2.2.2.2.2.2.2.2.2.2.2 hbv6)
  clear hHeld hbv6
  refine hK.out _ _ ?_ (fun hHeld => ?_)
  · exact keep12 P1.out.1 P2.out.1 P3.out.1 HBx.out
  clear hK K HBx
  try simp only [Act.put, List.setIfInBounds_toArray, List.set_cons_zero, List.set_cons_succ]
  refine wpAnyH_take (i := 19) (oi := { dst := some 38, op := Go.Op.binOp Go.BinOp.eql 28 (Go.Operand.tmp 36) (Go.Operand.tmp 37) 28, type := 4, pos := "law.go:20", after := #[{ on := 17, ground := Go.Ground.data }, { on := 18, ground := Go.Ground.data }, { on := 16, ground := Go.Ground.guard }], guard := some (16, true) }) (v := ?_) rfl (by kernel_rfl) (by kernel_rfl) (by kernel_rfl) (fun _ _ _ h => h) (Or.inl ⟨by rfl, ?_⟩) (by assumption) ?_
  rotate_left
  · intro w hSw
    try dsimp only at hSw
    go_simp
    try with_reducible rfl
  try simp only [Act.put, List.setIfInBounds_toArray, List.set_cons_zero, List.set_cons_succ]
  refine wpAnyH_take (i := 20) (oi := { dst := some 39, op := Go.Op.pick (Go.Operand.tmp 35) (Go.Operand.tmp 38) (Go.Operand.const (Go.Value.bool false)), type := 4, pos := "law.go:20", after := #[{ on := 16, ground := Go.Ground.data }, { on := 19, ground := Go.Ground.data }], guard := none }) (v := ?_) rfl (by kernel_rfl) (by kernel_rfl) (by kernel_rfl) (fun _ _ _ h => h) (Or.inl ⟨by rfl, ?_⟩) (by assumption) ?_
  rotate_left
  · intro w hSw
    try dsimp only at hSw
    go_simp
    try with_reducible rfl
  try simp only [Act.put, List.setIfInBounds_toArray, List.set_cons_zero, List.set_cons_succ]
  refine wpAnyH_take (i := 21) (oi := { dst := some 40, op := Go.Op.move (Go.Operand.tmp 39), type := 4, pos := "law.go:20", after := #[{ on := 20, ground := Go.Ground.data }, { on := 18, ground := Go.Ground.chain }], guard := none }) (v := ?_) rfl (by kernel_rfl) (by kernel_rfl) (by kernel_rfl) (fun _ _ _ h => h) (Or.inl ⟨by rfl, ?_⟩) (by assumption) ?_
  rotate_left
  · intro w hSw
    try dsimp only at hSw
    go_simp
    try with_reducible rfl
  try simp only [Act.put, List.setIfInBounds_toArray, List.set_cons_zero, List.set_cons_succ]
  refine wpAnyH_take (i := 22) (oi := { dst := some 41, op := Go.Op.move (Go.Operand.tmp 4), type := 4, pos := "law.go:20", after := #[{ on := 21, ground := Go.Ground.guard }], guard := some (21, true) }) (v := ?_) rfl (by kernel_rfl) (by kernel_rfl) (by kernel_rfl) (fun _ _ _ h => h) (Or.inl ⟨by rfl, ?_⟩) (by assumption) ?_
  rotate_left
  · intro w hSw
    try dsimp only at hSw
    go_simp
    try with_reducible rfl
  try simp only [Act.put, List.setIfInBounds_toArray, List.set_cons_zero, List.set_cons_succ]
  refine wpAnyH_take (i := 23) (oi := { dst := some 42, op := Go.Op.pick (Go.Operand.tmp 40) (Go.Operand.tmp 41) (Go.Operand.const (Go.Value.bool false)), type := 4, pos := "law.go:20", after := #[{ on := 21, ground := Go.Ground.data }, { on := 22, ground := Go.Ground.data }], guard := none }) (v := ?_) rfl (by kernel_rfl) (by kernel_rfl) (by kernel_rfl) (fun _ _ _ h => h) (Or.inl ⟨by rfl, ?_⟩) (by assumption) ?_
  rotate_left
  · intro w hSw
    try dsimp only at hSw
    go_simp
    try with_reducible rfl
  try simp only [Act.put, List.setIfInBounds_toArray, List.set_cons_zero, List.set_cons_succ]
  refine wpAnyH_take (i := 24) (oi := { dst := some 43, op := Go.Op.move (Go.Operand.tmp 42), type := 4, pos := "law.go:20", after := #[{ on := 23, ground := Go.Ground.data }, { on := 21, ground := Go.Ground.chain }], guard := none }) (v := ?_) rfl (by kernel_rfl) (by kernel_rfl) (by kernel_rfl) (fun _ _ _ h => h) (Or.inl ⟨by rfl, ?_⟩) (by assumption) ?_
  rotate_left
  · intro w hSw
    try dsimp only at hSw
    go_simp
    try with_reducible rfl
  try simp only [Act.put, List.setIfInBounds_toArray, List.set_cons_zero, List.set_cons_succ]
  refine wpAnyH_take (i := 25) (oi := { dst := some 44, op := Go.Op.load 28 (Go.Operand.tmp 3), type := 28, pos := "law.go:20", after := #[{ on := 24, ground := Go.Ground.guard }], guard := some (24, true) }) (v := ?_) rfl (by kernel_rfl) (by kernel_rfl) (by kernel_rfl) (fun _ _ _ h => h) (Or.inl ⟨by rfl, ?_⟩) (by assumption) ?_
  rotate_left
  · intro w hSw
    try dsimp only at hSw
    go_simp
    try with_reducible rfl
  try simp only [Act.put, List.setIfInBounds_toArray, List.set_cons_zero, List.set_cons_succ]
  refine wpAnyH_ready (rs := [26]) (by kernel_rfl) (by simp) ?_
  refine AllReadyH.cons (o := { dst := some 45, op := Go.Op.call { callee := Go.Callee.value (Go.Operand.func 36), args := #[Go.Operand.const (Go.Value.int Go.IntKind.u64 5), Go.Operand.const (Go.Value.int Go.IntKind.i64 (-1))], argTypes := #[22, 3] }, type := 28, pos := "law.go:20", after := #[{ on := 24, ground := Go.Ground.chain }, { on := 24, ground := Go.Ground.guard }], guard := some (24, true) }) rfl (fun K hK => ?_) AllReadyH.nil
  go_simp
  refine (O5.out _).mono ?_
  rintro e v7 ⟨rfl, hbv7⟩
  have HBx := Lib.hid (bstep hHeld.2.2.2.2.2.2.2.2.2.2.2.2 hbv7)
  clear hHeld hbv7
  refine hK.out _ _ ?_ (fun hHeld => ?_)
  · exact keep12 P1.out.1 P2.out.1 P3.out.1 HBx.out
  clear hK K HBx
  try simp only [Act.put, List.setIfInBounds_toArray, List.set_cons_zero, List.set_cons_succ]
  refine wpAnyH_take (i := 27) (oi := { dst := some 46, op := Go.Op.binOp Go.BinOp.eql 28 (Go.Operand.tmp 44) (Go.Operand.tmp 45) 28, type := 4, pos := "law.go:20", after := #[{ on := 25, ground := Go.Ground.data }, { on := 26, ground := Go.Ground.data }, { on := 24, ground := Go.Ground.guard }], guard := some (24, true) }) (v := ?_) rfl (by kernel_rfl) (by kernel_rfl) (by kernel_rfl) (fun _ _ _ h => h) (Or.inl ⟨by rfl, ?_⟩) (by assumption) ?_
  rotate_left
  · intro w hSw
    try dsimp only at hSw
    go_simp
    try with_reducible rfl
  try simp only [Act.put, List.setIfInBounds_toArray, List.set_cons_zero, List.set_cons_succ]
  refine wpAnyH_take (i := 28) (oi := { dst := some 47, op := Go.Op.pick (Go.Operand.tmp 43) (Go.Operand.tmp 46) (Go.Operand.const (Go.Value.bool false)), type := 4, pos := "law.go:20", after := #[{ on := 24, ground := Go.Ground.data }, { on := 27, ground := Go.Ground.data }], guard := none }) (v := ?_) rfl (by kernel_rfl) (by kernel_rfl) (by kernel_rfl) (fun _ _ _ h => h) (Or.inl ⟨by rfl, ?_⟩) (by assumption) ?_
  rotate_left
  · intro w hSw
    try dsimp only at hSw
    go_simp
    try with_reducible rfl
  try simp only [Act.put, List.setIfInBounds_toArray, List.set_cons_zero, List.set_cons_succ]
  refine wpAnyH_take (i := 29) (oi := { dst := some 48, op := Go.Op.move (Go.Operand.tmp 47), type := 4, pos := "law.go:20", after := #[{ on := 28, ground := Go.Ground.data }, { on := 26, ground := Go.Ground.chain }], guard := none }) (v := ?_) rfl (by kernel_rfl) (by kernel_rfl) (by kernel_rfl) (fun _ _ _ h => h) (Or.inl ⟨by rfl, ?_⟩) (by assumption) ?_
  rotate_left
  · intro w hSw
    try dsimp only at hSw
    go_simp
    try with_reducible rfl
  try simp only [Act.put, List.setIfInBounds_toArray, List.set_cons_zero, List.set_cons_succ]
  refine wpAnyH_ready (rs := [30]) (by kernel_rfl) (by simp) ?_
  refine AllReadyH.cons (o := { dst := some 49, op := Go.Op.call { callee := Go.Callee.value (Go.Operand.func 32), args := #[Go.Operand.const (Go.Value.string { data := #[49, 46] })], argTypes := #[9] }, type := 4, pos := "law.go:20", after := #[{ on := 29, ground := Go.Ground.chain }, { on := 29, ground := Go.Ground.guard }], guard := some (29, true) }) rfl (fun K hK => ?_) AllReadyH.nil
  go_simp
  refine (SH.out _).mono ?_
  rintro e v8 ⟨rfl, hbv8⟩
  have HBx := Lib.hid (bstep hHeld.2.2.2.2.2.2.2.2.2.2.2.2 hbv8)
  clear hHeld hbv8
  refine hK.out _ _ ?_ (fun hHeld => ?_)
  · exact keep12 P1.out.1 P2.out.1 P3.out.1 HBx.out
  clear hK K HBx
  try simp only [Act.put, List.setIfInBounds_toArray, List.set_cons_zero, List.set_cons_succ]
  refine wpAnyH_take (i := 31) (oi := { dst := some 50, op := Go.Op.unOp Go.UnOp.not 4 (Go.Operand.tmp 49), type := 4, pos := "law.go:20", after := #[{ on := 30, ground := Go.Ground.data }, { on := 29, ground := Go.Ground.guard }], guard := some (29, true) }) (v := ?_) rfl (by kernel_rfl) (by kernel_rfl) (by kernel_rfl) (fun _ _ _ h => h) (Or.inl ⟨by rfl, ?_⟩) (by assumption) ?_
  rotate_left
  · intro w hSw
    try dsimp only at hSw
    go_simp
    try with_reducible rfl
  try simp only [Act.put, List.setIfInBounds_toArray, List.set_cons_zero, List.set_cons_succ]
  refine wpAnyH_take (i := 32) (oi := { dst := some 51, op := Go.Op.pick (Go.Operand.tmp 48) (Go.Operand.tmp 50) (Go.Operand.const (Go.Value.bool false)), type := 4, pos := "law.go:20", after := #[{ on := 29, ground := Go.Ground.data }, { on := 31, ground := Go.Ground.data }], guard := none }) (v := ?_) rfl (by kernel_rfl) (by kernel_rfl) (by kernel_rfl) (fun _ _ _ h => h) (Or.inl ⟨by rfl, ?_⟩) (by assumption) ?_
  rotate_left
  · intro w hSw
    try dsimp only at hSw
    go_simp
    try with_reducible rfl
  try simp only [Act.put, List.setIfInBounds_toArray, List.set_cons_zero, List.set_cons_succ]
  refine wpAnyH_take (i := 33) (oi := { dst := some 52, op := Go.Op.move (Go.Operand.tmp 51), type := 4, pos := "law.go:20", after := #[{ on := 32, ground := Go.Ground.data }, { on := 30, ground := Go.Ground.chain }], guard := none }) (v := ?_) rfl (by kernel_rfl) (by kernel_rfl) (by kernel_rfl) (fun _ _ _ h => h) (Or.inl ⟨by rfl, ?_⟩) (by assumption) ?_
  rotate_left
  · intro w hSw
    try dsimp only at hSw
    go_simp
    try with_reducible rfl
  try simp only [Act.put, List.setIfInBounds_toArray, List.set_cons_zero, List.set_cons_succ]
  refine wpAnyH_take (i := 34) (oi := { dst := some 53, op := Go.Op.move (Go.Operand.tmp 6), type := 4, pos := "law.go:20", after := #[{ on := 33, ground := Go.Ground.guard }], guard := some (33, true) }) (v := ?_) rfl (by kernel_rfl) (by kernel_rfl) (by kernel_rfl) (fun _ _ _ h => h) (Or.inl ⟨by rfl, ?_⟩) (by assumption) ?_
  rotate_left
  · intro w hSw
    try dsimp only at hSw
    go_simp
    try with_reducible rfl
  try simp only [Act.put, List.setIfInBounds_toArray, List.set_cons_zero, List.set_cons_succ]
  refine wpAnyH_take (i := 35) (oi := { dst := some 54, op := Go.Op.pick (Go.Operand.tmp 52) (Go.Operand.tmp 53) (Go.Operand.const (Go.Value.bool false)), type := 4, pos := "law.go:20", after := #[{ on := 33, ground := Go.Ground.data }, { on := 34, ground := Go.Ground.data }], guard := none }) (v := ?_) rfl (by kernel_rfl) (by kernel_rfl) (by kernel_rfl) (fun _ _ _ h => h) (Or.inl ⟨by rfl, ?_⟩) (by assumption) ?_
  rotate_left
  · intro w hSw
    try dsimp only at hSw
    go_simp
    try with_reducible rfl
  try simp only [Act.put, List.setIfInBounds_toArray, List.set_cons_zero, List.set_cons_succ]
  refine wpAnyH_take (i := 36) (oi := { dst := some 55, op := Go.Op.move (Go.Operand.tmp 54), type := 4, pos := "law.go:20", after := #[{ on := 35, ground := Go.Ground.data }, { on := 33, ground := Go.Ground.chain }], guard := none }) (v := ?_) rfl (by kernel_rfl) (by kernel_rfl) (by kernel_rfl) (fun _ _ _ h => h) (Or.inl ⟨by rfl, ?_⟩) (by assumption) ?_
  rotate_left
  · intro w hSw
    try dsimp only at hSw
    go_simp
    try with_reducible rfl
  try simp only [Act.put, List.setIfInBounds_toArray, List.set_cons_zero, List.set_cons_succ]
  refine wpAnyH_take (i := 37) (oi := { dst := some 56, op := Go.Op.load 28 (Go.Operand.tmp 5), type := 28, pos := "law.go:20", after := #[{ on := 36, ground := Go.Ground.guard }], guard := some (36, true) }) (v := ?_) rfl (by kernel_rfl) (by kernel_rfl) (by kernel_rfl) (fun _ _ _ h => h) (Or.inl ⟨by rfl, ?_⟩) (by assumption) ?_
  rotate_left
  · intro w hSw
    try dsimp only at hSw
    go_simp
    try with_reducible rfl
  try simp only [Act.put, List.setIfInBounds_toArray, List.set_cons_zero, List.set_cons_succ]
  refine wpAnyH_ready (rs := [38]) (by kernel_rfl) (by simp) ?_
  refine AllReadyH.cons (o := { dst := some 57, op := Go.Op.call { callee := Go.Callee.value (Go.Operand.func 36), args := #[Go.Operand.const (Go.Value.int Go.IntKind.u64 0), Go.Operand.const (Go.Value.int Go.IntKind.i64 0)], argTypes := #[22, 3] }, type := 28, pos := "law.go:20", after := #[{ on := 36, ground := Go.Ground.chain }, { on := 36, ground := Go.Ground.guard }], guard := some (36, true) }) rfl (fun K hK => ?_) AllReadyH.nil
  go_simp
  refine (O6.out _).mono ?_
  rintro e v9 ⟨rfl, hbv9⟩
  have HBx := Lib.hid (bstep hHeld.2.2.2.2.2.2.2.2.2.2.2.2 hbv9)
  clear hHeld hbv9
  refine hK.out _ _ ?_ (fun hHeld => ?_)
  · exact keep12 P1.out.1 P2.out.1 P3.out.1 HBx.out
  clear hK K HBx
  try simp only [Act.put, List.setIfInBounds_toArray, List.set_cons_zero, List.set_cons_succ]
  refine wpAnyH_take (i := 39) (oi := { dst := some 58, op := Go.Op.binOp Go.BinOp.eql 28 (Go.Operand.tmp 56) (Go.Operand.tmp 57) 28, type := 4, pos := "law.go:20", after := #[{ on := 37, ground := Go.Ground.data }, { on := 38, ground := Go.Ground.data }, { on := 36, ground := Go.Ground.guard }], guard := some (36, true) }) (v := ?_) rfl (by kernel_rfl) (by kernel_rfl) (by kernel_rfl) (fun _ _ _ h => h) (Or.inl ⟨by rfl, ?_⟩) (by assumption) ?_
  rotate_left
  · intro w hSw
    try dsimp only at hSw
    go_simp
    try with_reducible rfl
  try simp only [Act.put, List.setIfInBounds_toArray, List.set_cons_zero, List.set_cons_succ]
  refine wpAnyH_take (i := 40) (oi := { dst := some 59, op := Go.Op.pick (Go.Operand.tmp 55) (Go.Operand.tmp 58) (Go.Operand.const (Go.Value.bool false)), type := 4, pos := "law.go:20", after := #[{ on := 36, ground := Go.Ground.data }, { on := 39, ground := Go.Ground.data }], guard := none }) (v := ?_) rfl (by kernel_rfl) (by kernel_rfl) (by kernel_rfl) (fun _ _ _ h => h) (Or.inl ⟨by rfl, ?_⟩) (by assumption) ?_
  rotate_left
  · intro w hSw
    try dsimp only at hSw
    go_simp
    try with_reducible rfl
  try simp only [Act.put, List.setIfInBounds_toArray, List.set_cons_zero, List.set_cons_succ]
  refine wpAnyH_take (i := 41) (oi := { dst := some 60, op := Go.Op.move (Go.Operand.tmp 59), type := 4, pos := "law.go:20", after := #[{ on := 40, ground := Go.Ground.data }, { on := 38, ground := Go.Ground.chain }], guard := none }) (v := ?_) rfl (by kernel_rfl) (by kernel_rfl) (by kernel_rfl) (fun _ _ _ h => h) (Or.inl ⟨by rfl, ?_⟩) (by assumption) ?_
  rotate_left
  · intro w hSw
    try dsimp only at hSw
    go_simp
    try with_reducible rfl
  try simp only [Act.put, List.setIfInBounds_toArray, List.set_cons_zero, List.set_cons_succ]
  refine wpAnyH_ready (rs := [42]) (by kernel_rfl) (by simp) ?_
  refine AllReadyH.cons (o := { dst := some 61, op := Go.Op.call { callee := Go.Callee.value (Go.Operand.func 29), args := #[Go.Operand.const (Go.Value.string { data := #[49, 69, 48] })], argTypes := #[9] }, type := 4, pos := "law.go:20", after := #[{ on := 41, ground := Go.Ground.chain }, { on := 41, ground := Go.Ground.guard }], guard := some (41, true) }) rfl (fun K hK => ?_) AllReadyH.nil
  go_simp
  refine (L1.out _ (HT.out.1.below (bstep B hHeld.2.2.2.2.2.2.2.2.2.2.2.2)) (HT.out.2.below (bstep B hHeld.2.2.2.2.2.2.2.2.2.2.2.2))).mono ?_
  rintro e v10 ⟨rfl, hbv10⟩
  have HBx := Lib.hid (bstep hHeld.2.2.2.2.2.2.2.2.2.2.2.2 hbv10)
  clear hHeld hbv10
  refine hK.out _ _ ?_ (fun hHeld => ?_)
  · exact keep12 P1.out.1 P2.out.1 P3.out.1 HBx.out
  clear hK K HBx
  try simp only [Act.put, List.setIfInBounds_toArray, List.set_cons_zero, List.set_cons_succ]
  refine wpAnyH_take (i := 43) (oi := { dst := some 62, op := Go.Op.unOp Go.UnOp.not 4 (Go.Operand.tmp 61), type := 4, pos := "law.go:20", after := #[{ on := 42, ground := Go.Ground.data }, { on := 41, ground := Go.Ground.guard }], guard := some (41, true) }) (v := ?_) rfl (by kernel_rfl) (by kernel_rfl) (by kernel_rfl) (fun _ _ _ h => h) (Or.inl ⟨by rfl, ?_⟩) (by assumption) ?_
  rotate_left
  · intro w hSw
    try dsimp only at hSw
    go_simp
    try with_reducible rfl
  try simp only [Act.put, List.setIfInBounds_toArray, List.set_cons_zero, List.set_cons_succ]
  refine wpAnyH_take (i := 44) (oi := { dst := some 63, op := Go.Op.pick (Go.Operand.tmp 60) (Go.Operand.tmp 62) (Go.Operand.const (Go.Value.bool false)), type := 4, pos := "law.go:20", after := #[{ on := 41, ground := Go.Ground.data }, { on := 43, ground := Go.Ground.data }], guard := none }) (v := ?_) rfl (by kernel_rfl) (by kernel_rfl) (by kernel_rfl) (fun _ _ _ h => h) (Or.inl ⟨by rfl, ?_⟩) (by assumption) ?_
  rotate_left
  · intro w hSw
    try dsimp only at hSw
    go_simp
    try with_reducible rfl
  try simp only [Act.put, List.setIfInBounds_toArray, List.set_cons_zero, List.set_cons_succ]
  refine wpAnyH_take (i := 45) (oi := { dst := some 64, op := Go.Op.move (Go.Operand.tmp 63), type := 4, pos := "law.go:20", after := #[{ on := 44, ground := Go.Ground.data }, { on := 42, ground := Go.Ground.chain }], guard := none }) (v := ?_) rfl (by kernel_rfl) (by kernel_rfl) (by kernel_rfl) (fun _ _ _ h => h) (Or.inl ⟨by rfl, ?_⟩) (by assumption) ?_
  rotate_left
  · intro w hSw
    try dsimp only at hSw
    go_simp
    try with_reducible rfl
  try simp only [Act.put, List.setIfInBounds_toArray, List.set_cons_zero, List.set_cons_succ]
  refine wpAnyH_ready (rs := [46]) (by kernel_rfl) (by simp) ?_
  refine AllReadyH.cons (o := { dst := some 65, op := Go.Op.call { callee := Go.Callee.value (Go.Operand.func 29), args := #[Go.Operand.const (Go.Value.string { data := #[50, 46, 53, 48] })], argTypes := #[9] }, type := 4, pos := "law.go:20", after := #[{ on := 45, ground := Go.Ground.chain }, { on := 45, ground := Go.Ground.guard }], guard := some (45, true) }) rfl (fun K hK => ?_) AllReadyH.nil
  go_simp
  refine (L2.out _ (HT.out.1.below (bstep B hHeld.2.2.2.2.2.2.2.2.2.2.2.2)) (HT.out.2.below (bstep B hHeld.2.2.2.2.2.2.2.2.2.2.2.2))).mono ?_
  rintro e v11 ⟨rfl, hbv11⟩
  have HBx := Lib.hid (bstep hHeld.2.2.2.2.2.2.2.2.2.2.2.2 hbv11)
  clear hHeld hbv11
  refine hK.out _ _ ?_ (fun hHeld => ?_)
  · exact keep12 P1.out.1 P2.out.1 P3.out.1 HBx.out
  clear hK K HBx
  try simp only [Act.put, List.setIfInBounds_toArray, List.set_cons_zero, List.set_cons_succ]
  refine wpAnyH_take (i := 47) (oi := { dst := some 66, op := Go.Op.pick (Go.Operand.tmp 64) (Go.Operand.tmp 65) (Go.Operand.const (Go.Value.bool false)), type := 4, pos := "law.go:20", after := #[{ on := 45, ground := Go.Ground.data }, { on := 46, ground := Go.Ground.data }], guard := none }) (v := ?_) rfl (by kernel_rfl) (by kernel_rfl) (by kernel_rfl) (fun _ _ _ h => h) (Or.inl ⟨by rfl, ?_⟩) (by assumption) ?_
  rotate_left
  · intro w hSw
    try dsimp only at hSw
    go_simp
    try with_reducible rfl
  try simp only [Act.put, List.setIfInBounds_toArray, List.set_cons_zero, List.set_cons_succ]
  refine wpAnyH_take (i := 48) (oi := { dst := some 0, op := Go.Op.assign (Go.Operand.tmp 66), type := 4, pos := "law.go:20", after := #[{ on := 47, ground := Go.Ground.data }, { on := 46, ground := Go.Ground.chain }, { on := 0, ground := Go.Ground.phase }, { on := 1, ground := Go.Ground.phase }, { on := 2, ground := Go.Ground.phase }, { on := 3, ground := Go.Ground.phase }, { on := 4, ground := Go.Ground.phase }, { on := 5, ground := Go.Ground.phase }, { on := 6, ground := Go.Ground.phase }, { on := 7, ground := Go.Ground.phase }, { on := 8, ground := Go.Ground.phase }, { on := 9, ground := Go.Ground.phase }, { on := 10, ground := Go.Ground.phase }, { on := 11, ground := Go.Ground.phase }, { on := 12, ground := Go.Ground.phase }, { on := 13, ground := Go.Ground.phase }, { on := 14, ground := Go.Ground.phase }, { on := 15, ground := Go.Ground.phase }, { on := 16, ground := Go.Ground.phase }, { on := 17, ground := Go.Ground.phase }, { on := 18, ground := Go.Ground.phase }, { on := 19, ground := Go.Ground.phase }, { on := 20, ground := Go.Ground.phase }, { on := 21, ground := Go.Ground.phase }, { on := 22, ground := Go.Ground.phase }, { on := 23, ground := Go.Ground.phase }, { on := 24, ground := Go.Ground.phase }, { on := 25, ground := Go.Ground.phase }, { on := 26, ground := Go.Ground.phase }, { on := 27, ground := Go.Ground.phase }, { on := 28, ground := Go.Ground.phase }, { on := 29, ground := Go.Ground.phase }, { on := 30, ground := Go.Ground.phase }, { on := 31, ground := Go.Ground.phase }, { on := 32, ground := Go.Ground.phase }, { on := 33, ground := Go.Ground.phase }, { on := 34, ground := Go.Ground.phase }, { on := 35, ground := Go.Ground.phase }, { on := 36, ground := Go.Ground.phase }, { on := 37, ground := Go.Ground.phase }, { on := 38, ground := Go.Ground.phase }, { on := 39, ground := Go.Ground.phase }, { on := 40, ground := Go.Ground.phase }, { on := 41, ground := Go.Ground.phase }, { on := 42, ground := Go.Ground.phase }, { on := 43, ground := Go.Ground.phase }, { on := 44, ground := Go.Ground.phase }, { on := 45, ground := Go.Ground.phase }, { on := 46, ground := Go.Ground.phase }, { on := 47, ground := Go.Ground.phase }], guard := none }) (v := ?_) rfl (by kernel_rfl) (by kernel_rfl) (by kernel_rfl) (fun _ _ _ h => h) (Or.inl ⟨by rfl, ?_⟩) (by assumption) ?_
  rotate_left
  · intro w hSw
    try dsimp only at hSw
    go_simp
    try with_reducible rfl
  try simp only [Act.put, List.setIfInBounds_toArray, List.set_cons_zero, List.set_cons_succ]
  refine wpAnyH_done (by kernel_rfl) ?_ _
  go_wp2
  go_ret
  exact ⟨rfl, bstep B hHeld.2.2.2.2.2.2.2.2.2.2.2.2⟩

end Go.Proofs.YtmelblnfjcbmjaaDoor

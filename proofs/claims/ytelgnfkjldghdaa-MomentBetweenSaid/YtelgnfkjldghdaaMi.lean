/-
  The statement MomentBetween, walked: it answers true.
-/
import Derived.Test.YtelgnfkjldghdaaMk
namespace Go.Proofs.Ytelgnfkjldghdaa
open Go.RowKit

set_option linter.unusedSimpArgs false in
set_option linter.unusedVariables false in
set_option maxRecDepth 100000 in
set_option maxHeartbeats 16000000 in
theorem between_walk_no (x0 x1 x2 x3 x4 : Int) (xz : Bool) (y0 y1 y2 y3 y4 : Int) (yz : Bool) (z0 z1 z2 z3 z4 : Int) (zz : Bool) (ay am ad as' ao by_ bm bd bs bo cy cm cd cs co : Int) (he : (xz == yz) = false) (MA0 : ∀ w : World, Calls Try.prog 9 #[Rw x0 x1 x2 x3 x4 xz] w (Ret (Mo ay am ad as' xz ao) w)) (MB0 : ∀ w : World, Calls Try.prog 9 #[Rw y0 y1 y2 y3 y4 yz] w (Ret (Mo by_ bm bd bs yz bo) w)) (MC0 : ∀ w : World, Calls Try.prog 9 #[Rw z0 z1 z2 z3 z4 xz] w (Ret (Mo cy cm cd cs xz co) w)) (B10 : ∀ w : World, Calls Try.prog 17 #[Mo ay am ad as' xz ao, Mo by_ bm bd bs yz bo] w (Ret (.tuple #[.int .i64 0, .bool false]) w)) (CC0 : ∀ w : World, Calls Try.prog 20 #[Mo ay am ad as' xz ao, Mo by_ bm bd bs yz bo] w (Ret (.tuple #[.int .i64 0, .bool false]) w)) (w : World) : Calls Try.prog 6 #[Rw x0 x1 x2 x3 x4 xz, Rw y0 y1 y2 y3 y4 yz, Rw z0 z1 z2 z3 z4 zz] w (Ret (.bool true) w) := by
  have AW := Lib.hid awake8
  have MA := Lib.hid MA0
  have MB := Lib.hid MB0
  have MC := Lib.hid MC0
  have B1 := Lib.hid B10
  have CC := Lib.hid CC0
  clear MA0 MB0 MC0 B10 CC0
  go_enter Try.func6, Try.ntmps6
  go_upto_region 1 with fail
  have RX := Lib.hid (HoldsR.alloc (HoldsR.alloc (HoldsR.new rfl) _) _ : HoldsR (((w.alloc (RwC x0 x1 x2 x3 x4 xz)).alloc (RwC y0 y1 y2 y3 y4 yz)).alloc (RwC z0 z1 z2 z3 z4 zz)) w.heap.size x0 x1 x2 x3 x4 xz)
  have RY := Lib.hid (HoldsR.alloc (HoldsR.new (by simp)) _ : HoldsR (((w.alloc (RwC x0 x1 x2 x3 x4 xz)).alloc (RwC y0 y1 y2 y3 y4 yz)).alloc (RwC z0 z1 z2 z3 z4 zz)) (w.heap.size + 1) y0 y1 y2 y3 y4 yz)
  have RZ := Lib.hid (HoldsR.new (by simp) : HoldsR (((w.alloc (RwC x0 x1 x2 x3 x4 xz)).alloc (RwC y0 y1 y2 y3 y4 yz)).alloc (RwC z0 z1 z2 z3 z4 zz)) (w.heap.size + 1 + 1) z0 z1 z2 z3 z4 zz)
  have B := ballD1 (ballD1 (ballD1 (Below.refl w.heap.size w) (RwC x0 x1 x2 x3 x4 xz)) (RwC y0 y1 y2 y3 y4 yz)) (RwC z0 z1 z2 z3 z4 zz)
  change Code.wp _ _ _ _ (((w.alloc (RwC x0 x1 x2 x3 x4 xz)).alloc (RwC y0 y1 y2 y3 y4 yz)).alloc (RwC z0 z1 z2 z3 z4 zz))
  generalize (((w.alloc (RwC x0 x1 x2 x3 x4 xz)).alloc (RwC y0 y1 y2 y3 y4 yz)).alloc (RwC z0 z1 z2 z3 z4 zz)) = w0 at *
  obtain ⟨⟨c0_0, c0_1, c0_2, c0_3, c0_4, c0_5⟩, -, c0z⟩ := RX.out
  obtain ⟨⟨c1_0, c1_1, c1_2, c1_3, c1_4, c1_5⟩, -, c1z⟩ := RY.out
  obtain ⟨⟨c2_0, c2_1, c2_2, c2_3, c2_4, c2_5⟩, -, c2z⟩ := RZ.out
  go_wp2_with fail
  refine (AW.out _).mono ?_
  rintro e w1 ⟨rfl, hb⟩
  replace RX := Lib.hid (RX.out.below hb)
  replace RY := Lib.hid (RY.out.below hb)
  replace RZ := Lib.hid (RZ.out.below hb)
  replace B := bstep B hb
  clear hb AW
  clear c0_0 c0_1 c0_2 c0_3 c0_4 c0_5 c0z c1_0 c1_1 c1_2 c1_3 c1_4 c1_5 c1z c2_0 c2_1 c2_2 c2_3 c2_4 c2_5 c2z
  go_upto_region 3 with fail
  generalize w1 = V at *
  have sz : w.heap.size + 1 + 1 < V.heap.size := RZ.out.2.2
  refine region_via (fun a a' w' => ∃ gA gB : Nat, a' = ((((((a.put (some 22) (Rw x0 x1 x2 x3 x4 xz)).put (some 23) (Mo ay am ad as' xz ao)).put (some 24) (Rw y0 y1 y2 y3 y4 yz)).put (some 25) (Mo by_ bm bd bs yz bo)).put (some 7) (.pointer (some ⟨gA, 0, none⟩))).put (some 8) (.pointer (some ⟨gB, 0, none⟩))) ∧ HoldsR w' w.heap.size x0 x1 x2 x3 x4 xz ∧ HoldsR w' (w.heap.size + 1) y0 y1 y2 y3 y4 yz ∧ HoldsR w' (w.heap.size + 1 + 1) z0 z1 z2 z3 z4 zz ∧ HoldsN w' gA ay am ad as' xz ao ∧ HoldsN w' gB by_ bm bd bs yz bo ∧ V.heap.size ≤ gA ∧ V.heap.size ≤ gB ∧ Below w.heap.size w w') ?_ ?_
  · refine wp_region_held_drew (S := fun w' => w'.cell? ⟨w.heap.size, 0, none⟩ = some (.int .i64 x0) ∧ w'.cell? ⟨w.heap.size, 1, none⟩ = some (.int .i64 x1) ∧ w'.cell? ⟨w.heap.size, 2, none⟩ = some (.int .i64 x2) ∧ w'.cell? ⟨w.heap.size, 3, none⟩ = some (.int .i64 x3) ∧ w'.cell? ⟨w.heap.size, 4, none⟩ = some (.int .i64 x4) ∧ w'.cell? ⟨w.heap.size, 5, none⟩ = some (.bool xz) ∧ w'.cell? ⟨(w.heap.size + 1), 0, none⟩ = some (.int .i64 y0) ∧ w'.cell? ⟨(w.heap.size + 1), 1, none⟩ = some (.int .i64 y1) ∧ w'.cell? ⟨(w.heap.size + 1), 2, none⟩ = some (.int .i64 y2) ∧ w'.cell? ⟨(w.heap.size + 1), 3, none⟩ = some (.int .i64 y3) ∧ w'.cell? ⟨(w.heap.size + 1), 4, none⟩ = some (.int .i64 y4) ∧ w'.cell? ⟨(w.heap.size + 1), 5, none⟩ = some (.bool yz) ∧ Below w.heap.size w w') (by kernel_rfl) ?_ (fun hHeld => ?_)
    · exact ⟨RX.out.1.1, RX.out.1.2.1, RX.out.1.2.2.1, RX.out.1.2.2.2.1, RX.out.1.2.2.2.2.1, RX.out.1.2.2.2.2.2, RY.out.1.1, RY.out.1.2.1, RY.out.1.2.2.1, RY.out.1.2.2.2.1, RY.out.1.2.2.2.2.1, RY.out.1.2.2.2.2.2, B.drew⟩
    replace RX := Lib.hid RX.out.drew
    replace RY := Lib.hid RY.out.drew
    replace RZ := Lib.hid RZ.out.drew
    have le0 : V.heap.size ≤ V.drew.heap.size := Nat.le_refl _
    generalize V.drew = v0 at *
    refine wpAnyH_take (i := 0) (oi := { dst := some 22, op := Go.Op.load 23 (Go.Operand.tmp 3), type := 23, pos := "law.go:99", after := #[], guard := none }) (v := ?_) rfl (by kernel_rfl) (by kernel_rfl) (by kernel_rfl) (fun _ _ _ h => h) (Or.inl ⟨by rfl, ?_⟩) (by assumption) ?_
    rotate_left
    · intro w hSw
      try dsimp only at hSw
      go_simp
      try with_reducible rfl
    try simp only [Act.put, List.setIfInBounds_toArray, List.set_cons_zero, List.set_cons_succ]
    refine wpAnyH_take (i := 2) (oi := { dst := some 24, op := Go.Op.load 23 (Go.Operand.tmp 4), type := 23, pos := "law.go:99", after := #[], guard := none }) (v := ?_) rfl (by kernel_rfl) (by kernel_rfl) (by kernel_rfl) (fun _ _ _ h => h) (Or.inl ⟨by rfl, ?_⟩) (by assumption) ?_
    rotate_left
    · intro w hSw
      try dsimp only at hSw
      go_simp
      try with_reducible rfl
    try simp only [Act.put, List.setIfInBounds_toArray, List.set_cons_zero, List.set_cons_succ]
    refine wpAnyH_ready (rs := [1, 4, 5]) (by kernel_rfl) (by simp) ?_
    refine AllReadyH.cons (o := { dst := some 23, op := Go.Op.call { callee := Go.Callee.value (Go.Operand.func 9), args := #[Go.Operand.tmp 22], argTypes := #[23] }, type := 29, pos := "law.go:99", after := #[{ on := 0, ground := Go.Ground.data }], guard := none }) rfl (fun K hK => ?_) (AllReadyH.cons (o := { dst := some 7, op := Go.Op.alloc 29, type := 0, pos := "law.go:99", after := #[], guard := none }) rfl (fun K hK => ?_) (AllReadyH.cons (o := { dst := some 8, op := Go.Op.alloc 29, type := 0, pos := "law.go:99", after := #[], guard := none }) rfl (fun K hK => ?_) AllReadyH.nil))
    · go_simp
      refine (MA.out _).mono ?_
      rintro e v1 ⟨rfl, hbv⟩
      replace RX := Lib.hid (RX.out.below hbv)
      replace RY := Lib.hid (RY.out.below hbv)
      replace RZ := Lib.hid (RZ.out.below hbv)
      have HBx := Lib.hid (bstep hHeld.2.2.2.2.2.2.2.2.2.2.2.2 hbv)
      replace le0 := Nat.le_trans le0 hbv.size
      clear hHeld hbv
      refine hK.out _ _ ?_ (fun hHeld => ?_)
      · exact ⟨RX.out.1.1, RX.out.1.2.1, RX.out.1.2.2.1, RX.out.1.2.2.2.1, RX.out.1.2.2.2.2.1, RX.out.1.2.2.2.2.2, RY.out.1.1, RY.out.1.2.1, RY.out.1.2.2.1, RY.out.1.2.2.2.1, RY.out.1.2.2.2.2.1, RY.out.1.2.2.2.2.2, HBx.out⟩
      clear hK K HBx
      try simp only [Act.put, List.setIfInBounds_toArray, List.set_cons_zero, List.set_cons_succ]
      refine wpAnyH_ready (rs := [3, 4, 5]) (by kernel_rfl) (by simp) ?_
      refine AllReadyH.cons (o := { dst := some 25, op := Go.Op.call { callee := Go.Callee.value (Go.Operand.func 9), args := #[Go.Operand.tmp 24], argTypes := #[23] }, type := 29, pos := "law.go:99", after := #[{ on := 2, ground := Go.Ground.data }, { on := 1, ground := Go.Ground.chain }], guard := none }) rfl (fun K hK => ?_) (AllReadyH.cons (o := { dst := some 7, op := Go.Op.alloc 29, type := 0, pos := "law.go:99", after := #[], guard := none }) rfl (fun K hK => ?_) (AllReadyH.cons (o := { dst := some 8, op := Go.Op.alloc 29, type := 0, pos := "law.go:99", after := #[], guard := none }) rfl (fun K hK => ?_) AllReadyH.nil))
      · go_simp
        refine (MB.out _).mono ?_
        rintro e v2 ⟨rfl, hbv⟩
        replace RX := Lib.hid (RX.out.below hbv)
        replace RY := Lib.hid (RY.out.below hbv)
        replace RZ := Lib.hid (RZ.out.below hbv)
        have HBx := Lib.hid (bstep hHeld.2.2.2.2.2.2.2.2.2.2.2.2 hbv)
        replace le0 := Nat.le_trans le0 hbv.size
        clear hHeld hbv
        refine hK.out _ _ ?_ (fun hHeld => ?_)
        · exact ⟨RX.out.1.1, RX.out.1.2.1, RX.out.1.2.2.1, RX.out.1.2.2.2.1, RX.out.1.2.2.2.2.1, RX.out.1.2.2.2.2.2, RY.out.1.1, RY.out.1.2.1, RY.out.1.2.2.1, RY.out.1.2.2.2.1, RY.out.1.2.2.2.2.1, RY.out.1.2.2.2.2.2, HBx.out⟩
        clear hK K HBx
        try simp only [Act.put, List.setIfInBounds_toArray, List.set_cons_zero, List.set_cons_succ]
        refine wpAnyH_ready (rs := [4, 5]) (by kernel_rfl) (by simp) ?_
        refine AllReadyH.cons (o := { dst := some 7, op := Go.Op.alloc 29, type := 0, pos := "law.go:99", after := #[], guard := none }) rfl (fun K hK => ?_) (AllReadyH.cons (o := { dst := some 8, op := Go.Op.alloc 29, type := 0, pos := "law.go:99", after := #[], guard := none }) rfl (fun K hK => ?_) AllReadyH.nil)
        · go_simp
          replace RX := Lib.hid (RX.out.alloc (MoC 0 0 0 0 false 0))
          replace RY := Lib.hid (RY.out.alloc (MoC 0 0 0 0 false 0))
          replace RZ := Lib.hid (RZ.out.alloc (MoC 0 0 0 0 false 0))
          have PA := Lib.hid (HoldsN.new rfl : HoldsN (v2.alloc (MoC 0 0 0 0 false 0)) v2.heap.size 0 0 0 0 false 0)
          have lePA := le0
          replace le0 := Nat.le_trans le0 (Below.alloc (Below.refl v2.heap.size v2) (Nat.le_refl _) (MoC 0 0 0 0 false 0)).size
          have HBx := Lib.hid (ballD1 hHeld.2.2.2.2.2.2.2.2.2.2.2.2 (MoC 0 0 0 0 false 0))
          clear hHeld
          refine hK.out _ _ ?_ (fun hHeld => ?_)
          · exact ⟨RX.out.1.1, RX.out.1.2.1, RX.out.1.2.2.1, RX.out.1.2.2.2.1, RX.out.1.2.2.2.2.1, RX.out.1.2.2.2.2.2, RY.out.1.1, RY.out.1.2.1, RY.out.1.2.2.1, RY.out.1.2.2.2.1, RY.out.1.2.2.2.2.1, RY.out.1.2.2.2.2.2, HBx.out⟩
          clear hK K HBx
          try simp only [Act.put, List.setIfInBounds_toArray, List.set_cons_zero, List.set_cons_succ]
          generalize v2.alloc (MoC 0 0 0 0 false 0) = v3 at *
          obtain ⟨gA, hg⟩ : ∃ g, g = v2.heap.size := ⟨_, rfl⟩
          rw [← hg] at PA lePA ⊢
          clear hg
          refine wpAnyH_ready (rs := [5]) (by kernel_rfl) (by simp) ?_
          refine AllReadyH.cons (o := { dst := some 8, op := Go.Op.alloc 29, type := 0, pos := "law.go:99", after := #[], guard := none }) rfl (fun K hK => ?_) AllReadyH.nil
          go_simp
          have ne := Nat.ne_of_lt PA.out.2.2
          replace RX := Lib.hid (RX.out.alloc (MoC 0 0 0 0 false 0))
          replace RY := Lib.hid (RY.out.alloc (MoC 0 0 0 0 false 0))
          replace RZ := Lib.hid (RZ.out.alloc (MoC 0 0 0 0 false 0))
          replace PA := Lib.hid (PA.out.alloc (MoC 0 0 0 0 false 0))
          have PB := Lib.hid (HoldsN.new rfl : HoldsN (v3.alloc (MoC 0 0 0 0 false 0)) v3.heap.size 0 0 0 0 false 0)
          have lePB := le0
          replace le0 := Nat.le_trans le0 (Below.alloc (Below.refl v3.heap.size v3) (Nat.le_refl _) (MoC 0 0 0 0 false 0)).size
          have HBx := Lib.hid (ballD1 hHeld.2.2.2.2.2.2.2.2.2.2.2.2 (MoC 0 0 0 0 false 0))
          clear hHeld
          refine hK.out _ _ ?_ (fun hHeld => ?_)
          · exact ⟨RX.out.1.1, RX.out.1.2.1, RX.out.1.2.2.1, RX.out.1.2.2.2.1, RX.out.1.2.2.2.2.1, RX.out.1.2.2.2.2.2, RY.out.1.1, RY.out.1.2.1, RY.out.1.2.2.1, RY.out.1.2.2.2.1, RY.out.1.2.2.2.2.1, RY.out.1.2.2.2.2.2, HBx.out⟩
          clear hK K HBx
          try simp only [Act.put, List.setIfInBounds_toArray, List.set_cons_zero, List.set_cons_succ]
          generalize v3.alloc (MoC 0 0 0 0 false 0) = v4 at *
          obtain ⟨gB, hg⟩ : ∃ g, g = v3.heap.size := ⟨_, rfl⟩
          rw [← hg] at PB lePB ne ⊢
          clear hg
          obtain ⟨⟨d0, d1, d2, d3, d4, d5⟩, ⟨f0, f1, f2, f3, f4, f5⟩, f6⟩ := id PA.out
          refine wpAnyH_ready (rs := [6]) (by kernel_rfl) (by simp) ?_
          refine AllReadyH.cons (o := { dst := none, op := Go.Op.store 29 (Go.Operand.tmp 7) (Go.Operand.tmp 23), type := 0, pos := "law.go:99", after := #[{ on := 4, ground := Go.Ground.data }, { on := 1, ground := Go.Ground.data }, { on := 3, ground := Go.Ground.chain }, { on := 0, ground := Go.Ground.phase }, { on := 1, ground := Go.Ground.phase }, { on := 2, ground := Go.Ground.textOnly Go.Departure.lateStores }, { on := 3, ground := Go.Ground.textOnly Go.Departure.lateStoresUnsure }, { on := 4, ground := Go.Ground.phase }, { on := 5, ground := Go.Ground.phase }], guard := none }) rfl (fun K hK => ?_) AllReadyH.nil
          go_simp
          clear f0 f1 f2 f3 f4 f5 f6 d0 d1 d2 d3 d4 d5
          have HBx := Lib.hid (B6 hHeld.2.2.2.2.2.2.2.2.2.2.2.2 (g := gA) (by omega) (.int .i64 ay) (.int .i64 am) (.int .i64 ad) (.int .i64 as') (.bool xz) (.int .i64 ao))
          replace RX := Lib.hid (far6 RX.out (g := gA) (by omega) (.int .i64 ay) (.int .i64 am) (.int .i64 ad) (.int .i64 as') (.bool xz) (.int .i64 ao))
          replace RY := Lib.hid (far6 RY.out (g := gA) (by omega) (.int .i64 ay) (.int .i64 am) (.int .i64 ad) (.int .i64 as') (.bool xz) (.int .i64 ao))
          replace RZ := Lib.hid (far6 RZ.out (g := gA) (by omega) (.int .i64 ay) (.int .i64 am) (.int .i64 ad) (.int .i64 as') (.bool xz) (.int .i64 ao))
          replace PB := Lib.hid (PB.out.far6 (g := gA) ne.symm (.int .i64 ay) (.int .i64 am) (.int .i64 ad) (.int .i64 as') (.bool xz) (.int .i64 ao))
          replace PA := Lib.hid (PA.out.put (y := ay) (m := am) (d := ad) (s := as') (z := xz) (o := ao))
          clear hHeld
          refine hK.out _ _ ?_ (fun hHeld => ?_)
          · exact ⟨RX.out.1.1, RX.out.1.2.1, RX.out.1.2.2.1, RX.out.1.2.2.2.1, RX.out.1.2.2.2.2.1, RX.out.1.2.2.2.2.2, RY.out.1.1, RY.out.1.2.1, RY.out.1.2.2.1, RY.out.1.2.2.2.1, RY.out.1.2.2.2.2.1, RY.out.1.2.2.2.2.2, HBx.out⟩
          clear hK K HBx
          try simp only [Act.put, List.setIfInBounds_toArray, List.set_cons_zero, List.set_cons_succ]
          obtain ⟨⟨d0, d1, d2, d3, d4, d5⟩, ⟨f0, f1, f2, f3, f4, f5⟩, f6⟩ := id PB.out
          refine wpAnyH_ready (rs := [7]) (by kernel_rfl) (by simp) ?_
          refine AllReadyH.cons (o := { dst := none, op := Go.Op.store 29 (Go.Operand.tmp 8) (Go.Operand.tmp 25), type := 0, pos := "law.go:99", after := #[{ on := 5, ground := Go.Ground.data }, { on := 3, ground := Go.Ground.data }, { on := 6, ground := Go.Ground.chain }, { on := 0, ground := Go.Ground.phase }, { on := 1, ground := Go.Ground.phase }, { on := 2, ground := Go.Ground.phase }, { on := 3, ground := Go.Ground.phase }, { on := 4, ground := Go.Ground.phase }, { on := 5, ground := Go.Ground.phase }, { on := 6, ground := Go.Ground.phase }], guard := none }) rfl (fun K hK => ?_) AllReadyH.nil
          go_simp
          clear f0 f1 f2 f3 f4 f5 f6 d0 d1 d2 d3 d4 d5
          have HBx := Lib.hid (B6 hHeld.2.2.2.2.2.2.2.2.2.2.2.2 (g := gB) (by omega) (.int .i64 by_) (.int .i64 bm) (.int .i64 bd) (.int .i64 bs) (.bool yz) (.int .i64 bo))
          replace RX := Lib.hid (far6 RX.out (g := gB) (by omega) (.int .i64 by_) (.int .i64 bm) (.int .i64 bd) (.int .i64 bs) (.bool yz) (.int .i64 bo))
          replace RY := Lib.hid (far6 RY.out (g := gB) (by omega) (.int .i64 by_) (.int .i64 bm) (.int .i64 bd) (.int .i64 bs) (.bool yz) (.int .i64 bo))
          replace RZ := Lib.hid (far6 RZ.out (g := gB) (by omega) (.int .i64 by_) (.int .i64 bm) (.int .i64 bd) (.int .i64 bs) (.bool yz) (.int .i64 bo))
          replace PA := Lib.hid (PA.out.far6 (g := gB) ne (.int .i64 by_) (.int .i64 bm) (.int .i64 bd) (.int .i64 bs) (.bool yz) (.int .i64 bo))
          replace PB := Lib.hid (PB.out.put (y := by_) (m := bm) (d := bd) (s := bs) (z := yz) (o := bo))
          clear hHeld
          refine hK.out _ _ ?_ (fun hHeld => ?_)
          · exact ⟨RX.out.1.1, RX.out.1.2.1, RX.out.1.2.2.1, RX.out.1.2.2.2.1, RX.out.1.2.2.2.2.1, RX.out.1.2.2.2.2.2, RY.out.1.1, RY.out.1.2.1, RY.out.1.2.2.1, RY.out.1.2.2.2.1, RY.out.1.2.2.2.2.1, RY.out.1.2.2.2.2.2, HBx.out⟩
          clear hK K HBx
          try simp only [Act.put, List.setIfInBounds_toArray, List.set_cons_zero, List.set_cons_succ]
          refine wpAnyH_done (by kernel_rfl) ?_ _
          exact ⟨gA, gB, rfl, RX.out, RY.out, RZ.out, PA.out, PB.out, lePA, lePB, hHeld.2.2.2.2.2.2.2.2.2.2.2.2⟩
        · go_simp
          replace RX := Lib.hid (RX.out.alloc (MoC 0 0 0 0 false 0))
          replace RY := Lib.hid (RY.out.alloc (MoC 0 0 0 0 false 0))
          replace RZ := Lib.hid (RZ.out.alloc (MoC 0 0 0 0 false 0))
          have PB := Lib.hid (HoldsN.new rfl : HoldsN (v2.alloc (MoC 0 0 0 0 false 0)) v2.heap.size 0 0 0 0 false 0)
          have lePB := le0
          replace le0 := Nat.le_trans le0 (Below.alloc (Below.refl v2.heap.size v2) (Nat.le_refl _) (MoC 0 0 0 0 false 0)).size
          have HBx := Lib.hid (ballD1 hHeld.2.2.2.2.2.2.2.2.2.2.2.2 (MoC 0 0 0 0 false 0))
          clear hHeld
          refine hK.out _ _ ?_ (fun hHeld => ?_)
          · exact ⟨RX.out.1.1, RX.out.1.2.1, RX.out.1.2.2.1, RX.out.1.2.2.2.1, RX.out.1.2.2.2.2.1, RX.out.1.2.2.2.2.2, RY.out.1.1, RY.out.1.2.1, RY.out.1.2.2.1, RY.out.1.2.2.2.1, RY.out.1.2.2.2.2.1, RY.out.1.2.2.2.2.2, HBx.out⟩
          clear hK K HBx
          try simp only [Act.put, List.setIfInBounds_toArray, List.set_cons_zero, List.set_cons_succ]
          generalize v2.alloc (MoC 0 0 0 0 false 0) = v3 at *
          obtain ⟨gB, hg⟩ : ∃ g, g = v2.heap.size := ⟨_, rfl⟩
          rw [← hg] at PB lePB ⊢
          clear hg
          refine wpAnyH_ready (rs := [4]) (by kernel_rfl) (by simp) ?_
          refine AllReadyH.cons (o := { dst := some 7, op := Go.Op.alloc 29, type := 0, pos := "law.go:99", after := #[], guard := none }) rfl (fun K hK => ?_) AllReadyH.nil
          go_simp
          have ne := Nat.ne_of_lt PB.out.2.2
          replace RX := Lib.hid (RX.out.alloc (MoC 0 0 0 0 false 0))
          replace RY := Lib.hid (RY.out.alloc (MoC 0 0 0 0 false 0))
          replace RZ := Lib.hid (RZ.out.alloc (MoC 0 0 0 0 false 0))
          replace PB := Lib.hid (PB.out.alloc (MoC 0 0 0 0 false 0))
          have PA := Lib.hid (HoldsN.new rfl : HoldsN (v3.alloc (MoC 0 0 0 0 false 0)) v3.heap.size 0 0 0 0 false 0)
          have lePA := le0
          replace le0 := Nat.le_trans le0 (Below.alloc (Below.refl v3.heap.size v3) (Nat.le_refl _) (MoC 0 0 0 0 false 0)).size
          have HBx := Lib.hid (ballD1 hHeld.2.2.2.2.2.2.2.2.2.2.2.2 (MoC 0 0 0 0 false 0))
          clear hHeld
          refine hK.out _ _ ?_ (fun hHeld => ?_)
          · exact ⟨RX.out.1.1, RX.out.1.2.1, RX.out.1.2.2.1, RX.out.1.2.2.2.1, RX.out.1.2.2.2.2.1, RX.out.1.2.2.2.2.2, RY.out.1.1, RY.out.1.2.1, RY.out.1.2.2.1, RY.out.1.2.2.2.1, RY.out.1.2.2.2.2.1, RY.out.1.2.2.2.2.2, HBx.out⟩
          clear hK K HBx
          try simp only [Act.put, List.setIfInBounds_toArray, List.set_cons_zero, List.set_cons_succ]
          generalize v3.alloc (MoC 0 0 0 0 false 0) = v4 at *
          obtain ⟨gA, hg⟩ : ∃ g, g = v3.heap.size := ⟨_, rfl⟩
          rw [← hg] at PA lePA ne ⊢
          clear hg
          replace ne := ne.symm
          obtain ⟨⟨d0, d1, d2, d3, d4, d5⟩, ⟨f0, f1, f2, f3, f4, f5⟩, f6⟩ := id PA.out
          refine wpAnyH_ready (rs := [6]) (by kernel_rfl) (by simp) ?_
          refine AllReadyH.cons (o := { dst := none, op := Go.Op.store 29 (Go.Operand.tmp 7) (Go.Operand.tmp 23), type := 0, pos := "law.go:99", after := #[{ on := 4, ground := Go.Ground.data }, { on := 1, ground := Go.Ground.data }, { on := 3, ground := Go.Ground.chain }, { on := 0, ground := Go.Ground.phase }, { on := 1, ground := Go.Ground.phase }, { on := 2, ground := Go.Ground.textOnly Go.Departure.lateStores }, { on := 3, ground := Go.Ground.textOnly Go.Departure.lateStoresUnsure }, { on := 4, ground := Go.Ground.phase }, { on := 5, ground := Go.Ground.phase }], guard := none }) rfl (fun K hK => ?_) AllReadyH.nil
          go_simp
          clear f0 f1 f2 f3 f4 f5 f6 d0 d1 d2 d3 d4 d5
          have HBx := Lib.hid (B6 hHeld.2.2.2.2.2.2.2.2.2.2.2.2 (g := gA) (by omega) (.int .i64 ay) (.int .i64 am) (.int .i64 ad) (.int .i64 as') (.bool xz) (.int .i64 ao))
          replace RX := Lib.hid (far6 RX.out (g := gA) (by omega) (.int .i64 ay) (.int .i64 am) (.int .i64 ad) (.int .i64 as') (.bool xz) (.int .i64 ao))
          replace RY := Lib.hid (far6 RY.out (g := gA) (by omega) (.int .i64 ay) (.int .i64 am) (.int .i64 ad) (.int .i64 as') (.bool xz) (.int .i64 ao))
          replace RZ := Lib.hid (far6 RZ.out (g := gA) (by omega) (.int .i64 ay) (.int .i64 am) (.int .i64 ad) (.int .i64 as') (.bool xz) (.int .i64 ao))
          replace PB := Lib.hid (PB.out.far6 (g := gA) ne.symm (.int .i64 ay) (.int .i64 am) (.int .i64 ad) (.int .i64 as') (.bool xz) (.int .i64 ao))
          replace PA := Lib.hid (PA.out.put (y := ay) (m := am) (d := ad) (s := as') (z := xz) (o := ao))
          clear hHeld
          refine hK.out _ _ ?_ (fun hHeld => ?_)
          · exact ⟨RX.out.1.1, RX.out.1.2.1, RX.out.1.2.2.1, RX.out.1.2.2.2.1, RX.out.1.2.2.2.2.1, RX.out.1.2.2.2.2.2, RY.out.1.1, RY.out.1.2.1, RY.out.1.2.2.1, RY.out.1.2.2.2.1, RY.out.1.2.2.2.2.1, RY.out.1.2.2.2.2.2, HBx.out⟩
          clear hK K HBx
          try simp only [Act.put, List.setIfInBounds_toArray, List.set_cons_zero, List.set_cons_succ]
          obtain ⟨⟨d0, d1, d2, d3, d4, d5⟩, ⟨f0, f1, f2, f3, f4, f5⟩, f6⟩ := id PB.out
          refine wpAnyH_ready (rs := [7]) (by kernel_rfl) (by simp) ?_
          refine AllReadyH.cons (o := { dst := none, op := Go.Op.store 29 (Go.Operand.tmp 8) (Go.Operand.tmp 25), type := 0, pos := "law.go:99", after := #[{ on := 5, ground := Go.Ground.data }, { on := 3, ground := Go.Ground.data }, { on := 6, ground := Go.Ground.chain }, { on := 0, ground := Go.Ground.phase }, { on := 1, ground := Go.Ground.phase }, { on := 2, ground := Go.Ground.phase }, { on := 3, ground := Go.Ground.phase }, { on := 4, ground := Go.Ground.phase }, { on := 5, ground := Go.Ground.phase }, { on := 6, ground := Go.Ground.phase }], guard := none }) rfl (fun K hK => ?_) AllReadyH.nil
          go_simp
          clear f0 f1 f2 f3 f4 f5 f6 d0 d1 d2 d3 d4 d5
          have HBx := Lib.hid (B6 hHeld.2.2.2.2.2.2.2.2.2.2.2.2 (g := gB) (by omega) (.int .i64 by_) (.int .i64 bm) (.int .i64 bd) (.int .i64 bs) (.bool yz) (.int .i64 bo))
          replace RX := Lib.hid (far6 RX.out (g := gB) (by omega) (.int .i64 by_) (.int .i64 bm) (.int .i64 bd) (.int .i64 bs) (.bool yz) (.int .i64 bo))
          replace RY := Lib.hid (far6 RY.out (g := gB) (by omega) (.int .i64 by_) (.int .i64 bm) (.int .i64 bd) (.int .i64 bs) (.bool yz) (.int .i64 bo))
          replace RZ := Lib.hid (far6 RZ.out (g := gB) (by omega) (.int .i64 by_) (.int .i64 bm) (.int .i64 bd) (.int .i64 bs) (.bool yz) (.int .i64 bo))
          replace PA := Lib.hid (PA.out.far6 (g := gB) ne (.int .i64 by_) (.int .i64 bm) (.int .i64 bd) (.int .i64 bs) (.bool yz) (.int .i64 bo))
          replace PB := Lib.hid (PB.out.put (y := by_) (m := bm) (d := bd) (s := bs) (z := yz) (o := bo))
          clear hHeld
          refine hK.out _ _ ?_ (fun hHeld => ?_)
          · exact ⟨RX.out.1.1, RX.out.1.2.1, RX.out.1.2.2.1, RX.out.1.2.2.2.1, RX.out.1.2.2.2.2.1, RX.out.1.2.2.2.2.2, RY.out.1.1, RY.out.1.2.1, RY.out.1.2.2.1, RY.out.1.2.2.2.1, RY.out.1.2.2.2.2.1, RY.out.1.2.2.2.2.2, HBx.out⟩
          clear hK K HBx
          try simp only [Act.put, List.setIfInBounds_toArray, List.set_cons_zero, List.set_cons_succ]
          refine wpAnyH_done (by kernel_rfl) ?_ _
          exact ⟨gA, gB, rfl, RX.out, RY.out, RZ.out, PA.out, PB.out, lePA, lePB, hHeld.2.2.2.2.2.2.2.2.2.2.2.2⟩
      · go_simp
        replace RX := Lib.hid (RX.out.alloc (MoC 0 0 0 0 false 0))
        replace RY := Lib.hid (RY.out.alloc (MoC 0 0 0 0 false 0))
        replace RZ := Lib.hid (RZ.out.alloc (MoC 0 0 0 0 false 0))
        have PA := Lib.hid (HoldsN.new rfl : HoldsN (v1.alloc (MoC 0 0 0 0 false 0)) v1.heap.size 0 0 0 0 false 0)
        have lePA := le0
        replace le0 := Nat.le_trans le0 (Below.alloc (Below.refl v1.heap.size v1) (Nat.le_refl _) (MoC 0 0 0 0 false 0)).size
        have HBx := Lib.hid (ballD1 hHeld.2.2.2.2.2.2.2.2.2.2.2.2 (MoC 0 0 0 0 false 0))
        clear hHeld
        refine hK.out _ _ ?_ (fun hHeld => ?_)
        · exact ⟨RX.out.1.1, RX.out.1.2.1, RX.out.1.2.2.1, RX.out.1.2.2.2.1, RX.out.1.2.2.2.2.1, RX.out.1.2.2.2.2.2, RY.out.1.1, RY.out.1.2.1, RY.out.1.2.2.1, RY.out.1.2.2.2.1, RY.out.1.2.2.2.2.1, RY.out.1.2.2.2.2.2, HBx.out⟩
        clear hK K HBx
        try simp only [Act.put, List.setIfInBounds_toArray, List.set_cons_zero, List.set_cons_succ]
        generalize v1.alloc (MoC 0 0 0 0 false 0) = v2 at *
        obtain ⟨gA, hg⟩ : ∃ g, g = v1.heap.size := ⟨_, rfl⟩
        rw [← hg] at PA lePA ⊢
        clear hg
        refine wpAnyH_ready (rs := [3, 5]) (by kernel_rfl) (by simp) ?_
        refine AllReadyH.cons (o := { dst := some 25, op := Go.Op.call { callee := Go.Callee.value (Go.Operand.func 9), args := #[Go.Operand.tmp 24], argTypes := #[23] }, type := 29, pos := "law.go:99", after := #[{ on := 2, ground := Go.Ground.data }, { on := 1, ground := Go.Ground.chain }], guard := none }) rfl (fun K hK => ?_) (AllReadyH.cons (o := { dst := some 8, op := Go.Op.alloc 29, type := 0, pos := "law.go:99", after := #[], guard := none }) rfl (fun K hK => ?_) AllReadyH.nil)
        · go_simp
          refine (MB.out _).mono ?_
          rintro e v3 ⟨rfl, hbv⟩
          replace RX := Lib.hid (RX.out.below hbv)
          replace RY := Lib.hid (RY.out.below hbv)
          replace RZ := Lib.hid (RZ.out.below hbv)
          replace PA := Lib.hid (PA.out.below hbv)
          have HBx := Lib.hid (bstep hHeld.2.2.2.2.2.2.2.2.2.2.2.2 hbv)
          replace le0 := Nat.le_trans le0 hbv.size
          clear hHeld hbv
          refine hK.out _ _ ?_ (fun hHeld => ?_)
          · exact ⟨RX.out.1.1, RX.out.1.2.1, RX.out.1.2.2.1, RX.out.1.2.2.2.1, RX.out.1.2.2.2.2.1, RX.out.1.2.2.2.2.2, RY.out.1.1, RY.out.1.2.1, RY.out.1.2.2.1, RY.out.1.2.2.2.1, RY.out.1.2.2.2.2.1, RY.out.1.2.2.2.2.2, HBx.out⟩
          clear hK K HBx
          try simp only [Act.put, List.setIfInBounds_toArray, List.set_cons_zero, List.set_cons_succ]
          refine wpAnyH_ready (rs := [5]) (by kernel_rfl) (by simp) ?_
          refine AllReadyH.cons (o := { dst := some 8, op := Go.Op.alloc 29, type := 0, pos := "law.go:99", after := #[], guard := none }) rfl (fun K hK => ?_) AllReadyH.nil
          go_simp
          have ne := Nat.ne_of_lt PA.out.2.2
          replace RX := Lib.hid (RX.out.alloc (MoC 0 0 0 0 false 0))
          replace RY := Lib.hid (RY.out.alloc (MoC 0 0 0 0 false 0))
          replace RZ := Lib.hid (RZ.out.alloc (MoC 0 0 0 0 false 0))
          replace PA := Lib.hid (PA.out.alloc (MoC 0 0 0 0 false 0))
          have PB := Lib.hid (HoldsN.new rfl : HoldsN (v3.alloc (MoC 0 0 0 0 false 0)) v3.heap.size 0 0 0 0 false 0)
          have lePB := le0
          replace le0 := Nat.le_trans le0 (Below.alloc (Below.refl v3.heap.size v3) (Nat.le_refl _) (MoC 0 0 0 0 false 0)).size
          have HBx := Lib.hid (ballD1 hHeld.2.2.2.2.2.2.2.2.2.2.2.2 (MoC 0 0 0 0 false 0))
          clear hHeld
          refine hK.out _ _ ?_ (fun hHeld => ?_)
          · exact ⟨RX.out.1.1, RX.out.1.2.1, RX.out.1.2.2.1, RX.out.1.2.2.2.1, RX.out.1.2.2.2.2.1, RX.out.1.2.2.2.2.2, RY.out.1.1, RY.out.1.2.1, RY.out.1.2.2.1, RY.out.1.2.2.2.1, RY.out.1.2.2.2.2.1, RY.out.1.2.2.2.2.2, HBx.out⟩
          clear hK K HBx
          try simp only [Act.put, List.setIfInBounds_toArray, List.set_cons_zero, List.set_cons_succ]
          generalize v3.alloc (MoC 0 0 0 0 false 0) = v4 at *
          obtain ⟨gB, hg⟩ : ∃ g, g = v3.heap.size := ⟨_, rfl⟩
          rw [← hg] at PB lePB ne ⊢
          clear hg
          obtain ⟨⟨d0, d1, d2, d3, d4, d5⟩, ⟨f0, f1, f2, f3, f4, f5⟩, f6⟩ := id PA.out
          refine wpAnyH_ready (rs := [6]) (by kernel_rfl) (by simp) ?_
          refine AllReadyH.cons (o := { dst := none, op := Go.Op.store 29 (Go.Operand.tmp 7) (Go.Operand.tmp 23), type := 0, pos := "law.go:99", after := #[{ on := 4, ground := Go.Ground.data }, { on := 1, ground := Go.Ground.data }, { on := 3, ground := Go.Ground.chain }, { on := 0, ground := Go.Ground.phase }, { on := 1, ground := Go.Ground.phase }, { on := 2, ground := Go.Ground.textOnly Go.Departure.lateStores }, { on := 3, ground := Go.Ground.textOnly Go.Departure.lateStoresUnsure }, { on := 4, ground := Go.Ground.phase }, { on := 5, ground := Go.Ground.phase }], guard := none }) rfl (fun K hK => ?_) AllReadyH.nil
          go_simp
          clear f0 f1 f2 f3 f4 f5 f6 d0 d1 d2 d3 d4 d5
          have HBx := Lib.hid (B6 hHeld.2.2.2.2.2.2.2.2.2.2.2.2 (g := gA) (by omega) (.int .i64 ay) (.int .i64 am) (.int .i64 ad) (.int .i64 as') (.bool xz) (.int .i64 ao))
          replace RX := Lib.hid (far6 RX.out (g := gA) (by omega) (.int .i64 ay) (.int .i64 am) (.int .i64 ad) (.int .i64 as') (.bool xz) (.int .i64 ao))
          replace RY := Lib.hid (far6 RY.out (g := gA) (by omega) (.int .i64 ay) (.int .i64 am) (.int .i64 ad) (.int .i64 as') (.bool xz) (.int .i64 ao))
          replace RZ := Lib.hid (far6 RZ.out (g := gA) (by omega) (.int .i64 ay) (.int .i64 am) (.int .i64 ad) (.int .i64 as') (.bool xz) (.int .i64 ao))
          replace PB := Lib.hid (PB.out.far6 (g := gA) ne.symm (.int .i64 ay) (.int .i64 am) (.int .i64 ad) (.int .i64 as') (.bool xz) (.int .i64 ao))
          replace PA := Lib.hid (PA.out.put (y := ay) (m := am) (d := ad) (s := as') (z := xz) (o := ao))
          clear hHeld
          refine hK.out _ _ ?_ (fun hHeld => ?_)
          · exact ⟨RX.out.1.1, RX.out.1.2.1, RX.out.1.2.2.1, RX.out.1.2.2.2.1, RX.out.1.2.2.2.2.1, RX.out.1.2.2.2.2.2, RY.out.1.1, RY.out.1.2.1, RY.out.1.2.2.1, RY.out.1.2.2.2.1, RY.out.1.2.2.2.2.1, RY.out.1.2.2.2.2.2, HBx.out⟩
          clear hK K HBx
          try simp only [Act.put, List.setIfInBounds_toArray, List.set_cons_zero, List.set_cons_succ]
          obtain ⟨⟨d0, d1, d2, d3, d4, d5⟩, ⟨f0, f1, f2, f3, f4, f5⟩, f6⟩ := id PB.out
          refine wpAnyH_ready (rs := [7]) (by kernel_rfl) (by simp) ?_
          refine AllReadyH.cons (o := { dst := none, op := Go.Op.store 29 (Go.Operand.tmp 8) (Go.Operand.tmp 25), type := 0, pos := "law.go:99", after := #[{ on := 5, ground := Go.Ground.data }, { on := 3, ground := Go.Ground.data }, { on := 6, ground := Go.Ground.chain }, { on := 0, ground := Go.Ground.phase }, { on := 1, ground := Go.Ground.phase }, { on := 2, ground := Go.Ground.phase }, { on := 3, ground := Go.Ground.phase }, { on := 4, ground := Go.Ground.phase }, { on := 5, ground := Go.Ground.phase }, { on := 6, ground := Go.Ground.phase }], guard := none }) rfl (fun K hK => ?_) AllReadyH.nil
          go_simp
          clear f0 f1 f2 f3 f4 f5 f6 d0 d1 d2 d3 d4 d5
          have HBx := Lib.hid (B6 hHeld.2.2.2.2.2.2.2.2.2.2.2.2 (g := gB) (by omega) (.int .i64 by_) (.int .i64 bm) (.int .i64 bd) (.int .i64 bs) (.bool yz) (.int .i64 bo))
          replace RX := Lib.hid (far6 RX.out (g := gB) (by omega) (.int .i64 by_) (.int .i64 bm) (.int .i64 bd) (.int .i64 bs) (.bool yz) (.int .i64 bo))
          replace RY := Lib.hid (far6 RY.out (g := gB) (by omega) (.int .i64 by_) (.int .i64 bm) (.int .i64 bd) (.int .i64 bs) (.bool yz) (.int .i64 bo))
          replace RZ := Lib.hid (far6 RZ.out (g := gB) (by omega) (.int .i64 by_) (.int .i64 bm) (.int .i64 bd) (.int .i64 bs) (.bool yz) (.int .i64 bo))
          replace PA := Lib.hid (PA.out.far6 (g := gB) ne (.int .i64 by_) (.int .i64 bm) (.int .i64 bd) (.int .i64 bs) (.bool yz) (.int .i64 bo))
          replace PB := Lib.hid (PB.out.put (y := by_) (m := bm) (d := bd) (s := bs) (z := yz) (o := bo))
          clear hHeld
          refine hK.out _ _ ?_ (fun hHeld => ?_)
          · exact ⟨RX.out.1.1, RX.out.1.2.1, RX.out.1.2.2.1, RX.out.1.2.2.2.1, RX.out.1.2.2.2.2.1, RX.out.1.2.2.2.2.2, RY.out.1.1, RY.out.1.2.1, RY.out.1.2.2.1, RY.out.1.2.2.2.1, RY.out.1.2.2.2.2.1, RY.out.1.2.2.2.2.2, HBx.out⟩
          clear hK K HBx
          try simp only [Act.put, List.setIfInBounds_toArray, List.set_cons_zero, List.set_cons_succ]
          refine wpAnyH_done (by kernel_rfl) ?_ _
          exact ⟨gA, gB, rfl, RX.out, RY.out, RZ.out, PA.out, PB.out, lePA, lePB, hHeld.2.2.2.2.2.2.2.2.2.2.2.2⟩
        · go_simp
          have ne := Nat.ne_of_lt PA.out.2.2
          replace RX := Lib.hid (RX.out.alloc (MoC 0 0 0 0 false 0))
          replace RY := Lib.hid (RY.out.alloc (MoC 0 0 0 0 false 0))
          replace RZ := Lib.hid (RZ.out.alloc (MoC 0 0 0 0 false 0))
          replace PA := Lib.hid (PA.out.alloc (MoC 0 0 0 0 false 0))
          have PB := Lib.hid (HoldsN.new rfl : HoldsN (v2.alloc (MoC 0 0 0 0 false 0)) v2.heap.size 0 0 0 0 false 0)
          have lePB := le0
          replace le0 := Nat.le_trans le0 (Below.alloc (Below.refl v2.heap.size v2) (Nat.le_refl _) (MoC 0 0 0 0 false 0)).size
          have HBx := Lib.hid (ballD1 hHeld.2.2.2.2.2.2.2.2.2.2.2.2 (MoC 0 0 0 0 false 0))
          clear hHeld
          refine hK.out _ _ ?_ (fun hHeld => ?_)
          · exact ⟨RX.out.1.1, RX.out.1.2.1, RX.out.1.2.2.1, RX.out.1.2.2.2.1, RX.out.1.2.2.2.2.1, RX.out.1.2.2.2.2.2, RY.out.1.1, RY.out.1.2.1, RY.out.1.2.2.1, RY.out.1.2.2.2.1, RY.out.1.2.2.2.2.1, RY.out.1.2.2.2.2.2, HBx.out⟩
          clear hK K HBx
          try simp only [Act.put, List.setIfInBounds_toArray, List.set_cons_zero, List.set_cons_succ]
          generalize v2.alloc (MoC 0 0 0 0 false 0) = v3 at *
          obtain ⟨gB, hg⟩ : ∃ g, g = v2.heap.size := ⟨_, rfl⟩
          rw [← hg] at PB lePB ne ⊢
          clear hg
          refine wpAnyH_ready (rs := [3]) (by kernel_rfl) (by simp) ?_
          refine AllReadyH.cons (o := { dst := some 25, op := Go.Op.call { callee := Go.Callee.value (Go.Operand.func 9), args := #[Go.Operand.tmp 24], argTypes := #[23] }, type := 29, pos := "law.go:99", after := #[{ on := 2, ground := Go.Ground.data }, { on := 1, ground := Go.Ground.chain }], guard := none }) rfl (fun K hK => ?_) AllReadyH.nil
          go_simp
          refine (MB.out _).mono ?_
          rintro e v4 ⟨rfl, hbv⟩
          replace RX := Lib.hid (RX.out.below hbv)
          replace RY := Lib.hid (RY.out.below hbv)
          replace RZ := Lib.hid (RZ.out.below hbv)
          replace PA := Lib.hid (PA.out.below hbv)
          replace PB := Lib.hid (PB.out.below hbv)
          have HBx := Lib.hid (bstep hHeld.2.2.2.2.2.2.2.2.2.2.2.2 hbv)
          replace le0 := Nat.le_trans le0 hbv.size
          clear hHeld hbv
          refine hK.out _ _ ?_ (fun hHeld => ?_)
          · exact ⟨RX.out.1.1, RX.out.1.2.1, RX.out.1.2.2.1, RX.out.1.2.2.2.1, RX.out.1.2.2.2.2.1, RX.out.1.2.2.2.2.2, RY.out.1.1, RY.out.1.2.1, RY.out.1.2.2.1, RY.out.1.2.2.2.1, RY.out.1.2.2.2.2.1, RY.out.1.2.2.2.2.2, HBx.out⟩
          clear hK K HBx
          try simp only [Act.put, List.setIfInBounds_toArray, List.set_cons_zero, List.set_cons_succ]
          obtain ⟨⟨d0, d1, d2, d3, d4, d5⟩, ⟨f0, f1, f2, f3, f4, f5⟩, f6⟩ := id PA.out
          refine wpAnyH_ready (rs := [6]) (by kernel_rfl) (by simp) ?_
          refine AllReadyH.cons (o := { dst := none, op := Go.Op.store 29 (Go.Operand.tmp 7) (Go.Operand.tmp 23), type := 0, pos := "law.go:99", after := #[{ on := 4, ground := Go.Ground.data }, { on := 1, ground := Go.Ground.data }, { on := 3, ground := Go.Ground.chain }, { on := 0, ground := Go.Ground.phase }, { on := 1, ground := Go.Ground.phase }, { on := 2, ground := Go.Ground.textOnly Go.Departure.lateStores }, { on := 3, ground := Go.Ground.textOnly Go.Departure.lateStoresUnsure }, { on := 4, ground := Go.Ground.phase }, { on := 5, ground := Go.Ground.phase }], guard := none }) rfl (fun K hK => ?_) AllReadyH.nil
          go_simp
          clear f0 f1 f2 f3 f4 f5 f6 d0 d1 d2 d3 d4 d5
          have HBx := Lib.hid (B6 hHeld.2.2.2.2.2.2.2.2.2.2.2.2 (g := gA) (by omega) (.int .i64 ay) (.int .i64 am) (.int .i64 ad) (.int .i64 as') (.bool xz) (.int .i64 ao))
          replace RX := Lib.hid (far6 RX.out (g := gA) (by omega) (.int .i64 ay) (.int .i64 am) (.int .i64 ad) (.int .i64 as') (.bool xz) (.int .i64 ao))
          replace RY := Lib.hid (far6 RY.out (g := gA) (by omega) (.int .i64 ay) (.int .i64 am) (.int .i64 ad) (.int .i64 as') (.bool xz) (.int .i64 ao))
          replace RZ := Lib.hid (far6 RZ.out (g := gA) (by omega) (.int .i64 ay) (.int .i64 am) (.int .i64 ad) (.int .i64 as') (.bool xz) (.int .i64 ao))
          replace PB := Lib.hid (PB.out.far6 (g := gA) ne.symm (.int .i64 ay) (.int .i64 am) (.int .i64 ad) (.int .i64 as') (.bool xz) (.int .i64 ao))
          replace PA := Lib.hid (PA.out.put (y := ay) (m := am) (d := ad) (s := as') (z := xz) (o := ao))
          clear hHeld
          refine hK.out _ _ ?_ (fun hHeld => ?_)
          · exact ⟨RX.out.1.1, RX.out.1.2.1, RX.out.1.2.2.1, RX.out.1.2.2.2.1, RX.out.1.2.2.2.2.1, RX.out.1.2.2.2.2.2, RY.out.1.1, RY.out.1.2.1, RY.out.1.2.2.1, RY.out.1.2.2.2.1, RY.out.1.2.2.2.2.1, RY.out.1.2.2.2.2.2, HBx.out⟩
          clear hK K HBx
          try simp only [Act.put, List.setIfInBounds_toArray, List.set_cons_zero, List.set_cons_succ]
          obtain ⟨⟨d0, d1, d2, d3, d4, d5⟩, ⟨f0, f1, f2, f3, f4, f5⟩, f6⟩ := id PB.out
          refine wpAnyH_ready (rs := [7]) (by kernel_rfl) (by simp) ?_
          refine AllReadyH.cons (o := { dst := none, op := Go.Op.store 29 (Go.Operand.tmp 8) (Go.Operand.tmp 25), type := 0, pos := "law.go:99", after := #[{ on := 5, ground := Go.Ground.data }, { on := 3, ground := Go.Ground.data }, { on := 6, ground := Go.Ground.chain }, { on := 0, ground := Go.Ground.phase }, { on := 1, ground := Go.Ground.phase }, { on := 2, ground := Go.Ground.phase }, { on := 3, ground := Go.Ground.phase }, { on := 4, ground := Go.Ground.phase }, { on := 5, ground := Go.Ground.phase }, { on := 6, ground := Go.Ground.phase }], guard := none }) rfl (fun K hK => ?_) AllReadyH.nil
          go_simp
          clear f0 f1 f2 f3 f4 f5 f6 d0 d1 d2 d3 d4 d5
          have HBx := Lib.hid (B6 hHeld.2.2.2.2.2.2.2.2.2.2.2.2 (g := gB) (by omega) (.int .i64 by_) (.int .i64 bm) (.int .i64 bd) (.int .i64 bs) (.bool yz) (.int .i64 bo))
          replace RX := Lib.hid (far6 RX.out (g := gB) (by omega) (.int .i64 by_) (.int .i64 bm) (.int .i64 bd) (.int .i64 bs) (.bool yz) (.int .i64 bo))
          replace RY := Lib.hid (far6 RY.out (g := gB) (by omega) (.int .i64 by_) (.int .i64 bm) (.int .i64 bd) (.int .i64 bs) (.bool yz) (.int .i64 bo))
          replace RZ := Lib.hid (far6 RZ.out (g := gB) (by omega) (.int .i64 by_) (.int .i64 bm) (.int .i64 bd) (.int .i64 bs) (.bool yz) (.int .i64 bo))
          replace PA := Lib.hid (PA.out.far6 (g := gB) ne (.int .i64 by_) (.int .i64 bm) (.int .i64 bd) (.int .i64 bs) (.bool yz) (.int .i64 bo))
          replace PB := Lib.hid (PB.out.put (y := by_) (m := bm) (d := bd) (s := bs) (z := yz) (o := bo))
          clear hHeld
          refine hK.out _ _ ?_ (fun hHeld => ?_)
          · exact ⟨RX.out.1.1, RX.out.1.2.1, RX.out.1.2.2.1, RX.out.1.2.2.2.1, RX.out.1.2.2.2.2.1, RX.out.1.2.2.2.2.2, RY.out.1.1, RY.out.1.2.1, RY.out.1.2.2.1, RY.out.1.2.2.2.1, RY.out.1.2.2.2.2.1, RY.out.1.2.2.2.2.2, HBx.out⟩
          clear hK K HBx
          try simp only [Act.put, List.setIfInBounds_toArray, List.set_cons_zero, List.set_cons_succ]
          refine wpAnyH_done (by kernel_rfl) ?_ _
          exact ⟨gA, gB, rfl, RX.out, RY.out, RZ.out, PA.out, PB.out, lePA, lePB, hHeld.2.2.2.2.2.2.2.2.2.2.2.2⟩
      · go_simp
        replace RX := Lib.hid (RX.out.alloc (MoC 0 0 0 0 false 0))
        replace RY := Lib.hid (RY.out.alloc (MoC 0 0 0 0 false 0))
        replace RZ := Lib.hid (RZ.out.alloc (MoC 0 0 0 0 false 0))
        have PB := Lib.hid (HoldsN.new rfl : HoldsN (v1.alloc (MoC 0 0 0 0 false 0)) v1.heap.size 0 0 0 0 false 0)
        have lePB := le0
        replace le0 := Nat.le_trans le0 (Below.alloc (Below.refl v1.heap.size v1) (Nat.le_refl _) (MoC 0 0 0 0 false 0)).size
        have HBx := Lib.hid (ballD1 hHeld.2.2.2.2.2.2.2.2.2.2.2.2 (MoC 0 0 0 0 false 0))
        clear hHeld
        refine hK.out _ _ ?_ (fun hHeld => ?_)
        · exact ⟨RX.out.1.1, RX.out.1.2.1, RX.out.1.2.2.1, RX.out.1.2.2.2.1, RX.out.1.2.2.2.2.1, RX.out.1.2.2.2.2.2, RY.out.1.1, RY.out.1.2.1, RY.out.1.2.2.1, RY.out.1.2.2.2.1, RY.out.1.2.2.2.2.1, RY.out.1.2.2.2.2.2, HBx.out⟩
        clear hK K HBx
        try simp only [Act.put, List.setIfInBounds_toArray, List.set_cons_zero, List.set_cons_succ]
        generalize v1.alloc (MoC 0 0 0 0 false 0) = v2 at *
        obtain ⟨gB, hg⟩ : ∃ g, g = v1.heap.size := ⟨_, rfl⟩
        rw [← hg] at PB lePB ⊢
        clear hg
        refine wpAnyH_ready (rs := [3, 4]) (by kernel_rfl) (by simp) ?_
        refine AllReadyH.cons (o := { dst := some 25, op := Go.Op.call { callee := Go.Callee.value (Go.Operand.func 9), args := #[Go.Operand.tmp 24], argTypes := #[23] }, type := 29, pos := "law.go:99", after := #[{ on := 2, ground := Go.Ground.data }, { on := 1, ground := Go.Ground.chain }], guard := none }) rfl (fun K hK => ?_) (AllReadyH.cons (o := { dst := some 7, op := Go.Op.alloc 29, type := 0, pos := "law.go:99", after := #[], guard := none }) rfl (fun K hK => ?_) AllReadyH.nil)
        · go_simp
          refine (MB.out _).mono ?_
          rintro e v3 ⟨rfl, hbv⟩
          replace RX := Lib.hid (RX.out.below hbv)
          replace RY := Lib.hid (RY.out.below hbv)
          replace RZ := Lib.hid (RZ.out.below hbv)
          replace PB := Lib.hid (PB.out.below hbv)
          have HBx := Lib.hid (bstep hHeld.2.2.2.2.2.2.2.2.2.2.2.2 hbv)
          replace le0 := Nat.le_trans le0 hbv.size
          clear hHeld hbv
          refine hK.out _ _ ?_ (fun hHeld => ?_)
          · exact ⟨RX.out.1.1, RX.out.1.2.1, RX.out.1.2.2.1, RX.out.1.2.2.2.1, RX.out.1.2.2.2.2.1, RX.out.1.2.2.2.2.2, RY.out.1.1, RY.out.1.2.1, RY.out.1.2.2.1, RY.out.1.2.2.2.1, RY.out.1.2.2.2.2.1, RY.out.1.2.2.2.2.2, HBx.out⟩
          clear hK K HBx
          try simp only [Act.put, List.setIfInBounds_toArray, List.set_cons_zero, List.set_cons_succ]
          refine wpAnyH_ready (rs := [4]) (by kernel_rfl) (by simp) ?_
          refine AllReadyH.cons (o := { dst := some 7, op := Go.Op.alloc 29, type := 0, pos := "law.go:99", after := #[], guard := none }) rfl (fun K hK => ?_) AllReadyH.nil
          go_simp
          have ne := Nat.ne_of_lt PB.out.2.2
          replace RX := Lib.hid (RX.out.alloc (MoC 0 0 0 0 false 0))
          replace RY := Lib.hid (RY.out.alloc (MoC 0 0 0 0 false 0))
          replace RZ := Lib.hid (RZ.out.alloc (MoC 0 0 0 0 false 0))
          replace PB := Lib.hid (PB.out.alloc (MoC 0 0 0 0 false 0))
          have PA := Lib.hid (HoldsN.new rfl : HoldsN (v3.alloc (MoC 0 0 0 0 false 0)) v3.heap.size 0 0 0 0 false 0)
          have lePA := le0
          replace le0 := Nat.le_trans le0 (Below.alloc (Below.refl v3.heap.size v3) (Nat.le_refl _) (MoC 0 0 0 0 false 0)).size
          have HBx := Lib.hid (ballD1 hHeld.2.2.2.2.2.2.2.2.2.2.2.2 (MoC 0 0 0 0 false 0))
          clear hHeld
          refine hK.out _ _ ?_ (fun hHeld => ?_)
          · exact ⟨RX.out.1.1, RX.out.1.2.1, RX.out.1.2.2.1, RX.out.1.2.2.2.1, RX.out.1.2.2.2.2.1, RX.out.1.2.2.2.2.2, RY.out.1.1, RY.out.1.2.1, RY.out.1.2.2.1, RY.out.1.2.2.2.1, RY.out.1.2.2.2.2.1, RY.out.1.2.2.2.2.2, HBx.out⟩
          clear hK K HBx
          try simp only [Act.put, List.setIfInBounds_toArray, List.set_cons_zero, List.set_cons_succ]
          generalize v3.alloc (MoC 0 0 0 0 false 0) = v4 at *
          obtain ⟨gA, hg⟩ : ∃ g, g = v3.heap.size := ⟨_, rfl⟩
          rw [← hg] at PA lePA ne ⊢
          clear hg
          replace ne := ne.symm
          obtain ⟨⟨d0, d1, d2, d3, d4, d5⟩, ⟨f0, f1, f2, f3, f4, f5⟩, f6⟩ := id PA.out
          refine wpAnyH_ready (rs := [6]) (by kernel_rfl) (by simp) ?_
          refine AllReadyH.cons (o := { dst := none, op := Go.Op.store 29 (Go.Operand.tmp 7) (Go.Operand.tmp 23), type := 0, pos := "law.go:99", after := #[{ on := 4, ground := Go.Ground.data }, { on := 1, ground := Go.Ground.data }, { on := 3, ground := Go.Ground.chain }, { on := 0, ground := Go.Ground.phase }, { on := 1, ground := Go.Ground.phase }, { on := 2, ground := Go.Ground.textOnly Go.Departure.lateStores }, { on := 3, ground := Go.Ground.textOnly Go.Departure.lateStoresUnsure }, { on := 4, ground := Go.Ground.phase }, { on := 5, ground := Go.Ground.phase }], guard := none }) rfl (fun K hK => ?_) AllReadyH.nil
          go_simp
          clear f0 f1 f2 f3 f4 f5 f6 d0 d1 d2 d3 d4 d5
          have HBx := Lib.hid (B6 hHeld.2.2.2.2.2.2.2.2.2.2.2.2 (g := gA) (by omega) (.int .i64 ay) (.int .i64 am) (.int .i64 ad) (.int .i64 as') (.bool xz) (.int .i64 ao))
          replace RX := Lib.hid (far6 RX.out (g := gA) (by omega) (.int .i64 ay) (.int .i64 am) (.int .i64 ad) (.int .i64 as') (.bool xz) (.int .i64 ao))
          replace RY := Lib.hid (far6 RY.out (g := gA) (by omega) (.int .i64 ay) (.int .i64 am) (.int .i64 ad) (.int .i64 as') (.bool xz) (.int .i64 ao))
          replace RZ := Lib.hid (far6 RZ.out (g := gA) (by omega) (.int .i64 ay) (.int .i64 am) (.int .i64 ad) (.int .i64 as') (.bool xz) (.int .i64 ao))
          replace PB := Lib.hid (PB.out.far6 (g := gA) ne.symm (.int .i64 ay) (.int .i64 am) (.int .i64 ad) (.int .i64 as') (.bool xz) (.int .i64 ao))
          replace PA := Lib.hid (PA.out.put (y := ay) (m := am) (d := ad) (s := as') (z := xz) (o := ao))
          clear hHeld
          refine hK.out _ _ ?_ (fun hHeld => ?_)
          · exact ⟨RX.out.1.1, RX.out.1.2.1, RX.out.1.2.2.1, RX.out.1.2.2.2.1, RX.out.1.2.2.2.2.1, RX.out.1.2.2.2.2.2, RY.out.1.1, RY.out.1.2.1, RY.out.1.2.2.1, RY.out.1.2.2.2.1, RY.out.1.2.2.2.2.1, RY.out.1.2.2.2.2.2, HBx.out⟩
          clear hK K HBx
          try simp only [Act.put, List.setIfInBounds_toArray, List.set_cons_zero, List.set_cons_succ]
          obtain ⟨⟨d0, d1, d2, d3, d4, d5⟩, ⟨f0, f1, f2, f3, f4, f5⟩, f6⟩ := id PB.out
          refine wpAnyH_ready (rs := [7]) (by kernel_rfl) (by simp) ?_
          refine AllReadyH.cons (o := { dst := none, op := Go.Op.store 29 (Go.Operand.tmp 8) (Go.Operand.tmp 25), type := 0, pos := "law.go:99", after := #[{ on := 5, ground := Go.Ground.data }, { on := 3, ground := Go.Ground.data }, { on := 6, ground := Go.Ground.chain }, { on := 0, ground := Go.Ground.phase }, { on := 1, ground := Go.Ground.phase }, { on := 2, ground := Go.Ground.phase }, { on := 3, ground := Go.Ground.phase }, { on := 4, ground := Go.Ground.phase }, { on := 5, ground := Go.Ground.phase }, { on := 6, ground := Go.Ground.phase }], guard := none }) rfl (fun K hK => ?_) AllReadyH.nil
          go_simp
          clear f0 f1 f2 f3 f4 f5 f6 d0 d1 d2 d3 d4 d5
          have HBx := Lib.hid (B6 hHeld.2.2.2.2.2.2.2.2.2.2.2.2 (g := gB) (by omega) (.int .i64 by_) (.int .i64 bm) (.int .i64 bd) (.int .i64 bs) (.bool yz) (.int .i64 bo))
          replace RX := Lib.hid (far6 RX.out (g := gB) (by omega) (.int .i64 by_) (.int .i64 bm) (.int .i64 bd) (.int .i64 bs) (.bool yz) (.int .i64 bo))
          replace RY := Lib.hid (far6 RY.out (g := gB) (by omega) (.int .i64 by_) (.int .i64 bm) (.int .i64 bd) (.int .i64 bs) (.bool yz) (.int .i64 bo))
          replace RZ := Lib.hid (far6 RZ.out (g := gB) (by omega) (.int .i64 by_) (.int .i64 bm) (.int .i64 bd) (.int .i64 bs) (.bool yz) (.int .i64 bo))
          replace PA := Lib.hid (PA.out.far6 (g := gB) ne (.int .i64 by_) (.int .i64 bm) (.int .i64 bd) (.int .i64 bs) (.bool yz) (.int .i64 bo))
          replace PB := Lib.hid (PB.out.put (y := by_) (m := bm) (d := bd) (s := bs) (z := yz) (o := bo))
          clear hHeld
          refine hK.out _ _ ?_ (fun hHeld => ?_)
          · exact ⟨RX.out.1.1, RX.out.1.2.1, RX.out.1.2.2.1, RX.out.1.2.2.2.1, RX.out.1.2.2.2.2.1, RX.out.1.2.2.2.2.2, RY.out.1.1, RY.out.1.2.1, RY.out.1.2.2.1, RY.out.1.2.2.2.1, RY.out.1.2.2.2.2.1, RY.out.1.2.2.2.2.2, HBx.out⟩
          clear hK K HBx
          try simp only [Act.put, List.setIfInBounds_toArray, List.set_cons_zero, List.set_cons_succ]
          refine wpAnyH_done (by kernel_rfl) ?_ _
          exact ⟨gA, gB, rfl, RX.out, RY.out, RZ.out, PA.out, PB.out, lePA, lePB, hHeld.2.2.2.2.2.2.2.2.2.2.2.2⟩
        · go_simp
          have ne := Nat.ne_of_lt PB.out.2.2
          replace RX := Lib.hid (RX.out.alloc (MoC 0 0 0 0 false 0))
          replace RY := Lib.hid (RY.out.alloc (MoC 0 0 0 0 false 0))
          replace RZ := Lib.hid (RZ.out.alloc (MoC 0 0 0 0 false 0))
          replace PB := Lib.hid (PB.out.alloc (MoC 0 0 0 0 false 0))
          have PA := Lib.hid (HoldsN.new rfl : HoldsN (v2.alloc (MoC 0 0 0 0 false 0)) v2.heap.size 0 0 0 0 false 0)
          have lePA := le0
          replace le0 := Nat.le_trans le0 (Below.alloc (Below.refl v2.heap.size v2) (Nat.le_refl _) (MoC 0 0 0 0 false 0)).size
          have HBx := Lib.hid (ballD1 hHeld.2.2.2.2.2.2.2.2.2.2.2.2 (MoC 0 0 0 0 false 0))
          clear hHeld
          refine hK.out _ _ ?_ (fun hHeld => ?_)
          · exact ⟨RX.out.1.1, RX.out.1.2.1, RX.out.1.2.2.1, RX.out.1.2.2.2.1, RX.out.1.2.2.2.2.1, RX.out.1.2.2.2.2.2, RY.out.1.1, RY.out.1.2.1, RY.out.1.2.2.1, RY.out.1.2.2.2.1, RY.out.1.2.2.2.2.1, RY.out.1.2.2.2.2.2, HBx.out⟩
          clear hK K HBx
          try simp only [Act.put, List.setIfInBounds_toArray, List.set_cons_zero, List.set_cons_succ]
          generalize v2.alloc (MoC 0 0 0 0 false 0) = v3 at *
          obtain ⟨gA, hg⟩ : ∃ g, g = v2.heap.size := ⟨_, rfl⟩
          rw [← hg] at PA lePA ne ⊢
          clear hg
          replace ne := ne.symm
          refine wpAnyH_ready (rs := [3]) (by kernel_rfl) (by simp) ?_
          refine AllReadyH.cons (o := { dst := some 25, op := Go.Op.call { callee := Go.Callee.value (Go.Operand.func 9), args := #[Go.Operand.tmp 24], argTypes := #[23] }, type := 29, pos := "law.go:99", after := #[{ on := 2, ground := Go.Ground.data }, { on := 1, ground := Go.Ground.chain }], guard := none }) rfl (fun K hK => ?_) AllReadyH.nil
          go_simp
          refine (MB.out _).mono ?_
          rintro e v4 ⟨rfl, hbv⟩
          replace RX := Lib.hid (RX.out.below hbv)
          replace RY := Lib.hid (RY.out.below hbv)
          replace RZ := Lib.hid (RZ.out.below hbv)
          replace PA := Lib.hid (PA.out.below hbv)
          replace PB := Lib.hid (PB.out.below hbv)
          have HBx := Lib.hid (bstep hHeld.2.2.2.2.2.2.2.2.2.2.2.2 hbv)
          replace le0 := Nat.le_trans le0 hbv.size
          clear hHeld hbv
          refine hK.out _ _ ?_ (fun hHeld => ?_)
          · exact ⟨RX.out.1.1, RX.out.1.2.1, RX.out.1.2.2.1, RX.out.1.2.2.2.1, RX.out.1.2.2.2.2.1, RX.out.1.2.2.2.2.2, RY.out.1.1, RY.out.1.2.1, RY.out.1.2.2.1, RY.out.1.2.2.2.1, RY.out.1.2.2.2.2.1, RY.out.1.2.2.2.2.2, HBx.out⟩
          clear hK K HBx
          try simp only [Act.put, List.setIfInBounds_toArray, List.set_cons_zero, List.set_cons_succ]
          obtain ⟨⟨d0, d1, d2, d3, d4, d5⟩, ⟨f0, f1, f2, f3, f4, f5⟩, f6⟩ := id PA.out
          refine wpAnyH_ready (rs := [6]) (by kernel_rfl) (by simp) ?_
          refine AllReadyH.cons (o := { dst := none, op := Go.Op.store 29 (Go.Operand.tmp 7) (Go.Operand.tmp 23), type := 0, pos := "law.go:99", after := #[{ on := 4, ground := Go.Ground.data }, { on := 1, ground := Go.Ground.data }, { on := 3, ground := Go.Ground.chain }, { on := 0, ground := Go.Ground.phase }, { on := 1, ground := Go.Ground.phase }, { on := 2, ground := Go.Ground.textOnly Go.Departure.lateStores }, { on := 3, ground := Go.Ground.textOnly Go.Departure.lateStoresUnsure }, { on := 4, ground := Go.Ground.phase }, { on := 5, ground := Go.Ground.phase }], guard := none }) rfl (fun K hK => ?_) AllReadyH.nil
          go_simp
          clear f0 f1 f2 f3 f4 f5 f6 d0 d1 d2 d3 d4 d5
          have HBx := Lib.hid (B6 hHeld.2.2.2.2.2.2.2.2.2.2.2.2 (g := gA) (by omega) (.int .i64 ay) (.int .i64 am) (.int .i64 ad) (.int .i64 as') (.bool xz) (.int .i64 ao))
          replace RX := Lib.hid (far6 RX.out (g := gA) (by omega) (.int .i64 ay) (.int .i64 am) (.int .i64 ad) (.int .i64 as') (.bool xz) (.int .i64 ao))
          replace RY := Lib.hid (far6 RY.out (g := gA) (by omega) (.int .i64 ay) (.int .i64 am) (.int .i64 ad) (.int .i64 as') (.bool xz) (.int .i64 ao))
          replace RZ := Lib.hid (far6 RZ.out (g := gA) (by omega) (.int .i64 ay) (.int .i64 am) (.int .i64 ad) (.int .i64 as') (.bool xz) (.int .i64 ao))
          replace PB := Lib.hid (PB.out.far6 (g := gA) ne.symm (.int .i64 ay) (.int .i64 am) (.int .i64 ad) (.int .i64 as') (.bool xz) (.int .i64 ao))
          replace PA := Lib.hid (PA.out.put (y := ay) (m := am) (d := ad) (s := as') (z := xz) (o := ao))
          clear hHeld
          refine hK.out _ _ ?_ (fun hHeld => ?_)
          · exact ⟨RX.out.1.1, RX.out.1.2.1, RX.out.1.2.2.1, RX.out.1.2.2.2.1, RX.out.1.2.2.2.2.1, RX.out.1.2.2.2.2.2, RY.out.1.1, RY.out.1.2.1, RY.out.1.2.2.1, RY.out.1.2.2.2.1, RY.out.1.2.2.2.2.1, RY.out.1.2.2.2.2.2, HBx.out⟩
          clear hK K HBx
          try simp only [Act.put, List.setIfInBounds_toArray, List.set_cons_zero, List.set_cons_succ]
          obtain ⟨⟨d0, d1, d2, d3, d4, d5⟩, ⟨f0, f1, f2, f3, f4, f5⟩, f6⟩ := id PB.out
          refine wpAnyH_ready (rs := [7]) (by kernel_rfl) (by simp) ?_
          refine AllReadyH.cons (o := { dst := none, op := Go.Op.store 29 (Go.Operand.tmp 8) (Go.Operand.tmp 25), type := 0, pos := "law.go:99", after := #[{ on := 5, ground := Go.Ground.data }, { on := 3, ground := Go.Ground.data }, { on := 6, ground := Go.Ground.chain }, { on := 0, ground := Go.Ground.phase }, { on := 1, ground := Go.Ground.phase }, { on := 2, ground := Go.Ground.phase }, { on := 3, ground := Go.Ground.phase }, { on := 4, ground := Go.Ground.phase }, { on := 5, ground := Go.Ground.phase }, { on := 6, ground := Go.Ground.phase }], guard := none }) rfl (fun K hK => ?_) AllReadyH.nil
          go_simp
          clear f0 f1 f2 f3 f4 f5 f6 d0 d1 d2 d3 d4 d5
          have HBx := Lib.hid (B6 hHeld.2.2.2.2.2.2.2.2.2.2.2.2 (g := gB) (by omega) (.int .i64 by_) (.int .i64 bm) (.int .i64 bd) (.int .i64 bs) (.bool yz) (.int .i64 bo))
          replace RX := Lib.hid (far6 RX.out (g := gB) (by omega) (.int .i64 by_) (.int .i64 bm) (.int .i64 bd) (.int .i64 bs) (.bool yz) (.int .i64 bo))
          replace RY := Lib.hid (far6 RY.out (g := gB) (by omega) (.int .i64 by_) (.int .i64 bm) (.int .i64 bd) (.int .i64 bs) (.bool yz) (.int .i64 bo))
          replace RZ := Lib.hid (far6 RZ.out (g := gB) (by omega) (.int .i64 by_) (.int .i64 bm) (.int .i64 bd) (.int .i64 bs) (.bool yz) (.int .i64 bo))
          replace PA := Lib.hid (PA.out.far6 (g := gB) ne (.int .i64 by_) (.int .i64 bm) (.int .i64 bd) (.int .i64 bs) (.bool yz) (.int .i64 bo))
          replace PB := Lib.hid (PB.out.put (y := by_) (m := bm) (d := bd) (s := bs) (z := yz) (o := bo))
          clear hHeld
          refine hK.out _ _ ?_ (fun hHeld => ?_)
          · exact ⟨RX.out.1.1, RX.out.1.2.1, RX.out.1.2.2.1, RX.out.1.2.2.2.1, RX.out.1.2.2.2.2.1, RX.out.1.2.2.2.2.2, RY.out.1.1, RY.out.1.2.1, RY.out.1.2.2.1, RY.out.1.2.2.2.1, RY.out.1.2.2.2.2.1, RY.out.1.2.2.2.2.2, HBx.out⟩
          clear hK K HBx
          try simp only [Act.put, List.setIfInBounds_toArray, List.set_cons_zero, List.set_cons_succ]
          refine wpAnyH_done (by kernel_rfl) ?_ _
          exact ⟨gA, gB, rfl, RX.out, RY.out, RZ.out, PA.out, PB.out, lePA, lePB, hHeld.2.2.2.2.2.2.2.2.2.2.2.2⟩
    · go_simp
      replace RX := Lib.hid (RX.out.alloc (MoC 0 0 0 0 false 0))
      replace RY := Lib.hid (RY.out.alloc (MoC 0 0 0 0 false 0))
      replace RZ := Lib.hid (RZ.out.alloc (MoC 0 0 0 0 false 0))
      have PA := Lib.hid (HoldsN.new rfl : HoldsN (v0.alloc (MoC 0 0 0 0 false 0)) v0.heap.size 0 0 0 0 false 0)
      have lePA := le0
      replace le0 := Nat.le_trans le0 (Below.alloc (Below.refl v0.heap.size v0) (Nat.le_refl _) (MoC 0 0 0 0 false 0)).size
      have HBx := Lib.hid (ballD1 hHeld.2.2.2.2.2.2.2.2.2.2.2.2 (MoC 0 0 0 0 false 0))
      clear hHeld
      refine hK.out _ _ ?_ (fun hHeld => ?_)
      · exact ⟨RX.out.1.1, RX.out.1.2.1, RX.out.1.2.2.1, RX.out.1.2.2.2.1, RX.out.1.2.2.2.2.1, RX.out.1.2.2.2.2.2, RY.out.1.1, RY.out.1.2.1, RY.out.1.2.2.1, RY.out.1.2.2.2.1, RY.out.1.2.2.2.2.1, RY.out.1.2.2.2.2.2, HBx.out⟩
      clear hK K HBx
      try simp only [Act.put, List.setIfInBounds_toArray, List.set_cons_zero, List.set_cons_succ]
      generalize v0.alloc (MoC 0 0 0 0 false 0) = v1 at *
      obtain ⟨gA, hg⟩ : ∃ g, g = v0.heap.size := ⟨_, rfl⟩
      rw [← hg] at PA lePA ⊢
      clear hg
      refine wpAnyH_ready (rs := [1, 5]) (by kernel_rfl) (by simp) ?_
      refine AllReadyH.cons (o := { dst := some 23, op := Go.Op.call { callee := Go.Callee.value (Go.Operand.func 9), args := #[Go.Operand.tmp 22], argTypes := #[23] }, type := 29, pos := "law.go:99", after := #[{ on := 0, ground := Go.Ground.data }], guard := none }) rfl (fun K hK => ?_) (AllReadyH.cons (o := { dst := some 8, op := Go.Op.alloc 29, type := 0, pos := "law.go:99", after := #[], guard := none }) rfl (fun K hK => ?_) AllReadyH.nil)
      · go_simp
        refine (MA.out _).mono ?_
        rintro e v2 ⟨rfl, hbv⟩
        replace RX := Lib.hid (RX.out.below hbv)
        replace RY := Lib.hid (RY.out.below hbv)
        replace RZ := Lib.hid (RZ.out.below hbv)
        replace PA := Lib.hid (PA.out.below hbv)
        have HBx := Lib.hid (bstep hHeld.2.2.2.2.2.2.2.2.2.2.2.2 hbv)
        replace le0 := Nat.le_trans le0 hbv.size
        clear hHeld hbv
        refine hK.out _ _ ?_ (fun hHeld => ?_)
        · exact ⟨RX.out.1.1, RX.out.1.2.1, RX.out.1.2.2.1, RX.out.1.2.2.2.1, RX.out.1.2.2.2.2.1, RX.out.1.2.2.2.2.2, RY.out.1.1, RY.out.1.2.1, RY.out.1.2.2.1, RY.out.1.2.2.2.1, RY.out.1.2.2.2.2.1, RY.out.1.2.2.2.2.2, HBx.out⟩
        clear hK K HBx
        try simp only [Act.put, List.setIfInBounds_toArray, List.set_cons_zero, List.set_cons_succ]
        refine wpAnyH_ready (rs := [3, 5]) (by kernel_rfl) (by simp) ?_
        refine AllReadyH.cons (o := { dst := some 25, op := Go.Op.call { callee := Go.Callee.value (Go.Operand.func 9), args := #[Go.Operand.tmp 24], argTypes := #[23] }, type := 29, pos := "law.go:99", after := #[{ on := 2, ground := Go.Ground.data }, { on := 1, ground := Go.Ground.chain }], guard := none }) rfl (fun K hK => ?_) (AllReadyH.cons (o := { dst := some 8, op := Go.Op.alloc 29, type := 0, pos := "law.go:99", after := #[], guard := none }) rfl (fun K hK => ?_) AllReadyH.nil)
        · go_simp
          refine (MB.out _).mono ?_
          rintro e v3 ⟨rfl, hbv⟩
          replace RX := Lib.hid (RX.out.below hbv)
          replace RY := Lib.hid (RY.out.below hbv)
          replace RZ := Lib.hid (RZ.out.below hbv)
          replace PA := Lib.hid (PA.out.below hbv)
          have HBx := Lib.hid (bstep hHeld.2.2.2.2.2.2.2.2.2.2.2.2 hbv)
          replace le0 := Nat.le_trans le0 hbv.size
          clear hHeld hbv
          refine hK.out _ _ ?_ (fun hHeld => ?_)
          · exact ⟨RX.out.1.1, RX.out.1.2.1, RX.out.1.2.2.1, RX.out.1.2.2.2.1, RX.out.1.2.2.2.2.1, RX.out.1.2.2.2.2.2, RY.out.1.1, RY.out.1.2.1, RY.out.1.2.2.1, RY.out.1.2.2.2.1, RY.out.1.2.2.2.2.1, RY.out.1.2.2.2.2.2, HBx.out⟩
          clear hK K HBx
          try simp only [Act.put, List.setIfInBounds_toArray, List.set_cons_zero, List.set_cons_succ]
          refine wpAnyH_ready (rs := [5]) (by kernel_rfl) (by simp) ?_
          refine AllReadyH.cons (o := { dst := some 8, op := Go.Op.alloc 29, type := 0, pos := "law.go:99", after := #[], guard := none }) rfl (fun K hK => ?_) AllReadyH.nil
          go_simp
          have ne := Nat.ne_of_lt PA.out.2.2
          replace RX := Lib.hid (RX.out.alloc (MoC 0 0 0 0 false 0))
          replace RY := Lib.hid (RY.out.alloc (MoC 0 0 0 0 false 0))
          replace RZ := Lib.hid (RZ.out.alloc (MoC 0 0 0 0 false 0))
          replace PA := Lib.hid (PA.out.alloc (MoC 0 0 0 0 false 0))
          have PB := Lib.hid (HoldsN.new rfl : HoldsN (v3.alloc (MoC 0 0 0 0 false 0)) v3.heap.size 0 0 0 0 false 0)
          have lePB := le0
          replace le0 := Nat.le_trans le0 (Below.alloc (Below.refl v3.heap.size v3) (Nat.le_refl _) (MoC 0 0 0 0 false 0)).size
          have HBx := Lib.hid (ballD1 hHeld.2.2.2.2.2.2.2.2.2.2.2.2 (MoC 0 0 0 0 false 0))
          clear hHeld
          refine hK.out _ _ ?_ (fun hHeld => ?_)
          · exact ⟨RX.out.1.1, RX.out.1.2.1, RX.out.1.2.2.1, RX.out.1.2.2.2.1, RX.out.1.2.2.2.2.1, RX.out.1.2.2.2.2.2, RY.out.1.1, RY.out.1.2.1, RY.out.1.2.2.1, RY.out.1.2.2.2.1, RY.out.1.2.2.2.2.1, RY.out.1.2.2.2.2.2, HBx.out⟩
          clear hK K HBx
          try simp only [Act.put, List.setIfInBounds_toArray, List.set_cons_zero, List.set_cons_succ]
          generalize v3.alloc (MoC 0 0 0 0 false 0) = v4 at *
          obtain ⟨gB, hg⟩ : ∃ g, g = v3.heap.size := ⟨_, rfl⟩
          rw [← hg] at PB lePB ne ⊢
          clear hg
          obtain ⟨⟨d0, d1, d2, d3, d4, d5⟩, ⟨f0, f1, f2, f3, f4, f5⟩, f6⟩ := id PA.out
          refine wpAnyH_ready (rs := [6]) (by kernel_rfl) (by simp) ?_
          refine AllReadyH.cons (o := { dst := none, op := Go.Op.store 29 (Go.Operand.tmp 7) (Go.Operand.tmp 23), type := 0, pos := "law.go:99", after := #[{ on := 4, ground := Go.Ground.data }, { on := 1, ground := Go.Ground.data }, { on := 3, ground := Go.Ground.chain }, { on := 0, ground := Go.Ground.phase }, { on := 1, ground := Go.Ground.phase }, { on := 2, ground := Go.Ground.textOnly Go.Departure.lateStores }, { on := 3, ground := Go.Ground.textOnly Go.Departure.lateStoresUnsure }, { on := 4, ground := Go.Ground.phase }, { on := 5, ground := Go.Ground.phase }], guard := none }) rfl (fun K hK => ?_) AllReadyH.nil
          go_simp
          clear f0 f1 f2 f3 f4 f5 f6 d0 d1 d2 d3 d4 d5
          have HBx := Lib.hid (B6 hHeld.2.2.2.2.2.2.2.2.2.2.2.2 (g := gA) (by omega) (.int .i64 ay) (.int .i64 am) (.int .i64 ad) (.int .i64 as') (.bool xz) (.int .i64 ao))
          replace RX := Lib.hid (far6 RX.out (g := gA) (by omega) (.int .i64 ay) (.int .i64 am) (.int .i64 ad) (.int .i64 as') (.bool xz) (.int .i64 ao))
          replace RY := Lib.hid (far6 RY.out (g := gA) (by omega) (.int .i64 ay) (.int .i64 am) (.int .i64 ad) (.int .i64 as') (.bool xz) (.int .i64 ao))
          replace RZ := Lib.hid (far6 RZ.out (g := gA) (by omega) (.int .i64 ay) (.int .i64 am) (.int .i64 ad) (.int .i64 as') (.bool xz) (.int .i64 ao))
          replace PB := Lib.hid (PB.out.far6 (g := gA) ne.symm (.int .i64 ay) (.int .i64 am) (.int .i64 ad) (.int .i64 as') (.bool xz) (.int .i64 ao))
          replace PA := Lib.hid (PA.out.put (y := ay) (m := am) (d := ad) (s := as') (z := xz) (o := ao))
          clear hHeld
          refine hK.out _ _ ?_ (fun hHeld => ?_)
          · exact ⟨RX.out.1.1, RX.out.1.2.1, RX.out.1.2.2.1, RX.out.1.2.2.2.1, RX.out.1.2.2.2.2.1, RX.out.1.2.2.2.2.2, RY.out.1.1, RY.out.1.2.1, RY.out.1.2.2.1, RY.out.1.2.2.2.1, RY.out.1.2.2.2.2.1, RY.out.1.2.2.2.2.2, HBx.out⟩
          clear hK K HBx
          try simp only [Act.put, List.setIfInBounds_toArray, List.set_cons_zero, List.set_cons_succ]
          obtain ⟨⟨d0, d1, d2, d3, d4, d5⟩, ⟨f0, f1, f2, f3, f4, f5⟩, f6⟩ := id PB.out
          refine wpAnyH_ready (rs := [7]) (by kernel_rfl) (by simp) ?_
          refine AllReadyH.cons (o := { dst := none, op := Go.Op.store 29 (Go.Operand.tmp 8) (Go.Operand.tmp 25), type := 0, pos := "law.go:99", after := #[{ on := 5, ground := Go.Ground.data }, { on := 3, ground := Go.Ground.data }, { on := 6, ground := Go.Ground.chain }, { on := 0, ground := Go.Ground.phase }, { on := 1, ground := Go.Ground.phase }, { on := 2, ground := Go.Ground.phase }, { on := 3, ground := Go.Ground.phase }, { on := 4, ground := Go.Ground.phase }, { on := 5, ground := Go.Ground.phase }, { on := 6, ground := Go.Ground.phase }], guard := none }) rfl (fun K hK => ?_) AllReadyH.nil
          go_simp
          clear f0 f1 f2 f3 f4 f5 f6 d0 d1 d2 d3 d4 d5
          have HBx := Lib.hid (B6 hHeld.2.2.2.2.2.2.2.2.2.2.2.2 (g := gB) (by omega) (.int .i64 by_) (.int .i64 bm) (.int .i64 bd) (.int .i64 bs) (.bool yz) (.int .i64 bo))
          replace RX := Lib.hid (far6 RX.out (g := gB) (by omega) (.int .i64 by_) (.int .i64 bm) (.int .i64 bd) (.int .i64 bs) (.bool yz) (.int .i64 bo))
          replace RY := Lib.hid (far6 RY.out (g := gB) (by omega) (.int .i64 by_) (.int .i64 bm) (.int .i64 bd) (.int .i64 bs) (.bool yz) (.int .i64 bo))
          replace RZ := Lib.hid (far6 RZ.out (g := gB) (by omega) (.int .i64 by_) (.int .i64 bm) (.int .i64 bd) (.int .i64 bs) (.bool yz) (.int .i64 bo))
          replace PA := Lib.hid (PA.out.far6 (g := gB) ne (.int .i64 by_) (.int .i64 bm) (.int .i64 bd) (.int .i64 bs) (.bool yz) (.int .i64 bo))
          replace PB := Lib.hid (PB.out.put (y := by_) (m := bm) (d := bd) (s := bs) (z := yz) (o := bo))
          clear hHeld
          refine hK.out _ _ ?_ (fun hHeld => ?_)
          · exact ⟨RX.out.1.1, RX.out.1.2.1, RX.out.1.2.2.1, RX.out.1.2.2.2.1, RX.out.1.2.2.2.2.1, RX.out.1.2.2.2.2.2, RY.out.1.1, RY.out.1.2.1, RY.out.1.2.2.1, RY.out.1.2.2.2.1, RY.out.1.2.2.2.2.1, RY.out.1.2.2.2.2.2, HBx.out⟩
          clear hK K HBx
          try simp only [Act.put, List.setIfInBounds_toArray, List.set_cons_zero, List.set_cons_succ]
          refine wpAnyH_done (by kernel_rfl) ?_ _
          exact ⟨gA, gB, rfl, RX.out, RY.out, RZ.out, PA.out, PB.out, lePA, lePB, hHeld.2.2.2.2.2.2.2.2.2.2.2.2⟩
        · go_simp
          have ne := Nat.ne_of_lt PA.out.2.2
          replace RX := Lib.hid (RX.out.alloc (MoC 0 0 0 0 false 0))
          replace RY := Lib.hid (RY.out.alloc (MoC 0 0 0 0 false 0))
          replace RZ := Lib.hid (RZ.out.alloc (MoC 0 0 0 0 false 0))
          replace PA := Lib.hid (PA.out.alloc (MoC 0 0 0 0 false 0))
          have PB := Lib.hid (HoldsN.new rfl : HoldsN (v2.alloc (MoC 0 0 0 0 false 0)) v2.heap.size 0 0 0 0 false 0)
          have lePB := le0
          replace le0 := Nat.le_trans le0 (Below.alloc (Below.refl v2.heap.size v2) (Nat.le_refl _) (MoC 0 0 0 0 false 0)).size
          have HBx := Lib.hid (ballD1 hHeld.2.2.2.2.2.2.2.2.2.2.2.2 (MoC 0 0 0 0 false 0))
          clear hHeld
          refine hK.out _ _ ?_ (fun hHeld => ?_)
          · exact ⟨RX.out.1.1, RX.out.1.2.1, RX.out.1.2.2.1, RX.out.1.2.2.2.1, RX.out.1.2.2.2.2.1, RX.out.1.2.2.2.2.2, RY.out.1.1, RY.out.1.2.1, RY.out.1.2.2.1, RY.out.1.2.2.2.1, RY.out.1.2.2.2.2.1, RY.out.1.2.2.2.2.2, HBx.out⟩
          clear hK K HBx
          try simp only [Act.put, List.setIfInBounds_toArray, List.set_cons_zero, List.set_cons_succ]
          generalize v2.alloc (MoC 0 0 0 0 false 0) = v3 at *
          obtain ⟨gB, hg⟩ : ∃ g, g = v2.heap.size := ⟨_, rfl⟩
          rw [← hg] at PB lePB ne ⊢
          clear hg
          refine wpAnyH_ready (rs := [3]) (by kernel_rfl) (by simp) ?_
          refine AllReadyH.cons (o := { dst := some 25, op := Go.Op.call { callee := Go.Callee.value (Go.Operand.func 9), args := #[Go.Operand.tmp 24], argTypes := #[23] }, type := 29, pos := "law.go:99", after := #[{ on := 2, ground := Go.Ground.data }, { on := 1, ground := Go.Ground.chain }], guard := none }) rfl (fun K hK => ?_) AllReadyH.nil
          go_simp
          refine (MB.out _).mono ?_
          rintro e v4 ⟨rfl, hbv⟩
          replace RX := Lib.hid (RX.out.below hbv)
          replace RY := Lib.hid (RY.out.below hbv)
          replace RZ := Lib.hid (RZ.out.below hbv)
          replace PA := Lib.hid (PA.out.below hbv)
          replace PB := Lib.hid (PB.out.below hbv)
          have HBx := Lib.hid (bstep hHeld.2.2.2.2.2.2.2.2.2.2.2.2 hbv)
          replace le0 := Nat.le_trans le0 hbv.size
          clear hHeld hbv
          refine hK.out _ _ ?_ (fun hHeld => ?_)
          · exact ⟨RX.out.1.1, RX.out.1.2.1, RX.out.1.2.2.1, RX.out.1.2.2.2.1, RX.out.1.2.2.2.2.1, RX.out.1.2.2.2.2.2, RY.out.1.1, RY.out.1.2.1, RY.out.1.2.2.1, RY.out.1.2.2.2.1, RY.out.1.2.2.2.2.1, RY.out.1.2.2.2.2.2, HBx.out⟩
          clear hK K HBx
          try simp only [Act.put, List.setIfInBounds_toArray, List.set_cons_zero, List.set_cons_succ]
          obtain ⟨⟨d0, d1, d2, d3, d4, d5⟩, ⟨f0, f1, f2, f3, f4, f5⟩, f6⟩ := id PA.out
          refine wpAnyH_ready (rs := [6]) (by kernel_rfl) (by simp) ?_
          refine AllReadyH.cons (o := { dst := none, op := Go.Op.store 29 (Go.Operand.tmp 7) (Go.Operand.tmp 23), type := 0, pos := "law.go:99", after := #[{ on := 4, ground := Go.Ground.data }, { on := 1, ground := Go.Ground.data }, { on := 3, ground := Go.Ground.chain }, { on := 0, ground := Go.Ground.phase }, { on := 1, ground := Go.Ground.phase }, { on := 2, ground := Go.Ground.textOnly Go.Departure.lateStores }, { on := 3, ground := Go.Ground.textOnly Go.Departure.lateStoresUnsure }, { on := 4, ground := Go.Ground.phase }, { on := 5, ground := Go.Ground.phase }], guard := none }) rfl (fun K hK => ?_) AllReadyH.nil
          go_simp
          clear f0 f1 f2 f3 f4 f5 f6 d0 d1 d2 d3 d4 d5
          have HBx := Lib.hid (B6 hHeld.2.2.2.2.2.2.2.2.2.2.2.2 (g := gA) (by omega) (.int .i64 ay) (.int .i64 am) (.int .i64 ad) (.int .i64 as') (.bool xz) (.int .i64 ao))
          replace RX := Lib.hid (far6 RX.out (g := gA) (by omega) (.int .i64 ay) (.int .i64 am) (.int .i64 ad) (.int .i64 as') (.bool xz) (.int .i64 ao))
          replace RY := Lib.hid (far6 RY.out (g := gA) (by omega) (.int .i64 ay) (.int .i64 am) (.int .i64 ad) (.int .i64 as') (.bool xz) (.int .i64 ao))
          replace RZ := Lib.hid (far6 RZ.out (g := gA) (by omega) (.int .i64 ay) (.int .i64 am) (.int .i64 ad) (.int .i64 as') (.bool xz) (.int .i64 ao))
          replace PB := Lib.hid (PB.out.far6 (g := gA) ne.symm (.int .i64 ay) (.int .i64 am) (.int .i64 ad) (.int .i64 as') (.bool xz) (.int .i64 ao))
          replace PA := Lib.hid (PA.out.put (y := ay) (m := am) (d := ad) (s := as') (z := xz) (o := ao))
          clear hHeld
          refine hK.out _ _ ?_ (fun hHeld => ?_)
          · exact ⟨RX.out.1.1, RX.out.1.2.1, RX.out.1.2.2.1, RX.out.1.2.2.2.1, RX.out.1.2.2.2.2.1, RX.out.1.2.2.2.2.2, RY.out.1.1, RY.out.1.2.1, RY.out.1.2.2.1, RY.out.1.2.2.2.1, RY.out.1.2.2.2.2.1, RY.out.1.2.2.2.2.2, HBx.out⟩
          clear hK K HBx
          try simp only [Act.put, List.setIfInBounds_toArray, List.set_cons_zero, List.set_cons_succ]
          obtain ⟨⟨d0, d1, d2, d3, d4, d5⟩, ⟨f0, f1, f2, f3, f4, f5⟩, f6⟩ := id PB.out
          refine wpAnyH_ready (rs := [7]) (by kernel_rfl) (by simp) ?_
          refine AllReadyH.cons (o := { dst := none, op := Go.Op.store 29 (Go.Operand.tmp 8) (Go.Operand.tmp 25), type := 0, pos := "law.go:99", after := #[{ on := 5, ground := Go.Ground.data }, { on := 3, ground := Go.Ground.data }, { on := 6, ground := Go.Ground.chain }, { on := 0, ground := Go.Ground.phase }, { on := 1, ground := Go.Ground.phase }, { on := 2, ground := Go.Ground.phase }, { on := 3, ground := Go.Ground.phase }, { on := 4, ground := Go.Ground.phase }, { on := 5, ground := Go.Ground.phase }, { on := 6, ground := Go.Ground.phase }], guard := none }) rfl (fun K hK => ?_) AllReadyH.nil
          go_simp
          clear f0 f1 f2 f3 f4 f5 f6 d0 d1 d2 d3 d4 d5
          have HBx := Lib.hid (B6 hHeld.2.2.2.2.2.2.2.2.2.2.2.2 (g := gB) (by omega) (.int .i64 by_) (.int .i64 bm) (.int .i64 bd) (.int .i64 bs) (.bool yz) (.int .i64 bo))
          replace RX := Lib.hid (far6 RX.out (g := gB) (by omega) (.int .i64 by_) (.int .i64 bm) (.int .i64 bd) (.int .i64 bs) (.bool yz) (.int .i64 bo))
          replace RY := Lib.hid (far6 RY.out (g := gB) (by omega) (.int .i64 by_) (.int .i64 bm) (.int .i64 bd) (.int .i64 bs) (.bool yz) (.int .i64 bo))
          replace RZ := Lib.hid (far6 RZ.out (g := gB) (by omega) (.int .i64 by_) (.int .i64 bm) (.int .i64 bd) (.int .i64 bs) (.bool yz) (.int .i64 bo))
          replace PA := Lib.hid (PA.out.far6 (g := gB) ne (.int .i64 by_) (.int .i64 bm) (.int .i64 bd) (.int .i64 bs) (.bool yz) (.int .i64 bo))
          replace PB := Lib.hid (PB.out.put (y := by_) (m := bm) (d := bd) (s := bs) (z := yz) (o := bo))
          clear hHeld
          refine hK.out _ _ ?_ (fun hHeld => ?_)
          · exact ⟨RX.out.1.1, RX.out.1.2.1, RX.out.1.2.2.1, RX.out.1.2.2.2.1, RX.out.1.2.2.2.2.1, RX.out.1.2.2.2.2.2, RY.out.1.1, RY.out.1.2.1, RY.out.1.2.2.1, RY.out.1.2.2.2.1, RY.out.1.2.2.2.2.1, RY.out.1.2.2.2.2.2, HBx.out⟩
          clear hK K HBx
          try simp only [Act.put, List.setIfInBounds_toArray, List.set_cons_zero, List.set_cons_succ]
          refine wpAnyH_done (by kernel_rfl) ?_ _
          exact ⟨gA, gB, rfl, RX.out, RY.out, RZ.out, PA.out, PB.out, lePA, lePB, hHeld.2.2.2.2.2.2.2.2.2.2.2.2⟩
      · go_simp
        have ne := Nat.ne_of_lt PA.out.2.2
        replace RX := Lib.hid (RX.out.alloc (MoC 0 0 0 0 false 0))
        replace RY := Lib.hid (RY.out.alloc (MoC 0 0 0 0 false 0))
        replace RZ := Lib.hid (RZ.out.alloc (MoC 0 0 0 0 false 0))
        replace PA := Lib.hid (PA.out.alloc (MoC 0 0 0 0 false 0))
        have PB := Lib.hid (HoldsN.new rfl : HoldsN (v1.alloc (MoC 0 0 0 0 false 0)) v1.heap.size 0 0 0 0 false 0)
        have lePB := le0
        replace le0 := Nat.le_trans le0 (Below.alloc (Below.refl v1.heap.size v1) (Nat.le_refl _) (MoC 0 0 0 0 false 0)).size
        have HBx := Lib.hid (ballD1 hHeld.2.2.2.2.2.2.2.2.2.2.2.2 (MoC 0 0 0 0 false 0))
        clear hHeld
        refine hK.out _ _ ?_ (fun hHeld => ?_)
        · exact ⟨RX.out.1.1, RX.out.1.2.1, RX.out.1.2.2.1, RX.out.1.2.2.2.1, RX.out.1.2.2.2.2.1, RX.out.1.2.2.2.2.2, RY.out.1.1, RY.out.1.2.1, RY.out.1.2.2.1, RY.out.1.2.2.2.1, RY.out.1.2.2.2.2.1, RY.out.1.2.2.2.2.2, HBx.out⟩
        clear hK K HBx
        try simp only [Act.put, List.setIfInBounds_toArray, List.set_cons_zero, List.set_cons_succ]
        generalize v1.alloc (MoC 0 0 0 0 false 0) = v2 at *
        obtain ⟨gB, hg⟩ : ∃ g, g = v1.heap.size := ⟨_, rfl⟩
        rw [← hg] at PB lePB ne ⊢
        clear hg
        refine wpAnyH_ready (rs := [1]) (by kernel_rfl) (by simp) ?_
        refine AllReadyH.cons (o := { dst := some 23, op := Go.Op.call { callee := Go.Callee.value (Go.Operand.func 9), args := #[Go.Operand.tmp 22], argTypes := #[23] }, type := 29, pos := "law.go:99", after := #[{ on := 0, ground := Go.Ground.data }], guard := none }) rfl (fun K hK => ?_) AllReadyH.nil
        go_simp
        refine (MA.out _).mono ?_
        rintro e v3 ⟨rfl, hbv⟩
        replace RX := Lib.hid (RX.out.below hbv)
        replace RY := Lib.hid (RY.out.below hbv)
        replace RZ := Lib.hid (RZ.out.below hbv)
        replace PA := Lib.hid (PA.out.below hbv)
        replace PB := Lib.hid (PB.out.below hbv)
        have HBx := Lib.hid (bstep hHeld.2.2.2.2.2.2.2.2.2.2.2.2 hbv)
        replace le0 := Nat.le_trans le0 hbv.size
        clear hHeld hbv
        refine hK.out _ _ ?_ (fun hHeld => ?_)
        · exact ⟨RX.out.1.1, RX.out.1.2.1, RX.out.1.2.2.1, RX.out.1.2.2.2.1, RX.out.1.2.2.2.2.1, RX.out.1.2.2.2.2.2, RY.out.1.1, RY.out.1.2.1, RY.out.1.2.2.1, RY.out.1.2.2.2.1, RY.out.1.2.2.2.2.1, RY.out.1.2.2.2.2.2, HBx.out⟩
        clear hK K HBx
        try simp only [Act.put, List.setIfInBounds_toArray, List.set_cons_zero, List.set_cons_succ]
        refine wpAnyH_ready (rs := [3]) (by kernel_rfl) (by simp) ?_
        refine AllReadyH.cons (o := { dst := some 25, op := Go.Op.call { callee := Go.Callee.value (Go.Operand.func 9), args := #[Go.Operand.tmp 24], argTypes := #[23] }, type := 29, pos := "law.go:99", after := #[{ on := 2, ground := Go.Ground.data }, { on := 1, ground := Go.Ground.chain }], guard := none }) rfl (fun K hK => ?_) AllReadyH.nil
        go_simp
        refine (MB.out _).mono ?_
        rintro e v4 ⟨rfl, hbv⟩
        replace RX := Lib.hid (RX.out.below hbv)
        replace RY := Lib.hid (RY.out.below hbv)
        replace RZ := Lib.hid (RZ.out.below hbv)
        replace PA := Lib.hid (PA.out.below hbv)
        replace PB := Lib.hid (PB.out.below hbv)
        have HBx := Lib.hid (bstep hHeld.2.2.2.2.2.2.2.2.2.2.2.2 hbv)
        replace le0 := Nat.le_trans le0 hbv.size
        clear hHeld hbv
        refine hK.out _ _ ?_ (fun hHeld => ?_)
        · exact ⟨RX.out.1.1, RX.out.1.2.1, RX.out.1.2.2.1, RX.out.1.2.2.2.1, RX.out.1.2.2.2.2.1, RX.out.1.2.2.2.2.2, RY.out.1.1, RY.out.1.2.1, RY.out.1.2.2.1, RY.out.1.2.2.2.1, RY.out.1.2.2.2.2.1, RY.out.1.2.2.2.2.2, HBx.out⟩
        clear hK K HBx
        try simp only [Act.put, List.setIfInBounds_toArray, List.set_cons_zero, List.set_cons_succ]
        obtain ⟨⟨d0, d1, d2, d3, d4, d5⟩, ⟨f0, f1, f2, f3, f4, f5⟩, f6⟩ := id PA.out
        refine wpAnyH_ready (rs := [6]) (by kernel_rfl) (by simp) ?_
        refine AllReadyH.cons (o := { dst := none, op := Go.Op.store 29 (Go.Operand.tmp 7) (Go.Operand.tmp 23), type := 0, pos := "law.go:99", after := #[{ on := 4, ground := Go.Ground.data }, { on := 1, ground := Go.Ground.data }, { on := 3, ground := Go.Ground.chain }, { on := 0, ground := Go.Ground.phase }, { on := 1, ground := Go.Ground.phase }, { on := 2, ground := Go.Ground.textOnly Go.Departure.lateStores }, { on := 3, ground := Go.Ground.textOnly Go.Departure.lateStoresUnsure }, { on := 4, ground := Go.Ground.phase }, { on := 5, ground := Go.Ground.phase }], guard := none }) rfl (fun K hK => ?_) AllReadyH.nil
        go_simp
        clear f0 f1 f2 f3 f4 f5 f6 d0 d1 d2 d3 d4 d5
        have HBx := Lib.hid (B6 hHeld.2.2.2.2.2.2.2.2.2.2.2.2 (g := gA) (by omega) (.int .i64 ay) (.int .i64 am) (.int .i64 ad) (.int .i64 as') (.bool xz) (.int .i64 ao))
        replace RX := Lib.hid (far6 RX.out (g := gA) (by omega) (.int .i64 ay) (.int .i64 am) (.int .i64 ad) (.int .i64 as') (.bool xz) (.int .i64 ao))
        replace RY := Lib.hid (far6 RY.out (g := gA) (by omega) (.int .i64 ay) (.int .i64 am) (.int .i64 ad) (.int .i64 as') (.bool xz) (.int .i64 ao))
        replace RZ := Lib.hid (far6 RZ.out (g := gA) (by omega) (.int .i64 ay) (.int .i64 am) (.int .i64 ad) (.int .i64 as') (.bool xz) (.int .i64 ao))
        replace PB := Lib.hid (PB.out.far6 (g := gA) ne.symm (.int .i64 ay) (.int .i64 am) (.int .i64 ad) (.int .i64 as') (.bool xz) (.int .i64 ao))
        replace PA := Lib.hid (PA.out.put (y := ay) (m := am) (d := ad) (s := as') (z := xz) (o := ao))
        clear hHeld
        refine hK.out _ _ ?_ (fun hHeld => ?_)
        · exact ⟨RX.out.1.1, RX.out.1.2.1, RX.out.1.2.2.1, RX.out.1.2.2.2.1, RX.out.1.2.2.2.2.1, RX.out.1.2.2.2.2.2, RY.out.1.1, RY.out.1.2.1, RY.out.1.2.2.1, RY.out.1.2.2.2.1, RY.out.1.2.2.2.2.1, RY.out.1.2.2.2.2.2, HBx.out⟩
        clear hK K HBx
        try simp only [Act.put, List.setIfInBounds_toArray, List.set_cons_zero, List.set_cons_succ]
        obtain ⟨⟨d0, d1, d2, d3, d4, d5⟩, ⟨f0, f1, f2, f3, f4, f5⟩, f6⟩ := id PB.out
        refine wpAnyH_ready (rs := [7]) (by kernel_rfl) (by simp) ?_
        refine AllReadyH.cons (o := { dst := none, op := Go.Op.store 29 (Go.Operand.tmp 8) (Go.Operand.tmp 25), type := 0, pos := "law.go:99", after := #[{ on := 5, ground := Go.Ground.data }, { on := 3, ground := Go.Ground.data }, { on := 6, ground := Go.Ground.chain }, { on := 0, ground := Go.Ground.phase }, { on := 1, ground := Go.Ground.phase }, { on := 2, ground := Go.Ground.phase }, { on := 3, ground := Go.Ground.phase }, { on := 4, ground := Go.Ground.phase }, { on := 5, ground := Go.Ground.phase }, { on := 6, ground := Go.Ground.phase }], guard := none }) rfl (fun K hK => ?_) AllReadyH.nil
        go_simp
        clear f0 f1 f2 f3 f4 f5 f6 d0 d1 d2 d3 d4 d5
        have HBx := Lib.hid (B6 hHeld.2.2.2.2.2.2.2.2.2.2.2.2 (g := gB) (by omega) (.int .i64 by_) (.int .i64 bm) (.int .i64 bd) (.int .i64 bs) (.bool yz) (.int .i64 bo))
        replace RX := Lib.hid (far6 RX.out (g := gB) (by omega) (.int .i64 by_) (.int .i64 bm) (.int .i64 bd) (.int .i64 bs) (.bool yz) (.int .i64 bo))
        replace RY := Lib.hid (far6 RY.out (g := gB) (by omega) (.int .i64 by_) (.int .i64 bm) (.int .i64 bd) (.int .i64 bs) (.bool yz) (.int .i64 bo))
        replace RZ := Lib.hid (far6 RZ.out (g := gB) (by omega) (.int .i64 by_) (.int .i64 bm) (.int .i64 bd) (.int .i64 bs) (.bool yz) (.int .i64 bo))
        replace PA := Lib.hid (PA.out.far6 (g := gB) ne (.int .i64 by_) (.int .i64 bm) (.int .i64 bd) (.int .i64 bs) (.bool yz) (.int .i64 bo))
        replace PB := Lib.hid (PB.out.put (y := by_) (m := bm) (d := bd) (s := bs) (z := yz) (o := bo))
        clear hHeld
        refine hK.out _ _ ?_ (fun hHeld => ?_)
        · exact ⟨RX.out.1.1, RX.out.1.2.1, RX.out.1.2.2.1, RX.out.1.2.2.2.1, RX.out.1.2.2.2.2.1, RX.out.1.2.2.2.2.2, RY.out.1.1, RY.out.1.2.1, RY.out.1.2.2.1, RY.out.1.2.2.2.1, RY.out.1.2.2.2.2.1, RY.out.1.2.2.2.2.2, HBx.out⟩
        clear hK K HBx
        try simp only [Act.put, List.setIfInBounds_toArray, List.set_cons_zero, List.set_cons_succ]
        refine wpAnyH_done (by kernel_rfl) ?_ _
        exact ⟨gA, gB, rfl, RX.out, RY.out, RZ.out, PA.out, PB.out, lePA, lePB, hHeld.2.2.2.2.2.2.2.2.2.2.2.2⟩
    · go_simp
      replace RX := Lib.hid (RX.out.alloc (MoC 0 0 0 0 false 0))
      replace RY := Lib.hid (RY.out.alloc (MoC 0 0 0 0 false 0))
      replace RZ := Lib.hid (RZ.out.alloc (MoC 0 0 0 0 false 0))
      have PB := Lib.hid (HoldsN.new rfl : HoldsN (v0.alloc (MoC 0 0 0 0 false 0)) v0.heap.size 0 0 0 0 false 0)
      have lePB := le0
      replace le0 := Nat.le_trans le0 (Below.alloc (Below.refl v0.heap.size v0) (Nat.le_refl _) (MoC 0 0 0 0 false 0)).size
      have HBx := Lib.hid (ballD1 hHeld.2.2.2.2.2.2.2.2.2.2.2.2 (MoC 0 0 0 0 false 0))
      clear hHeld
      refine hK.out _ _ ?_ (fun hHeld => ?_)
      · exact ⟨RX.out.1.1, RX.out.1.2.1, RX.out.1.2.2.1, RX.out.1.2.2.2.1, RX.out.1.2.2.2.2.1, RX.out.1.2.2.2.2.2, RY.out.1.1, RY.out.1.2.1, RY.out.1.2.2.1, RY.out.1.2.2.2.1, RY.out.1.2.2.2.2.1, RY.out.1.2.2.2.2.2, HBx.out⟩
      clear hK K HBx
      try simp only [Act.put, List.setIfInBounds_toArray, List.set_cons_zero, List.set_cons_succ]
      generalize v0.alloc (MoC 0 0 0 0 false 0) = v1 at *
      obtain ⟨gB, hg⟩ : ∃ g, g = v0.heap.size := ⟨_, rfl⟩
      rw [← hg] at PB lePB ⊢
      clear hg
      refine wpAnyH_ready (rs := [1, 4]) (by kernel_rfl) (by simp) ?_
      refine AllReadyH.cons (o := { dst := some 23, op := Go.Op.call { callee := Go.Callee.value (Go.Operand.func 9), args := #[Go.Operand.tmp 22], argTypes := #[23] }, type := 29, pos := "law.go:99", after := #[{ on := 0, ground := Go.Ground.data }], guard := none }) rfl (fun K hK => ?_) (AllReadyH.cons (o := { dst := some 7, op := Go.Op.alloc 29, type := 0, pos := "law.go:99", after := #[], guard := none }) rfl (fun K hK => ?_) AllReadyH.nil)
      · go_simp
        refine (MA.out _).mono ?_
        rintro e v2 ⟨rfl, hbv⟩
        replace RX := Lib.hid (RX.out.below hbv)
        replace RY := Lib.hid (RY.out.below hbv)
        replace RZ := Lib.hid (RZ.out.below hbv)
        replace PB := Lib.hid (PB.out.below hbv)
        have HBx := Lib.hid (bstep hHeld.2.2.2.2.2.2.2.2.2.2.2.2 hbv)
        replace le0 := Nat.le_trans le0 hbv.size
        clear hHeld hbv
        refine hK.out _ _ ?_ (fun hHeld => ?_)
        · exact ⟨RX.out.1.1, RX.out.1.2.1, RX.out.1.2.2.1, RX.out.1.2.2.2.1, RX.out.1.2.2.2.2.1, RX.out.1.2.2.2.2.2, RY.out.1.1, RY.out.1.2.1, RY.out.1.2.2.1, RY.out.1.2.2.2.1, RY.out.1.2.2.2.2.1, RY.out.1.2.2.2.2.2, HBx.out⟩
        clear hK K HBx
        try simp only [Act.put, List.setIfInBounds_toArray, List.set_cons_zero, List.set_cons_succ]
        refine wpAnyH_ready (rs := [3, 4]) (by kernel_rfl) (by simp) ?_
        refine AllReadyH.cons (o := { dst := some 25, op := Go.Op.call { callee := Go.Callee.value (Go.Operand.func 9), args := #[Go.Operand.tmp 24], argTypes := #[23] }, type := 29, pos := "law.go:99", after := #[{ on := 2, ground := Go.Ground.data }, { on := 1, ground := Go.Ground.chain }], guard := none }) rfl (fun K hK => ?_) (AllReadyH.cons (o := { dst := some 7, op := Go.Op.alloc 29, type := 0, pos := "law.go:99", after := #[], guard := none }) rfl (fun K hK => ?_) AllReadyH.nil)
        · go_simp
          refine (MB.out _).mono ?_
          rintro e v3 ⟨rfl, hbv⟩
          replace RX := Lib.hid (RX.out.below hbv)
          replace RY := Lib.hid (RY.out.below hbv)
          replace RZ := Lib.hid (RZ.out.below hbv)
          replace PB := Lib.hid (PB.out.below hbv)
          have HBx := Lib.hid (bstep hHeld.2.2.2.2.2.2.2.2.2.2.2.2 hbv)
          replace le0 := Nat.le_trans le0 hbv.size
          clear hHeld hbv
          refine hK.out _ _ ?_ (fun hHeld => ?_)
          · exact ⟨RX.out.1.1, RX.out.1.2.1, RX.out.1.2.2.1, RX.out.1.2.2.2.1, RX.out.1.2.2.2.2.1, RX.out.1.2.2.2.2.2, RY.out.1.1, RY.out.1.2.1, RY.out.1.2.2.1, RY.out.1.2.2.2.1, RY.out.1.2.2.2.2.1, RY.out.1.2.2.2.2.2, HBx.out⟩
          clear hK K HBx
          try simp only [Act.put, List.setIfInBounds_toArray, List.set_cons_zero, List.set_cons_succ]
          refine wpAnyH_ready (rs := [4]) (by kernel_rfl) (by simp) ?_
          refine AllReadyH.cons (o := { dst := some 7, op := Go.Op.alloc 29, type := 0, pos := "law.go:99", after := #[], guard := none }) rfl (fun K hK => ?_) AllReadyH.nil
          go_simp
          have ne := Nat.ne_of_lt PB.out.2.2
          replace RX := Lib.hid (RX.out.alloc (MoC 0 0 0 0 false 0))
          replace RY := Lib.hid (RY.out.alloc (MoC 0 0 0 0 false 0))
          replace RZ := Lib.hid (RZ.out.alloc (MoC 0 0 0 0 false 0))
          replace PB := Lib.hid (PB.out.alloc (MoC 0 0 0 0 false 0))
          have PA := Lib.hid (HoldsN.new rfl : HoldsN (v3.alloc (MoC 0 0 0 0 false 0)) v3.heap.size 0 0 0 0 false 0)
          have lePA := le0
          replace le0 := Nat.le_trans le0 (Below.alloc (Below.refl v3.heap.size v3) (Nat.le_refl _) (MoC 0 0 0 0 false 0)).size
          have HBx := Lib.hid (ballD1 hHeld.2.2.2.2.2.2.2.2.2.2.2.2 (MoC 0 0 0 0 false 0))
          clear hHeld
          refine hK.out _ _ ?_ (fun hHeld => ?_)
          · exact ⟨RX.out.1.1, RX.out.1.2.1, RX.out.1.2.2.1, RX.out.1.2.2.2.1, RX.out.1.2.2.2.2.1, RX.out.1.2.2.2.2.2, RY.out.1.1, RY.out.1.2.1, RY.out.1.2.2.1, RY.out.1.2.2.2.1, RY.out.1.2.2.2.2.1, RY.out.1.2.2.2.2.2, HBx.out⟩
          clear hK K HBx
          try simp only [Act.put, List.setIfInBounds_toArray, List.set_cons_zero, List.set_cons_succ]
          generalize v3.alloc (MoC 0 0 0 0 false 0) = v4 at *
          obtain ⟨gA, hg⟩ : ∃ g, g = v3.heap.size := ⟨_, rfl⟩
          rw [← hg] at PA lePA ne ⊢
          clear hg
          replace ne := ne.symm
          obtain ⟨⟨d0, d1, d2, d3, d4, d5⟩, ⟨f0, f1, f2, f3, f4, f5⟩, f6⟩ := id PA.out
          refine wpAnyH_ready (rs := [6]) (by kernel_rfl) (by simp) ?_
          refine AllReadyH.cons (o := { dst := none, op := Go.Op.store 29 (Go.Operand.tmp 7) (Go.Operand.tmp 23), type := 0, pos := "law.go:99", after := #[{ on := 4, ground := Go.Ground.data }, { on := 1, ground := Go.Ground.data }, { on := 3, ground := Go.Ground.chain }, { on := 0, ground := Go.Ground.phase }, { on := 1, ground := Go.Ground.phase }, { on := 2, ground := Go.Ground.textOnly Go.Departure.lateStores }, { on := 3, ground := Go.Ground.textOnly Go.Departure.lateStoresUnsure }, { on := 4, ground := Go.Ground.phase }, { on := 5, ground := Go.Ground.phase }], guard := none }) rfl (fun K hK => ?_) AllReadyH.nil
          go_simp
          clear f0 f1 f2 f3 f4 f5 f6 d0 d1 d2 d3 d4 d5
          have HBx := Lib.hid (B6 hHeld.2.2.2.2.2.2.2.2.2.2.2.2 (g := gA) (by omega) (.int .i64 ay) (.int .i64 am) (.int .i64 ad) (.int .i64 as') (.bool xz) (.int .i64 ao))
          replace RX := Lib.hid (far6 RX.out (g := gA) (by omega) (.int .i64 ay) (.int .i64 am) (.int .i64 ad) (.int .i64 as') (.bool xz) (.int .i64 ao))
          replace RY := Lib.hid (far6 RY.out (g := gA) (by omega) (.int .i64 ay) (.int .i64 am) (.int .i64 ad) (.int .i64 as') (.bool xz) (.int .i64 ao))
          replace RZ := Lib.hid (far6 RZ.out (g := gA) (by omega) (.int .i64 ay) (.int .i64 am) (.int .i64 ad) (.int .i64 as') (.bool xz) (.int .i64 ao))
          replace PB := Lib.hid (PB.out.far6 (g := gA) ne.symm (.int .i64 ay) (.int .i64 am) (.int .i64 ad) (.int .i64 as') (.bool xz) (.int .i64 ao))
          replace PA := Lib.hid (PA.out.put (y := ay) (m := am) (d := ad) (s := as') (z := xz) (o := ao))
          clear hHeld
          refine hK.out _ _ ?_ (fun hHeld => ?_)
          · exact ⟨RX.out.1.1, RX.out.1.2.1, RX.out.1.2.2.1, RX.out.1.2.2.2.1, RX.out.1.2.2.2.2.1, RX.out.1.2.2.2.2.2, RY.out.1.1, RY.out.1.2.1, RY.out.1.2.2.1, RY.out.1.2.2.2.1, RY.out.1.2.2.2.2.1, RY.out.1.2.2.2.2.2, HBx.out⟩
          clear hK K HBx
          try simp only [Act.put, List.setIfInBounds_toArray, List.set_cons_zero, List.set_cons_succ]
          obtain ⟨⟨d0, d1, d2, d3, d4, d5⟩, ⟨f0, f1, f2, f3, f4, f5⟩, f6⟩ := id PB.out
          refine wpAnyH_ready (rs := [7]) (by kernel_rfl) (by simp) ?_
          refine AllReadyH.cons (o := { dst := none, op := Go.Op.store 29 (Go.Operand.tmp 8) (Go.Operand.tmp 25), type := 0, pos := "law.go:99", after := #[{ on := 5, ground := Go.Ground.data }, { on := 3, ground := Go.Ground.data }, { on := 6, ground := Go.Ground.chain }, { on := 0, ground := Go.Ground.phase }, { on := 1, ground := Go.Ground.phase }, { on := 2, ground := Go.Ground.phase }, { on := 3, ground := Go.Ground.phase }, { on := 4, ground := Go.Ground.phase }, { on := 5, ground := Go.Ground.phase }, { on := 6, ground := Go.Ground.phase }], guard := none }) rfl (fun K hK => ?_) AllReadyH.nil
          go_simp
          clear f0 f1 f2 f3 f4 f5 f6 d0 d1 d2 d3 d4 d5
          have HBx := Lib.hid (B6 hHeld.2.2.2.2.2.2.2.2.2.2.2.2 (g := gB) (by omega) (.int .i64 by_) (.int .i64 bm) (.int .i64 bd) (.int .i64 bs) (.bool yz) (.int .i64 bo))
          replace RX := Lib.hid (far6 RX.out (g := gB) (by omega) (.int .i64 by_) (.int .i64 bm) (.int .i64 bd) (.int .i64 bs) (.bool yz) (.int .i64 bo))
          replace RY := Lib.hid (far6 RY.out (g := gB) (by omega) (.int .i64 by_) (.int .i64 bm) (.int .i64 bd) (.int .i64 bs) (.bool yz) (.int .i64 bo))
          replace RZ := Lib.hid (far6 RZ.out (g := gB) (by omega) (.int .i64 by_) (.int .i64 bm) (.int .i64 bd) (.int .i64 bs) (.bool yz) (.int .i64 bo))
          replace PA := Lib.hid (PA.out.far6 (g := gB) ne (.int .i64 by_) (.int .i64 bm) (.int .i64 bd) (.int .i64 bs) (.bool yz) (.int .i64 bo))
          replace PB := Lib.hid (PB.out.put (y := by_) (m := bm) (d := bd) (s := bs) (z := yz) (o := bo))
          clear hHeld
          refine hK.out _ _ ?_ (fun hHeld => ?_)
          · exact ⟨RX.out.1.1, RX.out.1.2.1, RX.out.1.2.2.1, RX.out.1.2.2.2.1, RX.out.1.2.2.2.2.1, RX.out.1.2.2.2.2.2, RY.out.1.1, RY.out.1.2.1, RY.out.1.2.2.1, RY.out.1.2.2.2.1, RY.out.1.2.2.2.2.1, RY.out.1.2.2.2.2.2, HBx.out⟩
          clear hK K HBx
          try simp only [Act.put, List.setIfInBounds_toArray, List.set_cons_zero, List.set_cons_succ]
          refine wpAnyH_done (by kernel_rfl) ?_ _
          exact ⟨gA, gB, rfl, RX.out, RY.out, RZ.out, PA.out, PB.out, lePA, lePB, hHeld.2.2.2.2.2.2.2.2.2.2.2.2⟩
        · go_simp
          have ne := Nat.ne_of_lt PB.out.2.2
          replace RX := Lib.hid (RX.out.alloc (MoC 0 0 0 0 false 0))
          replace RY := Lib.hid (RY.out.alloc (MoC 0 0 0 0 false 0))
          replace RZ := Lib.hid (RZ.out.alloc (MoC 0 0 0 0 false 0))
          replace PB := Lib.hid (PB.out.alloc (MoC 0 0 0 0 false 0))
          have PA := Lib.hid (HoldsN.new rfl : HoldsN (v2.alloc (MoC 0 0 0 0 false 0)) v2.heap.size 0 0 0 0 false 0)
          have lePA := le0
          replace le0 := Nat.le_trans le0 (Below.alloc (Below.refl v2.heap.size v2) (Nat.le_refl _) (MoC 0 0 0 0 false 0)).size
          have HBx := Lib.hid (ballD1 hHeld.2.2.2.2.2.2.2.2.2.2.2.2 (MoC 0 0 0 0 false 0))
          clear hHeld
          refine hK.out _ _ ?_ (fun hHeld => ?_)
          · exact ⟨RX.out.1.1, RX.out.1.2.1, RX.out.1.2.2.1, RX.out.1.2.2.2.1, RX.out.1.2.2.2.2.1, RX.out.1.2.2.2.2.2, RY.out.1.1, RY.out.1.2.1, RY.out.1.2.2.1, RY.out.1.2.2.2.1, RY.out.1.2.2.2.2.1, RY.out.1.2.2.2.2.2, HBx.out⟩
          clear hK K HBx
          try simp only [Act.put, List.setIfInBounds_toArray, List.set_cons_zero, List.set_cons_succ]
          generalize v2.alloc (MoC 0 0 0 0 false 0) = v3 at *
          obtain ⟨gA, hg⟩ : ∃ g, g = v2.heap.size := ⟨_, rfl⟩
          rw [← hg] at PA lePA ne ⊢
          clear hg
          replace ne := ne.symm
          refine wpAnyH_ready (rs := [3]) (by kernel_rfl) (by simp) ?_
          refine AllReadyH.cons (o := { dst := some 25, op := Go.Op.call { callee := Go.Callee.value (Go.Operand.func 9), args := #[Go.Operand.tmp 24], argTypes := #[23] }, type := 29, pos := "law.go:99", after := #[{ on := 2, ground := Go.Ground.data }, { on := 1, ground := Go.Ground.chain }], guard := none }) rfl (fun K hK => ?_) AllReadyH.nil
          go_simp
          refine (MB.out _).mono ?_
          rintro e v4 ⟨rfl, hbv⟩
          replace RX := Lib.hid (RX.out.below hbv)
          replace RY := Lib.hid (RY.out.below hbv)
          replace RZ := Lib.hid (RZ.out.below hbv)
          replace PA := Lib.hid (PA.out.below hbv)
          replace PB := Lib.hid (PB.out.below hbv)
          have HBx := Lib.hid (bstep hHeld.2.2.2.2.2.2.2.2.2.2.2.2 hbv)
          replace le0 := Nat.le_trans le0 hbv.size
          clear hHeld hbv
          refine hK.out _ _ ?_ (fun hHeld => ?_)
          · exact ⟨RX.out.1.1, RX.out.1.2.1, RX.out.1.2.2.1, RX.out.1.2.2.2.1, RX.out.1.2.2.2.2.1, RX.out.1.2.2.2.2.2, RY.out.1.1, RY.out.1.2.1, RY.out.1.2.2.1, RY.out.1.2.2.2.1, RY.out.1.2.2.2.2.1, RY.out.1.2.2.2.2.2, HBx.out⟩
          clear hK K HBx
          try simp only [Act.put, List.setIfInBounds_toArray, List.set_cons_zero, List.set_cons_succ]
          obtain ⟨⟨d0, d1, d2, d3, d4, d5⟩, ⟨f0, f1, f2, f3, f4, f5⟩, f6⟩ := id PA.out
          refine wpAnyH_ready (rs := [6]) (by kernel_rfl) (by simp) ?_
          refine AllReadyH.cons (o := { dst := none, op := Go.Op.store 29 (Go.Operand.tmp 7) (Go.Operand.tmp 23), type := 0, pos := "law.go:99", after := #[{ on := 4, ground := Go.Ground.data }, { on := 1, ground := Go.Ground.data }, { on := 3, ground := Go.Ground.chain }, { on := 0, ground := Go.Ground.phase }, { on := 1, ground := Go.Ground.phase }, { on := 2, ground := Go.Ground.textOnly Go.Departure.lateStores }, { on := 3, ground := Go.Ground.textOnly Go.Departure.lateStoresUnsure }, { on := 4, ground := Go.Ground.phase }, { on := 5, ground := Go.Ground.phase }], guard := none }) rfl (fun K hK => ?_) AllReadyH.nil
          go_simp
          clear f0 f1 f2 f3 f4 f5 f6 d0 d1 d2 d3 d4 d5
          have HBx := Lib.hid (B6 hHeld.2.2.2.2.2.2.2.2.2.2.2.2 (g := gA) (by omega) (.int .i64 ay) (.int .i64 am) (.int .i64 ad) (.int .i64 as') (.bool xz) (.int .i64 ao))
          replace RX := Lib.hid (far6 RX.out (g := gA) (by omega) (.int .i64 ay) (.int .i64 am) (.int .i64 ad) (.int .i64 as') (.bool xz) (.int .i64 ao))
          replace RY := Lib.hid (far6 RY.out (g := gA) (by omega) (.int .i64 ay) (.int .i64 am) (.int .i64 ad) (.int .i64 as') (.bool xz) (.int .i64 ao))
          replace RZ := Lib.hid (far6 RZ.out (g := gA) (by omega) (.int .i64 ay) (.int .i64 am) (.int .i64 ad) (.int .i64 as') (.bool xz) (.int .i64 ao))
          replace PB := Lib.hid (PB.out.far6 (g := gA) ne.symm (.int .i64 ay) (.int .i64 am) (.int .i64 ad) (.int .i64 as') (.bool xz) (.int .i64 ao))
          replace PA := Lib.hid (PA.out.put (y := ay) (m := am) (d := ad) (s := as') (z := xz) (o := ao))
          clear hHeld
          refine hK.out _ _ ?_ (fun hHeld => ?_)
          · exact ⟨RX.out.1.1, RX.out.1.2.1, RX.out.1.2.2.1, RX.out.1.2.2.2.1, RX.out.1.2.2.2.2.1, RX.out.1.2.2.2.2.2, RY.out.1.1, RY.out.1.2.1, RY.out.1.2.2.1, RY.out.1.2.2.2.1, RY.out.1.2.2.2.2.1, RY.out.1.2.2.2.2.2, HBx.out⟩
          clear hK K HBx
          try simp only [Act.put, List.setIfInBounds_toArray, List.set_cons_zero, List.set_cons_succ]
          obtain ⟨⟨d0, d1, d2, d3, d4, d5⟩, ⟨f0, f1, f2, f3, f4, f5⟩, f6⟩ := id PB.out
          refine wpAnyH_ready (rs := [7]) (by kernel_rfl) (by simp) ?_
          refine AllReadyH.cons (o := { dst := none, op := Go.Op.store 29 (Go.Operand.tmp 8) (Go.Operand.tmp 25), type := 0, pos := "law.go:99", after := #[{ on := 5, ground := Go.Ground.data }, { on := 3, ground := Go.Ground.data }, { on := 6, ground := Go.Ground.chain }, { on := 0, ground := Go.Ground.phase }, { on := 1, ground := Go.Ground.phase }, { on := 2, ground := Go.Ground.phase }, { on := 3, ground := Go.Ground.phase }, { on := 4, ground := Go.Ground.phase }, { on := 5, ground := Go.Ground.phase }, { on := 6, ground := Go.Ground.phase }], guard := none }) rfl (fun K hK => ?_) AllReadyH.nil
          go_simp
          clear f0 f1 f2 f3 f4 f5 f6 d0 d1 d2 d3 d4 d5
          have HBx := Lib.hid (B6 hHeld.2.2.2.2.2.2.2.2.2.2.2.2 (g := gB) (by omega) (.int .i64 by_) (.int .i64 bm) (.int .i64 bd) (.int .i64 bs) (.bool yz) (.int .i64 bo))
          replace RX := Lib.hid (far6 RX.out (g := gB) (by omega) (.int .i64 by_) (.int .i64 bm) (.int .i64 bd) (.int .i64 bs) (.bool yz) (.int .i64 bo))
          replace RY := Lib.hid (far6 RY.out (g := gB) (by omega) (.int .i64 by_) (.int .i64 bm) (.int .i64 bd) (.int .i64 bs) (.bool yz) (.int .i64 bo))
          replace RZ := Lib.hid (far6 RZ.out (g := gB) (by omega) (.int .i64 by_) (.int .i64 bm) (.int .i64 bd) (.int .i64 bs) (.bool yz) (.int .i64 bo))
          replace PA := Lib.hid (PA.out.far6 (g := gB) ne (.int .i64 by_) (.int .i64 bm) (.int .i64 bd) (.int .i64 bs) (.bool yz) (.int .i64 bo))
          replace PB := Lib.hid (PB.out.put (y := by_) (m := bm) (d := bd) (s := bs) (z := yz) (o := bo))
          clear hHeld
          refine hK.out _ _ ?_ (fun hHeld => ?_)
          · exact ⟨RX.out.1.1, RX.out.1.2.1, RX.out.1.2.2.1, RX.out.1.2.2.2.1, RX.out.1.2.2.2.2.1, RX.out.1.2.2.2.2.2, RY.out.1.1, RY.out.1.2.1, RY.out.1.2.2.1, RY.out.1.2.2.2.1, RY.out.1.2.2.2.2.1, RY.out.1.2.2.2.2.2, HBx.out⟩
          clear hK K HBx
          try simp only [Act.put, List.setIfInBounds_toArray, List.set_cons_zero, List.set_cons_succ]
          refine wpAnyH_done (by kernel_rfl) ?_ _
          exact ⟨gA, gB, rfl, RX.out, RY.out, RZ.out, PA.out, PB.out, lePA, lePB, hHeld.2.2.2.2.2.2.2.2.2.2.2.2⟩
      · go_simp
        have ne := Nat.ne_of_lt PB.out.2.2
        replace RX := Lib.hid (RX.out.alloc (MoC 0 0 0 0 false 0))
        replace RY := Lib.hid (RY.out.alloc (MoC 0 0 0 0 false 0))
        replace RZ := Lib.hid (RZ.out.alloc (MoC 0 0 0 0 false 0))
        replace PB := Lib.hid (PB.out.alloc (MoC 0 0 0 0 false 0))
        have PA := Lib.hid (HoldsN.new rfl : HoldsN (v1.alloc (MoC 0 0 0 0 false 0)) v1.heap.size 0 0 0 0 false 0)
        have lePA := le0
        replace le0 := Nat.le_trans le0 (Below.alloc (Below.refl v1.heap.size v1) (Nat.le_refl _) (MoC 0 0 0 0 false 0)).size
        have HBx := Lib.hid (ballD1 hHeld.2.2.2.2.2.2.2.2.2.2.2.2 (MoC 0 0 0 0 false 0))
        clear hHeld
        refine hK.out _ _ ?_ (fun hHeld => ?_)
        · exact ⟨RX.out.1.1, RX.out.1.2.1, RX.out.1.2.2.1, RX.out.1.2.2.2.1, RX.out.1.2.2.2.2.1, RX.out.1.2.2.2.2.2, RY.out.1.1, RY.out.1.2.1, RY.out.1.2.2.1, RY.out.1.2.2.2.1, RY.out.1.2.2.2.2.1, RY.out.1.2.2.2.2.2, HBx.out⟩
        clear hK K HBx
        try simp only [Act.put, List.setIfInBounds_toArray, List.set_cons_zero, List.set_cons_succ]
        generalize v1.alloc (MoC 0 0 0 0 false 0) = v2 at *
        obtain ⟨gA, hg⟩ : ∃ g, g = v1.heap.size := ⟨_, rfl⟩
        rw [← hg] at PA lePA ne ⊢
        clear hg
        replace ne := ne.symm
        refine wpAnyH_ready (rs := [1]) (by kernel_rfl) (by simp) ?_
        refine AllReadyH.cons (o := { dst := some 23, op := Go.Op.call { callee := Go.Callee.value (Go.Operand.func 9), args := #[Go.Operand.tmp 22], argTypes := #[23] }, type := 29, pos := "law.go:99", after := #[{ on := 0, ground := Go.Ground.data }], guard := none }) rfl (fun K hK => ?_) AllReadyH.nil
        go_simp
        refine (MA.out _).mono ?_
        rintro e v3 ⟨rfl, hbv⟩
        replace RX := Lib.hid (RX.out.below hbv)
        replace RY := Lib.hid (RY.out.below hbv)
        replace RZ := Lib.hid (RZ.out.below hbv)
        replace PA := Lib.hid (PA.out.below hbv)
        replace PB := Lib.hid (PB.out.below hbv)
        have HBx := Lib.hid (bstep hHeld.2.2.2.2.2.2.2.2.2.2.2.2 hbv)
        replace le0 := Nat.le_trans le0 hbv.size
        clear hHeld hbv
        refine hK.out _ _ ?_ (fun hHeld => ?_)
        · exact ⟨RX.out.1.1, RX.out.1.2.1, RX.out.1.2.2.1, RX.out.1.2.2.2.1, RX.out.1.2.2.2.2.1, RX.out.1.2.2.2.2.2, RY.out.1.1, RY.out.1.2.1, RY.out.1.2.2.1, RY.out.1.2.2.2.1, RY.out.1.2.2.2.2.1, RY.out.1.2.2.2.2.2, HBx.out⟩
        clear hK K HBx
        try simp only [Act.put, List.setIfInBounds_toArray, List.set_cons_zero, List.set_cons_succ]
        refine wpAnyH_ready (rs := [3]) (by kernel_rfl) (by simp) ?_
        refine AllReadyH.cons (o := { dst := some 25, op := Go.Op.call { callee := Go.Callee.value (Go.Operand.func 9), args := #[Go.Operand.tmp 24], argTypes := #[23] }, type := 29, pos := "law.go:99", after := #[{ on := 2, ground := Go.Ground.data }, { on := 1, ground := Go.Ground.chain }], guard := none }) rfl (fun K hK => ?_) AllReadyH.nil
        go_simp
        refine (MB.out _).mono ?_
        rintro e v4 ⟨rfl, hbv⟩
        replace RX := Lib.hid (RX.out.below hbv)
        replace RY := Lib.hid (RY.out.below hbv)
        replace RZ := Lib.hid (RZ.out.below hbv)
        replace PA := Lib.hid (PA.out.below hbv)
        replace PB := Lib.hid (PB.out.below hbv)
        have HBx := Lib.hid (bstep hHeld.2.2.2.2.2.2.2.2.2.2.2.2 hbv)
        replace le0 := Nat.le_trans le0 hbv.size
        clear hHeld hbv
        refine hK.out _ _ ?_ (fun hHeld => ?_)
        · exact ⟨RX.out.1.1, RX.out.1.2.1, RX.out.1.2.2.1, RX.out.1.2.2.2.1, RX.out.1.2.2.2.2.1, RX.out.1.2.2.2.2.2, RY.out.1.1, RY.out.1.2.1, RY.out.1.2.2.1, RY.out.1.2.2.2.1, RY.out.1.2.2.2.2.1, RY.out.1.2.2.2.2.2, HBx.out⟩
        clear hK K HBx
        try simp only [Act.put, List.setIfInBounds_toArray, List.set_cons_zero, List.set_cons_succ]
        obtain ⟨⟨d0, d1, d2, d3, d4, d5⟩, ⟨f0, f1, f2, f3, f4, f5⟩, f6⟩ := id PA.out
        refine wpAnyH_ready (rs := [6]) (by kernel_rfl) (by simp) ?_
        refine AllReadyH.cons (o := { dst := none, op := Go.Op.store 29 (Go.Operand.tmp 7) (Go.Operand.tmp 23), type := 0, pos := "law.go:99", after := #[{ on := 4, ground := Go.Ground.data }, { on := 1, ground := Go.Ground.data }, { on := 3, ground := Go.Ground.chain }, { on := 0, ground := Go.Ground.phase }, { on := 1, ground := Go.Ground.phase }, { on := 2, ground := Go.Ground.textOnly Go.Departure.lateStores }, { on := 3, ground := Go.Ground.textOnly Go.Departure.lateStoresUnsure }, { on := 4, ground := Go.Ground.phase }, { on := 5, ground := Go.Ground.phase }], guard := none }) rfl (fun K hK => ?_) AllReadyH.nil
        go_simp
        clear f0 f1 f2 f3 f4 f5 f6 d0 d1 d2 d3 d4 d5
        have HBx := Lib.hid (B6 hHeld.2.2.2.2.2.2.2.2.2.2.2.2 (g := gA) (by omega) (.int .i64 ay) (.int .i64 am) (.int .i64 ad) (.int .i64 as') (.bool xz) (.int .i64 ao))
        replace RX := Lib.hid (far6 RX.out (g := gA) (by omega) (.int .i64 ay) (.int .i64 am) (.int .i64 ad) (.int .i64 as') (.bool xz) (.int .i64 ao))
        replace RY := Lib.hid (far6 RY.out (g := gA) (by omega) (.int .i64 ay) (.int .i64 am) (.int .i64 ad) (.int .i64 as') (.bool xz) (.int .i64 ao))
        replace RZ := Lib.hid (far6 RZ.out (g := gA) (by omega) (.int .i64 ay) (.int .i64 am) (.int .i64 ad) (.int .i64 as') (.bool xz) (.int .i64 ao))
        replace PB := Lib.hid (PB.out.far6 (g := gA) ne.symm (.int .i64 ay) (.int .i64 am) (.int .i64 ad) (.int .i64 as') (.bool xz) (.int .i64 ao))
        replace PA := Lib.hid (PA.out.put (y := ay) (m := am) (d := ad) (s := as') (z := xz) (o := ao))
        clear hHeld
        refine hK.out _ _ ?_ (fun hHeld => ?_)
        · exact ⟨RX.out.1.1, RX.out.1.2.1, RX.out.1.2.2.1, RX.out.1.2.2.2.1, RX.out.1.2.2.2.2.1, RX.out.1.2.2.2.2.2, RY.out.1.1, RY.out.1.2.1, RY.out.1.2.2.1, RY.out.1.2.2.2.1, RY.out.1.2.2.2.2.1, RY.out.1.2.2.2.2.2, HBx.out⟩
        clear hK K HBx
        try simp only [Act.put, List.setIfInBounds_toArray, List.set_cons_zero, List.set_cons_succ]
        obtain ⟨⟨d0, d1, d2, d3, d4, d5⟩, ⟨f0, f1, f2, f3, f4, f5⟩, f6⟩ := id PB.out
        refine wpAnyH_ready (rs := [7]) (by kernel_rfl) (by simp) ?_
        refine AllReadyH.cons (o := { dst := none, op := Go.Op.store 29 (Go.Operand.tmp 8) (Go.Operand.tmp 25), type := 0, pos := "law.go:99", after := #[{ on := 5, ground := Go.Ground.data }, { on := 3, ground := Go.Ground.data }, { on := 6, ground := Go.Ground.chain }, { on := 0, ground := Go.Ground.phase }, { on := 1, ground := Go.Ground.phase }, { on := 2, ground := Go.Ground.phase }, { on := 3, ground := Go.Ground.phase }, { on := 4, ground := Go.Ground.phase }, { on := 5, ground := Go.Ground.phase }, { on := 6, ground := Go.Ground.phase }], guard := none }) rfl (fun K hK => ?_) AllReadyH.nil
        go_simp
        clear f0 f1 f2 f3 f4 f5 f6 d0 d1 d2 d3 d4 d5
        have HBx := Lib.hid (B6 hHeld.2.2.2.2.2.2.2.2.2.2.2.2 (g := gB) (by omega) (.int .i64 by_) (.int .i64 bm) (.int .i64 bd) (.int .i64 bs) (.bool yz) (.int .i64 bo))
        replace RX := Lib.hid (far6 RX.out (g := gB) (by omega) (.int .i64 by_) (.int .i64 bm) (.int .i64 bd) (.int .i64 bs) (.bool yz) (.int .i64 bo))
        replace RY := Lib.hid (far6 RY.out (g := gB) (by omega) (.int .i64 by_) (.int .i64 bm) (.int .i64 bd) (.int .i64 bs) (.bool yz) (.int .i64 bo))
        replace RZ := Lib.hid (far6 RZ.out (g := gB) (by omega) (.int .i64 by_) (.int .i64 bm) (.int .i64 bd) (.int .i64 bs) (.bool yz) (.int .i64 bo))
        replace PA := Lib.hid (PA.out.far6 (g := gB) ne (.int .i64 by_) (.int .i64 bm) (.int .i64 bd) (.int .i64 bs) (.bool yz) (.int .i64 bo))
        replace PB := Lib.hid (PB.out.put (y := by_) (m := bm) (d := bd) (s := bs) (z := yz) (o := bo))
        clear hHeld
        refine hK.out _ _ ?_ (fun hHeld => ?_)
        · exact ⟨RX.out.1.1, RX.out.1.2.1, RX.out.1.2.2.1, RX.out.1.2.2.2.1, RX.out.1.2.2.2.2.1, RX.out.1.2.2.2.2.2, RY.out.1.1, RY.out.1.2.1, RY.out.1.2.2.1, RY.out.1.2.2.2.1, RY.out.1.2.2.2.2.1, RY.out.1.2.2.2.2.2, HBx.out⟩
        clear hK K HBx
        try simp only [Act.put, List.setIfInBounds_toArray, List.set_cons_zero, List.set_cons_succ]
        refine wpAnyH_done (by kernel_rfl) ?_ _
        exact ⟨gA, gB, rfl, RX.out, RY.out, RZ.out, PA.out, PB.out, lePA, lePB, hHeld.2.2.2.2.2.2.2.2.2.2.2.2⟩
  · rintro a' W ⟨gA, gB, rfl, RX0, RY0, RZ0, PA0, PB0, lA, lB, B1⟩
    replace RX := Lib.hid RX0
    replace RY := Lib.hid RY0
    replace RZ := Lib.hid RZ0
    have PA := Lib.hid PA0
    have PB := Lib.hid PB0
    clear RX0 RY0 RZ0 PA0 PB0 MA MB B
    have B := B1
    clear B1
    have nA : gA ≠ w.heap.size + 1 + 1 := by omega
    have nB : gB ≠ w.heap.size + 1 + 1 := by omega
    clear lA lB sz
    simp only [Act.put, List.setIfInBounds_toArray, List.set_cons_zero, List.set_cons_succ]
    obtain ⟨⟨c0_0, c0_1, c0_2, c0_3, c0_4, c0_5⟩, -, c0z⟩ := RX.out
    obtain ⟨⟨c2_0, c2_1, c2_2, c2_3, c2_4, c2_5⟩, ⟨c2f0, c2f1, c2f2, c2f3, c2f4, c2f5⟩, c2z⟩ := RZ.out
    go_upto_region 5 with fail
    change Code.wp _ _ _ _ (W.setCell ⟨w.heap.size + 1 + 1, 5, none⟩ (.bool xz))
    clear c0_0 c0_1 c0_2 c0_3 c0_4 c0_5 c0z c2f0 c2f1 c2f2 c2f3 c2f4 c2f5 c2_0 c2_1 c2_2 c2_3 c2_4 c2_5 c2z
    replace RX := Lib.hid (RX.out.far (p := ⟨w.heap.size + 1 + 1, 5, none⟩) (by show w.heap.size ≠ w.heap.size + 1 + 1; omega) (.bool xz))
    replace RY := Lib.hid (RY.out.far (p := ⟨w.heap.size + 1 + 1, 5, none⟩) (by simp) (.bool xz))
    replace PA := Lib.hid (PA.out.far (p := ⟨w.heap.size + 1 + 1, 5, none⟩) nA (.bool xz))
    replace PB := Lib.hid (PB.out.far (p := ⟨w.heap.size + 1 + 1, 5, none⟩) nB (.bool xz))
    replace RZ := Lib.hid (RZ.out.put5 (z' := xz))
    replace B := B.setCell (p := ⟨w.heap.size + 1 + 1, 5, none⟩) (by show w.heap.size ≤ w.heap.size + 1 + 1; omega) (.bool xz)
    clear nA nB
    generalize (W.setCell ⟨w.heap.size + 1 + 1, 5, none⟩ (.bool xz)) = W2 at *
    obtain ⟨⟨c0_0, c0_1, c0_2, c0_3, c0_4, c0_5⟩, -, c0z⟩ := RX.out
    obtain ⟨⟨c1_0, c1_1, c1_2, c1_3, c1_4, c1_5⟩, -, c1z⟩ := RY.out
    obtain ⟨⟨c2_0, c2_1, c2_2, c2_3, c2_4, c2_5⟩, -, c2z⟩ := RZ.out
    obtain ⟨⟨c3_0, c3_1, c3_2, c3_3, c3_4, c3_5⟩, -, c3z⟩ := PA.out
    obtain ⟨⟨c4_0, c4_1, c4_2, c4_3, c4_4, c4_5⟩, -, c4z⟩ := PB.out
    go_wp2_with fail
    refine (MC.out _).mono ?_
    rintro e w50 ⟨rfl, hb⟩
    replace RX := Lib.hid (RX.out.below hb)
    replace RY := Lib.hid (RY.out.below hb)
    replace RZ := Lib.hid (RZ.out.below hb)
    replace PA := Lib.hid (PA.out.below hb)
    replace PB := Lib.hid (PB.out.below hb)
    replace B := bstep B hb
    clear hb MC
    clear c0_0 c0_1 c0_2 c0_3 c0_4 c0_5 c0z c1_0 c1_1 c1_2 c1_3 c1_4 c1_5 c1z c2_0 c2_1 c2_2 c2_3 c2_4 c2_5 c2z c3_0 c3_1 c3_2 c3_3 c3_4 c3_5 c3z c4_0 c4_1 c4_2 c4_3 c4_4 c4_5 c4z
    replace RX := Lib.hid (RX.out.alloc (MoC cy cm cd cs xz co))
    replace RY := Lib.hid (RY.out.alloc (MoC cy cm cd cs xz co))
    replace RZ := Lib.hid (RZ.out.alloc (MoC cy cm cd cs xz co))
    replace PA := Lib.hid (PA.out.alloc (MoC cy cm cd cs xz co))
    replace PB := Lib.hid (PB.out.alloc (MoC cy cm cd cs xz co))
    have PC := Lib.hid (HoldsN.new rfl : HoldsN (w50.alloc (MoC cy cm cd cs xz co)) w50.heap.size cy cm cd cs xz co)
    replace B := ballD1 B (MoC cy cm cd cs xz co)
    go_upto_region 6 with fail
    change Code.wp _ _ _ _ (w50.alloc (MoC cy cm cd cs xz co))
    generalize w50.alloc (MoC cy cm cd cs xz co) = w51 at *
    obtain ⟨gPC, hg⟩ : ∃ g, g = w50.heap.size := ⟨_, rfl⟩
    rw [← hg] at PC ⊢
    clear hg
    clear RZ
    obtain ⟨⟨c0_0, c0_1, c0_2, c0_3, c0_4, c0_5⟩, -, c0z⟩ := RX.out
    obtain ⟨⟨c1_0, c1_1, c1_2, c1_3, c1_4, c1_5⟩, -, c1z⟩ := RY.out
    obtain ⟨⟨c2_0, c2_1, c2_2, c2_3, c2_4, c2_5⟩, -, c2z⟩ := PA.out
    obtain ⟨⟨c3_0, c3_1, c3_2, c3_3, c3_4, c3_5⟩, -, c3z⟩ := PB.out
    obtain ⟨⟨c4_0, c4_1, c4_2, c4_3, c4_4, c4_5⟩, -, c4z⟩ := PC.out
    go_wp2_with fail
    refine (B1.out _).mono ?_
    rintro e w52 ⟨rfl, hb⟩
    replace RX := Lib.hid (RX.out.below hb)
    replace RY := Lib.hid (RY.out.below hb)
    replace PA := Lib.hid (PA.out.below hb)
    replace PB := Lib.hid (PB.out.below hb)
    replace PC := Lib.hid (PC.out.below hb)
    replace B := bstep B hb
    clear hb B1
    clear c0_0 c0_1 c0_2 c0_3 c0_4 c0_5 c0z c1_0 c1_1 c1_2 c1_3 c1_4 c1_5 c1z c2_0 c2_1 c2_2 c2_3 c2_4 c2_5 c2z c3_0 c3_1 c3_2 c3_3 c3_4 c3_5 c3z c4_0 c4_1 c4_2 c4_3 c4_4 c4_5 c4z
    obtain ⟨⟨c0_0, c0_1, c0_2, c0_3, c0_4, c0_5⟩, -, c0z⟩ := RX.out
    obtain ⟨⟨c1_0, c1_1, c1_2, c1_3, c1_4, c1_5⟩, -, c1z⟩ := RY.out
    obtain ⟨⟨c2_0, c2_1, c2_2, c2_3, c2_4, c2_5⟩, -, c2z⟩ := PA.out
    obtain ⟨⟨c3_0, c3_1, c3_2, c3_3, c3_4, c3_5⟩, -, c3z⟩ := PB.out
    obtain ⟨⟨c4_0, c4_1, c4_2, c4_3, c4_4, c4_5⟩, -, c4z⟩ := PC.out
    go_wp2_with fail
    refine (CC.out _).mono ?_
    rintro e w53 ⟨rfl, hb⟩
    replace RX := Lib.hid (RX.out.below hb)
    replace RY := Lib.hid (RY.out.below hb)
    replace PA := Lib.hid (PA.out.below hb)
    replace PB := Lib.hid (PB.out.below hb)
    replace PC := Lib.hid (PC.out.below hb)
    replace B := bstep B hb
    clear hb CC
    clear c0_0 c0_1 c0_2 c0_3 c0_4 c0_5 c0z c1_0 c1_1 c1_2 c1_3 c1_4 c1_5 c1z c2_0 c2_1 c2_2 c2_3 c2_4 c2_5 c2z c3_0 c3_1 c3_2 c3_3 c3_4 c3_5 c3z c4_0 c4_1 c4_2 c4_3 c4_4 c4_5 c4z
    obtain ⟨⟨c0_0, c0_1, c0_2, c0_3, c0_4, c0_5⟩, -, c0z⟩ := RX.out
    obtain ⟨⟨c1_0, c1_1, c1_2, c1_3, c1_4, c1_5⟩, -, c1z⟩ := RY.out
    go_wp2
    go_ret
    exact ⟨rfl, B⟩
set_option linter.unusedSimpArgs false in
set_option linter.unusedVariables false in
set_option maxRecDepth 100000 in
set_option maxHeartbeats 16000000 in
theorem between_walk_yes (x0 x1 x2 x3 x4 : Int) (xz : Bool) (y0 y1 y2 y3 y4 : Int) (yz : Bool) (z0 z1 z2 z3 z4 : Int) (zz : Bool) (ay am ad as' ao by_ bm bd bs bo cy cm cd cs co : Int) (n k m l back : Int) (he : (xz == yz) = true) (MA0 : ∀ w : World, Calls Try.prog 9 #[Rw x0 x1 x2 x3 x4 xz] w (Ret (Mo ay am ad as' xz ao) w)) (MB0 : ∀ w : World, Calls Try.prog 9 #[Rw y0 y1 y2 y3 y4 yz] w (Ret (Mo by_ bm bd bs yz bo) w)) (MC0 : ∀ w : World, Calls Try.prog 9 #[Rw z0 z1 z2 z3 z4 xz] w (Ret (Mo cy cm cd cs xz co) w)) (B10 : ∀ w : World, Calls Try.prog 17 #[Mo ay am ad as' xz ao, Mo by_ bm bd bs yz bo] w (Ret (.tuple #[.int .i64 n, .bool true]) w)) (CC0 : ∀ w : World, Calls Try.prog 20 #[Mo ay am ad as' xz ao, Mo by_ bm bd bs yz bo] w (Ret (.tuple #[.int .i64 k, .bool true]) w)) (B20 : ∀ w : World, Calls Try.prog 17 #[Mo by_ bm bd bs yz bo, Mo cy cm cd cs xz co] w (Ret (.tuple #[.int .i64 m, .bool true]) w)) (B30 : ∀ w : World, Calls Try.prog 17 #[Mo ay am ad as' xz ao, Mo cy cm cd cs xz co] w (Ret (.tuple #[.int .i64 l, .bool true]) w)) (B40 : ∀ w : World, Calls Try.prog 17 #[Mo by_ bm bd bs yz bo, Mo ay am ad as' xz ao] w (Ret (.tuple #[.int .i64 back, .bool true]) w)) (f1 : wrap64 (n + m) = l) (g1 : IntKind.i64.wrap (n + m) = l) (f2 : wrap64 (-n) = back) (g2 : IntKind.i64.wrap (-n) = back) (OC0 : (k = -1 ∧ 0 < n) ∨ (k = 0 ∧ 0 = n) ∨ (k = 1 ∧ n < 0)) (w : World) : Calls Try.prog 6 #[Rw x0 x1 x2 x3 x4 xz, Rw y0 y1 y2 y3 y4 yz, Rw z0 z1 z2 z3 z4 zz] w (Ret (.bool true) w) := by
  have AW := Lib.hid awake8
  have MA := Lib.hid MA0
  have MB := Lib.hid MB0
  have MC := Lib.hid MC0
  have B1 := Lib.hid B10
  have CC := Lib.hid CC0
  have B2 := Lib.hid B20
  have B3 := Lib.hid B30
  have B4 := Lib.hid B40
  have OC := Lib.hid OC0
  clear MA0 MB0 MC0 B10 CC0 B20 B30 B40 OC0
  go_enter Try.func6, Try.ntmps6
  go_upto_region 1 with fail
  have RX := Lib.hid (HoldsR.alloc (HoldsR.alloc (HoldsR.new rfl) _) _ : HoldsR (((w.alloc (RwC x0 x1 x2 x3 x4 xz)).alloc (RwC y0 y1 y2 y3 y4 yz)).alloc (RwC z0 z1 z2 z3 z4 zz)) w.heap.size x0 x1 x2 x3 x4 xz)
  have RY := Lib.hid (HoldsR.alloc (HoldsR.new (by simp)) _ : HoldsR (((w.alloc (RwC x0 x1 x2 x3 x4 xz)).alloc (RwC y0 y1 y2 y3 y4 yz)).alloc (RwC z0 z1 z2 z3 z4 zz)) (w.heap.size + 1) y0 y1 y2 y3 y4 yz)
  have RZ := Lib.hid (HoldsR.new (by simp) : HoldsR (((w.alloc (RwC x0 x1 x2 x3 x4 xz)).alloc (RwC y0 y1 y2 y3 y4 yz)).alloc (RwC z0 z1 z2 z3 z4 zz)) (w.heap.size + 1 + 1) z0 z1 z2 z3 z4 zz)
  have B := ballD1 (ballD1 (ballD1 (Below.refl w.heap.size w) (RwC x0 x1 x2 x3 x4 xz)) (RwC y0 y1 y2 y3 y4 yz)) (RwC z0 z1 z2 z3 z4 zz)
  change Code.wp _ _ _ _ (((w.alloc (RwC x0 x1 x2 x3 x4 xz)).alloc (RwC y0 y1 y2 y3 y4 yz)).alloc (RwC z0 z1 z2 z3 z4 zz))
  generalize (((w.alloc (RwC x0 x1 x2 x3 x4 xz)).alloc (RwC y0 y1 y2 y3 y4 yz)).alloc (RwC z0 z1 z2 z3 z4 zz)) = w0 at *
  obtain ⟨⟨c0_0, c0_1, c0_2, c0_3, c0_4, c0_5⟩, -, c0z⟩ := RX.out
  obtain ⟨⟨c1_0, c1_1, c1_2, c1_3, c1_4, c1_5⟩, -, c1z⟩ := RY.out
  obtain ⟨⟨c2_0, c2_1, c2_2, c2_3, c2_4, c2_5⟩, -, c2z⟩ := RZ.out
  go_wp2_with fail
  refine (AW.out _).mono ?_
  rintro e w1 ⟨rfl, hb⟩
  replace RX := Lib.hid (RX.out.below hb)
  replace RY := Lib.hid (RY.out.below hb)
  replace RZ := Lib.hid (RZ.out.below hb)
  replace B := bstep B hb
  clear hb AW
  clear c0_0 c0_1 c0_2 c0_3 c0_4 c0_5 c0z c1_0 c1_1 c1_2 c1_3 c1_4 c1_5 c1z c2_0 c2_1 c2_2 c2_3 c2_4 c2_5 c2z
  go_upto_region 3 with fail
  generalize w1 = V at *
  have sz : w.heap.size + 1 + 1 < V.heap.size := RZ.out.2.2
  refine region_via (fun a a' w' => ∃ gA gB : Nat, a' = ((((((a.put (some 22) (Rw x0 x1 x2 x3 x4 xz)).put (some 23) (Mo ay am ad as' xz ao)).put (some 24) (Rw y0 y1 y2 y3 y4 yz)).put (some 25) (Mo by_ bm bd bs yz bo)).put (some 7) (.pointer (some ⟨gA, 0, none⟩))).put (some 8) (.pointer (some ⟨gB, 0, none⟩))) ∧ HoldsR w' w.heap.size x0 x1 x2 x3 x4 xz ∧ HoldsR w' (w.heap.size + 1) y0 y1 y2 y3 y4 yz ∧ HoldsR w' (w.heap.size + 1 + 1) z0 z1 z2 z3 z4 zz ∧ HoldsN w' gA ay am ad as' xz ao ∧ HoldsN w' gB by_ bm bd bs yz bo ∧ V.heap.size ≤ gA ∧ V.heap.size ≤ gB ∧ Below w.heap.size w w') ?_ ?_
  · refine wp_region_held_drew (S := fun w' => w'.cell? ⟨w.heap.size, 0, none⟩ = some (.int .i64 x0) ∧ w'.cell? ⟨w.heap.size, 1, none⟩ = some (.int .i64 x1) ∧ w'.cell? ⟨w.heap.size, 2, none⟩ = some (.int .i64 x2) ∧ w'.cell? ⟨w.heap.size, 3, none⟩ = some (.int .i64 x3) ∧ w'.cell? ⟨w.heap.size, 4, none⟩ = some (.int .i64 x4) ∧ w'.cell? ⟨w.heap.size, 5, none⟩ = some (.bool xz) ∧ w'.cell? ⟨(w.heap.size + 1), 0, none⟩ = some (.int .i64 y0) ∧ w'.cell? ⟨(w.heap.size + 1), 1, none⟩ = some (.int .i64 y1) ∧ w'.cell? ⟨(w.heap.size + 1), 2, none⟩ = some (.int .i64 y2) ∧ w'.cell? ⟨(w.heap.size + 1), 3, none⟩ = some (.int .i64 y3) ∧ w'.cell? ⟨(w.heap.size + 1), 4, none⟩ = some (.int .i64 y4) ∧ w'.cell? ⟨(w.heap.size + 1), 5, none⟩ = some (.bool yz) ∧ Below w.heap.size w w') (by kernel_rfl) ?_ (fun hHeld => ?_)
    · exact ⟨RX.out.1.1, RX.out.1.2.1, RX.out.1.2.2.1, RX.out.1.2.2.2.1, RX.out.1.2.2.2.2.1, RX.out.1.2.2.2.2.2, RY.out.1.1, RY.out.1.2.1, RY.out.1.2.2.1, RY.out.1.2.2.2.1, RY.out.1.2.2.2.2.1, RY.out.1.2.2.2.2.2, B.drew⟩
    replace RX := Lib.hid RX.out.drew
    replace RY := Lib.hid RY.out.drew
    replace RZ := Lib.hid RZ.out.drew
    have le0 : V.heap.size ≤ V.drew.heap.size := Nat.le_refl _
    generalize V.drew = v0 at *
    refine wpAnyH_take (i := 0) (oi := { dst := some 22, op := Go.Op.load 23 (Go.Operand.tmp 3), type := 23, pos := "law.go:99", after := #[], guard := none }) (v := ?_) rfl (by kernel_rfl) (by kernel_rfl) (by kernel_rfl) (fun _ _ _ h => h) (Or.inl ⟨by rfl, ?_⟩) (by assumption) ?_
    rotate_left
    · intro w hSw
      try dsimp only at hSw
      go_simp
      try with_reducible rfl
    try simp only [Act.put, List.setIfInBounds_toArray, List.set_cons_zero, List.set_cons_succ]
    refine wpAnyH_take (i := 2) (oi := { dst := some 24, op := Go.Op.load 23 (Go.Operand.tmp 4), type := 23, pos := "law.go:99", after := #[], guard := none }) (v := ?_) rfl (by kernel_rfl) (by kernel_rfl) (by kernel_rfl) (fun _ _ _ h => h) (Or.inl ⟨by rfl, ?_⟩) (by assumption) ?_
    rotate_left
    · intro w hSw
      try dsimp only at hSw
      go_simp
      try with_reducible rfl
    try simp only [Act.put, List.setIfInBounds_toArray, List.set_cons_zero, List.set_cons_succ]
    refine wpAnyH_ready (rs := [1, 4, 5]) (by kernel_rfl) (by simp) ?_
    refine AllReadyH.cons (o := { dst := some 23, op := Go.Op.call { callee := Go.Callee.value (Go.Operand.func 9), args := #[Go.Operand.tmp 22], argTypes := #[23] }, type := 29, pos := "law.go:99", after := #[{ on := 0, ground := Go.Ground.data }], guard := none }) rfl (fun K hK => ?_) (AllReadyH.cons (o := { dst := some 7, op := Go.Op.alloc 29, type := 0, pos := "law.go:99", after := #[], guard := none }) rfl (fun K hK => ?_) (AllReadyH.cons (o := { dst := some 8, op := Go.Op.alloc 29, type := 0, pos := "law.go:99", after := #[], guard := none }) rfl (fun K hK => ?_) AllReadyH.nil))
    · go_simp
      refine (MA.out _).mono ?_
      rintro e v1 ⟨rfl, hbv⟩
      replace RX := Lib.hid (RX.out.below hbv)
      replace RY := Lib.hid (RY.out.below hbv)
      replace RZ := Lib.hid (RZ.out.below hbv)
      have HBx := Lib.hid (bstep hHeld.2.2.2.2.2.2.2.2.2.2.2.2 hbv)
      replace le0 := Nat.le_trans le0 hbv.size
      clear hHeld hbv
      refine hK.out _ _ ?_ (fun hHeld => ?_)
      · exact ⟨RX.out.1.1, RX.out.1.2.1, RX.out.1.2.2.1, RX.out.1.2.2.2.1, RX.out.1.2.2.2.2.1, RX.out.1.2.2.2.2.2, RY.out.1.1, RY.out.1.2.1, RY.out.1.2.2.1, RY.out.1.2.2.2.1, RY.out.1.2.2.2.2.1, RY.out.1.2.2.2.2.2, HBx.out⟩
      clear hK K HBx
      try simp only [Act.put, List.setIfInBounds_toArray, List.set_cons_zero, List.set_cons_succ]
      refine wpAnyH_ready (rs := [3, 4, 5]) (by kernel_rfl) (by simp) ?_
      refine AllReadyH.cons (o := { dst := some 25, op := Go.Op.call { callee := Go.Callee.value (Go.Operand.func 9), args := #[Go.Operand.tmp 24], argTypes := #[23] }, type := 29, pos := "law.go:99", after := #[{ on := 2, ground := Go.Ground.data }, { on := 1, ground := Go.Ground.chain }], guard := none }) rfl (fun K hK => ?_) (AllReadyH.cons (o := { dst := some 7, op := Go.Op.alloc 29, type := 0, pos := "law.go:99", after := #[], guard := none }) rfl (fun K hK => ?_) (AllReadyH.cons (o := { dst := some 8, op := Go.Op.alloc 29, type := 0, pos := "law.go:99", after := #[], guard := none }) rfl (fun K hK => ?_) AllReadyH.nil))
      · go_simp
        refine (MB.out _).mono ?_
        rintro e v2 ⟨rfl, hbv⟩
        replace RX := Lib.hid (RX.out.below hbv)
        replace RY := Lib.hid (RY.out.below hbv)
        replace RZ := Lib.hid (RZ.out.below hbv)
        have HBx := Lib.hid (bstep hHeld.2.2.2.2.2.2.2.2.2.2.2.2 hbv)
        replace le0 := Nat.le_trans le0 hbv.size
        clear hHeld hbv
        refine hK.out _ _ ?_ (fun hHeld => ?_)
        · exact ⟨RX.out.1.1, RX.out.1.2.1, RX.out.1.2.2.1, RX.out.1.2.2.2.1, RX.out.1.2.2.2.2.1, RX.out.1.2.2.2.2.2, RY.out.1.1, RY.out.1.2.1, RY.out.1.2.2.1, RY.out.1.2.2.2.1, RY.out.1.2.2.2.2.1, RY.out.1.2.2.2.2.2, HBx.out⟩
        clear hK K HBx
        try simp only [Act.put, List.setIfInBounds_toArray, List.set_cons_zero, List.set_cons_succ]
        refine wpAnyH_ready (rs := [4, 5]) (by kernel_rfl) (by simp) ?_
        refine AllReadyH.cons (o := { dst := some 7, op := Go.Op.alloc 29, type := 0, pos := "law.go:99", after := #[], guard := none }) rfl (fun K hK => ?_) (AllReadyH.cons (o := { dst := some 8, op := Go.Op.alloc 29, type := 0, pos := "law.go:99", after := #[], guard := none }) rfl (fun K hK => ?_) AllReadyH.nil)
        · go_simp
          replace RX := Lib.hid (RX.out.alloc (MoC 0 0 0 0 false 0))
          replace RY := Lib.hid (RY.out.alloc (MoC 0 0 0 0 false 0))
          replace RZ := Lib.hid (RZ.out.alloc (MoC 0 0 0 0 false 0))
          have PA := Lib.hid (HoldsN.new rfl : HoldsN (v2.alloc (MoC 0 0 0 0 false 0)) v2.heap.size 0 0 0 0 false 0)
          have lePA := le0
          replace le0 := Nat.le_trans le0 (Below.alloc (Below.refl v2.heap.size v2) (Nat.le_refl _) (MoC 0 0 0 0 false 0)).size
          have HBx := Lib.hid (ballD1 hHeld.2.2.2.2.2.2.2.2.2.2.2.2 (MoC 0 0 0 0 false 0))
          clear hHeld
          refine hK.out _ _ ?_ (fun hHeld => ?_)
          · exact ⟨RX.out.1.1, RX.out.1.2.1, RX.out.1.2.2.1, RX.out.1.2.2.2.1, RX.out.1.2.2.2.2.1, RX.out.1.2.2.2.2.2, RY.out.1.1, RY.out.1.2.1, RY.out.1.2.2.1, RY.out.1.2.2.2.1, RY.out.1.2.2.2.2.1, RY.out.1.2.2.2.2.2, HBx.out⟩
          clear hK K HBx
          try simp only [Act.put, List.setIfInBounds_toArray, List.set_cons_zero, List.set_cons_succ]
          generalize v2.alloc (MoC 0 0 0 0 false 0) = v3 at *
          obtain ⟨gA, hg⟩ : ∃ g, g = v2.heap.size := ⟨_, rfl⟩
          rw [← hg] at PA lePA ⊢
          clear hg
          refine wpAnyH_ready (rs := [5]) (by kernel_rfl) (by simp) ?_
          refine AllReadyH.cons (o := { dst := some 8, op := Go.Op.alloc 29, type := 0, pos := "law.go:99", after := #[], guard := none }) rfl (fun K hK => ?_) AllReadyH.nil
          go_simp
          have ne := Nat.ne_of_lt PA.out.2.2
          replace RX := Lib.hid (RX.out.alloc (MoC 0 0 0 0 false 0))
          replace RY := Lib.hid (RY.out.alloc (MoC 0 0 0 0 false 0))
          replace RZ := Lib.hid (RZ.out.alloc (MoC 0 0 0 0 false 0))
          replace PA := Lib.hid (PA.out.alloc (MoC 0 0 0 0 false 0))
          have PB := Lib.hid (HoldsN.new rfl : HoldsN (v3.alloc (MoC 0 0 0 0 false 0)) v3.heap.size 0 0 0 0 false 0)
          have lePB := le0
          replace le0 := Nat.le_trans le0 (Below.alloc (Below.refl v3.heap.size v3) (Nat.le_refl _) (MoC 0 0 0 0 false 0)).size
          have HBx := Lib.hid (ballD1 hHeld.2.2.2.2.2.2.2.2.2.2.2.2 (MoC 0 0 0 0 false 0))
          clear hHeld
          refine hK.out _ _ ?_ (fun hHeld => ?_)
          · exact ⟨RX.out.1.1, RX.out.1.2.1, RX.out.1.2.2.1, RX.out.1.2.2.2.1, RX.out.1.2.2.2.2.1, RX.out.1.2.2.2.2.2, RY.out.1.1, RY.out.1.2.1, RY.out.1.2.2.1, RY.out.1.2.2.2.1, RY.out.1.2.2.2.2.1, RY.out.1.2.2.2.2.2, HBx.out⟩
          clear hK K HBx
          try simp only [Act.put, List.setIfInBounds_toArray, List.set_cons_zero, List.set_cons_succ]
          generalize v3.alloc (MoC 0 0 0 0 false 0) = v4 at *
          obtain ⟨gB, hg⟩ : ∃ g, g = v3.heap.size := ⟨_, rfl⟩
          rw [← hg] at PB lePB ne ⊢
          clear hg
          obtain ⟨⟨d0, d1, d2, d3, d4, d5⟩, ⟨f0, f1, f2, f3, f4, f5⟩, f6⟩ := id PA.out
          refine wpAnyH_ready (rs := [6]) (by kernel_rfl) (by simp) ?_
          refine AllReadyH.cons (o := { dst := none, op := Go.Op.store 29 (Go.Operand.tmp 7) (Go.Operand.tmp 23), type := 0, pos := "law.go:99", after := #[{ on := 4, ground := Go.Ground.data }, { on := 1, ground := Go.Ground.data }, { on := 3, ground := Go.Ground.chain }, { on := 0, ground := Go.Ground.phase }, { on := 1, ground := Go.Ground.phase }, { on := 2, ground := Go.Ground.textOnly Go.Departure.lateStores }, { on := 3, ground := Go.Ground.textOnly Go.Departure.lateStoresUnsure }, { on := 4, ground := Go.Ground.phase }, { on := 5, ground := Go.Ground.phase }], guard := none }) rfl (fun K hK => ?_) AllReadyH.nil
          go_simp
          clear f0 f1 f2 f3 f4 f5 f6 d0 d1 d2 d3 d4 d5
          have HBx := Lib.hid (B6 hHeld.2.2.2.2.2.2.2.2.2.2.2.2 (g := gA) (by omega) (.int .i64 ay) (.int .i64 am) (.int .i64 ad) (.int .i64 as') (.bool xz) (.int .i64 ao))
          replace RX := Lib.hid (far6 RX.out (g := gA) (by omega) (.int .i64 ay) (.int .i64 am) (.int .i64 ad) (.int .i64 as') (.bool xz) (.int .i64 ao))
          replace RY := Lib.hid (far6 RY.out (g := gA) (by omega) (.int .i64 ay) (.int .i64 am) (.int .i64 ad) (.int .i64 as') (.bool xz) (.int .i64 ao))
          replace RZ := Lib.hid (far6 RZ.out (g := gA) (by omega) (.int .i64 ay) (.int .i64 am) (.int .i64 ad) (.int .i64 as') (.bool xz) (.int .i64 ao))
          replace PB := Lib.hid (PB.out.far6 (g := gA) ne.symm (.int .i64 ay) (.int .i64 am) (.int .i64 ad) (.int .i64 as') (.bool xz) (.int .i64 ao))
          replace PA := Lib.hid (PA.out.put (y := ay) (m := am) (d := ad) (s := as') (z := xz) (o := ao))
          clear hHeld
          refine hK.out _ _ ?_ (fun hHeld => ?_)
          · exact ⟨RX.out.1.1, RX.out.1.2.1, RX.out.1.2.2.1, RX.out.1.2.2.2.1, RX.out.1.2.2.2.2.1, RX.out.1.2.2.2.2.2, RY.out.1.1, RY.out.1.2.1, RY.out.1.2.2.1, RY.out.1.2.2.2.1, RY.out.1.2.2.2.2.1, RY.out.1.2.2.2.2.2, HBx.out⟩
          clear hK K HBx
          try simp only [Act.put, List.setIfInBounds_toArray, List.set_cons_zero, List.set_cons_succ]
          obtain ⟨⟨d0, d1, d2, d3, d4, d5⟩, ⟨f0, f1, f2, f3, f4, f5⟩, f6⟩ := id PB.out
          refine wpAnyH_ready (rs := [7]) (by kernel_rfl) (by simp) ?_
          refine AllReadyH.cons (o := { dst := none, op := Go.Op.store 29 (Go.Operand.tmp 8) (Go.Operand.tmp 25), type := 0, pos := "law.go:99", after := #[{ on := 5, ground := Go.Ground.data }, { on := 3, ground := Go.Ground.data }, { on := 6, ground := Go.Ground.chain }, { on := 0, ground := Go.Ground.phase }, { on := 1, ground := Go.Ground.phase }, { on := 2, ground := Go.Ground.phase }, { on := 3, ground := Go.Ground.phase }, { on := 4, ground := Go.Ground.phase }, { on := 5, ground := Go.Ground.phase }, { on := 6, ground := Go.Ground.phase }], guard := none }) rfl (fun K hK => ?_) AllReadyH.nil
          go_simp
          clear f0 f1 f2 f3 f4 f5 f6 d0 d1 d2 d3 d4 d5
          have HBx := Lib.hid (B6 hHeld.2.2.2.2.2.2.2.2.2.2.2.2 (g := gB) (by omega) (.int .i64 by_) (.int .i64 bm) (.int .i64 bd) (.int .i64 bs) (.bool yz) (.int .i64 bo))
          replace RX := Lib.hid (far6 RX.out (g := gB) (by omega) (.int .i64 by_) (.int .i64 bm) (.int .i64 bd) (.int .i64 bs) (.bool yz) (.int .i64 bo))
          replace RY := Lib.hid (far6 RY.out (g := gB) (by omega) (.int .i64 by_) (.int .i64 bm) (.int .i64 bd) (.int .i64 bs) (.bool yz) (.int .i64 bo))
          replace RZ := Lib.hid (far6 RZ.out (g := gB) (by omega) (.int .i64 by_) (.int .i64 bm) (.int .i64 bd) (.int .i64 bs) (.bool yz) (.int .i64 bo))
          replace PA := Lib.hid (PA.out.far6 (g := gB) ne (.int .i64 by_) (.int .i64 bm) (.int .i64 bd) (.int .i64 bs) (.bool yz) (.int .i64 bo))
          replace PB := Lib.hid (PB.out.put (y := by_) (m := bm) (d := bd) (s := bs) (z := yz) (o := bo))
          clear hHeld
          refine hK.out _ _ ?_ (fun hHeld => ?_)
          · exact ⟨RX.out.1.1, RX.out.1.2.1, RX.out.1.2.2.1, RX.out.1.2.2.2.1, RX.out.1.2.2.2.2.1, RX.out.1.2.2.2.2.2, RY.out.1.1, RY.out.1.2.1, RY.out.1.2.2.1, RY.out.1.2.2.2.1, RY.out.1.2.2.2.2.1, RY.out.1.2.2.2.2.2, HBx.out⟩
          clear hK K HBx
          try simp only [Act.put, List.setIfInBounds_toArray, List.set_cons_zero, List.set_cons_succ]
          refine wpAnyH_done (by kernel_rfl) ?_ _
          exact ⟨gA, gB, rfl, RX.out, RY.out, RZ.out, PA.out, PB.out, lePA, lePB, hHeld.2.2.2.2.2.2.2.2.2.2.2.2⟩
        · go_simp
          replace RX := Lib.hid (RX.out.alloc (MoC 0 0 0 0 false 0))
          replace RY := Lib.hid (RY.out.alloc (MoC 0 0 0 0 false 0))
          replace RZ := Lib.hid (RZ.out.alloc (MoC 0 0 0 0 false 0))
          have PB := Lib.hid (HoldsN.new rfl : HoldsN (v2.alloc (MoC 0 0 0 0 false 0)) v2.heap.size 0 0 0 0 false 0)
          have lePB := le0
          replace le0 := Nat.le_trans le0 (Below.alloc (Below.refl v2.heap.size v2) (Nat.le_refl _) (MoC 0 0 0 0 false 0)).size
          have HBx := Lib.hid (ballD1 hHeld.2.2.2.2.2.2.2.2.2.2.2.2 (MoC 0 0 0 0 false 0))
          clear hHeld
          refine hK.out _ _ ?_ (fun hHeld => ?_)
          · exact ⟨RX.out.1.1, RX.out.1.2.1, RX.out.1.2.2.1, RX.out.1.2.2.2.1, RX.out.1.2.2.2.2.1, RX.out.1.2.2.2.2.2, RY.out.1.1, RY.out.1.2.1, RY.out.1.2.2.1, RY.out.1.2.2.2.1, RY.out.1.2.2.2.2.1, RY.out.1.2.2.2.2.2, HBx.out⟩
          clear hK K HBx
          try simp only [Act.put, List.setIfInBounds_toArray, List.set_cons_zero, List.set_cons_succ]
          generalize v2.alloc (MoC 0 0 0 0 false 0) = v3 at *
          obtain ⟨gB, hg⟩ : ∃ g, g = v2.heap.size := ⟨_, rfl⟩
          rw [← hg] at PB lePB ⊢
          clear hg
          refine wpAnyH_ready (rs := [4]) (by kernel_rfl) (by simp) ?_
          refine AllReadyH.cons (o := { dst := some 7, op := Go.Op.alloc 29, type := 0, pos := "law.go:99", after := #[], guard := none }) rfl (fun K hK => ?_) AllReadyH.nil
          go_simp
          have ne := Nat.ne_of_lt PB.out.2.2
          replace RX := Lib.hid (RX.out.alloc (MoC 0 0 0 0 false 0))
          replace RY := Lib.hid (RY.out.alloc (MoC 0 0 0 0 false 0))
          replace RZ := Lib.hid (RZ.out.alloc (MoC 0 0 0 0 false 0))
          replace PB := Lib.hid (PB.out.alloc (MoC 0 0 0 0 false 0))
          have PA := Lib.hid (HoldsN.new rfl : HoldsN (v3.alloc (MoC 0 0 0 0 false 0)) v3.heap.size 0 0 0 0 false 0)
          have lePA := le0
          replace le0 := Nat.le_trans le0 (Below.alloc (Below.refl v3.heap.size v3) (Nat.le_refl _) (MoC 0 0 0 0 false 0)).size
          have HBx := Lib.hid (ballD1 hHeld.2.2.2.2.2.2.2.2.2.2.2.2 (MoC 0 0 0 0 false 0))
          clear hHeld
          refine hK.out _ _ ?_ (fun hHeld => ?_)
          · exact ⟨RX.out.1.1, RX.out.1.2.1, RX.out.1.2.2.1, RX.out.1.2.2.2.1, RX.out.1.2.2.2.2.1, RX.out.1.2.2.2.2.2, RY.out.1.1, RY.out.1.2.1, RY.out.1.2.2.1, RY.out.1.2.2.2.1, RY.out.1.2.2.2.2.1, RY.out.1.2.2.2.2.2, HBx.out⟩
          clear hK K HBx
          try simp only [Act.put, List.setIfInBounds_toArray, List.set_cons_zero, List.set_cons_succ]
          generalize v3.alloc (MoC 0 0 0 0 false 0) = v4 at *
          obtain ⟨gA, hg⟩ : ∃ g, g = v3.heap.size := ⟨_, rfl⟩
          rw [← hg] at PA lePA ne ⊢
          clear hg
          replace ne := ne.symm
          obtain ⟨⟨d0, d1, d2, d3, d4, d5⟩, ⟨f0, f1, f2, f3, f4, f5⟩, f6⟩ := id PA.out
          refine wpAnyH_ready (rs := [6]) (by kernel_rfl) (by simp) ?_
          refine AllReadyH.cons (o := { dst := none, op := Go.Op.store 29 (Go.Operand.tmp 7) (Go.Operand.tmp 23), type := 0, pos := "law.go:99", after := #[{ on := 4, ground := Go.Ground.data }, { on := 1, ground := Go.Ground.data }, { on := 3, ground := Go.Ground.chain }, { on := 0, ground := Go.Ground.phase }, { on := 1, ground := Go.Ground.phase }, { on := 2, ground := Go.Ground.textOnly Go.Departure.lateStores }, { on := 3, ground := Go.Ground.textOnly Go.Departure.lateStoresUnsure }, { on := 4, ground := Go.Ground.phase }, { on := 5, ground := Go.Ground.phase }], guard := none }) rfl (fun K hK => ?_) AllReadyH.nil
          go_simp
          clear f0 f1 f2 f3 f4 f5 f6 d0 d1 d2 d3 d4 d5
          have HBx := Lib.hid (B6 hHeld.2.2.2.2.2.2.2.2.2.2.2.2 (g := gA) (by omega) (.int .i64 ay) (.int .i64 am) (.int .i64 ad) (.int .i64 as') (.bool xz) (.int .i64 ao))
          replace RX := Lib.hid (far6 RX.out (g := gA) (by omega) (.int .i64 ay) (.int .i64 am) (.int .i64 ad) (.int .i64 as') (.bool xz) (.int .i64 ao))
          replace RY := Lib.hid (far6 RY.out (g := gA) (by omega) (.int .i64 ay) (.int .i64 am) (.int .i64 ad) (.int .i64 as') (.bool xz) (.int .i64 ao))
          replace RZ := Lib.hid (far6 RZ.out (g := gA) (by omega) (.int .i64 ay) (.int .i64 am) (.int .i64 ad) (.int .i64 as') (.bool xz) (.int .i64 ao))
          replace PB := Lib.hid (PB.out.far6 (g := gA) ne.symm (.int .i64 ay) (.int .i64 am) (.int .i64 ad) (.int .i64 as') (.bool xz) (.int .i64 ao))
          replace PA := Lib.hid (PA.out.put (y := ay) (m := am) (d := ad) (s := as') (z := xz) (o := ao))
          clear hHeld
          refine hK.out _ _ ?_ (fun hHeld => ?_)
          · exact ⟨RX.out.1.1, RX.out.1.2.1, RX.out.1.2.2.1, RX.out.1.2.2.2.1, RX.out.1.2.2.2.2.1, RX.out.1.2.2.2.2.2, RY.out.1.1, RY.out.1.2.1, RY.out.1.2.2.1, RY.out.1.2.2.2.1, RY.out.1.2.2.2.2.1, RY.out.1.2.2.2.2.2, HBx.out⟩
          clear hK K HBx
          try simp only [Act.put, List.setIfInBounds_toArray, List.set_cons_zero, List.set_cons_succ]
          obtain ⟨⟨d0, d1, d2, d3, d4, d5⟩, ⟨f0, f1, f2, f3, f4, f5⟩, f6⟩ := id PB.out
          refine wpAnyH_ready (rs := [7]) (by kernel_rfl) (by simp) ?_
          refine AllReadyH.cons (o := { dst := none, op := Go.Op.store 29 (Go.Operand.tmp 8) (Go.Operand.tmp 25), type := 0, pos := "law.go:99", after := #[{ on := 5, ground := Go.Ground.data }, { on := 3, ground := Go.Ground.data }, { on := 6, ground := Go.Ground.chain }, { on := 0, ground := Go.Ground.phase }, { on := 1, ground := Go.Ground.phase }, { on := 2, ground := Go.Ground.phase }, { on := 3, ground := Go.Ground.phase }, { on := 4, ground := Go.Ground.phase }, { on := 5, ground := Go.Ground.phase }, { on := 6, ground := Go.Ground.phase }], guard := none }) rfl (fun K hK => ?_) AllReadyH.nil
          go_simp
          clear f0 f1 f2 f3 f4 f5 f6 d0 d1 d2 d3 d4 d5
          have HBx := Lib.hid (B6 hHeld.2.2.2.2.2.2.2.2.2.2.2.2 (g := gB) (by omega) (.int .i64 by_) (.int .i64 bm) (.int .i64 bd) (.int .i64 bs) (.bool yz) (.int .i64 bo))
          replace RX := Lib.hid (far6 RX.out (g := gB) (by omega) (.int .i64 by_) (.int .i64 bm) (.int .i64 bd) (.int .i64 bs) (.bool yz) (.int .i64 bo))
          replace RY := Lib.hid (far6 RY.out (g := gB) (by omega) (.int .i64 by_) (.int .i64 bm) (.int .i64 bd) (.int .i64 bs) (.bool yz) (.int .i64 bo))
          replace RZ := Lib.hid (far6 RZ.out (g := gB) (by omega) (.int .i64 by_) (.int .i64 bm) (.int .i64 bd) (.int .i64 bs) (.bool yz) (.int .i64 bo))
          replace PA := Lib.hid (PA.out.far6 (g := gB) ne (.int .i64 by_) (.int .i64 bm) (.int .i64 bd) (.int .i64 bs) (.bool yz) (.int .i64 bo))
          replace PB := Lib.hid (PB.out.put (y := by_) (m := bm) (d := bd) (s := bs) (z := yz) (o := bo))
          clear hHeld
          refine hK.out _ _ ?_ (fun hHeld => ?_)
          · exact ⟨RX.out.1.1, RX.out.1.2.1, RX.out.1.2.2.1, RX.out.1.2.2.2.1, RX.out.1.2.2.2.2.1, RX.out.1.2.2.2.2.2, RY.out.1.1, RY.out.1.2.1, RY.out.1.2.2.1, RY.out.1.2.2.2.1, RY.out.1.2.2.2.2.1, RY.out.1.2.2.2.2.2, HBx.out⟩
          clear hK K HBx
          try simp only [Act.put, List.setIfInBounds_toArray, List.set_cons_zero, List.set_cons_succ]
          refine wpAnyH_done (by kernel_rfl) ?_ _
          exact ⟨gA, gB, rfl, RX.out, RY.out, RZ.out, PA.out, PB.out, lePA, lePB, hHeld.2.2.2.2.2.2.2.2.2.2.2.2⟩
      · go_simp
        replace RX := Lib.hid (RX.out.alloc (MoC 0 0 0 0 false 0))
        replace RY := Lib.hid (RY.out.alloc (MoC 0 0 0 0 false 0))
        replace RZ := Lib.hid (RZ.out.alloc (MoC 0 0 0 0 false 0))
        have PA := Lib.hid (HoldsN.new rfl : HoldsN (v1.alloc (MoC 0 0 0 0 false 0)) v1.heap.size 0 0 0 0 false 0)
        have lePA := le0
        replace le0 := Nat.le_trans le0 (Below.alloc (Below.refl v1.heap.size v1) (Nat.le_refl _) (MoC 0 0 0 0 false 0)).size
        have HBx := Lib.hid (ballD1 hHeld.2.2.2.2.2.2.2.2.2.2.2.2 (MoC 0 0 0 0 false 0))
        clear hHeld
        refine hK.out _ _ ?_ (fun hHeld => ?_)
        · exact ⟨RX.out.1.1, RX.out.1.2.1, RX.out.1.2.2.1, RX.out.1.2.2.2.1, RX.out.1.2.2.2.2.1, RX.out.1.2.2.2.2.2, RY.out.1.1, RY.out.1.2.1, RY.out.1.2.2.1, RY.out.1.2.2.2.1, RY.out.1.2.2.2.2.1, RY.out.1.2.2.2.2.2, HBx.out⟩
        clear hK K HBx
        try simp only [Act.put, List.setIfInBounds_toArray, List.set_cons_zero, List.set_cons_succ]
        generalize v1.alloc (MoC 0 0 0 0 false 0) = v2 at *
        obtain ⟨gA, hg⟩ : ∃ g, g = v1.heap.size := ⟨_, rfl⟩
        rw [← hg] at PA lePA ⊢
        clear hg
        refine wpAnyH_ready (rs := [3, 5]) (by kernel_rfl) (by simp) ?_
        refine AllReadyH.cons (o := { dst := some 25, op := Go.Op.call { callee := Go.Callee.value (Go.Operand.func 9), args := #[Go.Operand.tmp 24], argTypes := #[23] }, type := 29, pos := "law.go:99", after := #[{ on := 2, ground := Go.Ground.data }, { on := 1, ground := Go.Ground.chain }], guard := none }) rfl (fun K hK => ?_) (AllReadyH.cons (o := { dst := some 8, op := Go.Op.alloc 29, type := 0, pos := "law.go:99", after := #[], guard := none }) rfl (fun K hK => ?_) AllReadyH.nil)
        · go_simp
          refine (MB.out _).mono ?_
          rintro e v3 ⟨rfl, hbv⟩
          replace RX := Lib.hid (RX.out.below hbv)
          replace RY := Lib.hid (RY.out.below hbv)
          replace RZ := Lib.hid (RZ.out.below hbv)
          replace PA := Lib.hid (PA.out.below hbv)
          have HBx := Lib.hid (bstep hHeld.2.2.2.2.2.2.2.2.2.2.2.2 hbv)
          replace le0 := Nat.le_trans le0 hbv.size
          clear hHeld hbv
          refine hK.out _ _ ?_ (fun hHeld => ?_)
          · exact ⟨RX.out.1.1, RX.out.1.2.1, RX.out.1.2.2.1, RX.out.1.2.2.2.1, RX.out.1.2.2.2.2.1, RX.out.1.2.2.2.2.2, RY.out.1.1, RY.out.1.2.1, RY.out.1.2.2.1, RY.out.1.2.2.2.1, RY.out.1.2.2.2.2.1, RY.out.1.2.2.2.2.2, HBx.out⟩
          clear hK K HBx
          try simp only [Act.put, List.setIfInBounds_toArray, List.set_cons_zero, List.set_cons_succ]
          refine wpAnyH_ready (rs := [5]) (by kernel_rfl) (by simp) ?_
          refine AllReadyH.cons (o := { dst := some 8, op := Go.Op.alloc 29, type := 0, pos := "law.go:99", after := #[], guard := none }) rfl (fun K hK => ?_) AllReadyH.nil
          go_simp
          have ne := Nat.ne_of_lt PA.out.2.2
          replace RX := Lib.hid (RX.out.alloc (MoC 0 0 0 0 false 0))
          replace RY := Lib.hid (RY.out.alloc (MoC 0 0 0 0 false 0))
          replace RZ := Lib.hid (RZ.out.alloc (MoC 0 0 0 0 false 0))
          replace PA := Lib.hid (PA.out.alloc (MoC 0 0 0 0 false 0))
          have PB := Lib.hid (HoldsN.new rfl : HoldsN (v3.alloc (MoC 0 0 0 0 false 0)) v3.heap.size 0 0 0 0 false 0)
          have lePB := le0
          replace le0 := Nat.le_trans le0 (Below.alloc (Below.refl v3.heap.size v3) (Nat.le_refl _) (MoC 0 0 0 0 false 0)).size
          have HBx := Lib.hid (ballD1 hHeld.2.2.2.2.2.2.2.2.2.2.2.2 (MoC 0 0 0 0 false 0))
          clear hHeld
          refine hK.out _ _ ?_ (fun hHeld => ?_)
          · exact ⟨RX.out.1.1, RX.out.1.2.1, RX.out.1.2.2.1, RX.out.1.2.2.2.1, RX.out.1.2.2.2.2.1, RX.out.1.2.2.2.2.2, RY.out.1.1, RY.out.1.2.1, RY.out.1.2.2.1, RY.out.1.2.2.2.1, RY.out.1.2.2.2.2.1, RY.out.1.2.2.2.2.2, HBx.out⟩
          clear hK K HBx
          try simp only [Act.put, List.setIfInBounds_toArray, List.set_cons_zero, List.set_cons_succ]
          generalize v3.alloc (MoC 0 0 0 0 false 0) = v4 at *
          obtain ⟨gB, hg⟩ : ∃ g, g = v3.heap.size := ⟨_, rfl⟩
          rw [← hg] at PB lePB ne ⊢
          clear hg
          obtain ⟨⟨d0, d1, d2, d3, d4, d5⟩, ⟨f0, f1, f2, f3, f4, f5⟩, f6⟩ := id PA.out
          refine wpAnyH_ready (rs := [6]) (by kernel_rfl) (by simp) ?_
          refine AllReadyH.cons (o := { dst := none, op := Go.Op.store 29 (Go.Operand.tmp 7) (Go.Operand.tmp 23), type := 0, pos := "law.go:99", after := #[{ on := 4, ground := Go.Ground.data }, { on := 1, ground := Go.Ground.data }, { on := 3, ground := Go.Ground.chain }, { on := 0, ground := Go.Ground.phase }, { on := 1, ground := Go.Ground.phase }, { on := 2, ground := Go.Ground.textOnly Go.Departure.lateStores }, { on := 3, ground := Go.Ground.textOnly Go.Departure.lateStoresUnsure }, { on := 4, ground := Go.Ground.phase }, { on := 5, ground := Go.Ground.phase }], guard := none }) rfl (fun K hK => ?_) AllReadyH.nil
          go_simp
          clear f0 f1 f2 f3 f4 f5 f6 d0 d1 d2 d3 d4 d5
          have HBx := Lib.hid (B6 hHeld.2.2.2.2.2.2.2.2.2.2.2.2 (g := gA) (by omega) (.int .i64 ay) (.int .i64 am) (.int .i64 ad) (.int .i64 as') (.bool xz) (.int .i64 ao))
          replace RX := Lib.hid (far6 RX.out (g := gA) (by omega) (.int .i64 ay) (.int .i64 am) (.int .i64 ad) (.int .i64 as') (.bool xz) (.int .i64 ao))
          replace RY := Lib.hid (far6 RY.out (g := gA) (by omega) (.int .i64 ay) (.int .i64 am) (.int .i64 ad) (.int .i64 as') (.bool xz) (.int .i64 ao))
          replace RZ := Lib.hid (far6 RZ.out (g := gA) (by omega) (.int .i64 ay) (.int .i64 am) (.int .i64 ad) (.int .i64 as') (.bool xz) (.int .i64 ao))
          replace PB := Lib.hid (PB.out.far6 (g := gA) ne.symm (.int .i64 ay) (.int .i64 am) (.int .i64 ad) (.int .i64 as') (.bool xz) (.int .i64 ao))
          replace PA := Lib.hid (PA.out.put (y := ay) (m := am) (d := ad) (s := as') (z := xz) (o := ao))
          clear hHeld
          refine hK.out _ _ ?_ (fun hHeld => ?_)
          · exact ⟨RX.out.1.1, RX.out.1.2.1, RX.out.1.2.2.1, RX.out.1.2.2.2.1, RX.out.1.2.2.2.2.1, RX.out.1.2.2.2.2.2, RY.out.1.1, RY.out.1.2.1, RY.out.1.2.2.1, RY.out.1.2.2.2.1, RY.out.1.2.2.2.2.1, RY.out.1.2.2.2.2.2, HBx.out⟩
          clear hK K HBx
          try simp only [Act.put, List.setIfInBounds_toArray, List.set_cons_zero, List.set_cons_succ]
          obtain ⟨⟨d0, d1, d2, d3, d4, d5⟩, ⟨f0, f1, f2, f3, f4, f5⟩, f6⟩ := id PB.out
          refine wpAnyH_ready (rs := [7]) (by kernel_rfl) (by simp) ?_
          refine AllReadyH.cons (o := { dst := none, op := Go.Op.store 29 (Go.Operand.tmp 8) (Go.Operand.tmp 25), type := 0, pos := "law.go:99", after := #[{ on := 5, ground := Go.Ground.data }, { on := 3, ground := Go.Ground.data }, { on := 6, ground := Go.Ground.chain }, { on := 0, ground := Go.Ground.phase }, { on := 1, ground := Go.Ground.phase }, { on := 2, ground := Go.Ground.phase }, { on := 3, ground := Go.Ground.phase }, { on := 4, ground := Go.Ground.phase }, { on := 5, ground := Go.Ground.phase }, { on := 6, ground := Go.Ground.phase }], guard := none }) rfl (fun K hK => ?_) AllReadyH.nil
          go_simp
          clear f0 f1 f2 f3 f4 f5 f6 d0 d1 d2 d3 d4 d5
          have HBx := Lib.hid (B6 hHeld.2.2.2.2.2.2.2.2.2.2.2.2 (g := gB) (by omega) (.int .i64 by_) (.int .i64 bm) (.int .i64 bd) (.int .i64 bs) (.bool yz) (.int .i64 bo))
          replace RX := Lib.hid (far6 RX.out (g := gB) (by omega) (.int .i64 by_) (.int .i64 bm) (.int .i64 bd) (.int .i64 bs) (.bool yz) (.int .i64 bo))
          replace RY := Lib.hid (far6 RY.out (g := gB) (by omega) (.int .i64 by_) (.int .i64 bm) (.int .i64 bd) (.int .i64 bs) (.bool yz) (.int .i64 bo))
          replace RZ := Lib.hid (far6 RZ.out (g := gB) (by omega) (.int .i64 by_) (.int .i64 bm) (.int .i64 bd) (.int .i64 bs) (.bool yz) (.int .i64 bo))
          replace PA := Lib.hid (PA.out.far6 (g := gB) ne (.int .i64 by_) (.int .i64 bm) (.int .i64 bd) (.int .i64 bs) (.bool yz) (.int .i64 bo))
          replace PB := Lib.hid (PB.out.put (y := by_) (m := bm) (d := bd) (s := bs) (z := yz) (o := bo))
          clear hHeld
          refine hK.out _ _ ?_ (fun hHeld => ?_)
          · exact ⟨RX.out.1.1, RX.out.1.2.1, RX.out.1.2.2.1, RX.out.1.2.2.2.1, RX.out.1.2.2.2.2.1, RX.out.1.2.2.2.2.2, RY.out.1.1, RY.out.1.2.1, RY.out.1.2.2.1, RY.out.1.2.2.2.1, RY.out.1.2.2.2.2.1, RY.out.1.2.2.2.2.2, HBx.out⟩
          clear hK K HBx
          try simp only [Act.put, List.setIfInBounds_toArray, List.set_cons_zero, List.set_cons_succ]
          refine wpAnyH_done (by kernel_rfl) ?_ _
          exact ⟨gA, gB, rfl, RX.out, RY.out, RZ.out, PA.out, PB.out, lePA, lePB, hHeld.2.2.2.2.2.2.2.2.2.2.2.2⟩
        · go_simp
          have ne := Nat.ne_of_lt PA.out.2.2
          replace RX := Lib.hid (RX.out.alloc (MoC 0 0 0 0 false 0))
          replace RY := Lib.hid (RY.out.alloc (MoC 0 0 0 0 false 0))
          replace RZ := Lib.hid (RZ.out.alloc (MoC 0 0 0 0 false 0))
          replace PA := Lib.hid (PA.out.alloc (MoC 0 0 0 0 false 0))
          have PB := Lib.hid (HoldsN.new rfl : HoldsN (v2.alloc (MoC 0 0 0 0 false 0)) v2.heap.size 0 0 0 0 false 0)
          have lePB := le0
          replace le0 := Nat.le_trans le0 (Below.alloc (Below.refl v2.heap.size v2) (Nat.le_refl _) (MoC 0 0 0 0 false 0)).size
          have HBx := Lib.hid (ballD1 hHeld.2.2.2.2.2.2.2.2.2.2.2.2 (MoC 0 0 0 0 false 0))
          clear hHeld
          refine hK.out _ _ ?_ (fun hHeld => ?_)
          · exact ⟨RX.out.1.1, RX.out.1.2.1, RX.out.1.2.2.1, RX.out.1.2.2.2.1, RX.out.1.2.2.2.2.1, RX.out.1.2.2.2.2.2, RY.out.1.1, RY.out.1.2.1, RY.out.1.2.2.1, RY.out.1.2.2.2.1, RY.out.1.2.2.2.2.1, RY.out.1.2.2.2.2.2, HBx.out⟩
          clear hK K HBx
          try simp only [Act.put, List.setIfInBounds_toArray, List.set_cons_zero, List.set_cons_succ]
          generalize v2.alloc (MoC 0 0 0 0 false 0) = v3 at *
          obtain ⟨gB, hg⟩ : ∃ g, g = v2.heap.size := ⟨_, rfl⟩
          rw [← hg] at PB lePB ne ⊢
          clear hg
          refine wpAnyH_ready (rs := [3]) (by kernel_rfl) (by simp) ?_
          refine AllReadyH.cons (o := { dst := some 25, op := Go.Op.call { callee := Go.Callee.value (Go.Operand.func 9), args := #[Go.Operand.tmp 24], argTypes := #[23] }, type := 29, pos := "law.go:99", after := #[{ on := 2, ground := Go.Ground.data }, { on := 1, ground := Go.Ground.chain }], guard := none }) rfl (fun K hK => ?_) AllReadyH.nil
          go_simp
          refine (MB.out _).mono ?_
          rintro e v4 ⟨rfl, hbv⟩
          replace RX := Lib.hid (RX.out.below hbv)
          replace RY := Lib.hid (RY.out.below hbv)
          replace RZ := Lib.hid (RZ.out.below hbv)
          replace PA := Lib.hid (PA.out.below hbv)
          replace PB := Lib.hid (PB.out.below hbv)
          have HBx := Lib.hid (bstep hHeld.2.2.2.2.2.2.2.2.2.2.2.2 hbv)
          replace le0 := Nat.le_trans le0 hbv.size
          clear hHeld hbv
          refine hK.out _ _ ?_ (fun hHeld => ?_)
          · exact ⟨RX.out.1.1, RX.out.1.2.1, RX.out.1.2.2.1, RX.out.1.2.2.2.1, RX.out.1.2.2.2.2.1, RX.out.1.2.2.2.2.2, RY.out.1.1, RY.out.1.2.1, RY.out.1.2.2.1, RY.out.1.2.2.2.1, RY.out.1.2.2.2.2.1, RY.out.1.2.2.2.2.2, HBx.out⟩
          clear hK K HBx
          try simp only [Act.put, List.setIfInBounds_toArray, List.set_cons_zero, List.set_cons_succ]
          obtain ⟨⟨d0, d1, d2, d3, d4, d5⟩, ⟨f0, f1, f2, f3, f4, f5⟩, f6⟩ := id PA.out
          refine wpAnyH_ready (rs := [6]) (by kernel_rfl) (by simp) ?_
          refine AllReadyH.cons (o := { dst := none, op := Go.Op.store 29 (Go.Operand.tmp 7) (Go.Operand.tmp 23), type := 0, pos := "law.go:99", after := #[{ on := 4, ground := Go.Ground.data }, { on := 1, ground := Go.Ground.data }, { on := 3, ground := Go.Ground.chain }, { on := 0, ground := Go.Ground.phase }, { on := 1, ground := Go.Ground.phase }, { on := 2, ground := Go.Ground.textOnly Go.Departure.lateStores }, { on := 3, ground := Go.Ground.textOnly Go.Departure.lateStoresUnsure }, { on := 4, ground := Go.Ground.phase }, { on := 5, ground := Go.Ground.phase }], guard := none }) rfl (fun K hK => ?_) AllReadyH.nil
          go_simp
          clear f0 f1 f2 f3 f4 f5 f6 d0 d1 d2 d3 d4 d5
          have HBx := Lib.hid (B6 hHeld.2.2.2.2.2.2.2.2.2.2.2.2 (g := gA) (by omega) (.int .i64 ay) (.int .i64 am) (.int .i64 ad) (.int .i64 as') (.bool xz) (.int .i64 ao))
          replace RX := Lib.hid (far6 RX.out (g := gA) (by omega) (.int .i64 ay) (.int .i64 am) (.int .i64 ad) (.int .i64 as') (.bool xz) (.int .i64 ao))
          replace RY := Lib.hid (far6 RY.out (g := gA) (by omega) (.int .i64 ay) (.int .i64 am) (.int .i64 ad) (.int .i64 as') (.bool xz) (.int .i64 ao))
          replace RZ := Lib.hid (far6 RZ.out (g := gA) (by omega) (.int .i64 ay) (.int .i64 am) (.int .i64 ad) (.int .i64 as') (.bool xz) (.int .i64 ao))
          replace PB := Lib.hid (PB.out.far6 (g := gA) ne.symm (.int .i64 ay) (.int .i64 am) (.int .i64 ad) (.int .i64 as') (.bool xz) (.int .i64 ao))
          replace PA := Lib.hid (PA.out.put (y := ay) (m := am) (d := ad) (s := as') (z := xz) (o := ao))
          clear hHeld
          refine hK.out _ _ ?_ (fun hHeld => ?_)
          · exact ⟨RX.out.1.1, RX.out.1.2.1, RX.out.1.2.2.1, RX.out.1.2.2.2.1, RX.out.1.2.2.2.2.1, RX.out.1.2.2.2.2.2, RY.out.1.1, RY.out.1.2.1, RY.out.1.2.2.1, RY.out.1.2.2.2.1, RY.out.1.2.2.2.2.1, RY.out.1.2.2.2.2.2, HBx.out⟩
          clear hK K HBx
          try simp only [Act.put, List.setIfInBounds_toArray, List.set_cons_zero, List.set_cons_succ]
          obtain ⟨⟨d0, d1, d2, d3, d4, d5⟩, ⟨f0, f1, f2, f3, f4, f5⟩, f6⟩ := id PB.out
          refine wpAnyH_ready (rs := [7]) (by kernel_rfl) (by simp) ?_
          refine AllReadyH.cons (o := { dst := none, op := Go.Op.store 29 (Go.Operand.tmp 8) (Go.Operand.tmp 25), type := 0, pos := "law.go:99", after := #[{ on := 5, ground := Go.Ground.data }, { on := 3, ground := Go.Ground.data }, { on := 6, ground := Go.Ground.chain }, { on := 0, ground := Go.Ground.phase }, { on := 1, ground := Go.Ground.phase }, { on := 2, ground := Go.Ground.phase }, { on := 3, ground := Go.Ground.phase }, { on := 4, ground := Go.Ground.phase }, { on := 5, ground := Go.Ground.phase }, { on := 6, ground := Go.Ground.phase }], guard := none }) rfl (fun K hK => ?_) AllReadyH.nil
          go_simp
          clear f0 f1 f2 f3 f4 f5 f6 d0 d1 d2 d3 d4 d5
          have HBx := Lib.hid (B6 hHeld.2.2.2.2.2.2.2.2.2.2.2.2 (g := gB) (by omega) (.int .i64 by_) (.int .i64 bm) (.int .i64 bd) (.int .i64 bs) (.bool yz) (.int .i64 bo))
          replace RX := Lib.hid (far6 RX.out (g := gB) (by omega) (.int .i64 by_) (.int .i64 bm) (.int .i64 bd) (.int .i64 bs) (.bool yz) (.int .i64 bo))
          replace RY := Lib.hid (far6 RY.out (g := gB) (by omega) (.int .i64 by_) (.int .i64 bm) (.int .i64 bd) (.int .i64 bs) (.bool yz) (.int .i64 bo))
          replace RZ := Lib.hid (far6 RZ.out (g := gB) (by omega) (.int .i64 by_) (.int .i64 bm) (.int .i64 bd) (.int .i64 bs) (.bool yz) (.int .i64 bo))
          replace PA := Lib.hid (PA.out.far6 (g := gB) ne (.int .i64 by_) (.int .i64 bm) (.int .i64 bd) (.int .i64 bs) (.bool yz) (.int .i64 bo))
          replace PB := Lib.hid (PB.out.put (y := by_) (m := bm) (d := bd) (s := bs) (z := yz) (o := bo))
          clear hHeld
          refine hK.out _ _ ?_ (fun hHeld => ?_)
          · exact ⟨RX.out.1.1, RX.out.1.2.1, RX.out.1.2.2.1, RX.out.1.2.2.2.1, RX.out.1.2.2.2.2.1, RX.out.1.2.2.2.2.2, RY.out.1.1, RY.out.1.2.1, RY.out.1.2.2.1, RY.out.1.2.2.2.1, RY.out.1.2.2.2.2.1, RY.out.1.2.2.2.2.2, HBx.out⟩
          clear hK K HBx
          try simp only [Act.put, List.setIfInBounds_toArray, List.set_cons_zero, List.set_cons_succ]
          refine wpAnyH_done (by kernel_rfl) ?_ _
          exact ⟨gA, gB, rfl, RX.out, RY.out, RZ.out, PA.out, PB.out, lePA, lePB, hHeld.2.2.2.2.2.2.2.2.2.2.2.2⟩
      · go_simp
        replace RX := Lib.hid (RX.out.alloc (MoC 0 0 0 0 false 0))
        replace RY := Lib.hid (RY.out.alloc (MoC 0 0 0 0 false 0))
        replace RZ := Lib.hid (RZ.out.alloc (MoC 0 0 0 0 false 0))
        have PB := Lib.hid (HoldsN.new rfl : HoldsN (v1.alloc (MoC 0 0 0 0 false 0)) v1.heap.size 0 0 0 0 false 0)
        have lePB := le0
        replace le0 := Nat.le_trans le0 (Below.alloc (Below.refl v1.heap.size v1) (Nat.le_refl _) (MoC 0 0 0 0 false 0)).size
        have HBx := Lib.hid (ballD1 hHeld.2.2.2.2.2.2.2.2.2.2.2.2 (MoC 0 0 0 0 false 0))
        clear hHeld
        refine hK.out _ _ ?_ (fun hHeld => ?_)
        · exact ⟨RX.out.1.1, RX.out.1.2.1, RX.out.1.2.2.1, RX.out.1.2.2.2.1, RX.out.1.2.2.2.2.1, RX.out.1.2.2.2.2.2, RY.out.1.1, RY.out.1.2.1, RY.out.1.2.2.1, RY.out.1.2.2.2.1, RY.out.1.2.2.2.2.1, RY.out.1.2.2.2.2.2, HBx.out⟩
        clear hK K HBx
        try simp only [Act.put, List.setIfInBounds_toArray, List.set_cons_zero, List.set_cons_succ]
        generalize v1.alloc (MoC 0 0 0 0 false 0) = v2 at *
        obtain ⟨gB, hg⟩ : ∃ g, g = v1.heap.size := ⟨_, rfl⟩
        rw [← hg] at PB lePB ⊢
        clear hg
        refine wpAnyH_ready (rs := [3, 4]) (by kernel_rfl) (by simp) ?_
        refine AllReadyH.cons (o := { dst := some 25, op := Go.Op.call { callee := Go.Callee.value (Go.Operand.func 9), args := #[Go.Operand.tmp 24], argTypes := #[23] }, type := 29, pos := "law.go:99", after := #[{ on := 2, ground := Go.Ground.data }, { on := 1, ground := Go.Ground.chain }], guard := none }) rfl (fun K hK => ?_) (AllReadyH.cons (o := { dst := some 7, op := Go.Op.alloc 29, type := 0, pos := "law.go:99", after := #[], guard := none }) rfl (fun K hK => ?_) AllReadyH.nil)
        · go_simp
          refine (MB.out _).mono ?_
          rintro e v3 ⟨rfl, hbv⟩
          replace RX := Lib.hid (RX.out.below hbv)
          replace RY := Lib.hid (RY.out.below hbv)
          replace RZ := Lib.hid (RZ.out.below hbv)
          replace PB := Lib.hid (PB.out.below hbv)
          have HBx := Lib.hid (bstep hHeld.2.2.2.2.2.2.2.2.2.2.2.2 hbv)
          replace le0 := Nat.le_trans le0 hbv.size
          clear hHeld hbv
          refine hK.out _ _ ?_ (fun hHeld => ?_)
          · exact ⟨RX.out.1.1, RX.out.1.2.1, RX.out.1.2.2.1, RX.out.1.2.2.2.1, RX.out.1.2.2.2.2.1, RX.out.1.2.2.2.2.2, RY.out.1.1, RY.out.1.2.1, RY.out.1.2.2.1, RY.out.1.2.2.2.1, RY.out.1.2.2.2.2.1, RY.out.1.2.2.2.2.2, HBx.out⟩
          clear hK K HBx
          try simp only [Act.put, List.setIfInBounds_toArray, List.set_cons_zero, List.set_cons_succ]
          refine wpAnyH_ready (rs := [4]) (by kernel_rfl) (by simp) ?_
          refine AllReadyH.cons (o := { dst := some 7, op := Go.Op.alloc 29, type := 0, pos := "law.go:99", after := #[], guard := none }) rfl (fun K hK => ?_) AllReadyH.nil
          go_simp
          have ne := Nat.ne_of_lt PB.out.2.2
          replace RX := Lib.hid (RX.out.alloc (MoC 0 0 0 0 false 0))
          replace RY := Lib.hid (RY.out.alloc (MoC 0 0 0 0 false 0))
          replace RZ := Lib.hid (RZ.out.alloc (MoC 0 0 0 0 false 0))
          replace PB := Lib.hid (PB.out.alloc (MoC 0 0 0 0 false 0))
          have PA := Lib.hid (HoldsN.new rfl : HoldsN (v3.alloc (MoC 0 0 0 0 false 0)) v3.heap.size 0 0 0 0 false 0)
          have lePA := le0
          replace le0 := Nat.le_trans le0 (Below.alloc (Below.refl v3.heap.size v3) (Nat.le_refl _) (MoC 0 0 0 0 false 0)).size
          have HBx := Lib.hid (ballD1 hHeld.2.2.2.2.2.2.2.2.2.2.2.2 (MoC 0 0 0 0 false 0))
          clear hHeld
          refine hK.out _ _ ?_ (fun hHeld => ?_)
          · exact ⟨RX.out.1.1, RX.out.1.2.1, RX.out.1.2.2.1, RX.out.1.2.2.2.1, RX.out.1.2.2.2.2.1, RX.out.1.2.2.2.2.2, RY.out.1.1, RY.out.1.2.1, RY.out.1.2.2.1, RY.out.1.2.2.2.1, RY.out.1.2.2.2.2.1, RY.out.1.2.2.2.2.2, HBx.out⟩
          clear hK K HBx
          try simp only [Act.put, List.setIfInBounds_toArray, List.set_cons_zero, List.set_cons_succ]
          generalize v3.alloc (MoC 0 0 0 0 false 0) = v4 at *
          obtain ⟨gA, hg⟩ : ∃ g, g = v3.heap.size := ⟨_, rfl⟩
          rw [← hg] at PA lePA ne ⊢
          clear hg
          replace ne := ne.symm
          obtain ⟨⟨d0, d1, d2, d3, d4, d5⟩, ⟨f0, f1, f2, f3, f4, f5⟩, f6⟩ := id PA.out
          refine wpAnyH_ready (rs := [6]) (by kernel_rfl) (by simp) ?_
          refine AllReadyH.cons (o := { dst := none, op := Go.Op.store 29 (Go.Operand.tmp 7) (Go.Operand.tmp 23), type := 0, pos := "law.go:99", after := #[{ on := 4, ground := Go.Ground.data }, { on := 1, ground := Go.Ground.data }, { on := 3, ground := Go.Ground.chain }, { on := 0, ground := Go.Ground.phase }, { on := 1, ground := Go.Ground.phase }, { on := 2, ground := Go.Ground.textOnly Go.Departure.lateStores }, { on := 3, ground := Go.Ground.textOnly Go.Departure.lateStoresUnsure }, { on := 4, ground := Go.Ground.phase }, { on := 5, ground := Go.Ground.phase }], guard := none }) rfl (fun K hK => ?_) AllReadyH.nil
          go_simp
          clear f0 f1 f2 f3 f4 f5 f6 d0 d1 d2 d3 d4 d5
          have HBx := Lib.hid (B6 hHeld.2.2.2.2.2.2.2.2.2.2.2.2 (g := gA) (by omega) (.int .i64 ay) (.int .i64 am) (.int .i64 ad) (.int .i64 as') (.bool xz) (.int .i64 ao))
          replace RX := Lib.hid (far6 RX.out (g := gA) (by omega) (.int .i64 ay) (.int .i64 am) (.int .i64 ad) (.int .i64 as') (.bool xz) (.int .i64 ao))
          replace RY := Lib.hid (far6 RY.out (g := gA) (by omega) (.int .i64 ay) (.int .i64 am) (.int .i64 ad) (.int .i64 as') (.bool xz) (.int .i64 ao))
          replace RZ := Lib.hid (far6 RZ.out (g := gA) (by omega) (.int .i64 ay) (.int .i64 am) (.int .i64 ad) (.int .i64 as') (.bool xz) (.int .i64 ao))
          replace PB := Lib.hid (PB.out.far6 (g := gA) ne.symm (.int .i64 ay) (.int .i64 am) (.int .i64 ad) (.int .i64 as') (.bool xz) (.int .i64 ao))
          replace PA := Lib.hid (PA.out.put (y := ay) (m := am) (d := ad) (s := as') (z := xz) (o := ao))
          clear hHeld
          refine hK.out _ _ ?_ (fun hHeld => ?_)
          · exact ⟨RX.out.1.1, RX.out.1.2.1, RX.out.1.2.2.1, RX.out.1.2.2.2.1, RX.out.1.2.2.2.2.1, RX.out.1.2.2.2.2.2, RY.out.1.1, RY.out.1.2.1, RY.out.1.2.2.1, RY.out.1.2.2.2.1, RY.out.1.2.2.2.2.1, RY.out.1.2.2.2.2.2, HBx.out⟩
          clear hK K HBx
          try simp only [Act.put, List.setIfInBounds_toArray, List.set_cons_zero, List.set_cons_succ]
          obtain ⟨⟨d0, d1, d2, d3, d4, d5⟩, ⟨f0, f1, f2, f3, f4, f5⟩, f6⟩ := id PB.out
          refine wpAnyH_ready (rs := [7]) (by kernel_rfl) (by simp) ?_
          refine AllReadyH.cons (o := { dst := none, op := Go.Op.store 29 (Go.Operand.tmp 8) (Go.Operand.tmp 25), type := 0, pos := "law.go:99", after := #[{ on := 5, ground := Go.Ground.data }, { on := 3, ground := Go.Ground.data }, { on := 6, ground := Go.Ground.chain }, { on := 0, ground := Go.Ground.phase }, { on := 1, ground := Go.Ground.phase }, { on := 2, ground := Go.Ground.phase }, { on := 3, ground := Go.Ground.phase }, { on := 4, ground := Go.Ground.phase }, { on := 5, ground := Go.Ground.phase }, { on := 6, ground := Go.Ground.phase }], guard := none }) rfl (fun K hK => ?_) AllReadyH.nil
          go_simp
          clear f0 f1 f2 f3 f4 f5 f6 d0 d1 d2 d3 d4 d5
          have HBx := Lib.hid (B6 hHeld.2.2.2.2.2.2.2.2.2.2.2.2 (g := gB) (by omega) (.int .i64 by_) (.int .i64 bm) (.int .i64 bd) (.int .i64 bs) (.bool yz) (.int .i64 bo))
          replace RX := Lib.hid (far6 RX.out (g := gB) (by omega) (.int .i64 by_) (.int .i64 bm) (.int .i64 bd) (.int .i64 bs) (.bool yz) (.int .i64 bo))
          replace RY := Lib.hid (far6 RY.out (g := gB) (by omega) (.int .i64 by_) (.int .i64 bm) (.int .i64 bd) (.int .i64 bs) (.bool yz) (.int .i64 bo))
          replace RZ := Lib.hid (far6 RZ.out (g := gB) (by omega) (.int .i64 by_) (.int .i64 bm) (.int .i64 bd) (.int .i64 bs) (.bool yz) (.int .i64 bo))
          replace PA := Lib.hid (PA.out.far6 (g := gB) ne (.int .i64 by_) (.int .i64 bm) (.int .i64 bd) (.int .i64 bs) (.bool yz) (.int .i64 bo))
          replace PB := Lib.hid (PB.out.put (y := by_) (m := bm) (d := bd) (s := bs) (z := yz) (o := bo))
          clear hHeld
          refine hK.out _ _ ?_ (fun hHeld => ?_)
          · exact ⟨RX.out.1.1, RX.out.1.2.1, RX.out.1.2.2.1, RX.out.1.2.2.2.1, RX.out.1.2.2.2.2.1, RX.out.1.2.2.2.2.2, RY.out.1.1, RY.out.1.2.1, RY.out.1.2.2.1, RY.out.1.2.2.2.1, RY.out.1.2.2.2.2.1, RY.out.1.2.2.2.2.2, HBx.out⟩
          clear hK K HBx
          try simp only [Act.put, List.setIfInBounds_toArray, List.set_cons_zero, List.set_cons_succ]
          refine wpAnyH_done (by kernel_rfl) ?_ _
          exact ⟨gA, gB, rfl, RX.out, RY.out, RZ.out, PA.out, PB.out, lePA, lePB, hHeld.2.2.2.2.2.2.2.2.2.2.2.2⟩
        · go_simp
          have ne := Nat.ne_of_lt PB.out.2.2
          replace RX := Lib.hid (RX.out.alloc (MoC 0 0 0 0 false 0))
          replace RY := Lib.hid (RY.out.alloc (MoC 0 0 0 0 false 0))
          replace RZ := Lib.hid (RZ.out.alloc (MoC 0 0 0 0 false 0))
          replace PB := Lib.hid (PB.out.alloc (MoC 0 0 0 0 false 0))
          have PA := Lib.hid (HoldsN.new rfl : HoldsN (v2.alloc (MoC 0 0 0 0 false 0)) v2.heap.size 0 0 0 0 false 0)
          have lePA := le0
          replace le0 := Nat.le_trans le0 (Below.alloc (Below.refl v2.heap.size v2) (Nat.le_refl _) (MoC 0 0 0 0 false 0)).size
          have HBx := Lib.hid (ballD1 hHeld.2.2.2.2.2.2.2.2.2.2.2.2 (MoC 0 0 0 0 false 0))
          clear hHeld
          refine hK.out _ _ ?_ (fun hHeld => ?_)
          · exact ⟨RX.out.1.1, RX.out.1.2.1, RX.out.1.2.2.1, RX.out.1.2.2.2.1, RX.out.1.2.2.2.2.1, RX.out.1.2.2.2.2.2, RY.out.1.1, RY.out.1.2.1, RY.out.1.2.2.1, RY.out.1.2.2.2.1, RY.out.1.2.2.2.2.1, RY.out.1.2.2.2.2.2, HBx.out⟩
          clear hK K HBx
          try simp only [Act.put, List.setIfInBounds_toArray, List.set_cons_zero, List.set_cons_succ]
          generalize v2.alloc (MoC 0 0 0 0 false 0) = v3 at *
          obtain ⟨gA, hg⟩ : ∃ g, g = v2.heap.size := ⟨_, rfl⟩
          rw [← hg] at PA lePA ne ⊢
          clear hg
          replace ne := ne.symm
          refine wpAnyH_ready (rs := [3]) (by kernel_rfl) (by simp) ?_
          refine AllReadyH.cons (o := { dst := some 25, op := Go.Op.call { callee := Go.Callee.value (Go.Operand.func 9), args := #[Go.Operand.tmp 24], argTypes := #[23] }, type := 29, pos := "law.go:99", after := #[{ on := 2, ground := Go.Ground.data }, { on := 1, ground := Go.Ground.chain }], guard := none }) rfl (fun K hK => ?_) AllReadyH.nil
          go_simp
          refine (MB.out _).mono ?_
          rintro e v4 ⟨rfl, hbv⟩
          replace RX := Lib.hid (RX.out.below hbv)
          replace RY := Lib.hid (RY.out.below hbv)
          replace RZ := Lib.hid (RZ.out.below hbv)
          replace PA := Lib.hid (PA.out.below hbv)
          replace PB := Lib.hid (PB.out.below hbv)
          have HBx := Lib.hid (bstep hHeld.2.2.2.2.2.2.2.2.2.2.2.2 hbv)
          replace le0 := Nat.le_trans le0 hbv.size
          clear hHeld hbv
          refine hK.out _ _ ?_ (fun hHeld => ?_)
          · exact ⟨RX.out.1.1, RX.out.1.2.1, RX.out.1.2.2.1, RX.out.1.2.2.2.1, RX.out.1.2.2.2.2.1, RX.out.1.2.2.2.2.2, RY.out.1.1, RY.out.1.2.1, RY.out.1.2.2.1, RY.out.1.2.2.2.1, RY.out.1.2.2.2.2.1, RY.out.1.2.2.2.2.2, HBx.out⟩
          clear hK K HBx
          try simp only [Act.put, List.setIfInBounds_toArray, List.set_cons_zero, List.set_cons_succ]
          obtain ⟨⟨d0, d1, d2, d3, d4, d5⟩, ⟨f0, f1, f2, f3, f4, f5⟩, f6⟩ := id PA.out
          refine wpAnyH_ready (rs := [6]) (by kernel_rfl) (by simp) ?_
          refine AllReadyH.cons (o := { dst := none, op := Go.Op.store 29 (Go.Operand.tmp 7) (Go.Operand.tmp 23), type := 0, pos := "law.go:99", after := #[{ on := 4, ground := Go.Ground.data }, { on := 1, ground := Go.Ground.data }, { on := 3, ground := Go.Ground.chain }, { on := 0, ground := Go.Ground.phase }, { on := 1, ground := Go.Ground.phase }, { on := 2, ground := Go.Ground.textOnly Go.Departure.lateStores }, { on := 3, ground := Go.Ground.textOnly Go.Departure.lateStoresUnsure }, { on := 4, ground := Go.Ground.phase }, { on := 5, ground := Go.Ground.phase }], guard := none }) rfl (fun K hK => ?_) AllReadyH.nil
          go_simp
          clear f0 f1 f2 f3 f4 f5 f6 d0 d1 d2 d3 d4 d5
          have HBx := Lib.hid (B6 hHeld.2.2.2.2.2.2.2.2.2.2.2.2 (g := gA) (by omega) (.int .i64 ay) (.int .i64 am) (.int .i64 ad) (.int .i64 as') (.bool xz) (.int .i64 ao))
          replace RX := Lib.hid (far6 RX.out (g := gA) (by omega) (.int .i64 ay) (.int .i64 am) (.int .i64 ad) (.int .i64 as') (.bool xz) (.int .i64 ao))
          replace RY := Lib.hid (far6 RY.out (g := gA) (by omega) (.int .i64 ay) (.int .i64 am) (.int .i64 ad) (.int .i64 as') (.bool xz) (.int .i64 ao))
          replace RZ := Lib.hid (far6 RZ.out (g := gA) (by omega) (.int .i64 ay) (.int .i64 am) (.int .i64 ad) (.int .i64 as') (.bool xz) (.int .i64 ao))
          replace PB := Lib.hid (PB.out.far6 (g := gA) ne.symm (.int .i64 ay) (.int .i64 am) (.int .i64 ad) (.int .i64 as') (.bool xz) (.int .i64 ao))
          replace PA := Lib.hid (PA.out.put (y := ay) (m := am) (d := ad) (s := as') (z := xz) (o := ao))
          clear hHeld
          refine hK.out _ _ ?_ (fun hHeld => ?_)
          · exact ⟨RX.out.1.1, RX.out.1.2.1, RX.out.1.2.2.1, RX.out.1.2.2.2.1, RX.out.1.2.2.2.2.1, RX.out.1.2.2.2.2.2, RY.out.1.1, RY.out.1.2.1, RY.out.1.2.2.1, RY.out.1.2.2.2.1, RY.out.1.2.2.2.2.1, RY.out.1.2.2.2.2.2, HBx.out⟩
          clear hK K HBx
          try simp only [Act.put, List.setIfInBounds_toArray, List.set_cons_zero, List.set_cons_succ]
          obtain ⟨⟨d0, d1, d2, d3, d4, d5⟩, ⟨f0, f1, f2, f3, f4, f5⟩, f6⟩ := id PB.out
          refine wpAnyH_ready (rs := [7]) (by kernel_rfl) (by simp) ?_
          refine AllReadyH.cons (o := { dst := none, op := Go.Op.store 29 (Go.Operand.tmp 8) (Go.Operand.tmp 25), type := 0, pos := "law.go:99", after := #[{ on := 5, ground := Go.Ground.data }, { on := 3, ground := Go.Ground.data }, { on := 6, ground := Go.Ground.chain }, { on := 0, ground := Go.Ground.phase }, { on := 1, ground := Go.Ground.phase }, { on := 2, ground := Go.Ground.phase }, { on := 3, ground := Go.Ground.phase }, { on := 4, ground := Go.Ground.phase }, { on := 5, ground := Go.Ground.phase }, { on := 6, ground := Go.Ground.phase }], guard := none }) rfl (fun K hK => ?_) AllReadyH.nil
          go_simp
          clear f0 f1 f2 f3 f4 f5 f6 d0 d1 d2 d3 d4 d5
          have HBx := Lib.hid (B6 hHeld.2.2.2.2.2.2.2.2.2.2.2.2 (g := gB) (by omega) (.int .i64 by_) (.int .i64 bm) (.int .i64 bd) (.int .i64 bs) (.bool yz) (.int .i64 bo))
          replace RX := Lib.hid (far6 RX.out (g := gB) (by omega) (.int .i64 by_) (.int .i64 bm) (.int .i64 bd) (.int .i64 bs) (.bool yz) (.int .i64 bo))
          replace RY := Lib.hid (far6 RY.out (g := gB) (by omega) (.int .i64 by_) (.int .i64 bm) (.int .i64 bd) (.int .i64 bs) (.bool yz) (.int .i64 bo))
          replace RZ := Lib.hid (far6 RZ.out (g := gB) (by omega) (.int .i64 by_) (.int .i64 bm) (.int .i64 bd) (.int .i64 bs) (.bool yz) (.int .i64 bo))
          replace PA := Lib.hid (PA.out.far6 (g := gB) ne (.int .i64 by_) (.int .i64 bm) (.int .i64 bd) (.int .i64 bs) (.bool yz) (.int .i64 bo))
          replace PB := Lib.hid (PB.out.put (y := by_) (m := bm) (d := bd) (s := bs) (z := yz) (o := bo))
          clear hHeld
          refine hK.out _ _ ?_ (fun hHeld => ?_)
          · exact ⟨RX.out.1.1, RX.out.1.2.1, RX.out.1.2.2.1, RX.out.1.2.2.2.1, RX.out.1.2.2.2.2.1, RX.out.1.2.2.2.2.2, RY.out.1.1, RY.out.1.2.1, RY.out.1.2.2.1, RY.out.1.2.2.2.1, RY.out.1.2.2.2.2.1, RY.out.1.2.2.2.2.2, HBx.out⟩
          clear hK K HBx
          try simp only [Act.put, List.setIfInBounds_toArray, List.set_cons_zero, List.set_cons_succ]
          refine wpAnyH_done (by kernel_rfl) ?_ _
          exact ⟨gA, gB, rfl, RX.out, RY.out, RZ.out, PA.out, PB.out, lePA, lePB, hHeld.2.2.2.2.2.2.2.2.2.2.2.2⟩
    · go_simp
      replace RX := Lib.hid (RX.out.alloc (MoC 0 0 0 0 false 0))
      replace RY := Lib.hid (RY.out.alloc (MoC 0 0 0 0 false 0))
      replace RZ := Lib.hid (RZ.out.alloc (MoC 0 0 0 0 false 0))
      have PA := Lib.hid (HoldsN.new rfl : HoldsN (v0.alloc (MoC 0 0 0 0 false 0)) v0.heap.size 0 0 0 0 false 0)
      have lePA := le0
      replace le0 := Nat.le_trans le0 (Below.alloc (Below.refl v0.heap.size v0) (Nat.le_refl _) (MoC 0 0 0 0 false 0)).size
      have HBx := Lib.hid (ballD1 hHeld.2.2.2.2.2.2.2.2.2.2.2.2 (MoC 0 0 0 0 false 0))
      clear hHeld
      refine hK.out _ _ ?_ (fun hHeld => ?_)
      · exact ⟨RX.out.1.1, RX.out.1.2.1, RX.out.1.2.2.1, RX.out.1.2.2.2.1, RX.out.1.2.2.2.2.1, RX.out.1.2.2.2.2.2, RY.out.1.1, RY.out.1.2.1, RY.out.1.2.2.1, RY.out.1.2.2.2.1, RY.out.1.2.2.2.2.1, RY.out.1.2.2.2.2.2, HBx.out⟩
      clear hK K HBx
      try simp only [Act.put, List.setIfInBounds_toArray, List.set_cons_zero, List.set_cons_succ]
      generalize v0.alloc (MoC 0 0 0 0 false 0) = v1 at *
      obtain ⟨gA, hg⟩ : ∃ g, g = v0.heap.size := ⟨_, rfl⟩
      rw [← hg] at PA lePA ⊢
      clear hg
      refine wpAnyH_ready (rs := [1, 5]) (by kernel_rfl) (by simp) ?_
      refine AllReadyH.cons (o := { dst := some 23, op := Go.Op.call { callee := Go.Callee.value (Go.Operand.func 9), args := #[Go.Operand.tmp 22], argTypes := #[23] }, type := 29, pos := "law.go:99", after := #[{ on := 0, ground := Go.Ground.data }], guard := none }) rfl (fun K hK => ?_) (AllReadyH.cons (o := { dst := some 8, op := Go.Op.alloc 29, type := 0, pos := "law.go:99", after := #[], guard := none }) rfl (fun K hK => ?_) AllReadyH.nil)
      · go_simp
        refine (MA.out _).mono ?_
        rintro e v2 ⟨rfl, hbv⟩
        replace RX := Lib.hid (RX.out.below hbv)
        replace RY := Lib.hid (RY.out.below hbv)
        replace RZ := Lib.hid (RZ.out.below hbv)
        replace PA := Lib.hid (PA.out.below hbv)
        have HBx := Lib.hid (bstep hHeld.2.2.2.2.2.2.2.2.2.2.2.2 hbv)
        replace le0 := Nat.le_trans le0 hbv.size
        clear hHeld hbv
        refine hK.out _ _ ?_ (fun hHeld => ?_)
        · exact ⟨RX.out.1.1, RX.out.1.2.1, RX.out.1.2.2.1, RX.out.1.2.2.2.1, RX.out.1.2.2.2.2.1, RX.out.1.2.2.2.2.2, RY.out.1.1, RY.out.1.2.1, RY.out.1.2.2.1, RY.out.1.2.2.2.1, RY.out.1.2.2.2.2.1, RY.out.1.2.2.2.2.2, HBx.out⟩
        clear hK K HBx
        try simp only [Act.put, List.setIfInBounds_toArray, List.set_cons_zero, List.set_cons_succ]
        refine wpAnyH_ready (rs := [3, 5]) (by kernel_rfl) (by simp) ?_
        refine AllReadyH.cons (o := { dst := some 25, op := Go.Op.call { callee := Go.Callee.value (Go.Operand.func 9), args := #[Go.Operand.tmp 24], argTypes := #[23] }, type := 29, pos := "law.go:99", after := #[{ on := 2, ground := Go.Ground.data }, { on := 1, ground := Go.Ground.chain }], guard := none }) rfl (fun K hK => ?_) (AllReadyH.cons (o := { dst := some 8, op := Go.Op.alloc 29, type := 0, pos := "law.go:99", after := #[], guard := none }) rfl (fun K hK => ?_) AllReadyH.nil)
        · go_simp
          refine (MB.out _).mono ?_
          rintro e v3 ⟨rfl, hbv⟩
          replace RX := Lib.hid (RX.out.below hbv)
          replace RY := Lib.hid (RY.out.below hbv)
          replace RZ := Lib.hid (RZ.out.below hbv)
          replace PA := Lib.hid (PA.out.below hbv)
          have HBx := Lib.hid (bstep hHeld.2.2.2.2.2.2.2.2.2.2.2.2 hbv)
          replace le0 := Nat.le_trans le0 hbv.size
          clear hHeld hbv
          refine hK.out _ _ ?_ (fun hHeld => ?_)
          · exact ⟨RX.out.1.1, RX.out.1.2.1, RX.out.1.2.2.1, RX.out.1.2.2.2.1, RX.out.1.2.2.2.2.1, RX.out.1.2.2.2.2.2, RY.out.1.1, RY.out.1.2.1, RY.out.1.2.2.1, RY.out.1.2.2.2.1, RY.out.1.2.2.2.2.1, RY.out.1.2.2.2.2.2, HBx.out⟩
          clear hK K HBx
          try simp only [Act.put, List.setIfInBounds_toArray, List.set_cons_zero, List.set_cons_succ]
          refine wpAnyH_ready (rs := [5]) (by kernel_rfl) (by simp) ?_
          refine AllReadyH.cons (o := { dst := some 8, op := Go.Op.alloc 29, type := 0, pos := "law.go:99", after := #[], guard := none }) rfl (fun K hK => ?_) AllReadyH.nil
          go_simp
          have ne := Nat.ne_of_lt PA.out.2.2
          replace RX := Lib.hid (RX.out.alloc (MoC 0 0 0 0 false 0))
          replace RY := Lib.hid (RY.out.alloc (MoC 0 0 0 0 false 0))
          replace RZ := Lib.hid (RZ.out.alloc (MoC 0 0 0 0 false 0))
          replace PA := Lib.hid (PA.out.alloc (MoC 0 0 0 0 false 0))
          have PB := Lib.hid (HoldsN.new rfl : HoldsN (v3.alloc (MoC 0 0 0 0 false 0)) v3.heap.size 0 0 0 0 false 0)
          have lePB := le0
          replace le0 := Nat.le_trans le0 (Below.alloc (Below.refl v3.heap.size v3) (Nat.le_refl _) (MoC 0 0 0 0 false 0)).size
          have HBx := Lib.hid (ballD1 hHeld.2.2.2.2.2.2.2.2.2.2.2.2 (MoC 0 0 0 0 false 0))
          clear hHeld
          refine hK.out _ _ ?_ (fun hHeld => ?_)
          · exact ⟨RX.out.1.1, RX.out.1.2.1, RX.out.1.2.2.1, RX.out.1.2.2.2.1, RX.out.1.2.2.2.2.1, RX.out.1.2.2.2.2.2, RY.out.1.1, RY.out.1.2.1, RY.out.1.2.2.1, RY.out.1.2.2.2.1, RY.out.1.2.2.2.2.1, RY.out.1.2.2.2.2.2, HBx.out⟩
          clear hK K HBx
          try simp only [Act.put, List.setIfInBounds_toArray, List.set_cons_zero, List.set_cons_succ]
          generalize v3.alloc (MoC 0 0 0 0 false 0) = v4 at *
          obtain ⟨gB, hg⟩ : ∃ g, g = v3.heap.size := ⟨_, rfl⟩
          rw [← hg] at PB lePB ne ⊢
          clear hg
          obtain ⟨⟨d0, d1, d2, d3, d4, d5⟩, ⟨f0, f1, f2, f3, f4, f5⟩, f6⟩ := id PA.out
          refine wpAnyH_ready (rs := [6]) (by kernel_rfl) (by simp) ?_
          refine AllReadyH.cons (o := { dst := none, op := Go.Op.store 29 (Go.Operand.tmp 7) (Go.Operand.tmp 23), type := 0, pos := "law.go:99", after := #[{ on := 4, ground := Go.Ground.data }, { on := 1, ground := Go.Ground.data }, { on := 3, ground := Go.Ground.chain }, { on := 0, ground := Go.Ground.phase }, { on := 1, ground := Go.Ground.phase }, { on := 2, ground := Go.Ground.textOnly Go.Departure.lateStores }, { on := 3, ground := Go.Ground.textOnly Go.Departure.lateStoresUnsure }, { on := 4, ground := Go.Ground.phase }, { on := 5, ground := Go.Ground.phase }], guard := none }) rfl (fun K hK => ?_) AllReadyH.nil
          go_simp
          clear f0 f1 f2 f3 f4 f5 f6 d0 d1 d2 d3 d4 d5
          have HBx := Lib.hid (B6 hHeld.2.2.2.2.2.2.2.2.2.2.2.2 (g := gA) (by omega) (.int .i64 ay) (.int .i64 am) (.int .i64 ad) (.int .i64 as') (.bool xz) (.int .i64 ao))
          replace RX := Lib.hid (far6 RX.out (g := gA) (by omega) (.int .i64 ay) (.int .i64 am) (.int .i64 ad) (.int .i64 as') (.bool xz) (.int .i64 ao))
          replace RY := Lib.hid (far6 RY.out (g := gA) (by omega) (.int .i64 ay) (.int .i64 am) (.int .i64 ad) (.int .i64 as') (.bool xz) (.int .i64 ao))
          replace RZ := Lib.hid (far6 RZ.out (g := gA) (by omega) (.int .i64 ay) (.int .i64 am) (.int .i64 ad) (.int .i64 as') (.bool xz) (.int .i64 ao))
          replace PB := Lib.hid (PB.out.far6 (g := gA) ne.symm (.int .i64 ay) (.int .i64 am) (.int .i64 ad) (.int .i64 as') (.bool xz) (.int .i64 ao))
          replace PA := Lib.hid (PA.out.put (y := ay) (m := am) (d := ad) (s := as') (z := xz) (o := ao))
          clear hHeld
          refine hK.out _ _ ?_ (fun hHeld => ?_)
          · exact ⟨RX.out.1.1, RX.out.1.2.1, RX.out.1.2.2.1, RX.out.1.2.2.2.1, RX.out.1.2.2.2.2.1, RX.out.1.2.2.2.2.2, RY.out.1.1, RY.out.1.2.1, RY.out.1.2.2.1, RY.out.1.2.2.2.1, RY.out.1.2.2.2.2.1, RY.out.1.2.2.2.2.2, HBx.out⟩
          clear hK K HBx
          try simp only [Act.put, List.setIfInBounds_toArray, List.set_cons_zero, List.set_cons_succ]
          obtain ⟨⟨d0, d1, d2, d3, d4, d5⟩, ⟨f0, f1, f2, f3, f4, f5⟩, f6⟩ := id PB.out
          refine wpAnyH_ready (rs := [7]) (by kernel_rfl) (by simp) ?_
          refine AllReadyH.cons (o := { dst := none, op := Go.Op.store 29 (Go.Operand.tmp 8) (Go.Operand.tmp 25), type := 0, pos := "law.go:99", after := #[{ on := 5, ground := Go.Ground.data }, { on := 3, ground := Go.Ground.data }, { on := 6, ground := Go.Ground.chain }, { on := 0, ground := Go.Ground.phase }, { on := 1, ground := Go.Ground.phase }, { on := 2, ground := Go.Ground.phase }, { on := 3, ground := Go.Ground.phase }, { on := 4, ground := Go.Ground.phase }, { on := 5, ground := Go.Ground.phase }, { on := 6, ground := Go.Ground.phase }], guard := none }) rfl (fun K hK => ?_) AllReadyH.nil
          go_simp
          clear f0 f1 f2 f3 f4 f5 f6 d0 d1 d2 d3 d4 d5
          have HBx := Lib.hid (B6 hHeld.2.2.2.2.2.2.2.2.2.2.2.2 (g := gB) (by omega) (.int .i64 by_) (.int .i64 bm) (.int .i64 bd) (.int .i64 bs) (.bool yz) (.int .i64 bo))
          replace RX := Lib.hid (far6 RX.out (g := gB) (by omega) (.int .i64 by_) (.int .i64 bm) (.int .i64 bd) (.int .i64 bs) (.bool yz) (.int .i64 bo))
          replace RY := Lib.hid (far6 RY.out (g := gB) (by omega) (.int .i64 by_) (.int .i64 bm) (.int .i64 bd) (.int .i64 bs) (.bool yz) (.int .i64 bo))
          replace RZ := Lib.hid (far6 RZ.out (g := gB) (by omega) (.int .i64 by_) (.int .i64 bm) (.int .i64 bd) (.int .i64 bs) (.bool yz) (.int .i64 bo))
          replace PA := Lib.hid (PA.out.far6 (g := gB) ne (.int .i64 by_) (.int .i64 bm) (.int .i64 bd) (.int .i64 bs) (.bool yz) (.int .i64 bo))
          replace PB := Lib.hid (PB.out.put (y := by_) (m := bm) (d := bd) (s := bs) (z := yz) (o := bo))
          clear hHeld
          refine hK.out _ _ ?_ (fun hHeld => ?_)
          · exact ⟨RX.out.1.1, RX.out.1.2.1, RX.out.1.2.2.1, RX.out.1.2.2.2.1, RX.out.1.2.2.2.2.1, RX.out.1.2.2.2.2.2, RY.out.1.1, RY.out.1.2.1, RY.out.1.2.2.1, RY.out.1.2.2.2.1, RY.out.1.2.2.2.2.1, RY.out.1.2.2.2.2.2, HBx.out⟩
          clear hK K HBx
          try simp only [Act.put, List.setIfInBounds_toArray, List.set_cons_zero, List.set_cons_succ]
          refine wpAnyH_done (by kernel_rfl) ?_ _
          exact ⟨gA, gB, rfl, RX.out, RY.out, RZ.out, PA.out, PB.out, lePA, lePB, hHeld.2.2.2.2.2.2.2.2.2.2.2.2⟩
        · go_simp
          have ne := Nat.ne_of_lt PA.out.2.2
          replace RX := Lib.hid (RX.out.alloc (MoC 0 0 0 0 false 0))
          replace RY := Lib.hid (RY.out.alloc (MoC 0 0 0 0 false 0))
          replace RZ := Lib.hid (RZ.out.alloc (MoC 0 0 0 0 false 0))
          replace PA := Lib.hid (PA.out.alloc (MoC 0 0 0 0 false 0))
          have PB := Lib.hid (HoldsN.new rfl : HoldsN (v2.alloc (MoC 0 0 0 0 false 0)) v2.heap.size 0 0 0 0 false 0)
          have lePB := le0
          replace le0 := Nat.le_trans le0 (Below.alloc (Below.refl v2.heap.size v2) (Nat.le_refl _) (MoC 0 0 0 0 false 0)).size
          have HBx := Lib.hid (ballD1 hHeld.2.2.2.2.2.2.2.2.2.2.2.2 (MoC 0 0 0 0 false 0))
          clear hHeld
          refine hK.out _ _ ?_ (fun hHeld => ?_)
          · exact ⟨RX.out.1.1, RX.out.1.2.1, RX.out.1.2.2.1, RX.out.1.2.2.2.1, RX.out.1.2.2.2.2.1, RX.out.1.2.2.2.2.2, RY.out.1.1, RY.out.1.2.1, RY.out.1.2.2.1, RY.out.1.2.2.2.1, RY.out.1.2.2.2.2.1, RY.out.1.2.2.2.2.2, HBx.out⟩
          clear hK K HBx
          try simp only [Act.put, List.setIfInBounds_toArray, List.set_cons_zero, List.set_cons_succ]
          generalize v2.alloc (MoC 0 0 0 0 false 0) = v3 at *
          obtain ⟨gB, hg⟩ : ∃ g, g = v2.heap.size := ⟨_, rfl⟩
          rw [← hg] at PB lePB ne ⊢
          clear hg
          refine wpAnyH_ready (rs := [3]) (by kernel_rfl) (by simp) ?_
          refine AllReadyH.cons (o := { dst := some 25, op := Go.Op.call { callee := Go.Callee.value (Go.Operand.func 9), args := #[Go.Operand.tmp 24], argTypes := #[23] }, type := 29, pos := "law.go:99", after := #[{ on := 2, ground := Go.Ground.data }, { on := 1, ground := Go.Ground.chain }], guard := none }) rfl (fun K hK => ?_) AllReadyH.nil
          go_simp
          refine (MB.out _).mono ?_
          rintro e v4 ⟨rfl, hbv⟩
          replace RX := Lib.hid (RX.out.below hbv)
          replace RY := Lib.hid (RY.out.below hbv)
          replace RZ := Lib.hid (RZ.out.below hbv)
          replace PA := Lib.hid (PA.out.below hbv)
          replace PB := Lib.hid (PB.out.below hbv)
          have HBx := Lib.hid (bstep hHeld.2.2.2.2.2.2.2.2.2.2.2.2 hbv)
          replace le0 := Nat.le_trans le0 hbv.size
          clear hHeld hbv
          refine hK.out _ _ ?_ (fun hHeld => ?_)
          · exact ⟨RX.out.1.1, RX.out.1.2.1, RX.out.1.2.2.1, RX.out.1.2.2.2.1, RX.out.1.2.2.2.2.1, RX.out.1.2.2.2.2.2, RY.out.1.1, RY.out.1.2.1, RY.out.1.2.2.1, RY.out.1.2.2.2.1, RY.out.1.2.2.2.2.1, RY.out.1.2.2.2.2.2, HBx.out⟩
          clear hK K HBx
          try simp only [Act.put, List.setIfInBounds_toArray, List.set_cons_zero, List.set_cons_succ]
          obtain ⟨⟨d0, d1, d2, d3, d4, d5⟩, ⟨f0, f1, f2, f3, f4, f5⟩, f6⟩ := id PA.out
          refine wpAnyH_ready (rs := [6]) (by kernel_rfl) (by simp) ?_
          refine AllReadyH.cons (o := { dst := none, op := Go.Op.store 29 (Go.Operand.tmp 7) (Go.Operand.tmp 23), type := 0, pos := "law.go:99", after := #[{ on := 4, ground := Go.Ground.data }, { on := 1, ground := Go.Ground.data }, { on := 3, ground := Go.Ground.chain }, { on := 0, ground := Go.Ground.phase }, { on := 1, ground := Go.Ground.phase }, { on := 2, ground := Go.Ground.textOnly Go.Departure.lateStores }, { on := 3, ground := Go.Ground.textOnly Go.Departure.lateStoresUnsure }, { on := 4, ground := Go.Ground.phase }, { on := 5, ground := Go.Ground.phase }], guard := none }) rfl (fun K hK => ?_) AllReadyH.nil
          go_simp
          clear f0 f1 f2 f3 f4 f5 f6 d0 d1 d2 d3 d4 d5
          have HBx := Lib.hid (B6 hHeld.2.2.2.2.2.2.2.2.2.2.2.2 (g := gA) (by omega) (.int .i64 ay) (.int .i64 am) (.int .i64 ad) (.int .i64 as') (.bool xz) (.int .i64 ao))
          replace RX := Lib.hid (far6 RX.out (g := gA) (by omega) (.int .i64 ay) (.int .i64 am) (.int .i64 ad) (.int .i64 as') (.bool xz) (.int .i64 ao))
          replace RY := Lib.hid (far6 RY.out (g := gA) (by omega) (.int .i64 ay) (.int .i64 am) (.int .i64 ad) (.int .i64 as') (.bool xz) (.int .i64 ao))
          replace RZ := Lib.hid (far6 RZ.out (g := gA) (by omega) (.int .i64 ay) (.int .i64 am) (.int .i64 ad) (.int .i64 as') (.bool xz) (.int .i64 ao))
          replace PB := Lib.hid (PB.out.far6 (g := gA) ne.symm (.int .i64 ay) (.int .i64 am) (.int .i64 ad) (.int .i64 as') (.bool xz) (.int .i64 ao))
          replace PA := Lib.hid (PA.out.put (y := ay) (m := am) (d := ad) (s := as') (z := xz) (o := ao))
          clear hHeld
          refine hK.out _ _ ?_ (fun hHeld => ?_)
          · exact ⟨RX.out.1.1, RX.out.1.2.1, RX.out.1.2.2.1, RX.out.1.2.2.2.1, RX.out.1.2.2.2.2.1, RX.out.1.2.2.2.2.2, RY.out.1.1, RY.out.1.2.1, RY.out.1.2.2.1, RY.out.1.2.2.2.1, RY.out.1.2.2.2.2.1, RY.out.1.2.2.2.2.2, HBx.out⟩
          clear hK K HBx
          try simp only [Act.put, List.setIfInBounds_toArray, List.set_cons_zero, List.set_cons_succ]
          obtain ⟨⟨d0, d1, d2, d3, d4, d5⟩, ⟨f0, f1, f2, f3, f4, f5⟩, f6⟩ := id PB.out
          refine wpAnyH_ready (rs := [7]) (by kernel_rfl) (by simp) ?_
          refine AllReadyH.cons (o := { dst := none, op := Go.Op.store 29 (Go.Operand.tmp 8) (Go.Operand.tmp 25), type := 0, pos := "law.go:99", after := #[{ on := 5, ground := Go.Ground.data }, { on := 3, ground := Go.Ground.data }, { on := 6, ground := Go.Ground.chain }, { on := 0, ground := Go.Ground.phase }, { on := 1, ground := Go.Ground.phase }, { on := 2, ground := Go.Ground.phase }, { on := 3, ground := Go.Ground.phase }, { on := 4, ground := Go.Ground.phase }, { on := 5, ground := Go.Ground.phase }, { on := 6, ground := Go.Ground.phase }], guard := none }) rfl (fun K hK => ?_) AllReadyH.nil
          go_simp
          clear f0 f1 f2 f3 f4 f5 f6 d0 d1 d2 d3 d4 d5
          have HBx := Lib.hid (B6 hHeld.2.2.2.2.2.2.2.2.2.2.2.2 (g := gB) (by omega) (.int .i64 by_) (.int .i64 bm) (.int .i64 bd) (.int .i64 bs) (.bool yz) (.int .i64 bo))
          replace RX := Lib.hid (far6 RX.out (g := gB) (by omega) (.int .i64 by_) (.int .i64 bm) (.int .i64 bd) (.int .i64 bs) (.bool yz) (.int .i64 bo))
          replace RY := Lib.hid (far6 RY.out (g := gB) (by omega) (.int .i64 by_) (.int .i64 bm) (.int .i64 bd) (.int .i64 bs) (.bool yz) (.int .i64 bo))
          replace RZ := Lib.hid (far6 RZ.out (g := gB) (by omega) (.int .i64 by_) (.int .i64 bm) (.int .i64 bd) (.int .i64 bs) (.bool yz) (.int .i64 bo))
          replace PA := Lib.hid (PA.out.far6 (g := gB) ne (.int .i64 by_) (.int .i64 bm) (.int .i64 bd) (.int .i64 bs) (.bool yz) (.int .i64 bo))
          replace PB := Lib.hid (PB.out.put (y := by_) (m := bm) (d := bd) (s := bs) (z := yz) (o := bo))
          clear hHeld
          refine hK.out _ _ ?_ (fun hHeld => ?_)
          · exact ⟨RX.out.1.1, RX.out.1.2.1, RX.out.1.2.2.1, RX.out.1.2.2.2.1, RX.out.1.2.2.2.2.1, RX.out.1.2.2.2.2.2, RY.out.1.1, RY.out.1.2.1, RY.out.1.2.2.1, RY.out.1.2.2.2.1, RY.out.1.2.2.2.2.1, RY.out.1.2.2.2.2.2, HBx.out⟩
          clear hK K HBx
          try simp only [Act.put, List.setIfInBounds_toArray, List.set_cons_zero, List.set_cons_succ]
          refine wpAnyH_done (by kernel_rfl) ?_ _
          exact ⟨gA, gB, rfl, RX.out, RY.out, RZ.out, PA.out, PB.out, lePA, lePB, hHeld.2.2.2.2.2.2.2.2.2.2.2.2⟩
      · go_simp
        have ne := Nat.ne_of_lt PA.out.2.2
        replace RX := Lib.hid (RX.out.alloc (MoC 0 0 0 0 false 0))
        replace RY := Lib.hid (RY.out.alloc (MoC 0 0 0 0 false 0))
        replace RZ := Lib.hid (RZ.out.alloc (MoC 0 0 0 0 false 0))
        replace PA := Lib.hid (PA.out.alloc (MoC 0 0 0 0 false 0))
        have PB := Lib.hid (HoldsN.new rfl : HoldsN (v1.alloc (MoC 0 0 0 0 false 0)) v1.heap.size 0 0 0 0 false 0)
        have lePB := le0
        replace le0 := Nat.le_trans le0 (Below.alloc (Below.refl v1.heap.size v1) (Nat.le_refl _) (MoC 0 0 0 0 false 0)).size
        have HBx := Lib.hid (ballD1 hHeld.2.2.2.2.2.2.2.2.2.2.2.2 (MoC 0 0 0 0 false 0))
        clear hHeld
        refine hK.out _ _ ?_ (fun hHeld => ?_)
        · exact ⟨RX.out.1.1, RX.out.1.2.1, RX.out.1.2.2.1, RX.out.1.2.2.2.1, RX.out.1.2.2.2.2.1, RX.out.1.2.2.2.2.2, RY.out.1.1, RY.out.1.2.1, RY.out.1.2.2.1, RY.out.1.2.2.2.1, RY.out.1.2.2.2.2.1, RY.out.1.2.2.2.2.2, HBx.out⟩
        clear hK K HBx
        try simp only [Act.put, List.setIfInBounds_toArray, List.set_cons_zero, List.set_cons_succ]
        generalize v1.alloc (MoC 0 0 0 0 false 0) = v2 at *
        obtain ⟨gB, hg⟩ : ∃ g, g = v1.heap.size := ⟨_, rfl⟩
        rw [← hg] at PB lePB ne ⊢
        clear hg
        refine wpAnyH_ready (rs := [1]) (by kernel_rfl) (by simp) ?_
        refine AllReadyH.cons (o := { dst := some 23, op := Go.Op.call { callee := Go.Callee.value (Go.Operand.func 9), args := #[Go.Operand.tmp 22], argTypes := #[23] }, type := 29, pos := "law.go:99", after := #[{ on := 0, ground := Go.Ground.data }], guard := none }) rfl (fun K hK => ?_) AllReadyH.nil
        go_simp
        refine (MA.out _).mono ?_
        rintro e v3 ⟨rfl, hbv⟩
        replace RX := Lib.hid (RX.out.below hbv)
        replace RY := Lib.hid (RY.out.below hbv)
        replace RZ := Lib.hid (RZ.out.below hbv)
        replace PA := Lib.hid (PA.out.below hbv)
        replace PB := Lib.hid (PB.out.below hbv)
        have HBx := Lib.hid (bstep hHeld.2.2.2.2.2.2.2.2.2.2.2.2 hbv)
        replace le0 := Nat.le_trans le0 hbv.size
        clear hHeld hbv
        refine hK.out _ _ ?_ (fun hHeld => ?_)
        · exact ⟨RX.out.1.1, RX.out.1.2.1, RX.out.1.2.2.1, RX.out.1.2.2.2.1, RX.out.1.2.2.2.2.1, RX.out.1.2.2.2.2.2, RY.out.1.1, RY.out.1.2.1, RY.out.1.2.2.1, RY.out.1.2.2.2.1, RY.out.1.2.2.2.2.1, RY.out.1.2.2.2.2.2, HBx.out⟩
        clear hK K HBx
        try simp only [Act.put, List.setIfInBounds_toArray, List.set_cons_zero, List.set_cons_succ]
        refine wpAnyH_ready (rs := [3]) (by kernel_rfl) (by simp) ?_
        refine AllReadyH.cons (o := { dst := some 25, op := Go.Op.call { callee := Go.Callee.value (Go.Operand.func 9), args := #[Go.Operand.tmp 24], argTypes := #[23] }, type := 29, pos := "law.go:99", after := #[{ on := 2, ground := Go.Ground.data }, { on := 1, ground := Go.Ground.chain }], guard := none }) rfl (fun K hK => ?_) AllReadyH.nil
        go_simp
        refine (MB.out _).mono ?_
        rintro e v4 ⟨rfl, hbv⟩
        replace RX := Lib.hid (RX.out.below hbv)
        replace RY := Lib.hid (RY.out.below hbv)
        replace RZ := Lib.hid (RZ.out.below hbv)
        replace PA := Lib.hid (PA.out.below hbv)
        replace PB := Lib.hid (PB.out.below hbv)
        have HBx := Lib.hid (bstep hHeld.2.2.2.2.2.2.2.2.2.2.2.2 hbv)
        replace le0 := Nat.le_trans le0 hbv.size
        clear hHeld hbv
        refine hK.out _ _ ?_ (fun hHeld => ?_)
        · exact ⟨RX.out.1.1, RX.out.1.2.1, RX.out.1.2.2.1, RX.out.1.2.2.2.1, RX.out.1.2.2.2.2.1, RX.out.1.2.2.2.2.2, RY.out.1.1, RY.out.1.2.1, RY.out.1.2.2.1, RY.out.1.2.2.2.1, RY.out.1.2.2.2.2.1, RY.out.1.2.2.2.2.2, HBx.out⟩
        clear hK K HBx
        try simp only [Act.put, List.setIfInBounds_toArray, List.set_cons_zero, List.set_cons_succ]
        obtain ⟨⟨d0, d1, d2, d3, d4, d5⟩, ⟨f0, f1, f2, f3, f4, f5⟩, f6⟩ := id PA.out
        refine wpAnyH_ready (rs := [6]) (by kernel_rfl) (by simp) ?_
        refine AllReadyH.cons (o := { dst := none, op := Go.Op.store 29 (Go.Operand.tmp 7) (Go.Operand.tmp 23), type := 0, pos := "law.go:99", after := #[{ on := 4, ground := Go.Ground.data }, { on := 1, ground := Go.Ground.data }, { on := 3, ground := Go.Ground.chain }, { on := 0, ground := Go.Ground.phase }, { on := 1, ground := Go.Ground.phase }, { on := 2, ground := Go.Ground.textOnly Go.Departure.lateStores }, { on := 3, ground := Go.Ground.textOnly Go.Departure.lateStoresUnsure }, { on := 4, ground := Go.Ground.phase }, { on := 5, ground := Go.Ground.phase }], guard := none }) rfl (fun K hK => ?_) AllReadyH.nil
        go_simp
        clear f0 f1 f2 f3 f4 f5 f6 d0 d1 d2 d3 d4 d5
        have HBx := Lib.hid (B6 hHeld.2.2.2.2.2.2.2.2.2.2.2.2 (g := gA) (by omega) (.int .i64 ay) (.int .i64 am) (.int .i64 ad) (.int .i64 as') (.bool xz) (.int .i64 ao))
        replace RX := Lib.hid (far6 RX.out (g := gA) (by omega) (.int .i64 ay) (.int .i64 am) (.int .i64 ad) (.int .i64 as') (.bool xz) (.int .i64 ao))
        replace RY := Lib.hid (far6 RY.out (g := gA) (by omega) (.int .i64 ay) (.int .i64 am) (.int .i64 ad) (.int .i64 as') (.bool xz) (.int .i64 ao))
        replace RZ := Lib.hid (far6 RZ.out (g := gA) (by omega) (.int .i64 ay) (.int .i64 am) (.int .i64 ad) (.int .i64 as') (.bool xz) (.int .i64 ao))
        replace PB := Lib.hid (PB.out.far6 (g := gA) ne.symm (.int .i64 ay) (.int .i64 am) (.int .i64 ad) (.int .i64 as') (.bool xz) (.int .i64 ao))
        replace PA := Lib.hid (PA.out.put (y := ay) (m := am) (d := ad) (s := as') (z := xz) (o := ao))
        clear hHeld
        refine hK.out _ _ ?_ (fun hHeld => ?_)
        · exact ⟨RX.out.1.1, RX.out.1.2.1, RX.out.1.2.2.1, RX.out.1.2.2.2.1, RX.out.1.2.2.2.2.1, RX.out.1.2.2.2.2.2, RY.out.1.1, RY.out.1.2.1, RY.out.1.2.2.1, RY.out.1.2.2.2.1, RY.out.1.2.2.2.2.1, RY.out.1.2.2.2.2.2, HBx.out⟩
        clear hK K HBx
        try simp only [Act.put, List.setIfInBounds_toArray, List.set_cons_zero, List.set_cons_succ]
        obtain ⟨⟨d0, d1, d2, d3, d4, d5⟩, ⟨f0, f1, f2, f3, f4, f5⟩, f6⟩ := id PB.out
        refine wpAnyH_ready (rs := [7]) (by kernel_rfl) (by simp) ?_
        refine AllReadyH.cons (o := { dst := none, op := Go.Op.store 29 (Go.Operand.tmp 8) (Go.Operand.tmp 25), type := 0, pos := "law.go:99", after := #[{ on := 5, ground := Go.Ground.data }, { on := 3, ground := Go.Ground.data }, { on := 6, ground := Go.Ground.chain }, { on := 0, ground := Go.Ground.phase }, { on := 1, ground := Go.Ground.phase }, { on := 2, ground := Go.Ground.phase }, { on := 3, ground := Go.Ground.phase }, { on := 4, ground := Go.Ground.phase }, { on := 5, ground := Go.Ground.phase }, { on := 6, ground := Go.Ground.phase }], guard := none }) rfl (fun K hK => ?_) AllReadyH.nil
        go_simp
        clear f0 f1 f2 f3 f4 f5 f6 d0 d1 d2 d3 d4 d5
        have HBx := Lib.hid (B6 hHeld.2.2.2.2.2.2.2.2.2.2.2.2 (g := gB) (by omega) (.int .i64 by_) (.int .i64 bm) (.int .i64 bd) (.int .i64 bs) (.bool yz) (.int .i64 bo))
        replace RX := Lib.hid (far6 RX.out (g := gB) (by omega) (.int .i64 by_) (.int .i64 bm) (.int .i64 bd) (.int .i64 bs) (.bool yz) (.int .i64 bo))
        replace RY := Lib.hid (far6 RY.out (g := gB) (by omega) (.int .i64 by_) (.int .i64 bm) (.int .i64 bd) (.int .i64 bs) (.bool yz) (.int .i64 bo))
        replace RZ := Lib.hid (far6 RZ.out (g := gB) (by omega) (.int .i64 by_) (.int .i64 bm) (.int .i64 bd) (.int .i64 bs) (.bool yz) (.int .i64 bo))
        replace PA := Lib.hid (PA.out.far6 (g := gB) ne (.int .i64 by_) (.int .i64 bm) (.int .i64 bd) (.int .i64 bs) (.bool yz) (.int .i64 bo))
        replace PB := Lib.hid (PB.out.put (y := by_) (m := bm) (d := bd) (s := bs) (z := yz) (o := bo))
        clear hHeld
        refine hK.out _ _ ?_ (fun hHeld => ?_)
        · exact ⟨RX.out.1.1, RX.out.1.2.1, RX.out.1.2.2.1, RX.out.1.2.2.2.1, RX.out.1.2.2.2.2.1, RX.out.1.2.2.2.2.2, RY.out.1.1, RY.out.1.2.1, RY.out.1.2.2.1, RY.out.1.2.2.2.1, RY.out.1.2.2.2.2.1, RY.out.1.2.2.2.2.2, HBx.out⟩
        clear hK K HBx
        try simp only [Act.put, List.setIfInBounds_toArray, List.set_cons_zero, List.set_cons_succ]
        refine wpAnyH_done (by kernel_rfl) ?_ _
        exact ⟨gA, gB, rfl, RX.out, RY.out, RZ.out, PA.out, PB.out, lePA, lePB, hHeld.2.2.2.2.2.2.2.2.2.2.2.2⟩
    · go_simp
      replace RX := Lib.hid (RX.out.alloc (MoC 0 0 0 0 false 0))
      replace RY := Lib.hid (RY.out.alloc (MoC 0 0 0 0 false 0))
      replace RZ := Lib.hid (RZ.out.alloc (MoC 0 0 0 0 false 0))
      have PB := Lib.hid (HoldsN.new rfl : HoldsN (v0.alloc (MoC 0 0 0 0 false 0)) v0.heap.size 0 0 0 0 false 0)
      have lePB := le0
      replace le0 := Nat.le_trans le0 (Below.alloc (Below.refl v0.heap.size v0) (Nat.le_refl _) (MoC 0 0 0 0 false 0)).size
      have HBx := Lib.hid (ballD1 hHeld.2.2.2.2.2.2.2.2.2.2.2.2 (MoC 0 0 0 0 false 0))
      clear hHeld
      refine hK.out _ _ ?_ (fun hHeld => ?_)
      · exact ⟨RX.out.1.1, RX.out.1.2.1, RX.out.1.2.2.1, RX.out.1.2.2.2.1, RX.out.1.2.2.2.2.1, RX.out.1.2.2.2.2.2, RY.out.1.1, RY.out.1.2.1, RY.out.1.2.2.1, RY.out.1.2.2.2.1, RY.out.1.2.2.2.2.1, RY.out.1.2.2.2.2.2, HBx.out⟩
      clear hK K HBx
      try simp only [Act.put, List.setIfInBounds_toArray, List.set_cons_zero, List.set_cons_succ]
      generalize v0.alloc (MoC 0 0 0 0 false 0) = v1 at *
      obtain ⟨gB, hg⟩ : ∃ g, g = v0.heap.size := ⟨_, rfl⟩
      rw [← hg] at PB lePB ⊢
      clear hg
      refine wpAnyH_ready (rs := [1, 4]) (by kernel_rfl) (by simp) ?_
      refine AllReadyH.cons (o := { dst := some 23, op := Go.Op.call { callee := Go.Callee.value (Go.Operand.func 9), args := #[Go.Operand.tmp 22], argTypes := #[23] }, type := 29, pos := "law.go:99", after := #[{ on := 0, ground := Go.Ground.data }], guard := none }) rfl (fun K hK => ?_) (AllReadyH.cons (o := { dst := some 7, op := Go.Op.alloc 29, type := 0, pos := "law.go:99", after := #[], guard := none }) rfl (fun K hK => ?_) AllReadyH.nil)
      · go_simp
        refine (MA.out _).mono ?_
        rintro e v2 ⟨rfl, hbv⟩
        replace RX := Lib.hid (RX.out.below hbv)
        replace RY := Lib.hid (RY.out.below hbv)
        replace RZ := Lib.hid (RZ.out.below hbv)
        replace PB := Lib.hid (PB.out.below hbv)
        have HBx := Lib.hid (bstep hHeld.2.2.2.2.2.2.2.2.2.2.2.2 hbv)
        replace le0 := Nat.le_trans le0 hbv.size
        clear hHeld hbv
        refine hK.out _ _ ?_ (fun hHeld => ?_)
        · exact ⟨RX.out.1.1, RX.out.1.2.1, RX.out.1.2.2.1, RX.out.1.2.2.2.1, RX.out.1.2.2.2.2.1, RX.out.1.2.2.2.2.2, RY.out.1.1, RY.out.1.2.1, RY.out.1.2.2.1, RY.out.1.2.2.2.1, RY.out.1.2.2.2.2.1, RY.out.1.2.2.2.2.2, HBx.out⟩
        clear hK K HBx
        try simp only [Act.put, List.setIfInBounds_toArray, List.set_cons_zero, List.set_cons_succ]
        refine wpAnyH_ready (rs := [3, 4]) (by kernel_rfl) (by simp) ?_
        refine AllReadyH.cons (o := { dst := some 25, op := Go.Op.call { callee := Go.Callee.value (Go.Operand.func 9), args := #[Go.Operand.tmp 24], argTypes := #[23] }, type := 29, pos := "law.go:99", after := #[{ on := 2, ground := Go.Ground.data }, { on := 1, ground := Go.Ground.chain }], guard := none }) rfl (fun K hK => ?_) (AllReadyH.cons (o := { dst := some 7, op := Go.Op.alloc 29, type := 0, pos := "law.go:99", after := #[], guard := none }) rfl (fun K hK => ?_) AllReadyH.nil)
        · go_simp
          refine (MB.out _).mono ?_
          rintro e v3 ⟨rfl, hbv⟩
          replace RX := Lib.hid (RX.out.below hbv)
          replace RY := Lib.hid (RY.out.below hbv)
          replace RZ := Lib.hid (RZ.out.below hbv)
          replace PB := Lib.hid (PB.out.below hbv)
          have HBx := Lib.hid (bstep hHeld.2.2.2.2.2.2.2.2.2.2.2.2 hbv)
          replace le0 := Nat.le_trans le0 hbv.size
          clear hHeld hbv
          refine hK.out _ _ ?_ (fun hHeld => ?_)
          · exact ⟨RX.out.1.1, RX.out.1.2.1, RX.out.1.2.2.1, RX.out.1.2.2.2.1, RX.out.1.2.2.2.2.1, RX.out.1.2.2.2.2.2, RY.out.1.1, RY.out.1.2.1, RY.out.1.2.2.1, RY.out.1.2.2.2.1, RY.out.1.2.2.2.2.1, RY.out.1.2.2.2.2.2, HBx.out⟩
          clear hK K HBx
          try simp only [Act.put, List.setIfInBounds_toArray, List.set_cons_zero, List.set_cons_succ]
          refine wpAnyH_ready (rs := [4]) (by kernel_rfl) (by simp) ?_
          refine AllReadyH.cons (o := { dst := some 7, op := Go.Op.alloc 29, type := 0, pos := "law.go:99", after := #[], guard := none }) rfl (fun K hK => ?_) AllReadyH.nil
          go_simp
          have ne := Nat.ne_of_lt PB.out.2.2
          replace RX := Lib.hid (RX.out.alloc (MoC 0 0 0 0 false 0))
          replace RY := Lib.hid (RY.out.alloc (MoC 0 0 0 0 false 0))
          replace RZ := Lib.hid (RZ.out.alloc (MoC 0 0 0 0 false 0))
          replace PB := Lib.hid (PB.out.alloc (MoC 0 0 0 0 false 0))
          have PA := Lib.hid (HoldsN.new rfl : HoldsN (v3.alloc (MoC 0 0 0 0 false 0)) v3.heap.size 0 0 0 0 false 0)
          have lePA := le0
          replace le0 := Nat.le_trans le0 (Below.alloc (Below.refl v3.heap.size v3) (Nat.le_refl _) (MoC 0 0 0 0 false 0)).size
          have HBx := Lib.hid (ballD1 hHeld.2.2.2.2.2.2.2.2.2.2.2.2 (MoC 0 0 0 0 false 0))
          clear hHeld
          refine hK.out _ _ ?_ (fun hHeld => ?_)
          · exact ⟨RX.out.1.1, RX.out.1.2.1, RX.out.1.2.2.1, RX.out.1.2.2.2.1, RX.out.1.2.2.2.2.1, RX.out.1.2.2.2.2.2, RY.out.1.1, RY.out.1.2.1, RY.out.1.2.2.1, RY.out.1.2.2.2.1, RY.out.1.2.2.2.2.1, RY.out.1.2.2.2.2.2, HBx.out⟩
          clear hK K HBx
          try simp only [Act.put, List.setIfInBounds_toArray, List.set_cons_zero, List.set_cons_succ]
          generalize v3.alloc (MoC 0 0 0 0 false 0) = v4 at *
          obtain ⟨gA, hg⟩ : ∃ g, g = v3.heap.size := ⟨_, rfl⟩
          rw [← hg] at PA lePA ne ⊢
          clear hg
          replace ne := ne.symm
          obtain ⟨⟨d0, d1, d2, d3, d4, d5⟩, ⟨f0, f1, f2, f3, f4, f5⟩, f6⟩ := id PA.out
          refine wpAnyH_ready (rs := [6]) (by kernel_rfl) (by simp) ?_
          refine AllReadyH.cons (o := { dst := none, op := Go.Op.store 29 (Go.Operand.tmp 7) (Go.Operand.tmp 23), type := 0, pos := "law.go:99", after := #[{ on := 4, ground := Go.Ground.data }, { on := 1, ground := Go.Ground.data }, { on := 3, ground := Go.Ground.chain }, { on := 0, ground := Go.Ground.phase }, { on := 1, ground := Go.Ground.phase }, { on := 2, ground := Go.Ground.textOnly Go.Departure.lateStores }, { on := 3, ground := Go.Ground.textOnly Go.Departure.lateStoresUnsure }, { on := 4, ground := Go.Ground.phase }, { on := 5, ground := Go.Ground.phase }], guard := none }) rfl (fun K hK => ?_) AllReadyH.nil
          go_simp
          clear f0 f1 f2 f3 f4 f5 f6 d0 d1 d2 d3 d4 d5
          have HBx := Lib.hid (B6 hHeld.2.2.2.2.2.2.2.2.2.2.2.2 (g := gA) (by omega) (.int .i64 ay) (.int .i64 am) (.int .i64 ad) (.int .i64 as') (.bool xz) (.int .i64 ao))
          replace RX := Lib.hid (far6 RX.out (g := gA) (by omega) (.int .i64 ay) (.int .i64 am) (.int .i64 ad) (.int .i64 as') (.bool xz) (.int .i64 ao))
          replace RY := Lib.hid (far6 RY.out (g := gA) (by omega) (.int .i64 ay) (.int .i64 am) (.int .i64 ad) (.int .i64 as') (.bool xz) (.int .i64 ao))
          replace RZ := Lib.hid (far6 RZ.out (g := gA) (by omega) (.int .i64 ay) (.int .i64 am) (.int .i64 ad) (.int .i64 as') (.bool xz) (.int .i64 ao))
          replace PB := Lib.hid (PB.out.far6 (g := gA) ne.symm (.int .i64 ay) (.int .i64 am) (.int .i64 ad) (.int .i64 as') (.bool xz) (.int .i64 ao))
          replace PA := Lib.hid (PA.out.put (y := ay) (m := am) (d := ad) (s := as') (z := xz) (o := ao))
          clear hHeld
          refine hK.out _ _ ?_ (fun hHeld => ?_)
          · exact ⟨RX.out.1.1, RX.out.1.2.1, RX.out.1.2.2.1, RX.out.1.2.2.2.1, RX.out.1.2.2.2.2.1, RX.out.1.2.2.2.2.2, RY.out.1.1, RY.out.1.2.1, RY.out.1.2.2.1, RY.out.1.2.2.2.1, RY.out.1.2.2.2.2.1, RY.out.1.2.2.2.2.2, HBx.out⟩
          clear hK K HBx
          try simp only [Act.put, List.setIfInBounds_toArray, List.set_cons_zero, List.set_cons_succ]
          obtain ⟨⟨d0, d1, d2, d3, d4, d5⟩, ⟨f0, f1, f2, f3, f4, f5⟩, f6⟩ := id PB.out
          refine wpAnyH_ready (rs := [7]) (by kernel_rfl) (by simp) ?_
          refine AllReadyH.cons (o := { dst := none, op := Go.Op.store 29 (Go.Operand.tmp 8) (Go.Operand.tmp 25), type := 0, pos := "law.go:99", after := #[{ on := 5, ground := Go.Ground.data }, { on := 3, ground := Go.Ground.data }, { on := 6, ground := Go.Ground.chain }, { on := 0, ground := Go.Ground.phase }, { on := 1, ground := Go.Ground.phase }, { on := 2, ground := Go.Ground.phase }, { on := 3, ground := Go.Ground.phase }, { on := 4, ground := Go.Ground.phase }, { on := 5, ground := Go.Ground.phase }, { on := 6, ground := Go.Ground.phase }], guard := none }) rfl (fun K hK => ?_) AllReadyH.nil
          go_simp
          clear f0 f1 f2 f3 f4 f5 f6 d0 d1 d2 d3 d4 d5
          have HBx := Lib.hid (B6 hHeld.2.2.2.2.2.2.2.2.2.2.2.2 (g := gB) (by omega) (.int .i64 by_) (.int .i64 bm) (.int .i64 bd) (.int .i64 bs) (.bool yz) (.int .i64 bo))
          replace RX := Lib.hid (far6 RX.out (g := gB) (by omega) (.int .i64 by_) (.int .i64 bm) (.int .i64 bd) (.int .i64 bs) (.bool yz) (.int .i64 bo))
          replace RY := Lib.hid (far6 RY.out (g := gB) (by omega) (.int .i64 by_) (.int .i64 bm) (.int .i64 bd) (.int .i64 bs) (.bool yz) (.int .i64 bo))
          replace RZ := Lib.hid (far6 RZ.out (g := gB) (by omega) (.int .i64 by_) (.int .i64 bm) (.int .i64 bd) (.int .i64 bs) (.bool yz) (.int .i64 bo))
          replace PA := Lib.hid (PA.out.far6 (g := gB) ne (.int .i64 by_) (.int .i64 bm) (.int .i64 bd) (.int .i64 bs) (.bool yz) (.int .i64 bo))
          replace PB := Lib.hid (PB.out.put (y := by_) (m := bm) (d := bd) (s := bs) (z := yz) (o := bo))
          clear hHeld
          refine hK.out _ _ ?_ (fun hHeld => ?_)
          · exact ⟨RX.out.1.1, RX.out.1.2.1, RX.out.1.2.2.1, RX.out.1.2.2.2.1, RX.out.1.2.2.2.2.1, RX.out.1.2.2.2.2.2, RY.out.1.1, RY.out.1.2.1, RY.out.1.2.2.1, RY.out.1.2.2.2.1, RY.out.1.2.2.2.2.1, RY.out.1.2.2.2.2.2, HBx.out⟩
          clear hK K HBx
          try simp only [Act.put, List.setIfInBounds_toArray, List.set_cons_zero, List.set_cons_succ]
          refine wpAnyH_done (by kernel_rfl) ?_ _
          exact ⟨gA, gB, rfl, RX.out, RY.out, RZ.out, PA.out, PB.out, lePA, lePB, hHeld.2.2.2.2.2.2.2.2.2.2.2.2⟩
        · go_simp
          have ne := Nat.ne_of_lt PB.out.2.2
          replace RX := Lib.hid (RX.out.alloc (MoC 0 0 0 0 false 0))
          replace RY := Lib.hid (RY.out.alloc (MoC 0 0 0 0 false 0))
          replace RZ := Lib.hid (RZ.out.alloc (MoC 0 0 0 0 false 0))
          replace PB := Lib.hid (PB.out.alloc (MoC 0 0 0 0 false 0))
          have PA := Lib.hid (HoldsN.new rfl : HoldsN (v2.alloc (MoC 0 0 0 0 false 0)) v2.heap.size 0 0 0 0 false 0)
          have lePA := le0
          replace le0 := Nat.le_trans le0 (Below.alloc (Below.refl v2.heap.size v2) (Nat.le_refl _) (MoC 0 0 0 0 false 0)).size
          have HBx := Lib.hid (ballD1 hHeld.2.2.2.2.2.2.2.2.2.2.2.2 (MoC 0 0 0 0 false 0))
          clear hHeld
          refine hK.out _ _ ?_ (fun hHeld => ?_)
          · exact ⟨RX.out.1.1, RX.out.1.2.1, RX.out.1.2.2.1, RX.out.1.2.2.2.1, RX.out.1.2.2.2.2.1, RX.out.1.2.2.2.2.2, RY.out.1.1, RY.out.1.2.1, RY.out.1.2.2.1, RY.out.1.2.2.2.1, RY.out.1.2.2.2.2.1, RY.out.1.2.2.2.2.2, HBx.out⟩
          clear hK K HBx
          try simp only [Act.put, List.setIfInBounds_toArray, List.set_cons_zero, List.set_cons_succ]
          generalize v2.alloc (MoC 0 0 0 0 false 0) = v3 at *
          obtain ⟨gA, hg⟩ : ∃ g, g = v2.heap.size := ⟨_, rfl⟩
          rw [← hg] at PA lePA ne ⊢
          clear hg
          replace ne := ne.symm
          refine wpAnyH_ready (rs := [3]) (by kernel_rfl) (by simp) ?_
          refine AllReadyH.cons (o := { dst := some 25, op := Go.Op.call { callee := Go.Callee.value (Go.Operand.func 9), args := #[Go.Operand.tmp 24], argTypes := #[23] }, type := 29, pos := "law.go:99", after := #[{ on := 2, ground := Go.Ground.data }, { on := 1, ground := Go.Ground.chain }], guard := none }) rfl (fun K hK => ?_) AllReadyH.nil
          go_simp
          refine (MB.out _).mono ?_
          rintro e v4 ⟨rfl, hbv⟩
          replace RX := Lib.hid (RX.out.below hbv)
          replace RY := Lib.hid (RY.out.below hbv)
          replace RZ := Lib.hid (RZ.out.below hbv)
          replace PA := Lib.hid (PA.out.below hbv)
          replace PB := Lib.hid (PB.out.below hbv)
          have HBx := Lib.hid (bstep hHeld.2.2.2.2.2.2.2.2.2.2.2.2 hbv)
          replace le0 := Nat.le_trans le0 hbv.size
          clear hHeld hbv
          refine hK.out _ _ ?_ (fun hHeld => ?_)
          · exact ⟨RX.out.1.1, RX.out.1.2.1, RX.out.1.2.2.1, RX.out.1.2.2.2.1, RX.out.1.2.2.2.2.1, RX.out.1.2.2.2.2.2, RY.out.1.1, RY.out.1.2.1, RY.out.1.2.2.1, RY.out.1.2.2.2.1, RY.out.1.2.2.2.2.1, RY.out.1.2.2.2.2.2, HBx.out⟩
          clear hK K HBx
          try simp only [Act.put, List.setIfInBounds_toArray, List.set_cons_zero, List.set_cons_succ]
          obtain ⟨⟨d0, d1, d2, d3, d4, d5⟩, ⟨f0, f1, f2, f3, f4, f5⟩, f6⟩ := id PA.out
          refine wpAnyH_ready (rs := [6]) (by kernel_rfl) (by simp) ?_
          refine AllReadyH.cons (o := { dst := none, op := Go.Op.store 29 (Go.Operand.tmp 7) (Go.Operand.tmp 23), type := 0, pos := "law.go:99", after := #[{ on := 4, ground := Go.Ground.data }, { on := 1, ground := Go.Ground.data }, { on := 3, ground := Go.Ground.chain }, { on := 0, ground := Go.Ground.phase }, { on := 1, ground := Go.Ground.phase }, { on := 2, ground := Go.Ground.textOnly Go.Departure.lateStores }, { on := 3, ground := Go.Ground.textOnly Go.Departure.lateStoresUnsure }, { on := 4, ground := Go.Ground.phase }, { on := 5, ground := Go.Ground.phase }], guard := none }) rfl (fun K hK => ?_) AllReadyH.nil
          go_simp
          clear f0 f1 f2 f3 f4 f5 f6 d0 d1 d2 d3 d4 d5
          have HBx := Lib.hid (B6 hHeld.2.2.2.2.2.2.2.2.2.2.2.2 (g := gA) (by omega) (.int .i64 ay) (.int .i64 am) (.int .i64 ad) (.int .i64 as') (.bool xz) (.int .i64 ao))
          replace RX := Lib.hid (far6 RX.out (g := gA) (by omega) (.int .i64 ay) (.int .i64 am) (.int .i64 ad) (.int .i64 as') (.bool xz) (.int .i64 ao))
          replace RY := Lib.hid (far6 RY.out (g := gA) (by omega) (.int .i64 ay) (.int .i64 am) (.int .i64 ad) (.int .i64 as') (.bool xz) (.int .i64 ao))
          replace RZ := Lib.hid (far6 RZ.out (g := gA) (by omega) (.int .i64 ay) (.int .i64 am) (.int .i64 ad) (.int .i64 as') (.bool xz) (.int .i64 ao))
          replace PB := Lib.hid (PB.out.far6 (g := gA) ne.symm (.int .i64 ay) (.int .i64 am) (.int .i64 ad) (.int .i64 as') (.bool xz) (.int .i64 ao))
          replace PA := Lib.hid (PA.out.put (y := ay) (m := am) (d := ad) (s := as') (z := xz) (o := ao))
          clear hHeld
          refine hK.out _ _ ?_ (fun hHeld => ?_)
          · exact ⟨RX.out.1.1, RX.out.1.2.1, RX.out.1.2.2.1, RX.out.1.2.2.2.1, RX.out.1.2.2.2.2.1, RX.out.1.2.2.2.2.2, RY.out.1.1, RY.out.1.2.1, RY.out.1.2.2.1, RY.out.1.2.2.2.1, RY.out.1.2.2.2.2.1, RY.out.1.2.2.2.2.2, HBx.out⟩
          clear hK K HBx
          try simp only [Act.put, List.setIfInBounds_toArray, List.set_cons_zero, List.set_cons_succ]
          obtain ⟨⟨d0, d1, d2, d3, d4, d5⟩, ⟨f0, f1, f2, f3, f4, f5⟩, f6⟩ := id PB.out
          refine wpAnyH_ready (rs := [7]) (by kernel_rfl) (by simp) ?_
          refine AllReadyH.cons (o := { dst := none, op := Go.Op.store 29 (Go.Operand.tmp 8) (Go.Operand.tmp 25), type := 0, pos := "law.go:99", after := #[{ on := 5, ground := Go.Ground.data }, { on := 3, ground := Go.Ground.data }, { on := 6, ground := Go.Ground.chain }, { on := 0, ground := Go.Ground.phase }, { on := 1, ground := Go.Ground.phase }, { on := 2, ground := Go.Ground.phase }, { on := 3, ground := Go.Ground.phase }, { on := 4, ground := Go.Ground.phase }, { on := 5, ground := Go.Ground.phase }, { on := 6, ground := Go.Ground.phase }], guard := none }) rfl (fun K hK => ?_) AllReadyH.nil
          go_simp
          clear f0 f1 f2 f3 f4 f5 f6 d0 d1 d2 d3 d4 d5
          have HBx := Lib.hid (B6 hHeld.2.2.2.2.2.2.2.2.2.2.2.2 (g := gB) (by omega) (.int .i64 by_) (.int .i64 bm) (.int .i64 bd) (.int .i64 bs) (.bool yz) (.int .i64 bo))
          replace RX := Lib.hid (far6 RX.out (g := gB) (by omega) (.int .i64 by_) (.int .i64 bm) (.int .i64 bd) (.int .i64 bs) (.bool yz) (.int .i64 bo))
          replace RY := Lib.hid (far6 RY.out (g := gB) (by omega) (.int .i64 by_) (.int .i64 bm) (.int .i64 bd) (.int .i64 bs) (.bool yz) (.int .i64 bo))
          replace RZ := Lib.hid (far6 RZ.out (g := gB) (by omega) (.int .i64 by_) (.int .i64 bm) (.int .i64 bd) (.int .i64 bs) (.bool yz) (.int .i64 bo))
          replace PA := Lib.hid (PA.out.far6 (g := gB) ne (.int .i64 by_) (.int .i64 bm) (.int .i64 bd) (.int .i64 bs) (.bool yz) (.int .i64 bo))
          replace PB := Lib.hid (PB.out.put (y := by_) (m := bm) (d := bd) (s := bs) (z := yz) (o := bo))
          clear hHeld
          refine hK.out _ _ ?_ (fun hHeld => ?_)
          · exact ⟨RX.out.1.1, RX.out.1.2.1, RX.out.1.2.2.1, RX.out.1.2.2.2.1, RX.out.1.2.2.2.2.1, RX.out.1.2.2.2.2.2, RY.out.1.1, RY.out.1.2.1, RY.out.1.2.2.1, RY.out.1.2.2.2.1, RY.out.1.2.2.2.2.1, RY.out.1.2.2.2.2.2, HBx.out⟩
          clear hK K HBx
          try simp only [Act.put, List.setIfInBounds_toArray, List.set_cons_zero, List.set_cons_succ]
          refine wpAnyH_done (by kernel_rfl) ?_ _
          exact ⟨gA, gB, rfl, RX.out, RY.out, RZ.out, PA.out, PB.out, lePA, lePB, hHeld.2.2.2.2.2.2.2.2.2.2.2.2⟩
      · go_simp
        have ne := Nat.ne_of_lt PB.out.2.2
        replace RX := Lib.hid (RX.out.alloc (MoC 0 0 0 0 false 0))
        replace RY := Lib.hid (RY.out.alloc (MoC 0 0 0 0 false 0))
        replace RZ := Lib.hid (RZ.out.alloc (MoC 0 0 0 0 false 0))
        replace PB := Lib.hid (PB.out.alloc (MoC 0 0 0 0 false 0))
        have PA := Lib.hid (HoldsN.new rfl : HoldsN (v1.alloc (MoC 0 0 0 0 false 0)) v1.heap.size 0 0 0 0 false 0)
        have lePA := le0
        replace le0 := Nat.le_trans le0 (Below.alloc (Below.refl v1.heap.size v1) (Nat.le_refl _) (MoC 0 0 0 0 false 0)).size
        have HBx := Lib.hid (ballD1 hHeld.2.2.2.2.2.2.2.2.2.2.2.2 (MoC 0 0 0 0 false 0))
        clear hHeld
        refine hK.out _ _ ?_ (fun hHeld => ?_)
        · exact ⟨RX.out.1.1, RX.out.1.2.1, RX.out.1.2.2.1, RX.out.1.2.2.2.1, RX.out.1.2.2.2.2.1, RX.out.1.2.2.2.2.2, RY.out.1.1, RY.out.1.2.1, RY.out.1.2.2.1, RY.out.1.2.2.2.1, RY.out.1.2.2.2.2.1, RY.out.1.2.2.2.2.2, HBx.out⟩
        clear hK K HBx
        try simp only [Act.put, List.setIfInBounds_toArray, List.set_cons_zero, List.set_cons_succ]
        generalize v1.alloc (MoC 0 0 0 0 false 0) = v2 at *
        obtain ⟨gA, hg⟩ : ∃ g, g = v1.heap.size := ⟨_, rfl⟩
        rw [← hg] at PA lePA ne ⊢
        clear hg
        replace ne := ne.symm
        refine wpAnyH_ready (rs := [1]) (by kernel_rfl) (by simp) ?_
        refine AllReadyH.cons (o := { dst := some 23, op := Go.Op.call { callee := Go.Callee.value (Go.Operand.func 9), args := #[Go.Operand.tmp 22], argTypes := #[23] }, type := 29, pos := "law.go:99", after := #[{ on := 0, ground := Go.Ground.data }], guard := none }) rfl (fun K hK => ?_) AllReadyH.nil
        go_simp
        refine (MA.out _).mono ?_
        rintro e v3 ⟨rfl, hbv⟩
        replace RX := Lib.hid (RX.out.below hbv)
        replace RY := Lib.hid (RY.out.below hbv)
        replace RZ := Lib.hid (RZ.out.below hbv)
        replace PA := Lib.hid (PA.out.below hbv)
        replace PB := Lib.hid (PB.out.below hbv)
        have HBx := Lib.hid (bstep hHeld.2.2.2.2.2.2.2.2.2.2.2.2 hbv)
        replace le0 := Nat.le_trans le0 hbv.size
        clear hHeld hbv
        refine hK.out _ _ ?_ (fun hHeld => ?_)
        · exact ⟨RX.out.1.1, RX.out.1.2.1, RX.out.1.2.2.1, RX.out.1.2.2.2.1, RX.out.1.2.2.2.2.1, RX.out.1.2.2.2.2.2, RY.out.1.1, RY.out.1.2.1, RY.out.1.2.2.1, RY.out.1.2.2.2.1, RY.out.1.2.2.2.2.1, RY.out.1.2.2.2.2.2, HBx.out⟩
        clear hK K HBx
        try simp only [Act.put, List.setIfInBounds_toArray, List.set_cons_zero, List.set_cons_succ]
        refine wpAnyH_ready (rs := [3]) (by kernel_rfl) (by simp) ?_
        refine AllReadyH.cons (o := { dst := some 25, op := Go.Op.call { callee := Go.Callee.value (Go.Operand.func 9), args := #[Go.Operand.tmp 24], argTypes := #[23] }, type := 29, pos := "law.go:99", after := #[{ on := 2, ground := Go.Ground.data }, { on := 1, ground := Go.Ground.chain }], guard := none }) rfl (fun K hK => ?_) AllReadyH.nil
        go_simp
        refine (MB.out _).mono ?_
        rintro e v4 ⟨rfl, hbv⟩
        replace RX := Lib.hid (RX.out.below hbv)
        replace RY := Lib.hid (RY.out.below hbv)
        replace RZ := Lib.hid (RZ.out.below hbv)
        replace PA := Lib.hid (PA.out.below hbv)
        replace PB := Lib.hid (PB.out.below hbv)
        have HBx := Lib.hid (bstep hHeld.2.2.2.2.2.2.2.2.2.2.2.2 hbv)
        replace le0 := Nat.le_trans le0 hbv.size
        clear hHeld hbv
        refine hK.out _ _ ?_ (fun hHeld => ?_)
        · exact ⟨RX.out.1.1, RX.out.1.2.1, RX.out.1.2.2.1, RX.out.1.2.2.2.1, RX.out.1.2.2.2.2.1, RX.out.1.2.2.2.2.2, RY.out.1.1, RY.out.1.2.1, RY.out.1.2.2.1, RY.out.1.2.2.2.1, RY.out.1.2.2.2.2.1, RY.out.1.2.2.2.2.2, HBx.out⟩
        clear hK K HBx
        try simp only [Act.put, List.setIfInBounds_toArray, List.set_cons_zero, List.set_cons_succ]
        obtain ⟨⟨d0, d1, d2, d3, d4, d5⟩, ⟨f0, f1, f2, f3, f4, f5⟩, f6⟩ := id PA.out
        refine wpAnyH_ready (rs := [6]) (by kernel_rfl) (by simp) ?_
        refine AllReadyH.cons (o := { dst := none, op := Go.Op.store 29 (Go.Operand.tmp 7) (Go.Operand.tmp 23), type := 0, pos := "law.go:99", after := #[{ on := 4, ground := Go.Ground.data }, { on := 1, ground := Go.Ground.data }, { on := 3, ground := Go.Ground.chain }, { on := 0, ground := Go.Ground.phase }, { on := 1, ground := Go.Ground.phase }, { on := 2, ground := Go.Ground.textOnly Go.Departure.lateStores }, { on := 3, ground := Go.Ground.textOnly Go.Departure.lateStoresUnsure }, { on := 4, ground := Go.Ground.phase }, { on := 5, ground := Go.Ground.phase }], guard := none }) rfl (fun K hK => ?_) AllReadyH.nil
        go_simp
        clear f0 f1 f2 f3 f4 f5 f6 d0 d1 d2 d3 d4 d5
        have HBx := Lib.hid (B6 hHeld.2.2.2.2.2.2.2.2.2.2.2.2 (g := gA) (by omega) (.int .i64 ay) (.int .i64 am) (.int .i64 ad) (.int .i64 as') (.bool xz) (.int .i64 ao))
        replace RX := Lib.hid (far6 RX.out (g := gA) (by omega) (.int .i64 ay) (.int .i64 am) (.int .i64 ad) (.int .i64 as') (.bool xz) (.int .i64 ao))
        replace RY := Lib.hid (far6 RY.out (g := gA) (by omega) (.int .i64 ay) (.int .i64 am) (.int .i64 ad) (.int .i64 as') (.bool xz) (.int .i64 ao))
        replace RZ := Lib.hid (far6 RZ.out (g := gA) (by omega) (.int .i64 ay) (.int .i64 am) (.int .i64 ad) (.int .i64 as') (.bool xz) (.int .i64 ao))
        replace PB := Lib.hid (PB.out.far6 (g := gA) ne.symm (.int .i64 ay) (.int .i64 am) (.int .i64 ad) (.int .i64 as') (.bool xz) (.int .i64 ao))
        replace PA := Lib.hid (PA.out.put (y := ay) (m := am) (d := ad) (s := as') (z := xz) (o := ao))
        clear hHeld
        refine hK.out _ _ ?_ (fun hHeld => ?_)
        · exact ⟨RX.out.1.1, RX.out.1.2.1, RX.out.1.2.2.1, RX.out.1.2.2.2.1, RX.out.1.2.2.2.2.1, RX.out.1.2.2.2.2.2, RY.out.1.1, RY.out.1.2.1, RY.out.1.2.2.1, RY.out.1.2.2.2.1, RY.out.1.2.2.2.2.1, RY.out.1.2.2.2.2.2, HBx.out⟩
        clear hK K HBx
        try simp only [Act.put, List.setIfInBounds_toArray, List.set_cons_zero, List.set_cons_succ]
        obtain ⟨⟨d0, d1, d2, d3, d4, d5⟩, ⟨f0, f1, f2, f3, f4, f5⟩, f6⟩ := id PB.out
        refine wpAnyH_ready (rs := [7]) (by kernel_rfl) (by simp) ?_
        refine AllReadyH.cons (o := { dst := none, op := Go.Op.store 29 (Go.Operand.tmp 8) (Go.Operand.tmp 25), type := 0, pos := "law.go:99", after := #[{ on := 5, ground := Go.Ground.data }, { on := 3, ground := Go.Ground.data }, { on := 6, ground := Go.Ground.chain }, { on := 0, ground := Go.Ground.phase }, { on := 1, ground := Go.Ground.phase }, { on := 2, ground := Go.Ground.phase }, { on := 3, ground := Go.Ground.phase }, { on := 4, ground := Go.Ground.phase }, { on := 5, ground := Go.Ground.phase }, { on := 6, ground := Go.Ground.phase }], guard := none }) rfl (fun K hK => ?_) AllReadyH.nil
        go_simp
        clear f0 f1 f2 f3 f4 f5 f6 d0 d1 d2 d3 d4 d5
        have HBx := Lib.hid (B6 hHeld.2.2.2.2.2.2.2.2.2.2.2.2 (g := gB) (by omega) (.int .i64 by_) (.int .i64 bm) (.int .i64 bd) (.int .i64 bs) (.bool yz) (.int .i64 bo))
        replace RX := Lib.hid (far6 RX.out (g := gB) (by omega) (.int .i64 by_) (.int .i64 bm) (.int .i64 bd) (.int .i64 bs) (.bool yz) (.int .i64 bo))
        replace RY := Lib.hid (far6 RY.out (g := gB) (by omega) (.int .i64 by_) (.int .i64 bm) (.int .i64 bd) (.int .i64 bs) (.bool yz) (.int .i64 bo))
        replace RZ := Lib.hid (far6 RZ.out (g := gB) (by omega) (.int .i64 by_) (.int .i64 bm) (.int .i64 bd) (.int .i64 bs) (.bool yz) (.int .i64 bo))
        replace PA := Lib.hid (PA.out.far6 (g := gB) ne (.int .i64 by_) (.int .i64 bm) (.int .i64 bd) (.int .i64 bs) (.bool yz) (.int .i64 bo))
        replace PB := Lib.hid (PB.out.put (y := by_) (m := bm) (d := bd) (s := bs) (z := yz) (o := bo))
        clear hHeld
        refine hK.out _ _ ?_ (fun hHeld => ?_)
        · exact ⟨RX.out.1.1, RX.out.1.2.1, RX.out.1.2.2.1, RX.out.1.2.2.2.1, RX.out.1.2.2.2.2.1, RX.out.1.2.2.2.2.2, RY.out.1.1, RY.out.1.2.1, RY.out.1.2.2.1, RY.out.1.2.2.2.1, RY.out.1.2.2.2.2.1, RY.out.1.2.2.2.2.2, HBx.out⟩
        clear hK K HBx
        try simp only [Act.put, List.setIfInBounds_toArray, List.set_cons_zero, List.set_cons_succ]
        refine wpAnyH_done (by kernel_rfl) ?_ _
        exact ⟨gA, gB, rfl, RX.out, RY.out, RZ.out, PA.out, PB.out, lePA, lePB, hHeld.2.2.2.2.2.2.2.2.2.2.2.2⟩
  · rintro a' W ⟨gA, gB, rfl, RX0, RY0, RZ0, PA0, PB0, lA, lB, B1⟩
    replace RX := Lib.hid RX0
    replace RY := Lib.hid RY0
    replace RZ := Lib.hid RZ0
    have PA := Lib.hid PA0
    have PB := Lib.hid PB0
    clear RX0 RY0 RZ0 PA0 PB0 MA MB B
    have B := B1
    clear B1
    have nA : gA ≠ w.heap.size + 1 + 1 := by omega
    have nB : gB ≠ w.heap.size + 1 + 1 := by omega
    clear lA lB sz
    simp only [Act.put, List.setIfInBounds_toArray, List.set_cons_zero, List.set_cons_succ]
    obtain ⟨⟨c0_0, c0_1, c0_2, c0_3, c0_4, c0_5⟩, -, c0z⟩ := RX.out
    obtain ⟨⟨c2_0, c2_1, c2_2, c2_3, c2_4, c2_5⟩, ⟨c2f0, c2f1, c2f2, c2f3, c2f4, c2f5⟩, c2z⟩ := RZ.out
    go_upto_region 5 with fail
    change Code.wp _ _ _ _ (W.setCell ⟨w.heap.size + 1 + 1, 5, none⟩ (.bool xz))
    clear c0_0 c0_1 c0_2 c0_3 c0_4 c0_5 c0z c2f0 c2f1 c2f2 c2f3 c2f4 c2f5 c2_0 c2_1 c2_2 c2_3 c2_4 c2_5 c2z
    replace RX := Lib.hid (RX.out.far (p := ⟨w.heap.size + 1 + 1, 5, none⟩) (by show w.heap.size ≠ w.heap.size + 1 + 1; omega) (.bool xz))
    replace RY := Lib.hid (RY.out.far (p := ⟨w.heap.size + 1 + 1, 5, none⟩) (by simp) (.bool xz))
    replace PA := Lib.hid (PA.out.far (p := ⟨w.heap.size + 1 + 1, 5, none⟩) nA (.bool xz))
    replace PB := Lib.hid (PB.out.far (p := ⟨w.heap.size + 1 + 1, 5, none⟩) nB (.bool xz))
    replace RZ := Lib.hid (RZ.out.put5 (z' := xz))
    replace B := B.setCell (p := ⟨w.heap.size + 1 + 1, 5, none⟩) (by show w.heap.size ≤ w.heap.size + 1 + 1; omega) (.bool xz)
    clear nA nB
    generalize (W.setCell ⟨w.heap.size + 1 + 1, 5, none⟩ (.bool xz)) = W2 at *
    obtain ⟨⟨c0_0, c0_1, c0_2, c0_3, c0_4, c0_5⟩, -, c0z⟩ := RX.out
    obtain ⟨⟨c1_0, c1_1, c1_2, c1_3, c1_4, c1_5⟩, -, c1z⟩ := RY.out
    obtain ⟨⟨c2_0, c2_1, c2_2, c2_3, c2_4, c2_5⟩, -, c2z⟩ := RZ.out
    obtain ⟨⟨c3_0, c3_1, c3_2, c3_3, c3_4, c3_5⟩, -, c3z⟩ := PA.out
    obtain ⟨⟨c4_0, c4_1, c4_2, c4_3, c4_4, c4_5⟩, -, c4z⟩ := PB.out
    go_wp2_with fail
    refine (MC.out _).mono ?_
    rintro e w50 ⟨rfl, hb⟩
    replace RX := Lib.hid (RX.out.below hb)
    replace RY := Lib.hid (RY.out.below hb)
    replace RZ := Lib.hid (RZ.out.below hb)
    replace PA := Lib.hid (PA.out.below hb)
    replace PB := Lib.hid (PB.out.below hb)
    replace B := bstep B hb
    clear hb MC
    clear c0_0 c0_1 c0_2 c0_3 c0_4 c0_5 c0z c1_0 c1_1 c1_2 c1_3 c1_4 c1_5 c1z c2_0 c2_1 c2_2 c2_3 c2_4 c2_5 c2z c3_0 c3_1 c3_2 c3_3 c3_4 c3_5 c3z c4_0 c4_1 c4_2 c4_3 c4_4 c4_5 c4z
    replace RX := Lib.hid (RX.out.alloc (MoC cy cm cd cs xz co))
    replace RY := Lib.hid (RY.out.alloc (MoC cy cm cd cs xz co))
    replace RZ := Lib.hid (RZ.out.alloc (MoC cy cm cd cs xz co))
    replace PA := Lib.hid (PA.out.alloc (MoC cy cm cd cs xz co))
    replace PB := Lib.hid (PB.out.alloc (MoC cy cm cd cs xz co))
    have PC := Lib.hid (HoldsN.new rfl : HoldsN (w50.alloc (MoC cy cm cd cs xz co)) w50.heap.size cy cm cd cs xz co)
    replace B := ballD1 B (MoC cy cm cd cs xz co)
    go_upto_region 6 with fail
    change Code.wp _ _ _ _ (w50.alloc (MoC cy cm cd cs xz co))
    generalize w50.alloc (MoC cy cm cd cs xz co) = w51 at *
    obtain ⟨gPC, hg⟩ : ∃ g, g = w50.heap.size := ⟨_, rfl⟩
    rw [← hg] at PC ⊢
    clear hg
    clear RZ
    obtain ⟨⟨c0_0, c0_1, c0_2, c0_3, c0_4, c0_5⟩, -, c0z⟩ := RX.out
    obtain ⟨⟨c1_0, c1_1, c1_2, c1_3, c1_4, c1_5⟩, -, c1z⟩ := RY.out
    obtain ⟨⟨c2_0, c2_1, c2_2, c2_3, c2_4, c2_5⟩, -, c2z⟩ := PA.out
    obtain ⟨⟨c3_0, c3_1, c3_2, c3_3, c3_4, c3_5⟩, -, c3z⟩ := PB.out
    obtain ⟨⟨c4_0, c4_1, c4_2, c4_3, c4_4, c4_5⟩, -, c4z⟩ := PC.out
    go_wp2_with fail
    refine (B1.out _).mono ?_
    rintro e w52 ⟨rfl, hb⟩
    replace RX := Lib.hid (RX.out.below hb)
    replace RY := Lib.hid (RY.out.below hb)
    replace PA := Lib.hid (PA.out.below hb)
    replace PB := Lib.hid (PB.out.below hb)
    replace PC := Lib.hid (PC.out.below hb)
    replace B := bstep B hb
    clear hb B1
    clear c0_0 c0_1 c0_2 c0_3 c0_4 c0_5 c0z c1_0 c1_1 c1_2 c1_3 c1_4 c1_5 c1z c2_0 c2_1 c2_2 c2_3 c2_4 c2_5 c2z c3_0 c3_1 c3_2 c3_3 c3_4 c3_5 c3z c4_0 c4_1 c4_2 c4_3 c4_4 c4_5 c4z
    obtain ⟨⟨c0_0, c0_1, c0_2, c0_3, c0_4, c0_5⟩, -, c0z⟩ := RX.out
    obtain ⟨⟨c1_0, c1_1, c1_2, c1_3, c1_4, c1_5⟩, -, c1z⟩ := RY.out
    obtain ⟨⟨c2_0, c2_1, c2_2, c2_3, c2_4, c2_5⟩, -, c2z⟩ := PA.out
    obtain ⟨⟨c3_0, c3_1, c3_2, c3_3, c3_4, c3_5⟩, -, c3z⟩ := PB.out
    obtain ⟨⟨c4_0, c4_1, c4_2, c4_3, c4_4, c4_5⟩, -, c4z⟩ := PC.out
    go_wp2_with fail
    refine (CC.out _).mono ?_
    rintro e w53 ⟨rfl, hb⟩
    replace RX := Lib.hid (RX.out.below hb)
    replace RY := Lib.hid (RY.out.below hb)
    replace PA := Lib.hid (PA.out.below hb)
    replace PB := Lib.hid (PB.out.below hb)
    replace PC := Lib.hid (PC.out.below hb)
    replace B := bstep B hb
    clear hb CC
    clear c0_0 c0_1 c0_2 c0_3 c0_4 c0_5 c0z c1_0 c1_1 c1_2 c1_3 c1_4 c1_5 c1z c2_0 c2_1 c2_2 c2_3 c2_4 c2_5 c2z c3_0 c3_1 c3_2 c3_3 c3_4 c3_5 c3z c4_0 c4_1 c4_2 c4_3 c4_4 c4_5 c4z
    obtain ⟨⟨c0_0, c0_1, c0_2, c0_3, c0_4, c0_5⟩, -, c0z⟩ := RX.out
    obtain ⟨⟨c1_0, c1_1, c1_2, c1_3, c1_4, c1_5⟩, -, c1z⟩ := RY.out
    obtain ⟨⟨c2_0, c2_1, c2_2, c2_3, c2_4, c2_5⟩, -, c2z⟩ := PA.out
    obtain ⟨⟨c3_0, c3_1, c3_2, c3_3, c3_4, c3_5⟩, -, c3z⟩ := PB.out
    obtain ⟨⟨c4_0, c4_1, c4_2, c4_3, c4_4, c4_5⟩, -, c4z⟩ := PC.out
    go_wp2_with fail
    refine (B2.out _).mono ?_
    rintro e w54 ⟨rfl, hb⟩
    replace RX := Lib.hid (RX.out.below hb)
    replace RY := Lib.hid (RY.out.below hb)
    replace PA := Lib.hid (PA.out.below hb)
    replace PB := Lib.hid (PB.out.below hb)
    replace PC := Lib.hid (PC.out.below hb)
    replace B := bstep B hb
    clear hb B2
    clear c0_0 c0_1 c0_2 c0_3 c0_4 c0_5 c0z c1_0 c1_1 c1_2 c1_3 c1_4 c1_5 c1z c2_0 c2_1 c2_2 c2_3 c2_4 c2_5 c2z c3_0 c3_1 c3_2 c3_3 c3_4 c3_5 c3z c4_0 c4_1 c4_2 c4_3 c4_4 c4_5 c4z
    obtain ⟨⟨c0_0, c0_1, c0_2, c0_3, c0_4, c0_5⟩, -, c0z⟩ := RX.out
    obtain ⟨⟨c1_0, c1_1, c1_2, c1_3, c1_4, c1_5⟩, -, c1z⟩ := RY.out
    obtain ⟨⟨c2_0, c2_1, c2_2, c2_3, c2_4, c2_5⟩, -, c2z⟩ := PA.out
    obtain ⟨⟨c3_0, c3_1, c3_2, c3_3, c3_4, c3_5⟩, -, c3z⟩ := PB.out
    obtain ⟨⟨c4_0, c4_1, c4_2, c4_3, c4_4, c4_5⟩, -, c4z⟩ := PC.out
    go_wp2_with fail
    refine (B3.out _).mono ?_
    rintro e w55 ⟨rfl, hb⟩
    replace RX := Lib.hid (RX.out.below hb)
    replace RY := Lib.hid (RY.out.below hb)
    replace PA := Lib.hid (PA.out.below hb)
    replace PB := Lib.hid (PB.out.below hb)
    replace PC := Lib.hid (PC.out.below hb)
    replace B := bstep B hb
    clear hb B3
    clear c0_0 c0_1 c0_2 c0_3 c0_4 c0_5 c0z c1_0 c1_1 c1_2 c1_3 c1_4 c1_5 c1z c2_0 c2_1 c2_2 c2_3 c2_4 c2_5 c2z c3_0 c3_1 c3_2 c3_3 c3_4 c3_5 c3z c4_0 c4_1 c4_2 c4_3 c4_4 c4_5 c4z
    obtain ⟨⟨c0_0, c0_1, c0_2, c0_3, c0_4, c0_5⟩, -, c0z⟩ := RX.out
    obtain ⟨⟨c1_0, c1_1, c1_2, c1_3, c1_4, c1_5⟩, -, c1z⟩ := RY.out
    obtain ⟨⟨c2_0, c2_1, c2_2, c2_3, c2_4, c2_5⟩, -, c2z⟩ := PA.out
    obtain ⟨⟨c3_0, c3_1, c3_2, c3_3, c3_4, c3_5⟩, -, c3z⟩ := PB.out
    obtain ⟨⟨c4_0, c4_1, c4_2, c4_3, c4_4, c4_5⟩, -, c4z⟩ := PC.out
    go_wp2_with fail
    refine (B4.out _).mono ?_
    rintro e w56 ⟨rfl, hb⟩
    replace RX := Lib.hid (RX.out.below hb)
    replace RY := Lib.hid (RY.out.below hb)
    replace PA := Lib.hid (PA.out.below hb)
    replace PB := Lib.hid (PB.out.below hb)
    replace PC := Lib.hid (PC.out.below hb)
    replace B := bstep B hb
    clear hb B4
    clear c0_0 c0_1 c0_2 c0_3 c0_4 c0_5 c0z c1_0 c1_1 c1_2 c1_3 c1_4 c1_5 c1z c2_0 c2_1 c2_2 c2_3 c2_4 c2_5 c2z c3_0 c3_1 c3_2 c3_3 c3_4 c3_5 c3z c4_0 c4_1 c4_2 c4_3 c4_4 c4_5 c4z
    rcases OC.out with ⟨rfl, h⟩ | ⟨rfl, h⟩ | ⟨rfl, h⟩
    · have t1 : decide (0 < n) = true := by simp; omega
      have t2 : decide (n < 0) = false := by simp; omega
      clear h
      go_wp2
      go_ret
      exact ⟨congrArg Ending.returned (by simp [*]), B⟩
    · have t1 : decide (0 < n) = false := by simp; omega
      have t2 : decide (n < 0) = false := by simp; omega
      clear h
      go_wp2
      go_ret
      exact ⟨congrArg Ending.returned (by simp [*]), B⟩
    · have t1 : decide (0 < n) = false := by simp; omega
      have t2 : decide (n < 0) = true := by simp; omega
      clear h
      go_wp2
      go_ret
      exact ⟨congrArg Ending.returned (by simp [*]), B⟩
theorem momentBetween_walk (x0 x1 x2 x3 x4 : Int) (xz : Bool) (y0 y1 y2 y3 y4 : Int) (yz : Bool) (z0 z1 z2 z3 z4 : Int) (zz : Bool) (w : World) : Calls Try.prog 6 #[Rw x0 x1 x2 x3 x4 xz, Rw y0 y1 y2 y3 y4 yz, Rw z0 z1 z2 z3 z4 zz] w (Ret (.bool true) w) := by
  obtain ⟨ay, am, ad, as', ao, MA, dayA, mayA⟩ : ∃ (y m d s o : Int), (∀ w : World, Calls Try.prog 9 #[Rw x0 x1 x2 x3 x4 xz] w (Ret (Mo y m d s xz o) w)) ∧ Day y m d ∧ mayM s xz o = true := ⟨_, _, _, _, _, make8_any x0 x1 x2 x3 x4 xz, make_day x0 x1 x2, makeM_may x3 xz x4⟩
  obtain ⟨by_, bm, bd, bs, bo, MB, dayB, mayB⟩ : ∃ (y m d s o : Int), (∀ w : World, Calls Try.prog 9 #[Rw y0 y1 y2 y3 y4 yz] w (Ret (Mo y m d s yz o) w)) ∧ Day y m d ∧ mayM s yz o = true := ⟨_, _, _, _, _, make8_any y0 y1 y2 y3 y4 yz, make_day y0 y1 y2, makeM_may y3 yz y4⟩
  obtain ⟨cy, cm, cd, cs, co, MC, dayC, mayC⟩ : ∃ (y m d s o : Int), (∀ w : World, Calls Try.prog 9 #[Rw z0 z1 z2 z3 z4 xz] w (Ret (Mo y m d s xz o) w)) ∧ Day y m d ∧ mayM s xz o = true := ⟨_, _, _, _, _, make8_any z0 z1 z2 z3 z4 xz, make_day z0 z1 z2, makeM_may z3 xz z4⟩
  cases e : (xz == yz)
  · have k : btB ay am ad as' xz ao by_ bm bd bs yz bo = false := by unfold btB; rw [e]; simp
    have B1 := between_any ay am ad as' xz ao by_ bm bd bs yz bo
    have n0 : btI ay am ad as' xz ao by_ bm bd bs yz bo = 0 := by unfold btI; rw [k]; rfl
    rw [k, n0] at B1
    exact between_walk_no x0 x1 x2 x3 x4 xz y0 y1 y2 y3 y4 yz z0 z1 z2 z3 z4 zz ay am ad as' ao by_ bm bd bs bo cy cm cd cs co e MA MB MC B1 (cmpN_of ay am ad as' xz ao by_ bm bd bs yz bo 0 false B1) w
  · obtain rfl : xz = yz := by simpa using e
    have k1 := btI_of dayA mayA dayB mayB rfl
    have k2 := btI_of dayB mayB dayC mayC rfl
    have k3 := btI_of dayA mayA dayC mayC rfl
    have k4 := btI_of dayB mayB dayA mayA rfl
    have B1 := between_any ay am ad as' xz ao by_ bm bd bs xz bo
    have B2 := between_any by_ bm bd bs xz bo cy cm cd cs xz co
    have B3 := between_any ay am ad as' xz ao cy cm cd cs xz co
    have B4 := between_any by_ bm bd bs xz bo ay am ad as' xz ao
    rw [k1.1, k1.2] at B1
    rw [k2.1, k2.2] at B2
    rw [k3.1, k3.2] at B3
    rw [k4.1, k4.2] at B4
    have rA := inst_range dayA mayA
    have rB := inst_range dayB mayB
    have rC := inst_range dayC mayC
    have CC := cmpN_of ay am ad as' xz ao by_ bm bd bs xz bo _ true B1
    generalize instI ay am ad as' ao = IA at *
    generalize instI by_ bm bd bs bo = IB at *
    generalize instI cy cm cd cs co = IC at *
    have f1 : wrap64 (IB - IA + (IC - IB)) = IC - IA := by rw [I64.wrap' (by unfold I64; omega)]; omega
    have g1 : IntKind.i64.wrap (IB - IA + (IC - IB)) = IC - IA := by rw [I64.wrap (by unfold I64; omega)]; omega
    have f2 : wrap64 (-(IB - IA)) = IA - IB := by rw [I64.wrap' (by unfold I64; omega)]; omega
    have g2 : IntKind.i64.wrap (-(IB - IA)) = IA - IB := by rw [I64.wrap (by unfold I64; omega)]; omega
    exact between_walk_yes x0 x1 x2 x3 x4 xz y0 y1 y2 y3 y4 xz z0 z1 z2 z3 z4 zz ay am ad as' ao by_ bm bd bs bo cy cm cd cs co _ _ _ _ _ (by simp) MA MB MC B1 CC B2 B3 B4 f1 g1 f2 g2 (ordI_cases8 0 (IB - IA)) w
end Go.Proofs.Ytelgnfkjldghdaa

/-
  The statement LexicalMays, walked: it answers true.
-/
import Derived.Test.YthgondbiddncpaaDoorYj
import Derived.Test.YthgondbiddncpaaDoorYe
namespace Go.Proofs.YthgondbiddncpaaDoor
open Go.RowKit

theorem dateT_ne {y m d : Int} (h : mayT y m d = true) : dateT y m d ≠ { data := #[] } := by
  intro k
  unfold dateT at k
  rw [if_pos h] at k
  have q := congrArg ByteArray.size k
  rw [show ({ data := #[] } : ByteArray).size = 0 from rfl] at q
  unfold dateS at q
  rw [size_add', size_add', show ({ data := #[45] } : ByteArray).size = 1 from rfl] at q
  omega
theorem momT_ne {y m d a : Int} {z : Bool} {o : Int} (h : mayN y m d a z o = true) : momT y m d a z o ≠ { data := #[] } := by
  intro k
  unfold momT at k
  rw [if_pos h] at k
  have q := congrArg ByteArray.size k
  rw [show ({ data := #[] } : ByteArray).size = 0 from rfl, size_add', size_add', show ({ data := #[84] } : ByteArray).size = 1 from rfl] at q
  omega
/-- Whether a text is none: that of a day, a time, a moment is none just if there is none such. -/
theorem dateT_em (y m d : Int) : (dateT y m d).toList.isEmpty = !(mayT y m d) := by
  cases h : mayT y m d
  · rw [show dateT y m d = { data := #[] } by unfold dateT; rw [h]; rfl, str_empty]; rfl
  · rw [str_some (dateT_ne h)]; rfl
theorem timeT_em (a : Int) (z : Bool) (o : Int) : (timeT a z o).toList.isEmpty = !(mayM a z o) := by
  cases h : mayM a z o
  · rw [show timeT a z o = { data := #[] } by unfold timeT; rw [h]; rfl, str_empty]; rfl
  · rw [str_some (timeT_ne h)]; rfl
theorem momT_em (y m d a : Int) (z : Bool) (o : Int) : (momT y m d a z o).toList.isEmpty = !(mayN y m d a z o) := by
  cases h : mayN y m d a z o
  · rw [show momT y m d a z o = { data := #[] } by unfold momT; rw [h]; rfl, str_empty]; rfl
  · rw [str_some (momT_ne h)]; rfl
theorem keep49 {V w' : World} {g1 g2 g3 g4 : Nat} {y m d s o Y M E A O : Int} {z : Bool} (H1 : HoldsT V g1 y m d) (H2 : HoldsM V g2 s z o) (H3 : HoldsN V g3 y m d s z o) (H4 : HoldsN V g4 Y M E A true O) (B : Below V.heap.size V w') : w'.cell? ⟨g1, 0, none⟩ = some (.int .i64 y) ∧ w'.cell? ⟨g1, 1, none⟩ = some (.int .i64 m) ∧ w'.cell? ⟨g1, 2, none⟩ = some (.int .i64 d) ∧ w'.cell? ⟨g2, 0, none⟩ = some (.int .i64 s) ∧ w'.cell? ⟨g2, 1, none⟩ = some (.bool z) ∧ w'.cell? ⟨g2, 2, none⟩ = some (.int .i64 o) ∧ w'.cell? ⟨g3, 0, none⟩ = some (.int .i64 y) ∧ w'.cell? ⟨g3, 1, none⟩ = some (.int .i64 m) ∧ w'.cell? ⟨g3, 2, none⟩ = some (.int .i64 d) ∧ w'.cell? ⟨g3, 3, none⟩ = some (.int .i64 s) ∧ w'.cell? ⟨g3, 4, none⟩ = some (.bool z) ∧ w'.cell? ⟨g3, 5, none⟩ = some (.int .i64 o) ∧ w'.cell? ⟨g4, 0, none⟩ = some (.int .i64 Y) ∧ w'.cell? ⟨g4, 1, none⟩ = some (.int .i64 M) ∧ w'.cell? ⟨g4, 2, none⟩ = some (.int .i64 E) ∧ w'.cell? ⟨g4, 3, none⟩ = some (.int .i64 A) ∧ w'.cell? ⟨g4, 4, none⟩ = some (.bool true) ∧ w'.cell? ⟨g4, 5, none⟩ = some (.int .i64 O) ∧ Below V.heap.size V w' := by
  obtain ⟨⟨a1, a2, a3⟩, -, -⟩ := H1.below B
  obtain ⟨⟨b1, b2, b3⟩, -, -⟩ := H2.below B
  obtain ⟨⟨c1, c2, c3, c4, c5, c6⟩, -, -⟩ := H3.below B
  obtain ⟨⟨d1, d2, d3, d4, d5, d6⟩, -, -⟩ := H4.below B
  exact ⟨a1, a2, a3, b1, b2, b3, c1, c2, c3, c4, c5, c6, d1, d2, d3, d4, d5, d6, B⟩
set_option linter.unusedSimpArgs false in
set_option linter.unusedVariables false in
set_option maxRecDepth 100000 in
set_option maxHeartbeats 4000000 in
theorem lexicalMays_walk (y m d s : Int) (z : Bool) (o a c : Int) (w : World) (ht : Tab2 w) : Calls Tryd.prog 6 #[Dt y m d, Tm s z o, .int .i64 a, .int .i64 c] w (Ret (.bool true) w) := by
  have HT := Lib.hid ht
  have AW := Lib.hid awake9
  have DA0 := date_any y m d
  have TA0 := time_any s z o
  have NA0 := moment_any y m d s z o
  have MD0 := mayDay_any y m d
  have MM0 := mayM_any s z o
  have MN0 := mayN_any y m d s z o
  have e1 := dateT_em y m d
  have e2 := timeT_em s z o
  have e3 := momT_em y m d s z o
  generalize dateT y m d = P at *
  generalize timeT s z o = Q at *
  generalize momT y m d s z o = R at *
  have hr : mayN y m d s z o = (mayT y m d && mayM s z o) := rfl
  rw [hr] at e3 MN0
  generalize mayT y m d = p at *
  generalize mayM s z o = q at *
  have MK0 := make_any a c a
  have MT0 := makeM_any c true a
  have GD := make_day a c a
  have GM := makeM_may c true a
  generalize mkD a (lenI (a.tmod 1000000000) (mkM c)) = E at *
  generalize a.tmod 1000000000 = Y at *
  generalize mkM c = M at *
  generalize c % 86400 = A at *
  generalize offM true a = O at *
  have GN := mayN_of GD GM
  have NG0 := moment_any Y M E A true O
  have e4 := momT_em Y M E A true O
  rw [GN] at e4
  generalize momT Y M E A true O = G at *
  replace e4 : G.toList.isEmpty = false := e4
  have MK := Lib.hid MK0
  have MT := Lib.hid MT0
  have DA := Lib.hid DA0
  have TA := Lib.hid TA0
  have NA := Lib.hid NA0
  have NG := Lib.hid NG0
  clear MK0 MT0 DA0 TA0 NA0 NG0 GD GM GN hr ht
  cases p <;> cases q
  · replace e1 : P.toList.isEmpty = true := e1
    replace e2 : Q.toList.isEmpty = true := e2
    replace e3 : R.toList.isEmpty = true := e3
    have MD := Lib.hid MD0
    have MM := Lib.hid MM0
    have MN := Lib.hid (show ∀ w, Calls Tryd.prog 23 #[Mo y m d s z o] w (Ret (.bool false) w) from MN0)
    clear MD0 MM0 MN0
    go_enter Tryd.func6, Tryd.ntmps6
    go_upto_region 1 with fail
    have PD := Lib.hid (HoldsT.alloc (HoldsT.new rfl) _ : HoldsT ((w.alloc (DtC y m d)).alloc (TmC s z o)) w.heap.size y m d)
    have PT := Lib.hid (HoldsM.new (by simp) : HoldsM ((w.alloc (DtC y m d)).alloc (TmC s z o)) (w.heap.size + 1) s z o)
    have B := ballD1 (ballD1 (Below.refl w.heap.size w) (DtC y m d)) (TmC s z o)
    change Code.wp _ _ _ _ ((w.alloc (DtC y m d)).alloc (TmC s z o))
    generalize ((w.alloc (DtC y m d)).alloc (TmC s z o)) = w0 at *
    obtain ⟨⟨c0_0, c0_1, c0_2⟩, -, c0z⟩ := PD.out
    obtain ⟨⟨c1_0, c1_1, c1_2⟩, -, c1z⟩ := PT.out
    go_wp2_with fail
    refine (AW.out _ (HT.out.below B)).mono ?_
    rintro e w1 ⟨rfl, hb⟩
    replace PD := Lib.hid (PD.out.below hb)
    replace PT := Lib.hid (PT.out.below hb)
    replace B := bstep B hb
    clear hb AW
    clear c0_0 c0_1 c0_2 c0z c1_0 c1_1 c1_2 c1z
    obtain ⟨⟨c0_0, c0_1, c0_2⟩, -, c0z⟩ := PD.out
    obtain ⟨⟨c1_0, c1_1, c1_2⟩, -, c1z⟩ := PT.out
    replace PD := Lib.hid (PD.out.alloc (MoC y m d s z o))
    replace PT := Lib.hid (PT.out.alloc (MoC y m d s z o))
    have PM := Lib.hid (HoldsN.new rfl : HoldsN (w1.alloc (MoC y m d s z o)) w1.heap.size y m d s z o)
    replace B := ballD1 B (MoC y m d s z o)
    go_upto_region 4 with fail
    change Code.wp _ _ _ _ (w1.alloc (MoC y m d s z o))
    clear c0_0 c0_1 c0_2 c0z c1_0 c1_1 c1_2 c1z
    generalize w1.alloc (MoC y m d s z o) = w2 at *
    obtain ⟨gPM, hg⟩ : ∃ g, g = w1.heap.size := ⟨_, rfl⟩
    rw [← hg] at PM ⊢
    clear hg
    obtain ⟨⟨c0_0, c0_1, c0_2⟩, -, c0z⟩ := PD.out
    obtain ⟨⟨c1_0, c1_1, c1_2⟩, -, c1z⟩ := PT.out
    obtain ⟨⟨c2_0, c2_1, c2_2, c2_3, c2_4, c2_5⟩, -, c2z⟩ := PM.out
    go_wp2_with fail
    refine (MK.out _).mono ?_
    rintro e w3 ⟨rfl, hb⟩
    replace PD := Lib.hid (PD.out.below hb)
    replace PT := Lib.hid (PT.out.below hb)
    replace PM := Lib.hid (PM.out.below hb)
    replace B := bstep B hb
    clear hb MK
    clear c0_0 c0_1 c0_2 c0z c1_0 c1_1 c1_2 c1z c2_0 c2_1 c2_2 c2_3 c2_4 c2_5 c2z
    obtain ⟨⟨c0_0, c0_1, c0_2⟩, -, c0z⟩ := PD.out
    obtain ⟨⟨c1_0, c1_1, c1_2⟩, -, c1z⟩ := PT.out
    obtain ⟨⟨c2_0, c2_1, c2_2, c2_3, c2_4, c2_5⟩, -, c2z⟩ := PM.out
    go_wp2_with fail
    refine (MT.out _).mono ?_
    rintro e w4 ⟨rfl, hb⟩
    replace PD := Lib.hid (PD.out.below hb)
    replace PT := Lib.hid (PT.out.below hb)
    replace PM := Lib.hid (PM.out.below hb)
    replace B := bstep B hb
    clear hb MT
    clear c0_0 c0_1 c0_2 c0z c1_0 c1_1 c1_2 c1z c2_0 c2_1 c2_2 c2_3 c2_4 c2_5 c2z
    replace PD := Lib.hid (PD.out.alloc (MoC Y M E A true O))
    replace PT := Lib.hid (PT.out.alloc (MoC Y M E A true O))
    replace PM := Lib.hid (PM.out.alloc (MoC Y M E A true O))
    have PG := Lib.hid (HoldsN.new rfl : HoldsN (w4.alloc (MoC Y M E A true O)) w4.heap.size Y M E A true O)
    replace B := ballD1 B (MoC Y M E A true O)
    go_upto_region 5 with fail
    change Code.wp _ _ _ _ (w4.alloc (MoC Y M E A true O))
    generalize w4.alloc (MoC Y M E A true O) = w5 at *
    obtain ⟨gPG, hg⟩ : ∃ g, g = w4.heap.size := ⟨_, rfl⟩
    rw [← hg] at PG ⊢
    clear hg
    go_upto_region 5 with fail
    generalize w5 = V at *
    refine wp_region_held_drew (S := fun w' => w'.cell? ⟨w.heap.size, 0, none⟩ = some (.int .i64 y) ∧ w'.cell? ⟨w.heap.size, 1, none⟩ = some (.int .i64 m) ∧ w'.cell? ⟨w.heap.size, 2, none⟩ = some (.int .i64 d) ∧ w'.cell? ⟨w.heap.size + 1, 0, none⟩ = some (.int .i64 s) ∧ w'.cell? ⟨w.heap.size + 1, 1, none⟩ = some (.bool z) ∧ w'.cell? ⟨w.heap.size + 1, 2, none⟩ = some (.int .i64 o) ∧ w'.cell? ⟨gPM, 0, none⟩ = some (.int .i64 y) ∧ w'.cell? ⟨gPM, 1, none⟩ = some (.int .i64 m) ∧ w'.cell? ⟨gPM, 2, none⟩ = some (.int .i64 d) ∧ w'.cell? ⟨gPM, 3, none⟩ = some (.int .i64 s) ∧ w'.cell? ⟨gPM, 4, none⟩ = some (.bool z) ∧ w'.cell? ⟨gPM, 5, none⟩ = some (.int .i64 o) ∧ w'.cell? ⟨gPG, 0, none⟩ = some (.int .i64 Y) ∧ w'.cell? ⟨gPG, 1, none⟩ = some (.int .i64 M) ∧ w'.cell? ⟨gPG, 2, none⟩ = some (.int .i64 E) ∧ w'.cell? ⟨gPG, 3, none⟩ = some (.int .i64 A) ∧ w'.cell? ⟨gPG, 4, none⟩ = some (.bool true) ∧ w'.cell? ⟨gPG, 5, none⟩ = some (.int .i64 O) ∧ Below V.heap.size V w') (by kernel_rfl) ?_ (fun hHeld => ?_)
    · exact keep49 PD.out PT.out PM.out PG.out (Below.refl _ _).drew
    refine wpAnyH_take (i := 0) (oi := { dst := some 24, op := Go.Op.load 26 (Go.Operand.tmp 4), type := 26, pos := "law.go:219", after := #[], guard := none }) (v := ?_) rfl (by kernel_rfl) (by kernel_rfl) (by kernel_rfl) (fun _ _ _ h => h) (Or.inl ⟨by rfl, ?_⟩) (by assumption) ?_
    rotate_left
    · intro w hSw
      try dsimp only at hSw
      go_simp
      try (rw [if_neg (by omega)])
      try with_reducible rfl
    try simp only [Act.put, List.setIfInBounds_toArray, List.set_cons_zero, List.set_cons_succ]
    refine wpAnyH_take (i := 3) (oi := { dst := some 27, op := Go.Op.load 26 (Go.Operand.tmp 4), type := 26, pos := "law.go:219", after := #[], guard := none }) (v := ?_) rfl (by kernel_rfl) (by kernel_rfl) (by kernel_rfl) (fun _ _ _ h => h) (Or.inl ⟨by rfl, ?_⟩) (by assumption) ?_
    rotate_left
    · intro w hSw
      try dsimp only at hSw
      go_simp
      try (rw [if_neg (by omega)])
      try with_reducible rfl
    try simp only [Act.put, List.setIfInBounds_toArray, List.set_cons_zero, List.set_cons_succ]
    refine wpAnyH_ready (rs := [1]) (by kernel_rfl) (by simp) ?_
    refine AllReadyH.cons (o := { dst := some 25, op := Go.Op.call { callee := Go.Callee.value (Go.Operand.func 10), args := #[Go.Operand.tmp 24], argTypes := #[26] }, type := 9, pos := "law.go:219", after := #[{ on := 0, ground := Go.Ground.data }], guard := none }) rfl (fun K hK => ?_) AllReadyH.nil
    go_simp
    refine (DA.out _ (HT.out.below (bstep B hHeld.2.2.2.2.2.2.2.2.2.2.2.2.2.2.2.2.2.2))).mono ?_
    rintro e v1 ⟨rfl, hb1⟩
    have HBx := Lib.hid (bstep hHeld.2.2.2.2.2.2.2.2.2.2.2.2.2.2.2.2.2.2 hb1)
    clear hHeld hb1
    refine hK.out _ _ ?_ (fun hHeld => ?_)
    · exact keep49 PD.out PT.out PM.out PG.out HBx.out
    clear hK K HBx
    try simp only [Act.put, List.setIfInBounds_toArray, List.set_cons_zero, List.set_cons_succ]
    refine wpAnyH_take (i := 2) (oi := { dst := some 26, op := Go.Op.binOp Go.BinOp.neq 9 (Go.Operand.tmp 25) (Go.Operand.const (Go.Value.string { data := #[] })) 9, type := 4, pos := "law.go:219", after := #[{ on := 1, ground := Go.Ground.data }], guard := none }) (v := ?_) rfl (by kernel_rfl) (by kernel_rfl) (by kernel_rfl) (fun _ _ _ h => h) (Or.inl ⟨by rfl, ?_⟩) (by assumption) ?_
    rotate_left
    · intro w hSw
      try dsimp only at hSw
      go_simp
      try (rw [if_neg (by omega)])
      try with_reducible rfl
    try simp only [Act.put, List.setIfInBounds_toArray, List.set_cons_zero, List.set_cons_succ]
    refine wpAnyH_ready (rs := [4]) (by kernel_rfl) (by simp) ?_
    refine AllReadyH.cons (o := { dst := some 28, op := Go.Op.call { callee := Go.Callee.value (Go.Operand.func 21), args := #[Go.Operand.tmp 27], argTypes := #[26] }, type := 4, pos := "law.go:219", after := #[{ on := 3, ground := Go.Ground.data }, { on := 1, ground := Go.Ground.chain }], guard := none }) rfl (fun K hK => ?_) AllReadyH.nil
    go_simp
    refine (MD.out _).mono ?_
    rintro e v2 ⟨rfl, hb2⟩
    have HBx := Lib.hid (bstep hHeld.2.2.2.2.2.2.2.2.2.2.2.2.2.2.2.2.2.2 hb2)
    clear hHeld hb2
    refine hK.out _ _ ?_ (fun hHeld => ?_)
    · exact keep49 PD.out PT.out PM.out PG.out HBx.out
    clear hK K HBx
    try simp only [Act.put, List.setIfInBounds_toArray, List.set_cons_zero, List.set_cons_succ]
    refine wpAnyH_take (i := 5) (oi := { dst := some 29, op := Go.Op.binOp Go.BinOp.eql 4 (Go.Operand.tmp 26) (Go.Operand.tmp 28) 4, type := 4, pos := "law.go:219", after := #[{ on := 2, ground := Go.Ground.data }, { on := 4, ground := Go.Ground.data }], guard := none }) (v := ?_) rfl (by kernel_rfl) (by kernel_rfl) (by kernel_rfl) (fun _ _ _ h => h) (Or.inl ⟨by rfl, ?_⟩) (by assumption) ?_
    rotate_left
    · intro w hSw
      try dsimp only at hSw
      go_simp
      try (rw [if_neg (by omega)])
      try with_reducible rfl
    try simp only [Act.put, List.setIfInBounds_toArray, List.set_cons_zero, List.set_cons_succ]
    refine wpAnyH_take (i := 6) (oi := { dst := some 30, op := Go.Op.move (Go.Operand.tmp 29), type := 4, pos := "law.go:219", after := #[{ on := 5, ground := Go.Ground.data }, { on := 4, ground := Go.Ground.chain }], guard := none }) (v := ?_) rfl (by kernel_rfl) (by kernel_rfl) (by kernel_rfl) (fun _ _ _ h => h) (Or.inl ⟨by rfl, ?_⟩) (by assumption) ?_
    rotate_left
    · intro w hSw
      try dsimp only at hSw
      go_simp
      try (rw [if_neg (by omega)])
      try with_reducible rfl
    try simp only [Act.put, List.setIfInBounds_toArray, List.set_cons_zero, List.set_cons_succ]
    refine wpAnyH_take (i := 7) (oi := { dst := some 31, op := Go.Op.load 28 (Go.Operand.tmp 5), type := 28, pos := "law.go:219", after := #[{ on := 6, ground := Go.Ground.guard }], guard := some (6, true) }) (v := ?_) rfl (by kernel_rfl) (by kernel_rfl) (by kernel_rfl) (fun _ _ _ h => h) (Or.inl ⟨by rfl, ?_⟩) (by assumption) ?_
    rotate_left
    · intro w hSw
      try dsimp only at hSw
      go_simp
      try (rw [if_neg (by omega)])
      try with_reducible rfl
    try simp only [Act.put, List.setIfInBounds_toArray, List.set_cons_zero, List.set_cons_succ]
    refine wpAnyH_take (i := 10) (oi := { dst := some 34, op := Go.Op.load 28 (Go.Operand.tmp 5), type := 28, pos := "law.go:219", after := #[{ on := 6, ground := Go.Ground.guard }], guard := some (6, true) }) (v := ?_) rfl (by kernel_rfl) (by kernel_rfl) (by kernel_rfl) (fun _ _ _ h => h) (Or.inl ⟨by rfl, ?_⟩) (by assumption) ?_
    rotate_left
    · intro w hSw
      try dsimp only at hSw
      go_simp
      try (rw [if_neg (by omega)])
      try with_reducible rfl
    try simp only [Act.put, List.setIfInBounds_toArray, List.set_cons_zero, List.set_cons_succ]
    refine wpAnyH_ready (rs := [8]) (by kernel_rfl) (by simp) ?_
    refine AllReadyH.cons (o := { dst := some 32, op := Go.Op.call { callee := Go.Callee.value (Go.Operand.func 12), args := #[Go.Operand.tmp 31], argTypes := #[28] }, type := 9, pos := "law.go:219", after := #[{ on := 7, ground := Go.Ground.data }, { on := 6, ground := Go.Ground.chain }, { on := 6, ground := Go.Ground.guard }], guard := some (6, true) }) rfl (fun K hK => ?_) AllReadyH.nil
    go_simp
    refine (TA.out _ (HT.out.below (bstep B hHeld.2.2.2.2.2.2.2.2.2.2.2.2.2.2.2.2.2.2))).mono ?_
    rintro e v3 ⟨rfl, hb3⟩
    have HBx := Lib.hid (bstep hHeld.2.2.2.2.2.2.2.2.2.2.2.2.2.2.2.2.2.2 hb3)
    clear hHeld hb3
    refine hK.out _ _ ?_ (fun hHeld => ?_)
    · exact keep49 PD.out PT.out PM.out PG.out HBx.out
    clear hK K HBx
    try simp only [Act.put, List.setIfInBounds_toArray, List.set_cons_zero, List.set_cons_succ]
    refine wpAnyH_take (i := 9) (oi := { dst := some 33, op := Go.Op.binOp Go.BinOp.neq 9 (Go.Operand.tmp 32) (Go.Operand.const (Go.Value.string { data := #[] })) 9, type := 4, pos := "law.go:219", after := #[{ on := 8, ground := Go.Ground.data }, { on := 6, ground := Go.Ground.guard }], guard := some (6, true) }) (v := ?_) rfl (by kernel_rfl) (by kernel_rfl) (by kernel_rfl) (fun _ _ _ h => h) (Or.inl ⟨by rfl, ?_⟩) (by assumption) ?_
    rotate_left
    · intro w hSw
      try dsimp only at hSw
      go_simp
      try (rw [if_neg (by omega)])
      try with_reducible rfl
    try simp only [Act.put, List.setIfInBounds_toArray, List.set_cons_zero, List.set_cons_succ]
    refine wpAnyH_ready (rs := [11]) (by kernel_rfl) (by simp) ?_
    refine AllReadyH.cons (o := { dst := some 35, op := Go.Op.call { callee := Go.Callee.value (Go.Operand.func 22), args := #[Go.Operand.tmp 34], argTypes := #[28] }, type := 4, pos := "law.go:219", after := #[{ on := 10, ground := Go.Ground.data }, { on := 8, ground := Go.Ground.chain }, { on := 6, ground := Go.Ground.guard }], guard := some (6, true) }) rfl (fun K hK => ?_) AllReadyH.nil
    go_simp
    refine (MM.out _).mono ?_
    rintro e v4 ⟨rfl, hb4⟩
    have HBx := Lib.hid (bstep hHeld.2.2.2.2.2.2.2.2.2.2.2.2.2.2.2.2.2.2 hb4)
    clear hHeld hb4
    refine hK.out _ _ ?_ (fun hHeld => ?_)
    · exact keep49 PD.out PT.out PM.out PG.out HBx.out
    clear hK K HBx
    try simp only [Act.put, List.setIfInBounds_toArray, List.set_cons_zero, List.set_cons_succ]
    refine wpAnyH_take (i := 12) (oi := { dst := some 36, op := Go.Op.binOp Go.BinOp.eql 4 (Go.Operand.tmp 33) (Go.Operand.tmp 35) 4, type := 4, pos := "law.go:219", after := #[{ on := 9, ground := Go.Ground.data }, { on := 11, ground := Go.Ground.data }, { on := 6, ground := Go.Ground.guard }], guard := some (6, true) }) (v := ?_) rfl (by kernel_rfl) (by kernel_rfl) (by kernel_rfl) (fun _ _ _ h => h) (Or.inl ⟨by rfl, ?_⟩) (by assumption) ?_
    rotate_left
    · intro w hSw
      try dsimp only at hSw
      go_simp
      try (rw [if_neg (by omega)])
      try with_reducible rfl
    try simp only [Act.put, List.setIfInBounds_toArray, List.set_cons_zero, List.set_cons_succ]
    refine wpAnyH_take (i := 13) (oi := { dst := some 37, op := Go.Op.pick (Go.Operand.tmp 30) (Go.Operand.tmp 36) (Go.Operand.const (Go.Value.bool false)), type := 4, pos := "law.go:219", after := #[{ on := 6, ground := Go.Ground.data }, { on := 12, ground := Go.Ground.data }], guard := none }) (v := ?_) rfl (by kernel_rfl) (by kernel_rfl) (by kernel_rfl) (fun _ _ _ h => h) (Or.inl ⟨by rfl, ?_⟩) (by assumption) ?_
    rotate_left
    · intro w hSw
      try dsimp only at hSw
      go_simp
      try (rw [if_neg (by omega)])
      try with_reducible rfl
    try simp only [Act.put, List.setIfInBounds_toArray, List.set_cons_zero, List.set_cons_succ]
    refine wpAnyH_take (i := 14) (oi := { dst := some 38, op := Go.Op.move (Go.Operand.tmp 37), type := 4, pos := "law.go:219", after := #[{ on := 13, ground := Go.Ground.data }, { on := 11, ground := Go.Ground.chain }], guard := none }) (v := ?_) rfl (by kernel_rfl) (by kernel_rfl) (by kernel_rfl) (fun _ _ _ h => h) (Or.inl ⟨by rfl, ?_⟩) (by assumption) ?_
    rotate_left
    · intro w hSw
      try dsimp only at hSw
      go_simp
      try (rw [if_neg (by omega)])
      try with_reducible rfl
    try simp only [Act.put, List.setIfInBounds_toArray, List.set_cons_zero, List.set_cons_succ]
    refine wpAnyH_take (i := 15) (oi := { dst := some 39, op := Go.Op.load 30 (Go.Operand.tmp 9), type := 30, pos := "law.go:219", after := #[{ on := 14, ground := Go.Ground.guard }], guard := some (14, true) }) (v := ?_) rfl (by kernel_rfl) (by kernel_rfl) (by kernel_rfl) (fun _ _ _ h => h) (Or.inl ⟨by rfl, ?_⟩) (by assumption) ?_
    rotate_left
    · intro w hSw
      try dsimp only at hSw
      go_simp
      try (rw [if_neg (by omega)])
      try with_reducible rfl
    try simp only [Act.put, List.setIfInBounds_toArray, List.set_cons_zero, List.set_cons_succ]
    refine wpAnyH_take (i := 18) (oi := { dst := some 42, op := Go.Op.load 30 (Go.Operand.tmp 9), type := 30, pos := "law.go:219", after := #[{ on := 14, ground := Go.Ground.guard }], guard := some (14, true) }) (v := ?_) rfl (by kernel_rfl) (by kernel_rfl) (by kernel_rfl) (fun _ _ _ h => h) (Or.inl ⟨by rfl, ?_⟩) (by assumption) ?_
    rotate_left
    · intro w hSw
      try dsimp only at hSw
      go_simp
      try (rw [if_neg (by omega)])
      try with_reducible rfl
    try simp only [Act.put, List.setIfInBounds_toArray, List.set_cons_zero, List.set_cons_succ]
    refine wpAnyH_ready (rs := [16]) (by kernel_rfl) (by simp) ?_
    refine AllReadyH.cons (o := { dst := some 40, op := Go.Op.call { callee := Go.Callee.value (Go.Operand.func 14), args := #[Go.Operand.tmp 39], argTypes := #[30] }, type := 9, pos := "law.go:219", after := #[{ on := 15, ground := Go.Ground.data }, { on := 14, ground := Go.Ground.chain }, { on := 14, ground := Go.Ground.guard }], guard := some (14, true) }) rfl (fun K hK => ?_) AllReadyH.nil
    go_simp
    refine (NA.out _ (HT.out.below (bstep B hHeld.2.2.2.2.2.2.2.2.2.2.2.2.2.2.2.2.2.2))).mono ?_
    rintro e v5 ⟨rfl, hb5⟩
    have HBx := Lib.hid (bstep hHeld.2.2.2.2.2.2.2.2.2.2.2.2.2.2.2.2.2.2 hb5)
    clear hHeld hb5
    refine hK.out _ _ ?_ (fun hHeld => ?_)
    · exact keep49 PD.out PT.out PM.out PG.out HBx.out
    clear hK K HBx
    try simp only [Act.put, List.setIfInBounds_toArray, List.set_cons_zero, List.set_cons_succ]
    refine wpAnyH_take (i := 17) (oi := { dst := some 41, op := Go.Op.binOp Go.BinOp.neq 9 (Go.Operand.tmp 40) (Go.Operand.const (Go.Value.string { data := #[] })) 9, type := 4, pos := "law.go:219", after := #[{ on := 16, ground := Go.Ground.data }, { on := 14, ground := Go.Ground.guard }], guard := some (14, true) }) (v := ?_) rfl (by kernel_rfl) (by kernel_rfl) (by kernel_rfl) (fun _ _ _ h => h) (Or.inl ⟨by rfl, ?_⟩) (by assumption) ?_
    rotate_left
    · intro w hSw
      try dsimp only at hSw
      go_simp
      try (rw [if_neg (by omega)])
      try with_reducible rfl
    try simp only [Act.put, List.setIfInBounds_toArray, List.set_cons_zero, List.set_cons_succ]
    refine wpAnyH_ready (rs := [19]) (by kernel_rfl) (by simp) ?_
    refine AllReadyH.cons (o := { dst := some 43, op := Go.Op.call { callee := Go.Callee.value (Go.Operand.func 23), args := #[Go.Operand.tmp 42], argTypes := #[30] }, type := 4, pos := "law.go:219", after := #[{ on := 18, ground := Go.Ground.data }, { on := 16, ground := Go.Ground.chain }, { on := 14, ground := Go.Ground.guard }], guard := some (14, true) }) rfl (fun K hK => ?_) AllReadyH.nil
    go_simp
    refine (MN.out _).mono ?_
    rintro e v6 ⟨rfl, hb6⟩
    have HBx := Lib.hid (bstep hHeld.2.2.2.2.2.2.2.2.2.2.2.2.2.2.2.2.2.2 hb6)
    clear hHeld hb6
    refine hK.out _ _ ?_ (fun hHeld => ?_)
    · exact keep49 PD.out PT.out PM.out PG.out HBx.out
    clear hK K HBx
    try simp only [Act.put, List.setIfInBounds_toArray, List.set_cons_zero, List.set_cons_succ]
    refine wpAnyH_take (i := 20) (oi := { dst := some 44, op := Go.Op.binOp Go.BinOp.eql 4 (Go.Operand.tmp 41) (Go.Operand.tmp 43) 4, type := 4, pos := "law.go:219", after := #[{ on := 17, ground := Go.Ground.data }, { on := 19, ground := Go.Ground.data }, { on := 14, ground := Go.Ground.guard }], guard := some (14, true) }) (v := ?_) rfl (by kernel_rfl) (by kernel_rfl) (by kernel_rfl) (fun _ _ _ h => h) (Or.inl ⟨by rfl, ?_⟩) (by assumption) ?_
    rotate_left
    · intro w hSw
      try dsimp only at hSw
      go_simp
      try (rw [if_neg (by omega)])
      try with_reducible rfl
    try simp only [Act.put, List.setIfInBounds_toArray, List.set_cons_zero, List.set_cons_succ]
    refine wpAnyH_take (i := 21) (oi := { dst := some 45, op := Go.Op.pick (Go.Operand.tmp 38) (Go.Operand.tmp 44) (Go.Operand.const (Go.Value.bool false)), type := 4, pos := "law.go:219", after := #[{ on := 14, ground := Go.Ground.data }, { on := 20, ground := Go.Ground.data }], guard := none }) (v := ?_) rfl (by kernel_rfl) (by kernel_rfl) (by kernel_rfl) (fun _ _ _ h => h) (Or.inl ⟨by rfl, ?_⟩) (by assumption) ?_
    rotate_left
    · intro w hSw
      try dsimp only at hSw
      go_simp
      try (rw [if_neg (by omega)])
      try with_reducible rfl
    try simp only [Act.put, List.setIfInBounds_toArray, List.set_cons_zero, List.set_cons_succ]
    refine wpAnyH_take (i := 22) (oi := { dst := some 46, op := Go.Op.move (Go.Operand.tmp 45), type := 4, pos := "law.go:219", after := #[{ on := 21, ground := Go.Ground.data }, { on := 19, ground := Go.Ground.chain }], guard := none }) (v := ?_) rfl (by kernel_rfl) (by kernel_rfl) (by kernel_rfl) (fun _ _ _ h => h) (Or.inl ⟨by rfl, ?_⟩) (by assumption) ?_
    rotate_left
    · intro w hSw
      try dsimp only at hSw
      go_simp
      try (rw [if_neg (by omega)])
      try with_reducible rfl
    try simp only [Act.put, List.setIfInBounds_toArray, List.set_cons_zero, List.set_cons_succ]
    refine wpAnyH_take (i := 23) (oi := { dst := some 47, op := Go.Op.load 30 (Go.Operand.tmp 10), type := 30, pos := "law.go:219", after := #[{ on := 22, ground := Go.Ground.guard }], guard := some (22, true) }) (v := ?_) rfl (by kernel_rfl) (by kernel_rfl) (by kernel_rfl) (fun _ _ _ h => h) (Or.inl ⟨by rfl, ?_⟩) (by assumption) ?_
    rotate_left
    · intro w hSw
      try dsimp only at hSw
      go_simp
      try (rw [if_neg (by omega)])
      try with_reducible rfl
    try simp only [Act.put, List.setIfInBounds_toArray, List.set_cons_zero, List.set_cons_succ]
    refine wpAnyH_ready (rs := [24]) (by kernel_rfl) (by simp) ?_
    refine AllReadyH.cons (o := { dst := some 48, op := Go.Op.call { callee := Go.Callee.value (Go.Operand.func 14), args := #[Go.Operand.tmp 47], argTypes := #[30] }, type := 9, pos := "law.go:219", after := #[{ on := 23, ground := Go.Ground.data }, { on := 22, ground := Go.Ground.chain }, { on := 22, ground := Go.Ground.guard }], guard := some (22, true) }) rfl (fun K hK => ?_) AllReadyH.nil
    go_simp
    refine (NG.out _ (HT.out.below (bstep B hHeld.2.2.2.2.2.2.2.2.2.2.2.2.2.2.2.2.2.2))).mono ?_
    rintro e v7 ⟨rfl, hb7⟩
    have HBx := Lib.hid (bstep hHeld.2.2.2.2.2.2.2.2.2.2.2.2.2.2.2.2.2.2 hb7)
    clear hHeld hb7
    refine hK.out _ _ ?_ (fun hHeld => ?_)
    · exact keep49 PD.out PT.out PM.out PG.out HBx.out
    clear hK K HBx
    try simp only [Act.put, List.setIfInBounds_toArray, List.set_cons_zero, List.set_cons_succ]
    refine wpAnyH_take (i := 25) (oi := { dst := some 49, op := Go.Op.binOp Go.BinOp.neq 9 (Go.Operand.tmp 48) (Go.Operand.const (Go.Value.string { data := #[] })) 9, type := 4, pos := "law.go:219", after := #[{ on := 24, ground := Go.Ground.data }, { on := 22, ground := Go.Ground.guard }], guard := some (22, true) }) (v := ?_) rfl (by kernel_rfl) (by kernel_rfl) (by kernel_rfl) (fun _ _ _ h => h) (Or.inl ⟨by rfl, ?_⟩) (by assumption) ?_
    rotate_left
    · intro w hSw
      try dsimp only at hSw
      go_simp
      try (rw [if_neg (by omega)])
      try with_reducible rfl
    try simp only [Act.put, List.setIfInBounds_toArray, List.set_cons_zero, List.set_cons_succ]
    refine wpAnyH_take (i := 26) (oi := { dst := some 50, op := Go.Op.pick (Go.Operand.tmp 46) (Go.Operand.tmp 49) (Go.Operand.const (Go.Value.bool false)), type := 4, pos := "law.go:219", after := #[{ on := 22, ground := Go.Ground.data }, { on := 25, ground := Go.Ground.data }], guard := none }) (v := ?_) rfl (by kernel_rfl) (by kernel_rfl) (by kernel_rfl) (fun _ _ _ h => h) (Or.inl ⟨by rfl, ?_⟩) (by assumption) ?_
    rotate_left
    · intro w hSw
      try dsimp only at hSw
      go_simp
      try (rw [if_neg (by omega)])
      try with_reducible rfl
    try simp only [Act.put, List.setIfInBounds_toArray, List.set_cons_zero, List.set_cons_succ]
    refine wpAnyH_take (i := 27) (oi := { dst := some 8, op := Go.Op.assign (Go.Operand.tmp 50), type := 4, pos := "law.go:219", after := #[{ on := 26, ground := Go.Ground.data }, { on := 24, ground := Go.Ground.chain }, { on := 0, ground := Go.Ground.phase }, { on := 1, ground := Go.Ground.phase }, { on := 2, ground := Go.Ground.phase }, { on := 3, ground := Go.Ground.phase }, { on := 4, ground := Go.Ground.phase }, { on := 5, ground := Go.Ground.phase }, { on := 6, ground := Go.Ground.phase }, { on := 7, ground := Go.Ground.phase }, { on := 8, ground := Go.Ground.phase }, { on := 9, ground := Go.Ground.phase }, { on := 10, ground := Go.Ground.phase }, { on := 11, ground := Go.Ground.phase }, { on := 12, ground := Go.Ground.phase }, { on := 13, ground := Go.Ground.phase }, { on := 14, ground := Go.Ground.phase }, { on := 15, ground := Go.Ground.phase }, { on := 16, ground := Go.Ground.phase }, { on := 17, ground := Go.Ground.phase }, { on := 18, ground := Go.Ground.phase }, { on := 19, ground := Go.Ground.phase }, { on := 20, ground := Go.Ground.phase }, { on := 21, ground := Go.Ground.phase }, { on := 22, ground := Go.Ground.phase }, { on := 23, ground := Go.Ground.phase }, { on := 24, ground := Go.Ground.phase }, { on := 25, ground := Go.Ground.phase }, { on := 26, ground := Go.Ground.phase }], guard := none }) (v := ?_) rfl (by kernel_rfl) (by kernel_rfl) (by kernel_rfl) (fun _ _ _ h => h) (Or.inl ⟨by rfl, ?_⟩) (by assumption) ?_
    rotate_left
    · intro w hSw
      try dsimp only at hSw
      go_simp
      try (rw [if_neg (by omega)])
      try with_reducible rfl
    try simp only [Act.put, List.setIfInBounds_toArray, List.set_cons_zero, List.set_cons_succ]
    refine wpAnyH_done (by kernel_rfl) ?_ _
    replace B := bstep B hHeld.2.2.2.2.2.2.2.2.2.2.2.2.2.2.2.2.2.2
    go_wp2
    go_ret
    exact ⟨rfl, B⟩
  · replace e1 : P.toList.isEmpty = true := e1
    replace e2 : Q.toList.isEmpty = false := e2
    replace e3 : R.toList.isEmpty = true := e3
    have MD := Lib.hid MD0
    have MM := Lib.hid MM0
    have MN := Lib.hid (show ∀ w, Calls Tryd.prog 23 #[Mo y m d s z o] w (Ret (.bool false) w) from MN0)
    clear MD0 MM0 MN0
    go_enter Tryd.func6, Tryd.ntmps6
    go_upto_region 1 with fail
    have PD := Lib.hid (HoldsT.alloc (HoldsT.new rfl) _ : HoldsT ((w.alloc (DtC y m d)).alloc (TmC s z o)) w.heap.size y m d)
    have PT := Lib.hid (HoldsM.new (by simp) : HoldsM ((w.alloc (DtC y m d)).alloc (TmC s z o)) (w.heap.size + 1) s z o)
    have B := ballD1 (ballD1 (Below.refl w.heap.size w) (DtC y m d)) (TmC s z o)
    change Code.wp _ _ _ _ ((w.alloc (DtC y m d)).alloc (TmC s z o))
    generalize ((w.alloc (DtC y m d)).alloc (TmC s z o)) = w0 at *
    obtain ⟨⟨c0_0, c0_1, c0_2⟩, -, c0z⟩ := PD.out
    obtain ⟨⟨c1_0, c1_1, c1_2⟩, -, c1z⟩ := PT.out
    go_wp2_with fail
    refine (AW.out _ (HT.out.below B)).mono ?_
    rintro e w1 ⟨rfl, hb⟩
    replace PD := Lib.hid (PD.out.below hb)
    replace PT := Lib.hid (PT.out.below hb)
    replace B := bstep B hb
    clear hb AW
    clear c0_0 c0_1 c0_2 c0z c1_0 c1_1 c1_2 c1z
    obtain ⟨⟨c0_0, c0_1, c0_2⟩, -, c0z⟩ := PD.out
    obtain ⟨⟨c1_0, c1_1, c1_2⟩, -, c1z⟩ := PT.out
    replace PD := Lib.hid (PD.out.alloc (MoC y m d s z o))
    replace PT := Lib.hid (PT.out.alloc (MoC y m d s z o))
    have PM := Lib.hid (HoldsN.new rfl : HoldsN (w1.alloc (MoC y m d s z o)) w1.heap.size y m d s z o)
    replace B := ballD1 B (MoC y m d s z o)
    go_upto_region 4 with fail
    change Code.wp _ _ _ _ (w1.alloc (MoC y m d s z o))
    clear c0_0 c0_1 c0_2 c0z c1_0 c1_1 c1_2 c1z
    generalize w1.alloc (MoC y m d s z o) = w2 at *
    obtain ⟨gPM, hg⟩ : ∃ g, g = w1.heap.size := ⟨_, rfl⟩
    rw [← hg] at PM ⊢
    clear hg
    obtain ⟨⟨c0_0, c0_1, c0_2⟩, -, c0z⟩ := PD.out
    obtain ⟨⟨c1_0, c1_1, c1_2⟩, -, c1z⟩ := PT.out
    obtain ⟨⟨c2_0, c2_1, c2_2, c2_3, c2_4, c2_5⟩, -, c2z⟩ := PM.out
    go_wp2_with fail
    refine (MK.out _).mono ?_
    rintro e w3 ⟨rfl, hb⟩
    replace PD := Lib.hid (PD.out.below hb)
    replace PT := Lib.hid (PT.out.below hb)
    replace PM := Lib.hid (PM.out.below hb)
    replace B := bstep B hb
    clear hb MK
    clear c0_0 c0_1 c0_2 c0z c1_0 c1_1 c1_2 c1z c2_0 c2_1 c2_2 c2_3 c2_4 c2_5 c2z
    obtain ⟨⟨c0_0, c0_1, c0_2⟩, -, c0z⟩ := PD.out
    obtain ⟨⟨c1_0, c1_1, c1_2⟩, -, c1z⟩ := PT.out
    obtain ⟨⟨c2_0, c2_1, c2_2, c2_3, c2_4, c2_5⟩, -, c2z⟩ := PM.out
    go_wp2_with fail
    refine (MT.out _).mono ?_
    rintro e w4 ⟨rfl, hb⟩
    replace PD := Lib.hid (PD.out.below hb)
    replace PT := Lib.hid (PT.out.below hb)
    replace PM := Lib.hid (PM.out.below hb)
    replace B := bstep B hb
    clear hb MT
    clear c0_0 c0_1 c0_2 c0z c1_0 c1_1 c1_2 c1z c2_0 c2_1 c2_2 c2_3 c2_4 c2_5 c2z
    replace PD := Lib.hid (PD.out.alloc (MoC Y M E A true O))
    replace PT := Lib.hid (PT.out.alloc (MoC Y M E A true O))
    replace PM := Lib.hid (PM.out.alloc (MoC Y M E A true O))
    have PG := Lib.hid (HoldsN.new rfl : HoldsN (w4.alloc (MoC Y M E A true O)) w4.heap.size Y M E A true O)
    replace B := ballD1 B (MoC Y M E A true O)
    go_upto_region 5 with fail
    change Code.wp _ _ _ _ (w4.alloc (MoC Y M E A true O))
    generalize w4.alloc (MoC Y M E A true O) = w5 at *
    obtain ⟨gPG, hg⟩ : ∃ g, g = w4.heap.size := ⟨_, rfl⟩
    rw [← hg] at PG ⊢
    clear hg
    go_upto_region 5 with fail
    generalize w5 = V at *
    refine wp_region_held_drew (S := fun w' => w'.cell? ⟨w.heap.size, 0, none⟩ = some (.int .i64 y) ∧ w'.cell? ⟨w.heap.size, 1, none⟩ = some (.int .i64 m) ∧ w'.cell? ⟨w.heap.size, 2, none⟩ = some (.int .i64 d) ∧ w'.cell? ⟨w.heap.size + 1, 0, none⟩ = some (.int .i64 s) ∧ w'.cell? ⟨w.heap.size + 1, 1, none⟩ = some (.bool z) ∧ w'.cell? ⟨w.heap.size + 1, 2, none⟩ = some (.int .i64 o) ∧ w'.cell? ⟨gPM, 0, none⟩ = some (.int .i64 y) ∧ w'.cell? ⟨gPM, 1, none⟩ = some (.int .i64 m) ∧ w'.cell? ⟨gPM, 2, none⟩ = some (.int .i64 d) ∧ w'.cell? ⟨gPM, 3, none⟩ = some (.int .i64 s) ∧ w'.cell? ⟨gPM, 4, none⟩ = some (.bool z) ∧ w'.cell? ⟨gPM, 5, none⟩ = some (.int .i64 o) ∧ w'.cell? ⟨gPG, 0, none⟩ = some (.int .i64 Y) ∧ w'.cell? ⟨gPG, 1, none⟩ = some (.int .i64 M) ∧ w'.cell? ⟨gPG, 2, none⟩ = some (.int .i64 E) ∧ w'.cell? ⟨gPG, 3, none⟩ = some (.int .i64 A) ∧ w'.cell? ⟨gPG, 4, none⟩ = some (.bool true) ∧ w'.cell? ⟨gPG, 5, none⟩ = some (.int .i64 O) ∧ Below V.heap.size V w') (by kernel_rfl) ?_ (fun hHeld => ?_)
    · exact keep49 PD.out PT.out PM.out PG.out (Below.refl _ _).drew
    refine wpAnyH_take (i := 0) (oi := { dst := some 24, op := Go.Op.load 26 (Go.Operand.tmp 4), type := 26, pos := "law.go:219", after := #[], guard := none }) (v := ?_) rfl (by kernel_rfl) (by kernel_rfl) (by kernel_rfl) (fun _ _ _ h => h) (Or.inl ⟨by rfl, ?_⟩) (by assumption) ?_
    rotate_left
    · intro w hSw
      try dsimp only at hSw
      go_simp
      try (rw [if_neg (by omega)])
      try with_reducible rfl
    try simp only [Act.put, List.setIfInBounds_toArray, List.set_cons_zero, List.set_cons_succ]
    refine wpAnyH_take (i := 3) (oi := { dst := some 27, op := Go.Op.load 26 (Go.Operand.tmp 4), type := 26, pos := "law.go:219", after := #[], guard := none }) (v := ?_) rfl (by kernel_rfl) (by kernel_rfl) (by kernel_rfl) (fun _ _ _ h => h) (Or.inl ⟨by rfl, ?_⟩) (by assumption) ?_
    rotate_left
    · intro w hSw
      try dsimp only at hSw
      go_simp
      try (rw [if_neg (by omega)])
      try with_reducible rfl
    try simp only [Act.put, List.setIfInBounds_toArray, List.set_cons_zero, List.set_cons_succ]
    refine wpAnyH_ready (rs := [1]) (by kernel_rfl) (by simp) ?_
    refine AllReadyH.cons (o := { dst := some 25, op := Go.Op.call { callee := Go.Callee.value (Go.Operand.func 10), args := #[Go.Operand.tmp 24], argTypes := #[26] }, type := 9, pos := "law.go:219", after := #[{ on := 0, ground := Go.Ground.data }], guard := none }) rfl (fun K hK => ?_) AllReadyH.nil
    go_simp
    refine (DA.out _ (HT.out.below (bstep B hHeld.2.2.2.2.2.2.2.2.2.2.2.2.2.2.2.2.2.2))).mono ?_
    rintro e v1 ⟨rfl, hb1⟩
    have HBx := Lib.hid (bstep hHeld.2.2.2.2.2.2.2.2.2.2.2.2.2.2.2.2.2.2 hb1)
    clear hHeld hb1
    refine hK.out _ _ ?_ (fun hHeld => ?_)
    · exact keep49 PD.out PT.out PM.out PG.out HBx.out
    clear hK K HBx
    try simp only [Act.put, List.setIfInBounds_toArray, List.set_cons_zero, List.set_cons_succ]
    refine wpAnyH_take (i := 2) (oi := { dst := some 26, op := Go.Op.binOp Go.BinOp.neq 9 (Go.Operand.tmp 25) (Go.Operand.const (Go.Value.string { data := #[] })) 9, type := 4, pos := "law.go:219", after := #[{ on := 1, ground := Go.Ground.data }], guard := none }) (v := ?_) rfl (by kernel_rfl) (by kernel_rfl) (by kernel_rfl) (fun _ _ _ h => h) (Or.inl ⟨by rfl, ?_⟩) (by assumption) ?_
    rotate_left
    · intro w hSw
      try dsimp only at hSw
      go_simp
      try (rw [if_neg (by omega)])
      try with_reducible rfl
    try simp only [Act.put, List.setIfInBounds_toArray, List.set_cons_zero, List.set_cons_succ]
    refine wpAnyH_ready (rs := [4]) (by kernel_rfl) (by simp) ?_
    refine AllReadyH.cons (o := { dst := some 28, op := Go.Op.call { callee := Go.Callee.value (Go.Operand.func 21), args := #[Go.Operand.tmp 27], argTypes := #[26] }, type := 4, pos := "law.go:219", after := #[{ on := 3, ground := Go.Ground.data }, { on := 1, ground := Go.Ground.chain }], guard := none }) rfl (fun K hK => ?_) AllReadyH.nil
    go_simp
    refine (MD.out _).mono ?_
    rintro e v2 ⟨rfl, hb2⟩
    have HBx := Lib.hid (bstep hHeld.2.2.2.2.2.2.2.2.2.2.2.2.2.2.2.2.2.2 hb2)
    clear hHeld hb2
    refine hK.out _ _ ?_ (fun hHeld => ?_)
    · exact keep49 PD.out PT.out PM.out PG.out HBx.out
    clear hK K HBx
    try simp only [Act.put, List.setIfInBounds_toArray, List.set_cons_zero, List.set_cons_succ]
    refine wpAnyH_take (i := 5) (oi := { dst := some 29, op := Go.Op.binOp Go.BinOp.eql 4 (Go.Operand.tmp 26) (Go.Operand.tmp 28) 4, type := 4, pos := "law.go:219", after := #[{ on := 2, ground := Go.Ground.data }, { on := 4, ground := Go.Ground.data }], guard := none }) (v := ?_) rfl (by kernel_rfl) (by kernel_rfl) (by kernel_rfl) (fun _ _ _ h => h) (Or.inl ⟨by rfl, ?_⟩) (by assumption) ?_
    rotate_left
    · intro w hSw
      try dsimp only at hSw
      go_simp
      try (rw [if_neg (by omega)])
      try with_reducible rfl
    try simp only [Act.put, List.setIfInBounds_toArray, List.set_cons_zero, List.set_cons_succ]
    refine wpAnyH_take (i := 6) (oi := { dst := some 30, op := Go.Op.move (Go.Operand.tmp 29), type := 4, pos := "law.go:219", after := #[{ on := 5, ground := Go.Ground.data }, { on := 4, ground := Go.Ground.chain }], guard := none }) (v := ?_) rfl (by kernel_rfl) (by kernel_rfl) (by kernel_rfl) (fun _ _ _ h => h) (Or.inl ⟨by rfl, ?_⟩) (by assumption) ?_
    rotate_left
    · intro w hSw
      try dsimp only at hSw
      go_simp
      try (rw [if_neg (by omega)])
      try with_reducible rfl
    try simp only [Act.put, List.setIfInBounds_toArray, List.set_cons_zero, List.set_cons_succ]
    refine wpAnyH_take (i := 7) (oi := { dst := some 31, op := Go.Op.load 28 (Go.Operand.tmp 5), type := 28, pos := "law.go:219", after := #[{ on := 6, ground := Go.Ground.guard }], guard := some (6, true) }) (v := ?_) rfl (by kernel_rfl) (by kernel_rfl) (by kernel_rfl) (fun _ _ _ h => h) (Or.inl ⟨by rfl, ?_⟩) (by assumption) ?_
    rotate_left
    · intro w hSw
      try dsimp only at hSw
      go_simp
      try (rw [if_neg (by omega)])
      try with_reducible rfl
    try simp only [Act.put, List.setIfInBounds_toArray, List.set_cons_zero, List.set_cons_succ]
    refine wpAnyH_take (i := 10) (oi := { dst := some 34, op := Go.Op.load 28 (Go.Operand.tmp 5), type := 28, pos := "law.go:219", after := #[{ on := 6, ground := Go.Ground.guard }], guard := some (6, true) }) (v := ?_) rfl (by kernel_rfl) (by kernel_rfl) (by kernel_rfl) (fun _ _ _ h => h) (Or.inl ⟨by rfl, ?_⟩) (by assumption) ?_
    rotate_left
    · intro w hSw
      try dsimp only at hSw
      go_simp
      try (rw [if_neg (by omega)])
      try with_reducible rfl
    try simp only [Act.put, List.setIfInBounds_toArray, List.set_cons_zero, List.set_cons_succ]
    refine wpAnyH_ready (rs := [8]) (by kernel_rfl) (by simp) ?_
    refine AllReadyH.cons (o := { dst := some 32, op := Go.Op.call { callee := Go.Callee.value (Go.Operand.func 12), args := #[Go.Operand.tmp 31], argTypes := #[28] }, type := 9, pos := "law.go:219", after := #[{ on := 7, ground := Go.Ground.data }, { on := 6, ground := Go.Ground.chain }, { on := 6, ground := Go.Ground.guard }], guard := some (6, true) }) rfl (fun K hK => ?_) AllReadyH.nil
    go_simp
    refine (TA.out _ (HT.out.below (bstep B hHeld.2.2.2.2.2.2.2.2.2.2.2.2.2.2.2.2.2.2))).mono ?_
    rintro e v3 ⟨rfl, hb3⟩
    have HBx := Lib.hid (bstep hHeld.2.2.2.2.2.2.2.2.2.2.2.2.2.2.2.2.2.2 hb3)
    clear hHeld hb3
    refine hK.out _ _ ?_ (fun hHeld => ?_)
    · exact keep49 PD.out PT.out PM.out PG.out HBx.out
    clear hK K HBx
    try simp only [Act.put, List.setIfInBounds_toArray, List.set_cons_zero, List.set_cons_succ]
    refine wpAnyH_take (i := 9) (oi := { dst := some 33, op := Go.Op.binOp Go.BinOp.neq 9 (Go.Operand.tmp 32) (Go.Operand.const (Go.Value.string { data := #[] })) 9, type := 4, pos := "law.go:219", after := #[{ on := 8, ground := Go.Ground.data }, { on := 6, ground := Go.Ground.guard }], guard := some (6, true) }) (v := ?_) rfl (by kernel_rfl) (by kernel_rfl) (by kernel_rfl) (fun _ _ _ h => h) (Or.inl ⟨by rfl, ?_⟩) (by assumption) ?_
    rotate_left
    · intro w hSw
      try dsimp only at hSw
      go_simp
      try (rw [if_neg (by omega)])
      try with_reducible rfl
    try simp only [Act.put, List.setIfInBounds_toArray, List.set_cons_zero, List.set_cons_succ]
    refine wpAnyH_ready (rs := [11]) (by kernel_rfl) (by simp) ?_
    refine AllReadyH.cons (o := { dst := some 35, op := Go.Op.call { callee := Go.Callee.value (Go.Operand.func 22), args := #[Go.Operand.tmp 34], argTypes := #[28] }, type := 4, pos := "law.go:219", after := #[{ on := 10, ground := Go.Ground.data }, { on := 8, ground := Go.Ground.chain }, { on := 6, ground := Go.Ground.guard }], guard := some (6, true) }) rfl (fun K hK => ?_) AllReadyH.nil
    go_simp
    refine (MM.out _).mono ?_
    rintro e v4 ⟨rfl, hb4⟩
    have HBx := Lib.hid (bstep hHeld.2.2.2.2.2.2.2.2.2.2.2.2.2.2.2.2.2.2 hb4)
    clear hHeld hb4
    refine hK.out _ _ ?_ (fun hHeld => ?_)
    · exact keep49 PD.out PT.out PM.out PG.out HBx.out
    clear hK K HBx
    try simp only [Act.put, List.setIfInBounds_toArray, List.set_cons_zero, List.set_cons_succ]
    refine wpAnyH_take (i := 12) (oi := { dst := some 36, op := Go.Op.binOp Go.BinOp.eql 4 (Go.Operand.tmp 33) (Go.Operand.tmp 35) 4, type := 4, pos := "law.go:219", after := #[{ on := 9, ground := Go.Ground.data }, { on := 11, ground := Go.Ground.data }, { on := 6, ground := Go.Ground.guard }], guard := some (6, true) }) (v := ?_) rfl (by kernel_rfl) (by kernel_rfl) (by kernel_rfl) (fun _ _ _ h => h) (Or.inl ⟨by rfl, ?_⟩) (by assumption) ?_
    rotate_left
    · intro w hSw
      try dsimp only at hSw
      go_simp
      try (rw [if_neg (by omega)])
      try with_reducible rfl
    try simp only [Act.put, List.setIfInBounds_toArray, List.set_cons_zero, List.set_cons_succ]
    refine wpAnyH_take (i := 13) (oi := { dst := some 37, op := Go.Op.pick (Go.Operand.tmp 30) (Go.Operand.tmp 36) (Go.Operand.const (Go.Value.bool false)), type := 4, pos := "law.go:219", after := #[{ on := 6, ground := Go.Ground.data }, { on := 12, ground := Go.Ground.data }], guard := none }) (v := ?_) rfl (by kernel_rfl) (by kernel_rfl) (by kernel_rfl) (fun _ _ _ h => h) (Or.inl ⟨by rfl, ?_⟩) (by assumption) ?_
    rotate_left
    · intro w hSw
      try dsimp only at hSw
      go_simp
      try (rw [if_neg (by omega)])
      try with_reducible rfl
    try simp only [Act.put, List.setIfInBounds_toArray, List.set_cons_zero, List.set_cons_succ]
    refine wpAnyH_take (i := 14) (oi := { dst := some 38, op := Go.Op.move (Go.Operand.tmp 37), type := 4, pos := "law.go:219", after := #[{ on := 13, ground := Go.Ground.data }, { on := 11, ground := Go.Ground.chain }], guard := none }) (v := ?_) rfl (by kernel_rfl) (by kernel_rfl) (by kernel_rfl) (fun _ _ _ h => h) (Or.inl ⟨by rfl, ?_⟩) (by assumption) ?_
    rotate_left
    · intro w hSw
      try dsimp only at hSw
      go_simp
      try (rw [if_neg (by omega)])
      try with_reducible rfl
    try simp only [Act.put, List.setIfInBounds_toArray, List.set_cons_zero, List.set_cons_succ]
    refine wpAnyH_take (i := 15) (oi := { dst := some 39, op := Go.Op.load 30 (Go.Operand.tmp 9), type := 30, pos := "law.go:219", after := #[{ on := 14, ground := Go.Ground.guard }], guard := some (14, true) }) (v := ?_) rfl (by kernel_rfl) (by kernel_rfl) (by kernel_rfl) (fun _ _ _ h => h) (Or.inl ⟨by rfl, ?_⟩) (by assumption) ?_
    rotate_left
    · intro w hSw
      try dsimp only at hSw
      go_simp
      try (rw [if_neg (by omega)])
      try with_reducible rfl
    try simp only [Act.put, List.setIfInBounds_toArray, List.set_cons_zero, List.set_cons_succ]
    refine wpAnyH_take (i := 18) (oi := { dst := some 42, op := Go.Op.load 30 (Go.Operand.tmp 9), type := 30, pos := "law.go:219", after := #[{ on := 14, ground := Go.Ground.guard }], guard := some (14, true) }) (v := ?_) rfl (by kernel_rfl) (by kernel_rfl) (by kernel_rfl) (fun _ _ _ h => h) (Or.inl ⟨by rfl, ?_⟩) (by assumption) ?_
    rotate_left
    · intro w hSw
      try dsimp only at hSw
      go_simp
      try (rw [if_neg (by omega)])
      try with_reducible rfl
    try simp only [Act.put, List.setIfInBounds_toArray, List.set_cons_zero, List.set_cons_succ]
    refine wpAnyH_ready (rs := [16]) (by kernel_rfl) (by simp) ?_
    refine AllReadyH.cons (o := { dst := some 40, op := Go.Op.call { callee := Go.Callee.value (Go.Operand.func 14), args := #[Go.Operand.tmp 39], argTypes := #[30] }, type := 9, pos := "law.go:219", after := #[{ on := 15, ground := Go.Ground.data }, { on := 14, ground := Go.Ground.chain }, { on := 14, ground := Go.Ground.guard }], guard := some (14, true) }) rfl (fun K hK => ?_) AllReadyH.nil
    go_simp
    refine (NA.out _ (HT.out.below (bstep B hHeld.2.2.2.2.2.2.2.2.2.2.2.2.2.2.2.2.2.2))).mono ?_
    rintro e v5 ⟨rfl, hb5⟩
    have HBx := Lib.hid (bstep hHeld.2.2.2.2.2.2.2.2.2.2.2.2.2.2.2.2.2.2 hb5)
    clear hHeld hb5
    refine hK.out _ _ ?_ (fun hHeld => ?_)
    · exact keep49 PD.out PT.out PM.out PG.out HBx.out
    clear hK K HBx
    try simp only [Act.put, List.setIfInBounds_toArray, List.set_cons_zero, List.set_cons_succ]
    refine wpAnyH_take (i := 17) (oi := { dst := some 41, op := Go.Op.binOp Go.BinOp.neq 9 (Go.Operand.tmp 40) (Go.Operand.const (Go.Value.string { data := #[] })) 9, type := 4, pos := "law.go:219", after := #[{ on := 16, ground := Go.Ground.data }, { on := 14, ground := Go.Ground.guard }], guard := some (14, true) }) (v := ?_) rfl (by kernel_rfl) (by kernel_rfl) (by kernel_rfl) (fun _ _ _ h => h) (Or.inl ⟨by rfl, ?_⟩) (by assumption) ?_
    rotate_left
    · intro w hSw
      try dsimp only at hSw
      go_simp
      try (rw [if_neg (by omega)])
      try with_reducible rfl
    try simp only [Act.put, List.setIfInBounds_toArray, List.set_cons_zero, List.set_cons_succ]
    refine wpAnyH_ready (rs := [19]) (by kernel_rfl) (by simp) ?_
    refine AllReadyH.cons (o := { dst := some 43, op := Go.Op.call { callee := Go.Callee.value (Go.Operand.func 23), args := #[Go.Operand.tmp 42], argTypes := #[30] }, type := 4, pos := "law.go:219", after := #[{ on := 18, ground := Go.Ground.data }, { on := 16, ground := Go.Ground.chain }, { on := 14, ground := Go.Ground.guard }], guard := some (14, true) }) rfl (fun K hK => ?_) AllReadyH.nil
    go_simp
    refine (MN.out _).mono ?_
    rintro e v6 ⟨rfl, hb6⟩
    have HBx := Lib.hid (bstep hHeld.2.2.2.2.2.2.2.2.2.2.2.2.2.2.2.2.2.2 hb6)
    clear hHeld hb6
    refine hK.out _ _ ?_ (fun hHeld => ?_)
    · exact keep49 PD.out PT.out PM.out PG.out HBx.out
    clear hK K HBx
    try simp only [Act.put, List.setIfInBounds_toArray, List.set_cons_zero, List.set_cons_succ]
    refine wpAnyH_take (i := 20) (oi := { dst := some 44, op := Go.Op.binOp Go.BinOp.eql 4 (Go.Operand.tmp 41) (Go.Operand.tmp 43) 4, type := 4, pos := "law.go:219", after := #[{ on := 17, ground := Go.Ground.data }, { on := 19, ground := Go.Ground.data }, { on := 14, ground := Go.Ground.guard }], guard := some (14, true) }) (v := ?_) rfl (by kernel_rfl) (by kernel_rfl) (by kernel_rfl) (fun _ _ _ h => h) (Or.inl ⟨by rfl, ?_⟩) (by assumption) ?_
    rotate_left
    · intro w hSw
      try dsimp only at hSw
      go_simp
      try (rw [if_neg (by omega)])
      try with_reducible rfl
    try simp only [Act.put, List.setIfInBounds_toArray, List.set_cons_zero, List.set_cons_succ]
    refine wpAnyH_take (i := 21) (oi := { dst := some 45, op := Go.Op.pick (Go.Operand.tmp 38) (Go.Operand.tmp 44) (Go.Operand.const (Go.Value.bool false)), type := 4, pos := "law.go:219", after := #[{ on := 14, ground := Go.Ground.data }, { on := 20, ground := Go.Ground.data }], guard := none }) (v := ?_) rfl (by kernel_rfl) (by kernel_rfl) (by kernel_rfl) (fun _ _ _ h => h) (Or.inl ⟨by rfl, ?_⟩) (by assumption) ?_
    rotate_left
    · intro w hSw
      try dsimp only at hSw
      go_simp
      try (rw [if_neg (by omega)])
      try with_reducible rfl
    try simp only [Act.put, List.setIfInBounds_toArray, List.set_cons_zero, List.set_cons_succ]
    refine wpAnyH_take (i := 22) (oi := { dst := some 46, op := Go.Op.move (Go.Operand.tmp 45), type := 4, pos := "law.go:219", after := #[{ on := 21, ground := Go.Ground.data }, { on := 19, ground := Go.Ground.chain }], guard := none }) (v := ?_) rfl (by kernel_rfl) (by kernel_rfl) (by kernel_rfl) (fun _ _ _ h => h) (Or.inl ⟨by rfl, ?_⟩) (by assumption) ?_
    rotate_left
    · intro w hSw
      try dsimp only at hSw
      go_simp
      try (rw [if_neg (by omega)])
      try with_reducible rfl
    try simp only [Act.put, List.setIfInBounds_toArray, List.set_cons_zero, List.set_cons_succ]
    refine wpAnyH_take (i := 23) (oi := { dst := some 47, op := Go.Op.load 30 (Go.Operand.tmp 10), type := 30, pos := "law.go:219", after := #[{ on := 22, ground := Go.Ground.guard }], guard := some (22, true) }) (v := ?_) rfl (by kernel_rfl) (by kernel_rfl) (by kernel_rfl) (fun _ _ _ h => h) (Or.inl ⟨by rfl, ?_⟩) (by assumption) ?_
    rotate_left
    · intro w hSw
      try dsimp only at hSw
      go_simp
      try (rw [if_neg (by omega)])
      try with_reducible rfl
    try simp only [Act.put, List.setIfInBounds_toArray, List.set_cons_zero, List.set_cons_succ]
    refine wpAnyH_ready (rs := [24]) (by kernel_rfl) (by simp) ?_
    refine AllReadyH.cons (o := { dst := some 48, op := Go.Op.call { callee := Go.Callee.value (Go.Operand.func 14), args := #[Go.Operand.tmp 47], argTypes := #[30] }, type := 9, pos := "law.go:219", after := #[{ on := 23, ground := Go.Ground.data }, { on := 22, ground := Go.Ground.chain }, { on := 22, ground := Go.Ground.guard }], guard := some (22, true) }) rfl (fun K hK => ?_) AllReadyH.nil
    go_simp
    refine (NG.out _ (HT.out.below (bstep B hHeld.2.2.2.2.2.2.2.2.2.2.2.2.2.2.2.2.2.2))).mono ?_
    rintro e v7 ⟨rfl, hb7⟩
    have HBx := Lib.hid (bstep hHeld.2.2.2.2.2.2.2.2.2.2.2.2.2.2.2.2.2.2 hb7)
    clear hHeld hb7
    refine hK.out _ _ ?_ (fun hHeld => ?_)
    · exact keep49 PD.out PT.out PM.out PG.out HBx.out
    clear hK K HBx
    try simp only [Act.put, List.setIfInBounds_toArray, List.set_cons_zero, List.set_cons_succ]
    refine wpAnyH_take (i := 25) (oi := { dst := some 49, op := Go.Op.binOp Go.BinOp.neq 9 (Go.Operand.tmp 48) (Go.Operand.const (Go.Value.string { data := #[] })) 9, type := 4, pos := "law.go:219", after := #[{ on := 24, ground := Go.Ground.data }, { on := 22, ground := Go.Ground.guard }], guard := some (22, true) }) (v := ?_) rfl (by kernel_rfl) (by kernel_rfl) (by kernel_rfl) (fun _ _ _ h => h) (Or.inl ⟨by rfl, ?_⟩) (by assumption) ?_
    rotate_left
    · intro w hSw
      try dsimp only at hSw
      go_simp
      try (rw [if_neg (by omega)])
      try with_reducible rfl
    try simp only [Act.put, List.setIfInBounds_toArray, List.set_cons_zero, List.set_cons_succ]
    refine wpAnyH_take (i := 26) (oi := { dst := some 50, op := Go.Op.pick (Go.Operand.tmp 46) (Go.Operand.tmp 49) (Go.Operand.const (Go.Value.bool false)), type := 4, pos := "law.go:219", after := #[{ on := 22, ground := Go.Ground.data }, { on := 25, ground := Go.Ground.data }], guard := none }) (v := ?_) rfl (by kernel_rfl) (by kernel_rfl) (by kernel_rfl) (fun _ _ _ h => h) (Or.inl ⟨by rfl, ?_⟩) (by assumption) ?_
    rotate_left
    · intro w hSw
      try dsimp only at hSw
      go_simp
      try (rw [if_neg (by omega)])
      try with_reducible rfl
    try simp only [Act.put, List.setIfInBounds_toArray, List.set_cons_zero, List.set_cons_succ]
    refine wpAnyH_take (i := 27) (oi := { dst := some 8, op := Go.Op.assign (Go.Operand.tmp 50), type := 4, pos := "law.go:219", after := #[{ on := 26, ground := Go.Ground.data }, { on := 24, ground := Go.Ground.chain }, { on := 0, ground := Go.Ground.phase }, { on := 1, ground := Go.Ground.phase }, { on := 2, ground := Go.Ground.phase }, { on := 3, ground := Go.Ground.phase }, { on := 4, ground := Go.Ground.phase }, { on := 5, ground := Go.Ground.phase }, { on := 6, ground := Go.Ground.phase }, { on := 7, ground := Go.Ground.phase }, { on := 8, ground := Go.Ground.phase }, { on := 9, ground := Go.Ground.phase }, { on := 10, ground := Go.Ground.phase }, { on := 11, ground := Go.Ground.phase }, { on := 12, ground := Go.Ground.phase }, { on := 13, ground := Go.Ground.phase }, { on := 14, ground := Go.Ground.phase }, { on := 15, ground := Go.Ground.phase }, { on := 16, ground := Go.Ground.phase }, { on := 17, ground := Go.Ground.phase }, { on := 18, ground := Go.Ground.phase }, { on := 19, ground := Go.Ground.phase }, { on := 20, ground := Go.Ground.phase }, { on := 21, ground := Go.Ground.phase }, { on := 22, ground := Go.Ground.phase }, { on := 23, ground := Go.Ground.phase }, { on := 24, ground := Go.Ground.phase }, { on := 25, ground := Go.Ground.phase }, { on := 26, ground := Go.Ground.phase }], guard := none }) (v := ?_) rfl (by kernel_rfl) (by kernel_rfl) (by kernel_rfl) (fun _ _ _ h => h) (Or.inl ⟨by rfl, ?_⟩) (by assumption) ?_
    rotate_left
    · intro w hSw
      try dsimp only at hSw
      go_simp
      try (rw [if_neg (by omega)])
      try with_reducible rfl
    try simp only [Act.put, List.setIfInBounds_toArray, List.set_cons_zero, List.set_cons_succ]
    refine wpAnyH_done (by kernel_rfl) ?_ _
    replace B := bstep B hHeld.2.2.2.2.2.2.2.2.2.2.2.2.2.2.2.2.2.2
    go_wp2
    go_ret
    exact ⟨rfl, B⟩
  · replace e1 : P.toList.isEmpty = false := e1
    replace e2 : Q.toList.isEmpty = true := e2
    replace e3 : R.toList.isEmpty = true := e3
    have MD := Lib.hid MD0
    have MM := Lib.hid MM0
    have MN := Lib.hid (show ∀ w, Calls Tryd.prog 23 #[Mo y m d s z o] w (Ret (.bool false) w) from MN0)
    clear MD0 MM0 MN0
    go_enter Tryd.func6, Tryd.ntmps6
    go_upto_region 1 with fail
    have PD := Lib.hid (HoldsT.alloc (HoldsT.new rfl) _ : HoldsT ((w.alloc (DtC y m d)).alloc (TmC s z o)) w.heap.size y m d)
    have PT := Lib.hid (HoldsM.new (by simp) : HoldsM ((w.alloc (DtC y m d)).alloc (TmC s z o)) (w.heap.size + 1) s z o)
    have B := ballD1 (ballD1 (Below.refl w.heap.size w) (DtC y m d)) (TmC s z o)
    change Code.wp _ _ _ _ ((w.alloc (DtC y m d)).alloc (TmC s z o))
    generalize ((w.alloc (DtC y m d)).alloc (TmC s z o)) = w0 at *
    obtain ⟨⟨c0_0, c0_1, c0_2⟩, -, c0z⟩ := PD.out
    obtain ⟨⟨c1_0, c1_1, c1_2⟩, -, c1z⟩ := PT.out
    go_wp2_with fail
    refine (AW.out _ (HT.out.below B)).mono ?_
    rintro e w1 ⟨rfl, hb⟩
    replace PD := Lib.hid (PD.out.below hb)
    replace PT := Lib.hid (PT.out.below hb)
    replace B := bstep B hb
    clear hb AW
    clear c0_0 c0_1 c0_2 c0z c1_0 c1_1 c1_2 c1z
    obtain ⟨⟨c0_0, c0_1, c0_2⟩, -, c0z⟩ := PD.out
    obtain ⟨⟨c1_0, c1_1, c1_2⟩, -, c1z⟩ := PT.out
    replace PD := Lib.hid (PD.out.alloc (MoC y m d s z o))
    replace PT := Lib.hid (PT.out.alloc (MoC y m d s z o))
    have PM := Lib.hid (HoldsN.new rfl : HoldsN (w1.alloc (MoC y m d s z o)) w1.heap.size y m d s z o)
    replace B := ballD1 B (MoC y m d s z o)
    go_upto_region 4 with fail
    change Code.wp _ _ _ _ (w1.alloc (MoC y m d s z o))
    clear c0_0 c0_1 c0_2 c0z c1_0 c1_1 c1_2 c1z
    generalize w1.alloc (MoC y m d s z o) = w2 at *
    obtain ⟨gPM, hg⟩ : ∃ g, g = w1.heap.size := ⟨_, rfl⟩
    rw [← hg] at PM ⊢
    clear hg
    obtain ⟨⟨c0_0, c0_1, c0_2⟩, -, c0z⟩ := PD.out
    obtain ⟨⟨c1_0, c1_1, c1_2⟩, -, c1z⟩ := PT.out
    obtain ⟨⟨c2_0, c2_1, c2_2, c2_3, c2_4, c2_5⟩, -, c2z⟩ := PM.out
    go_wp2_with fail
    refine (MK.out _).mono ?_
    rintro e w3 ⟨rfl, hb⟩
    replace PD := Lib.hid (PD.out.below hb)
    replace PT := Lib.hid (PT.out.below hb)
    replace PM := Lib.hid (PM.out.below hb)
    replace B := bstep B hb
    clear hb MK
    clear c0_0 c0_1 c0_2 c0z c1_0 c1_1 c1_2 c1z c2_0 c2_1 c2_2 c2_3 c2_4 c2_5 c2z
    obtain ⟨⟨c0_0, c0_1, c0_2⟩, -, c0z⟩ := PD.out
    obtain ⟨⟨c1_0, c1_1, c1_2⟩, -, c1z⟩ := PT.out
    obtain ⟨⟨c2_0, c2_1, c2_2, c2_3, c2_4, c2_5⟩, -, c2z⟩ := PM.out
    go_wp2_with fail
    refine (MT.out _).mono ?_
    rintro e w4 ⟨rfl, hb⟩
    replace PD := Lib.hid (PD.out.below hb)
    replace PT := Lib.hid (PT.out.below hb)
    replace PM := Lib.hid (PM.out.below hb)
    replace B := bstep B hb
    clear hb MT
    clear c0_0 c0_1 c0_2 c0z c1_0 c1_1 c1_2 c1z c2_0 c2_1 c2_2 c2_3 c2_4 c2_5 c2z
    replace PD := Lib.hid (PD.out.alloc (MoC Y M E A true O))
    replace PT := Lib.hid (PT.out.alloc (MoC Y M E A true O))
    replace PM := Lib.hid (PM.out.alloc (MoC Y M E A true O))
    have PG := Lib.hid (HoldsN.new rfl : HoldsN (w4.alloc (MoC Y M E A true O)) w4.heap.size Y M E A true O)
    replace B := ballD1 B (MoC Y M E A true O)
    go_upto_region 5 with fail
    change Code.wp _ _ _ _ (w4.alloc (MoC Y M E A true O))
    generalize w4.alloc (MoC Y M E A true O) = w5 at *
    obtain ⟨gPG, hg⟩ : ∃ g, g = w4.heap.size := ⟨_, rfl⟩
    rw [← hg] at PG ⊢
    clear hg
    go_upto_region 5 with fail
    generalize w5 = V at *
    refine wp_region_held_drew (S := fun w' => w'.cell? ⟨w.heap.size, 0, none⟩ = some (.int .i64 y) ∧ w'.cell? ⟨w.heap.size, 1, none⟩ = some (.int .i64 m) ∧ w'.cell? ⟨w.heap.size, 2, none⟩ = some (.int .i64 d) ∧ w'.cell? ⟨w.heap.size + 1, 0, none⟩ = some (.int .i64 s) ∧ w'.cell? ⟨w.heap.size + 1, 1, none⟩ = some (.bool z) ∧ w'.cell? ⟨w.heap.size + 1, 2, none⟩ = some (.int .i64 o) ∧ w'.cell? ⟨gPM, 0, none⟩ = some (.int .i64 y) ∧ w'.cell? ⟨gPM, 1, none⟩ = some (.int .i64 m) ∧ w'.cell? ⟨gPM, 2, none⟩ = some (.int .i64 d) ∧ w'.cell? ⟨gPM, 3, none⟩ = some (.int .i64 s) ∧ w'.cell? ⟨gPM, 4, none⟩ = some (.bool z) ∧ w'.cell? ⟨gPM, 5, none⟩ = some (.int .i64 o) ∧ w'.cell? ⟨gPG, 0, none⟩ = some (.int .i64 Y) ∧ w'.cell? ⟨gPG, 1, none⟩ = some (.int .i64 M) ∧ w'.cell? ⟨gPG, 2, none⟩ = some (.int .i64 E) ∧ w'.cell? ⟨gPG, 3, none⟩ = some (.int .i64 A) ∧ w'.cell? ⟨gPG, 4, none⟩ = some (.bool true) ∧ w'.cell? ⟨gPG, 5, none⟩ = some (.int .i64 O) ∧ Below V.heap.size V w') (by kernel_rfl) ?_ (fun hHeld => ?_)
    · exact keep49 PD.out PT.out PM.out PG.out (Below.refl _ _).drew
    refine wpAnyH_take (i := 0) (oi := { dst := some 24, op := Go.Op.load 26 (Go.Operand.tmp 4), type := 26, pos := "law.go:219", after := #[], guard := none }) (v := ?_) rfl (by kernel_rfl) (by kernel_rfl) (by kernel_rfl) (fun _ _ _ h => h) (Or.inl ⟨by rfl, ?_⟩) (by assumption) ?_
    rotate_left
    · intro w hSw
      try dsimp only at hSw
      go_simp
      try (rw [if_neg (by omega)])
      try with_reducible rfl
    try simp only [Act.put, List.setIfInBounds_toArray, List.set_cons_zero, List.set_cons_succ]
    refine wpAnyH_take (i := 3) (oi := { dst := some 27, op := Go.Op.load 26 (Go.Operand.tmp 4), type := 26, pos := "law.go:219", after := #[], guard := none }) (v := ?_) rfl (by kernel_rfl) (by kernel_rfl) (by kernel_rfl) (fun _ _ _ h => h) (Or.inl ⟨by rfl, ?_⟩) (by assumption) ?_
    rotate_left
    · intro w hSw
      try dsimp only at hSw
      go_simp
      try (rw [if_neg (by omega)])
      try with_reducible rfl
    try simp only [Act.put, List.setIfInBounds_toArray, List.set_cons_zero, List.set_cons_succ]
    refine wpAnyH_ready (rs := [1]) (by kernel_rfl) (by simp) ?_
    refine AllReadyH.cons (o := { dst := some 25, op := Go.Op.call { callee := Go.Callee.value (Go.Operand.func 10), args := #[Go.Operand.tmp 24], argTypes := #[26] }, type := 9, pos := "law.go:219", after := #[{ on := 0, ground := Go.Ground.data }], guard := none }) rfl (fun K hK => ?_) AllReadyH.nil
    go_simp
    refine (DA.out _ (HT.out.below (bstep B hHeld.2.2.2.2.2.2.2.2.2.2.2.2.2.2.2.2.2.2))).mono ?_
    rintro e v1 ⟨rfl, hb1⟩
    have HBx := Lib.hid (bstep hHeld.2.2.2.2.2.2.2.2.2.2.2.2.2.2.2.2.2.2 hb1)
    clear hHeld hb1
    refine hK.out _ _ ?_ (fun hHeld => ?_)
    · exact keep49 PD.out PT.out PM.out PG.out HBx.out
    clear hK K HBx
    try simp only [Act.put, List.setIfInBounds_toArray, List.set_cons_zero, List.set_cons_succ]
    refine wpAnyH_take (i := 2) (oi := { dst := some 26, op := Go.Op.binOp Go.BinOp.neq 9 (Go.Operand.tmp 25) (Go.Operand.const (Go.Value.string { data := #[] })) 9, type := 4, pos := "law.go:219", after := #[{ on := 1, ground := Go.Ground.data }], guard := none }) (v := ?_) rfl (by kernel_rfl) (by kernel_rfl) (by kernel_rfl) (fun _ _ _ h => h) (Or.inl ⟨by rfl, ?_⟩) (by assumption) ?_
    rotate_left
    · intro w hSw
      try dsimp only at hSw
      go_simp
      try (rw [if_neg (by omega)])
      try with_reducible rfl
    try simp only [Act.put, List.setIfInBounds_toArray, List.set_cons_zero, List.set_cons_succ]
    refine wpAnyH_ready (rs := [4]) (by kernel_rfl) (by simp) ?_
    refine AllReadyH.cons (o := { dst := some 28, op := Go.Op.call { callee := Go.Callee.value (Go.Operand.func 21), args := #[Go.Operand.tmp 27], argTypes := #[26] }, type := 4, pos := "law.go:219", after := #[{ on := 3, ground := Go.Ground.data }, { on := 1, ground := Go.Ground.chain }], guard := none }) rfl (fun K hK => ?_) AllReadyH.nil
    go_simp
    refine (MD.out _).mono ?_
    rintro e v2 ⟨rfl, hb2⟩
    have HBx := Lib.hid (bstep hHeld.2.2.2.2.2.2.2.2.2.2.2.2.2.2.2.2.2.2 hb2)
    clear hHeld hb2
    refine hK.out _ _ ?_ (fun hHeld => ?_)
    · exact keep49 PD.out PT.out PM.out PG.out HBx.out
    clear hK K HBx
    try simp only [Act.put, List.setIfInBounds_toArray, List.set_cons_zero, List.set_cons_succ]
    refine wpAnyH_take (i := 5) (oi := { dst := some 29, op := Go.Op.binOp Go.BinOp.eql 4 (Go.Operand.tmp 26) (Go.Operand.tmp 28) 4, type := 4, pos := "law.go:219", after := #[{ on := 2, ground := Go.Ground.data }, { on := 4, ground := Go.Ground.data }], guard := none }) (v := ?_) rfl (by kernel_rfl) (by kernel_rfl) (by kernel_rfl) (fun _ _ _ h => h) (Or.inl ⟨by rfl, ?_⟩) (by assumption) ?_
    rotate_left
    · intro w hSw
      try dsimp only at hSw
      go_simp
      try (rw [if_neg (by omega)])
      try with_reducible rfl
    try simp only [Act.put, List.setIfInBounds_toArray, List.set_cons_zero, List.set_cons_succ]
    refine wpAnyH_take (i := 6) (oi := { dst := some 30, op := Go.Op.move (Go.Operand.tmp 29), type := 4, pos := "law.go:219", after := #[{ on := 5, ground := Go.Ground.data }, { on := 4, ground := Go.Ground.chain }], guard := none }) (v := ?_) rfl (by kernel_rfl) (by kernel_rfl) (by kernel_rfl) (fun _ _ _ h => h) (Or.inl ⟨by rfl, ?_⟩) (by assumption) ?_
    rotate_left
    · intro w hSw
      try dsimp only at hSw
      go_simp
      try (rw [if_neg (by omega)])
      try with_reducible rfl
    try simp only [Act.put, List.setIfInBounds_toArray, List.set_cons_zero, List.set_cons_succ]
    refine wpAnyH_take (i := 7) (oi := { dst := some 31, op := Go.Op.load 28 (Go.Operand.tmp 5), type := 28, pos := "law.go:219", after := #[{ on := 6, ground := Go.Ground.guard }], guard := some (6, true) }) (v := ?_) rfl (by kernel_rfl) (by kernel_rfl) (by kernel_rfl) (fun _ _ _ h => h) (Or.inl ⟨by rfl, ?_⟩) (by assumption) ?_
    rotate_left
    · intro w hSw
      try dsimp only at hSw
      go_simp
      try (rw [if_neg (by omega)])
      try with_reducible rfl
    try simp only [Act.put, List.setIfInBounds_toArray, List.set_cons_zero, List.set_cons_succ]
    refine wpAnyH_take (i := 10) (oi := { dst := some 34, op := Go.Op.load 28 (Go.Operand.tmp 5), type := 28, pos := "law.go:219", after := #[{ on := 6, ground := Go.Ground.guard }], guard := some (6, true) }) (v := ?_) rfl (by kernel_rfl) (by kernel_rfl) (by kernel_rfl) (fun _ _ _ h => h) (Or.inl ⟨by rfl, ?_⟩) (by assumption) ?_
    rotate_left
    · intro w hSw
      try dsimp only at hSw
      go_simp
      try (rw [if_neg (by omega)])
      try with_reducible rfl
    try simp only [Act.put, List.setIfInBounds_toArray, List.set_cons_zero, List.set_cons_succ]
    refine wpAnyH_ready (rs := [8]) (by kernel_rfl) (by simp) ?_
    refine AllReadyH.cons (o := { dst := some 32, op := Go.Op.call { callee := Go.Callee.value (Go.Operand.func 12), args := #[Go.Operand.tmp 31], argTypes := #[28] }, type := 9, pos := "law.go:219", after := #[{ on := 7, ground := Go.Ground.data }, { on := 6, ground := Go.Ground.chain }, { on := 6, ground := Go.Ground.guard }], guard := some (6, true) }) rfl (fun K hK => ?_) AllReadyH.nil
    go_simp
    refine (TA.out _ (HT.out.below (bstep B hHeld.2.2.2.2.2.2.2.2.2.2.2.2.2.2.2.2.2.2))).mono ?_
    rintro e v3 ⟨rfl, hb3⟩
    have HBx := Lib.hid (bstep hHeld.2.2.2.2.2.2.2.2.2.2.2.2.2.2.2.2.2.2 hb3)
    clear hHeld hb3
    refine hK.out _ _ ?_ (fun hHeld => ?_)
    · exact keep49 PD.out PT.out PM.out PG.out HBx.out
    clear hK K HBx
    try simp only [Act.put, List.setIfInBounds_toArray, List.set_cons_zero, List.set_cons_succ]
    refine wpAnyH_take (i := 9) (oi := { dst := some 33, op := Go.Op.binOp Go.BinOp.neq 9 (Go.Operand.tmp 32) (Go.Operand.const (Go.Value.string { data := #[] })) 9, type := 4, pos := "law.go:219", after := #[{ on := 8, ground := Go.Ground.data }, { on := 6, ground := Go.Ground.guard }], guard := some (6, true) }) (v := ?_) rfl (by kernel_rfl) (by kernel_rfl) (by kernel_rfl) (fun _ _ _ h => h) (Or.inl ⟨by rfl, ?_⟩) (by assumption) ?_
    rotate_left
    · intro w hSw
      try dsimp only at hSw
      go_simp
      try (rw [if_neg (by omega)])
      try with_reducible rfl
    try simp only [Act.put, List.setIfInBounds_toArray, List.set_cons_zero, List.set_cons_succ]
    refine wpAnyH_ready (rs := [11]) (by kernel_rfl) (by simp) ?_
    refine AllReadyH.cons (o := { dst := some 35, op := Go.Op.call { callee := Go.Callee.value (Go.Operand.func 22), args := #[Go.Operand.tmp 34], argTypes := #[28] }, type := 4, pos := "law.go:219", after := #[{ on := 10, ground := Go.Ground.data }, { on := 8, ground := Go.Ground.chain }, { on := 6, ground := Go.Ground.guard }], guard := some (6, true) }) rfl (fun K hK => ?_) AllReadyH.nil
    go_simp
    refine (MM.out _).mono ?_
    rintro e v4 ⟨rfl, hb4⟩
    have HBx := Lib.hid (bstep hHeld.2.2.2.2.2.2.2.2.2.2.2.2.2.2.2.2.2.2 hb4)
    clear hHeld hb4
    refine hK.out _ _ ?_ (fun hHeld => ?_)
    · exact keep49 PD.out PT.out PM.out PG.out HBx.out
    clear hK K HBx
    try simp only [Act.put, List.setIfInBounds_toArray, List.set_cons_zero, List.set_cons_succ]
    refine wpAnyH_take (i := 12) (oi := { dst := some 36, op := Go.Op.binOp Go.BinOp.eql 4 (Go.Operand.tmp 33) (Go.Operand.tmp 35) 4, type := 4, pos := "law.go:219", after := #[{ on := 9, ground := Go.Ground.data }, { on := 11, ground := Go.Ground.data }, { on := 6, ground := Go.Ground.guard }], guard := some (6, true) }) (v := ?_) rfl (by kernel_rfl) (by kernel_rfl) (by kernel_rfl) (fun _ _ _ h => h) (Or.inl ⟨by rfl, ?_⟩) (by assumption) ?_
    rotate_left
    · intro w hSw
      try dsimp only at hSw
      go_simp
      try (rw [if_neg (by omega)])
      try with_reducible rfl
    try simp only [Act.put, List.setIfInBounds_toArray, List.set_cons_zero, List.set_cons_succ]
    refine wpAnyH_take (i := 13) (oi := { dst := some 37, op := Go.Op.pick (Go.Operand.tmp 30) (Go.Operand.tmp 36) (Go.Operand.const (Go.Value.bool false)), type := 4, pos := "law.go:219", after := #[{ on := 6, ground := Go.Ground.data }, { on := 12, ground := Go.Ground.data }], guard := none }) (v := ?_) rfl (by kernel_rfl) (by kernel_rfl) (by kernel_rfl) (fun _ _ _ h => h) (Or.inl ⟨by rfl, ?_⟩) (by assumption) ?_
    rotate_left
    · intro w hSw
      try dsimp only at hSw
      go_simp
      try (rw [if_neg (by omega)])
      try with_reducible rfl
    try simp only [Act.put, List.setIfInBounds_toArray, List.set_cons_zero, List.set_cons_succ]
    refine wpAnyH_take (i := 14) (oi := { dst := some 38, op := Go.Op.move (Go.Operand.tmp 37), type := 4, pos := "law.go:219", after := #[{ on := 13, ground := Go.Ground.data }, { on := 11, ground := Go.Ground.chain }], guard := none }) (v := ?_) rfl (by kernel_rfl) (by kernel_rfl) (by kernel_rfl) (fun _ _ _ h => h) (Or.inl ⟨by rfl, ?_⟩) (by assumption) ?_
    rotate_left
    · intro w hSw
      try dsimp only at hSw
      go_simp
      try (rw [if_neg (by omega)])
      try with_reducible rfl
    try simp only [Act.put, List.setIfInBounds_toArray, List.set_cons_zero, List.set_cons_succ]
    refine wpAnyH_take (i := 15) (oi := { dst := some 39, op := Go.Op.load 30 (Go.Operand.tmp 9), type := 30, pos := "law.go:219", after := #[{ on := 14, ground := Go.Ground.guard }], guard := some (14, true) }) (v := ?_) rfl (by kernel_rfl) (by kernel_rfl) (by kernel_rfl) (fun _ _ _ h => h) (Or.inl ⟨by rfl, ?_⟩) (by assumption) ?_
    rotate_left
    · intro w hSw
      try dsimp only at hSw
      go_simp
      try (rw [if_neg (by omega)])
      try with_reducible rfl
    try simp only [Act.put, List.setIfInBounds_toArray, List.set_cons_zero, List.set_cons_succ]
    refine wpAnyH_take (i := 18) (oi := { dst := some 42, op := Go.Op.load 30 (Go.Operand.tmp 9), type := 30, pos := "law.go:219", after := #[{ on := 14, ground := Go.Ground.guard }], guard := some (14, true) }) (v := ?_) rfl (by kernel_rfl) (by kernel_rfl) (by kernel_rfl) (fun _ _ _ h => h) (Or.inl ⟨by rfl, ?_⟩) (by assumption) ?_
    rotate_left
    · intro w hSw
      try dsimp only at hSw
      go_simp
      try (rw [if_neg (by omega)])
      try with_reducible rfl
    try simp only [Act.put, List.setIfInBounds_toArray, List.set_cons_zero, List.set_cons_succ]
    refine wpAnyH_ready (rs := [16]) (by kernel_rfl) (by simp) ?_
    refine AllReadyH.cons (o := { dst := some 40, op := Go.Op.call { callee := Go.Callee.value (Go.Operand.func 14), args := #[Go.Operand.tmp 39], argTypes := #[30] }, type := 9, pos := "law.go:219", after := #[{ on := 15, ground := Go.Ground.data }, { on := 14, ground := Go.Ground.chain }, { on := 14, ground := Go.Ground.guard }], guard := some (14, true) }) rfl (fun K hK => ?_) AllReadyH.nil
    go_simp
    refine (NA.out _ (HT.out.below (bstep B hHeld.2.2.2.2.2.2.2.2.2.2.2.2.2.2.2.2.2.2))).mono ?_
    rintro e v5 ⟨rfl, hb5⟩
    have HBx := Lib.hid (bstep hHeld.2.2.2.2.2.2.2.2.2.2.2.2.2.2.2.2.2.2 hb5)
    clear hHeld hb5
    refine hK.out _ _ ?_ (fun hHeld => ?_)
    · exact keep49 PD.out PT.out PM.out PG.out HBx.out
    clear hK K HBx
    try simp only [Act.put, List.setIfInBounds_toArray, List.set_cons_zero, List.set_cons_succ]
    refine wpAnyH_take (i := 17) (oi := { dst := some 41, op := Go.Op.binOp Go.BinOp.neq 9 (Go.Operand.tmp 40) (Go.Operand.const (Go.Value.string { data := #[] })) 9, type := 4, pos := "law.go:219", after := #[{ on := 16, ground := Go.Ground.data }, { on := 14, ground := Go.Ground.guard }], guard := some (14, true) }) (v := ?_) rfl (by kernel_rfl) (by kernel_rfl) (by kernel_rfl) (fun _ _ _ h => h) (Or.inl ⟨by rfl, ?_⟩) (by assumption) ?_
    rotate_left
    · intro w hSw
      try dsimp only at hSw
      go_simp
      try (rw [if_neg (by omega)])
      try with_reducible rfl
    try simp only [Act.put, List.setIfInBounds_toArray, List.set_cons_zero, List.set_cons_succ]
    refine wpAnyH_ready (rs := [19]) (by kernel_rfl) (by simp) ?_
    refine AllReadyH.cons (o := { dst := some 43, op := Go.Op.call { callee := Go.Callee.value (Go.Operand.func 23), args := #[Go.Operand.tmp 42], argTypes := #[30] }, type := 4, pos := "law.go:219", after := #[{ on := 18, ground := Go.Ground.data }, { on := 16, ground := Go.Ground.chain }, { on := 14, ground := Go.Ground.guard }], guard := some (14, true) }) rfl (fun K hK => ?_) AllReadyH.nil
    go_simp
    refine (MN.out _).mono ?_
    rintro e v6 ⟨rfl, hb6⟩
    have HBx := Lib.hid (bstep hHeld.2.2.2.2.2.2.2.2.2.2.2.2.2.2.2.2.2.2 hb6)
    clear hHeld hb6
    refine hK.out _ _ ?_ (fun hHeld => ?_)
    · exact keep49 PD.out PT.out PM.out PG.out HBx.out
    clear hK K HBx
    try simp only [Act.put, List.setIfInBounds_toArray, List.set_cons_zero, List.set_cons_succ]
    refine wpAnyH_take (i := 20) (oi := { dst := some 44, op := Go.Op.binOp Go.BinOp.eql 4 (Go.Operand.tmp 41) (Go.Operand.tmp 43) 4, type := 4, pos := "law.go:219", after := #[{ on := 17, ground := Go.Ground.data }, { on := 19, ground := Go.Ground.data }, { on := 14, ground := Go.Ground.guard }], guard := some (14, true) }) (v := ?_) rfl (by kernel_rfl) (by kernel_rfl) (by kernel_rfl) (fun _ _ _ h => h) (Or.inl ⟨by rfl, ?_⟩) (by assumption) ?_
    rotate_left
    · intro w hSw
      try dsimp only at hSw
      go_simp
      try (rw [if_neg (by omega)])
      try with_reducible rfl
    try simp only [Act.put, List.setIfInBounds_toArray, List.set_cons_zero, List.set_cons_succ]
    refine wpAnyH_take (i := 21) (oi := { dst := some 45, op := Go.Op.pick (Go.Operand.tmp 38) (Go.Operand.tmp 44) (Go.Operand.const (Go.Value.bool false)), type := 4, pos := "law.go:219", after := #[{ on := 14, ground := Go.Ground.data }, { on := 20, ground := Go.Ground.data }], guard := none }) (v := ?_) rfl (by kernel_rfl) (by kernel_rfl) (by kernel_rfl) (fun _ _ _ h => h) (Or.inl ⟨by rfl, ?_⟩) (by assumption) ?_
    rotate_left
    · intro w hSw
      try dsimp only at hSw
      go_simp
      try (rw [if_neg (by omega)])
      try with_reducible rfl
    try simp only [Act.put, List.setIfInBounds_toArray, List.set_cons_zero, List.set_cons_succ]
    refine wpAnyH_take (i := 22) (oi := { dst := some 46, op := Go.Op.move (Go.Operand.tmp 45), type := 4, pos := "law.go:219", after := #[{ on := 21, ground := Go.Ground.data }, { on := 19, ground := Go.Ground.chain }], guard := none }) (v := ?_) rfl (by kernel_rfl) (by kernel_rfl) (by kernel_rfl) (fun _ _ _ h => h) (Or.inl ⟨by rfl, ?_⟩) (by assumption) ?_
    rotate_left
    · intro w hSw
      try dsimp only at hSw
      go_simp
      try (rw [if_neg (by omega)])
      try with_reducible rfl
    try simp only [Act.put, List.setIfInBounds_toArray, List.set_cons_zero, List.set_cons_succ]
    refine wpAnyH_take (i := 23) (oi := { dst := some 47, op := Go.Op.load 30 (Go.Operand.tmp 10), type := 30, pos := "law.go:219", after := #[{ on := 22, ground := Go.Ground.guard }], guard := some (22, true) }) (v := ?_) rfl (by kernel_rfl) (by kernel_rfl) (by kernel_rfl) (fun _ _ _ h => h) (Or.inl ⟨by rfl, ?_⟩) (by assumption) ?_
    rotate_left
    · intro w hSw
      try dsimp only at hSw
      go_simp
      try (rw [if_neg (by omega)])
      try with_reducible rfl
    try simp only [Act.put, List.setIfInBounds_toArray, List.set_cons_zero, List.set_cons_succ]
    refine wpAnyH_ready (rs := [24]) (by kernel_rfl) (by simp) ?_
    refine AllReadyH.cons (o := { dst := some 48, op := Go.Op.call { callee := Go.Callee.value (Go.Operand.func 14), args := #[Go.Operand.tmp 47], argTypes := #[30] }, type := 9, pos := "law.go:219", after := #[{ on := 23, ground := Go.Ground.data }, { on := 22, ground := Go.Ground.chain }, { on := 22, ground := Go.Ground.guard }], guard := some (22, true) }) rfl (fun K hK => ?_) AllReadyH.nil
    go_simp
    refine (NG.out _ (HT.out.below (bstep B hHeld.2.2.2.2.2.2.2.2.2.2.2.2.2.2.2.2.2.2))).mono ?_
    rintro e v7 ⟨rfl, hb7⟩
    have HBx := Lib.hid (bstep hHeld.2.2.2.2.2.2.2.2.2.2.2.2.2.2.2.2.2.2 hb7)
    clear hHeld hb7
    refine hK.out _ _ ?_ (fun hHeld => ?_)
    · exact keep49 PD.out PT.out PM.out PG.out HBx.out
    clear hK K HBx
    try simp only [Act.put, List.setIfInBounds_toArray, List.set_cons_zero, List.set_cons_succ]
    refine wpAnyH_take (i := 25) (oi := { dst := some 49, op := Go.Op.binOp Go.BinOp.neq 9 (Go.Operand.tmp 48) (Go.Operand.const (Go.Value.string { data := #[] })) 9, type := 4, pos := "law.go:219", after := #[{ on := 24, ground := Go.Ground.data }, { on := 22, ground := Go.Ground.guard }], guard := some (22, true) }) (v := ?_) rfl (by kernel_rfl) (by kernel_rfl) (by kernel_rfl) (fun _ _ _ h => h) (Or.inl ⟨by rfl, ?_⟩) (by assumption) ?_
    rotate_left
    · intro w hSw
      try dsimp only at hSw
      go_simp
      try (rw [if_neg (by omega)])
      try with_reducible rfl
    try simp only [Act.put, List.setIfInBounds_toArray, List.set_cons_zero, List.set_cons_succ]
    refine wpAnyH_take (i := 26) (oi := { dst := some 50, op := Go.Op.pick (Go.Operand.tmp 46) (Go.Operand.tmp 49) (Go.Operand.const (Go.Value.bool false)), type := 4, pos := "law.go:219", after := #[{ on := 22, ground := Go.Ground.data }, { on := 25, ground := Go.Ground.data }], guard := none }) (v := ?_) rfl (by kernel_rfl) (by kernel_rfl) (by kernel_rfl) (fun _ _ _ h => h) (Or.inl ⟨by rfl, ?_⟩) (by assumption) ?_
    rotate_left
    · intro w hSw
      try dsimp only at hSw
      go_simp
      try (rw [if_neg (by omega)])
      try with_reducible rfl
    try simp only [Act.put, List.setIfInBounds_toArray, List.set_cons_zero, List.set_cons_succ]
    refine wpAnyH_take (i := 27) (oi := { dst := some 8, op := Go.Op.assign (Go.Operand.tmp 50), type := 4, pos := "law.go:219", after := #[{ on := 26, ground := Go.Ground.data }, { on := 24, ground := Go.Ground.chain }, { on := 0, ground := Go.Ground.phase }, { on := 1, ground := Go.Ground.phase }, { on := 2, ground := Go.Ground.phase }, { on := 3, ground := Go.Ground.phase }, { on := 4, ground := Go.Ground.phase }, { on := 5, ground := Go.Ground.phase }, { on := 6, ground := Go.Ground.phase }, { on := 7, ground := Go.Ground.phase }, { on := 8, ground := Go.Ground.phase }, { on := 9, ground := Go.Ground.phase }, { on := 10, ground := Go.Ground.phase }, { on := 11, ground := Go.Ground.phase }, { on := 12, ground := Go.Ground.phase }, { on := 13, ground := Go.Ground.phase }, { on := 14, ground := Go.Ground.phase }, { on := 15, ground := Go.Ground.phase }, { on := 16, ground := Go.Ground.phase }, { on := 17, ground := Go.Ground.phase }, { on := 18, ground := Go.Ground.phase }, { on := 19, ground := Go.Ground.phase }, { on := 20, ground := Go.Ground.phase }, { on := 21, ground := Go.Ground.phase }, { on := 22, ground := Go.Ground.phase }, { on := 23, ground := Go.Ground.phase }, { on := 24, ground := Go.Ground.phase }, { on := 25, ground := Go.Ground.phase }, { on := 26, ground := Go.Ground.phase }], guard := none }) (v := ?_) rfl (by kernel_rfl) (by kernel_rfl) (by kernel_rfl) (fun _ _ _ h => h) (Or.inl ⟨by rfl, ?_⟩) (by assumption) ?_
    rotate_left
    · intro w hSw
      try dsimp only at hSw
      go_simp
      try (rw [if_neg (by omega)])
      try with_reducible rfl
    try simp only [Act.put, List.setIfInBounds_toArray, List.set_cons_zero, List.set_cons_succ]
    refine wpAnyH_done (by kernel_rfl) ?_ _
    replace B := bstep B hHeld.2.2.2.2.2.2.2.2.2.2.2.2.2.2.2.2.2.2
    go_wp2
    go_ret
    exact ⟨rfl, B⟩
  · replace e1 : P.toList.isEmpty = false := e1
    replace e2 : Q.toList.isEmpty = false := e2
    replace e3 : R.toList.isEmpty = false := e3
    have MD := Lib.hid MD0
    have MM := Lib.hid MM0
    have MN := Lib.hid (show ∀ w, Calls Tryd.prog 23 #[Mo y m d s z o] w (Ret (.bool true) w) from MN0)
    clear MD0 MM0 MN0
    go_enter Tryd.func6, Tryd.ntmps6
    go_upto_region 1 with fail
    have PD := Lib.hid (HoldsT.alloc (HoldsT.new rfl) _ : HoldsT ((w.alloc (DtC y m d)).alloc (TmC s z o)) w.heap.size y m d)
    have PT := Lib.hid (HoldsM.new (by simp) : HoldsM ((w.alloc (DtC y m d)).alloc (TmC s z o)) (w.heap.size + 1) s z o)
    have B := ballD1 (ballD1 (Below.refl w.heap.size w) (DtC y m d)) (TmC s z o)
    change Code.wp _ _ _ _ ((w.alloc (DtC y m d)).alloc (TmC s z o))
    generalize ((w.alloc (DtC y m d)).alloc (TmC s z o)) = w0 at *
    obtain ⟨⟨c0_0, c0_1, c0_2⟩, -, c0z⟩ := PD.out
    obtain ⟨⟨c1_0, c1_1, c1_2⟩, -, c1z⟩ := PT.out
    go_wp2_with fail
    refine (AW.out _ (HT.out.below B)).mono ?_
    rintro e w1 ⟨rfl, hb⟩
    replace PD := Lib.hid (PD.out.below hb)
    replace PT := Lib.hid (PT.out.below hb)
    replace B := bstep B hb
    clear hb AW
    clear c0_0 c0_1 c0_2 c0z c1_0 c1_1 c1_2 c1z
    obtain ⟨⟨c0_0, c0_1, c0_2⟩, -, c0z⟩ := PD.out
    obtain ⟨⟨c1_0, c1_1, c1_2⟩, -, c1z⟩ := PT.out
    replace PD := Lib.hid (PD.out.alloc (MoC y m d s z o))
    replace PT := Lib.hid (PT.out.alloc (MoC y m d s z o))
    have PM := Lib.hid (HoldsN.new rfl : HoldsN (w1.alloc (MoC y m d s z o)) w1.heap.size y m d s z o)
    replace B := ballD1 B (MoC y m d s z o)
    go_upto_region 4 with fail
    change Code.wp _ _ _ _ (w1.alloc (MoC y m d s z o))
    clear c0_0 c0_1 c0_2 c0z c1_0 c1_1 c1_2 c1z
    generalize w1.alloc (MoC y m d s z o) = w2 at *
    obtain ⟨gPM, hg⟩ : ∃ g, g = w1.heap.size := ⟨_, rfl⟩
    rw [← hg] at PM ⊢
    clear hg
    obtain ⟨⟨c0_0, c0_1, c0_2⟩, -, c0z⟩ := PD.out
    obtain ⟨⟨c1_0, c1_1, c1_2⟩, -, c1z⟩ := PT.out
    obtain ⟨⟨c2_0, c2_1, c2_2, c2_3, c2_4, c2_5⟩, -, c2z⟩ := PM.out
    go_wp2_with fail
    refine (MK.out _).mono ?_
    rintro e w3 ⟨rfl, hb⟩
    replace PD := Lib.hid (PD.out.below hb)
    replace PT := Lib.hid (PT.out.below hb)
    replace PM := Lib.hid (PM.out.below hb)
    replace B := bstep B hb
    clear hb MK
    clear c0_0 c0_1 c0_2 c0z c1_0 c1_1 c1_2 c1z c2_0 c2_1 c2_2 c2_3 c2_4 c2_5 c2z
    obtain ⟨⟨c0_0, c0_1, c0_2⟩, -, c0z⟩ := PD.out
    obtain ⟨⟨c1_0, c1_1, c1_2⟩, -, c1z⟩ := PT.out
    obtain ⟨⟨c2_0, c2_1, c2_2, c2_3, c2_4, c2_5⟩, -, c2z⟩ := PM.out
    go_wp2_with fail
    refine (MT.out _).mono ?_
    rintro e w4 ⟨rfl, hb⟩
    replace PD := Lib.hid (PD.out.below hb)
    replace PT := Lib.hid (PT.out.below hb)
    replace PM := Lib.hid (PM.out.below hb)
    replace B := bstep B hb
    clear hb MT
    clear c0_0 c0_1 c0_2 c0z c1_0 c1_1 c1_2 c1z c2_0 c2_1 c2_2 c2_3 c2_4 c2_5 c2z
    replace PD := Lib.hid (PD.out.alloc (MoC Y M E A true O))
    replace PT := Lib.hid (PT.out.alloc (MoC Y M E A true O))
    replace PM := Lib.hid (PM.out.alloc (MoC Y M E A true O))
    have PG := Lib.hid (HoldsN.new rfl : HoldsN (w4.alloc (MoC Y M E A true O)) w4.heap.size Y M E A true O)
    replace B := ballD1 B (MoC Y M E A true O)
    go_upto_region 5 with fail
    change Code.wp _ _ _ _ (w4.alloc (MoC Y M E A true O))
    generalize w4.alloc (MoC Y M E A true O) = w5 at *
    obtain ⟨gPG, hg⟩ : ∃ g, g = w4.heap.size := ⟨_, rfl⟩
    rw [← hg] at PG ⊢
    clear hg
    go_upto_region 5 with fail
    generalize w5 = V at *
    refine wp_region_held_drew (S := fun w' => w'.cell? ⟨w.heap.size, 0, none⟩ = some (.int .i64 y) ∧ w'.cell? ⟨w.heap.size, 1, none⟩ = some (.int .i64 m) ∧ w'.cell? ⟨w.heap.size, 2, none⟩ = some (.int .i64 d) ∧ w'.cell? ⟨w.heap.size + 1, 0, none⟩ = some (.int .i64 s) ∧ w'.cell? ⟨w.heap.size + 1, 1, none⟩ = some (.bool z) ∧ w'.cell? ⟨w.heap.size + 1, 2, none⟩ = some (.int .i64 o) ∧ w'.cell? ⟨gPM, 0, none⟩ = some (.int .i64 y) ∧ w'.cell? ⟨gPM, 1, none⟩ = some (.int .i64 m) ∧ w'.cell? ⟨gPM, 2, none⟩ = some (.int .i64 d) ∧ w'.cell? ⟨gPM, 3, none⟩ = some (.int .i64 s) ∧ w'.cell? ⟨gPM, 4, none⟩ = some (.bool z) ∧ w'.cell? ⟨gPM, 5, none⟩ = some (.int .i64 o) ∧ w'.cell? ⟨gPG, 0, none⟩ = some (.int .i64 Y) ∧ w'.cell? ⟨gPG, 1, none⟩ = some (.int .i64 M) ∧ w'.cell? ⟨gPG, 2, none⟩ = some (.int .i64 E) ∧ w'.cell? ⟨gPG, 3, none⟩ = some (.int .i64 A) ∧ w'.cell? ⟨gPG, 4, none⟩ = some (.bool true) ∧ w'.cell? ⟨gPG, 5, none⟩ = some (.int .i64 O) ∧ Below V.heap.size V w') (by kernel_rfl) ?_ (fun hHeld => ?_)
    · exact keep49 PD.out PT.out PM.out PG.out (Below.refl _ _).drew
    refine wpAnyH_take (i := 0) (oi := { dst := some 24, op := Go.Op.load 26 (Go.Operand.tmp 4), type := 26, pos := "law.go:219", after := #[], guard := none }) (v := ?_) rfl (by kernel_rfl) (by kernel_rfl) (by kernel_rfl) (fun _ _ _ h => h) (Or.inl ⟨by rfl, ?_⟩) (by assumption) ?_
    rotate_left
    · intro w hSw
      try dsimp only at hSw
      go_simp
      try (rw [if_neg (by omega)])
      try with_reducible rfl
    try simp only [Act.put, List.setIfInBounds_toArray, List.set_cons_zero, List.set_cons_succ]
    refine wpAnyH_take (i := 3) (oi := { dst := some 27, op := Go.Op.load 26 (Go.Operand.tmp 4), type := 26, pos := "law.go:219", after := #[], guard := none }) (v := ?_) rfl (by kernel_rfl) (by kernel_rfl) (by kernel_rfl) (fun _ _ _ h => h) (Or.inl ⟨by rfl, ?_⟩) (by assumption) ?_
    rotate_left
    · intro w hSw
      try dsimp only at hSw
      go_simp
      try (rw [if_neg (by omega)])
      try with_reducible rfl
    try simp only [Act.put, List.setIfInBounds_toArray, List.set_cons_zero, List.set_cons_succ]
    refine wpAnyH_ready (rs := [1]) (by kernel_rfl) (by simp) ?_
    refine AllReadyH.cons (o := { dst := some 25, op := Go.Op.call { callee := Go.Callee.value (Go.Operand.func 10), args := #[Go.Operand.tmp 24], argTypes := #[26] }, type := 9, pos := "law.go:219", after := #[{ on := 0, ground := Go.Ground.data }], guard := none }) rfl (fun K hK => ?_) AllReadyH.nil
    go_simp
    refine (DA.out _ (HT.out.below (bstep B hHeld.2.2.2.2.2.2.2.2.2.2.2.2.2.2.2.2.2.2))).mono ?_
    rintro e v1 ⟨rfl, hb1⟩
    have HBx := Lib.hid (bstep hHeld.2.2.2.2.2.2.2.2.2.2.2.2.2.2.2.2.2.2 hb1)
    clear hHeld hb1
    refine hK.out _ _ ?_ (fun hHeld => ?_)
    · exact keep49 PD.out PT.out PM.out PG.out HBx.out
    clear hK K HBx
    try simp only [Act.put, List.setIfInBounds_toArray, List.set_cons_zero, List.set_cons_succ]
    refine wpAnyH_take (i := 2) (oi := { dst := some 26, op := Go.Op.binOp Go.BinOp.neq 9 (Go.Operand.tmp 25) (Go.Operand.const (Go.Value.string { data := #[] })) 9, type := 4, pos := "law.go:219", after := #[{ on := 1, ground := Go.Ground.data }], guard := none }) (v := ?_) rfl (by kernel_rfl) (by kernel_rfl) (by kernel_rfl) (fun _ _ _ h => h) (Or.inl ⟨by rfl, ?_⟩) (by assumption) ?_
    rotate_left
    · intro w hSw
      try dsimp only at hSw
      go_simp
      try (rw [if_neg (by omega)])
      try with_reducible rfl
    try simp only [Act.put, List.setIfInBounds_toArray, List.set_cons_zero, List.set_cons_succ]
    refine wpAnyH_ready (rs := [4]) (by kernel_rfl) (by simp) ?_
    refine AllReadyH.cons (o := { dst := some 28, op := Go.Op.call { callee := Go.Callee.value (Go.Operand.func 21), args := #[Go.Operand.tmp 27], argTypes := #[26] }, type := 4, pos := "law.go:219", after := #[{ on := 3, ground := Go.Ground.data }, { on := 1, ground := Go.Ground.chain }], guard := none }) rfl (fun K hK => ?_) AllReadyH.nil
    go_simp
    refine (MD.out _).mono ?_
    rintro e v2 ⟨rfl, hb2⟩
    have HBx := Lib.hid (bstep hHeld.2.2.2.2.2.2.2.2.2.2.2.2.2.2.2.2.2.2 hb2)
    clear hHeld hb2
    refine hK.out _ _ ?_ (fun hHeld => ?_)
    · exact keep49 PD.out PT.out PM.out PG.out HBx.out
    clear hK K HBx
    try simp only [Act.put, List.setIfInBounds_toArray, List.set_cons_zero, List.set_cons_succ]
    refine wpAnyH_take (i := 5) (oi := { dst := some 29, op := Go.Op.binOp Go.BinOp.eql 4 (Go.Operand.tmp 26) (Go.Operand.tmp 28) 4, type := 4, pos := "law.go:219", after := #[{ on := 2, ground := Go.Ground.data }, { on := 4, ground := Go.Ground.data }], guard := none }) (v := ?_) rfl (by kernel_rfl) (by kernel_rfl) (by kernel_rfl) (fun _ _ _ h => h) (Or.inl ⟨by rfl, ?_⟩) (by assumption) ?_
    rotate_left
    · intro w hSw
      try dsimp only at hSw
      go_simp
      try (rw [if_neg (by omega)])
      try with_reducible rfl
    try simp only [Act.put, List.setIfInBounds_toArray, List.set_cons_zero, List.set_cons_succ]
    refine wpAnyH_take (i := 6) (oi := { dst := some 30, op := Go.Op.move (Go.Operand.tmp 29), type := 4, pos := "law.go:219", after := #[{ on := 5, ground := Go.Ground.data }, { on := 4, ground := Go.Ground.chain }], guard := none }) (v := ?_) rfl (by kernel_rfl) (by kernel_rfl) (by kernel_rfl) (fun _ _ _ h => h) (Or.inl ⟨by rfl, ?_⟩) (by assumption) ?_
    rotate_left
    · intro w hSw
      try dsimp only at hSw
      go_simp
      try (rw [if_neg (by omega)])
      try with_reducible rfl
    try simp only [Act.put, List.setIfInBounds_toArray, List.set_cons_zero, List.set_cons_succ]
    refine wpAnyH_take (i := 7) (oi := { dst := some 31, op := Go.Op.load 28 (Go.Operand.tmp 5), type := 28, pos := "law.go:219", after := #[{ on := 6, ground := Go.Ground.guard }], guard := some (6, true) }) (v := ?_) rfl (by kernel_rfl) (by kernel_rfl) (by kernel_rfl) (fun _ _ _ h => h) (Or.inl ⟨by rfl, ?_⟩) (by assumption) ?_
    rotate_left
    · intro w hSw
      try dsimp only at hSw
      go_simp
      try (rw [if_neg (by omega)])
      try with_reducible rfl
    try simp only [Act.put, List.setIfInBounds_toArray, List.set_cons_zero, List.set_cons_succ]
    refine wpAnyH_take (i := 10) (oi := { dst := some 34, op := Go.Op.load 28 (Go.Operand.tmp 5), type := 28, pos := "law.go:219", after := #[{ on := 6, ground := Go.Ground.guard }], guard := some (6, true) }) (v := ?_) rfl (by kernel_rfl) (by kernel_rfl) (by kernel_rfl) (fun _ _ _ h => h) (Or.inl ⟨by rfl, ?_⟩) (by assumption) ?_
    rotate_left
    · intro w hSw
      try dsimp only at hSw
      go_simp
      try (rw [if_neg (by omega)])
      try with_reducible rfl
    try simp only [Act.put, List.setIfInBounds_toArray, List.set_cons_zero, List.set_cons_succ]
    refine wpAnyH_ready (rs := [8]) (by kernel_rfl) (by simp) ?_
    refine AllReadyH.cons (o := { dst := some 32, op := Go.Op.call { callee := Go.Callee.value (Go.Operand.func 12), args := #[Go.Operand.tmp 31], argTypes := #[28] }, type := 9, pos := "law.go:219", after := #[{ on := 7, ground := Go.Ground.data }, { on := 6, ground := Go.Ground.chain }, { on := 6, ground := Go.Ground.guard }], guard := some (6, true) }) rfl (fun K hK => ?_) AllReadyH.nil
    go_simp
    refine (TA.out _ (HT.out.below (bstep B hHeld.2.2.2.2.2.2.2.2.2.2.2.2.2.2.2.2.2.2))).mono ?_
    rintro e v3 ⟨rfl, hb3⟩
    have HBx := Lib.hid (bstep hHeld.2.2.2.2.2.2.2.2.2.2.2.2.2.2.2.2.2.2 hb3)
    clear hHeld hb3
    refine hK.out _ _ ?_ (fun hHeld => ?_)
    · exact keep49 PD.out PT.out PM.out PG.out HBx.out
    clear hK K HBx
    try simp only [Act.put, List.setIfInBounds_toArray, List.set_cons_zero, List.set_cons_succ]
    refine wpAnyH_take (i := 9) (oi := { dst := some 33, op := Go.Op.binOp Go.BinOp.neq 9 (Go.Operand.tmp 32) (Go.Operand.const (Go.Value.string { data := #[] })) 9, type := 4, pos := "law.go:219", after := #[{ on := 8, ground := Go.Ground.data }, { on := 6, ground := Go.Ground.guard }], guard := some (6, true) }) (v := ?_) rfl (by kernel_rfl) (by kernel_rfl) (by kernel_rfl) (fun _ _ _ h => h) (Or.inl ⟨by rfl, ?_⟩) (by assumption) ?_
    rotate_left
    · intro w hSw
      try dsimp only at hSw
      go_simp
      try (rw [if_neg (by omega)])
      try with_reducible rfl
    try simp only [Act.put, List.setIfInBounds_toArray, List.set_cons_zero, List.set_cons_succ]
    refine wpAnyH_ready (rs := [11]) (by kernel_rfl) (by simp) ?_
    refine AllReadyH.cons (o := { dst := some 35, op := Go.Op.call { callee := Go.Callee.value (Go.Operand.func 22), args := #[Go.Operand.tmp 34], argTypes := #[28] }, type := 4, pos := "law.go:219", after := #[{ on := 10, ground := Go.Ground.data }, { on := 8, ground := Go.Ground.chain }, { on := 6, ground := Go.Ground.guard }], guard := some (6, true) }) rfl (fun K hK => ?_) AllReadyH.nil
    go_simp
    refine (MM.out _).mono ?_
    rintro e v4 ⟨rfl, hb4⟩
    have HBx := Lib.hid (bstep hHeld.2.2.2.2.2.2.2.2.2.2.2.2.2.2.2.2.2.2 hb4)
    clear hHeld hb4
    refine hK.out _ _ ?_ (fun hHeld => ?_)
    · exact keep49 PD.out PT.out PM.out PG.out HBx.out
    clear hK K HBx
    try simp only [Act.put, List.setIfInBounds_toArray, List.set_cons_zero, List.set_cons_succ]
    refine wpAnyH_take (i := 12) (oi := { dst := some 36, op := Go.Op.binOp Go.BinOp.eql 4 (Go.Operand.tmp 33) (Go.Operand.tmp 35) 4, type := 4, pos := "law.go:219", after := #[{ on := 9, ground := Go.Ground.data }, { on := 11, ground := Go.Ground.data }, { on := 6, ground := Go.Ground.guard }], guard := some (6, true) }) (v := ?_) rfl (by kernel_rfl) (by kernel_rfl) (by kernel_rfl) (fun _ _ _ h => h) (Or.inl ⟨by rfl, ?_⟩) (by assumption) ?_
    rotate_left
    · intro w hSw
      try dsimp only at hSw
      go_simp
      try (rw [if_neg (by omega)])
      try with_reducible rfl
    try simp only [Act.put, List.setIfInBounds_toArray, List.set_cons_zero, List.set_cons_succ]
    refine wpAnyH_take (i := 13) (oi := { dst := some 37, op := Go.Op.pick (Go.Operand.tmp 30) (Go.Operand.tmp 36) (Go.Operand.const (Go.Value.bool false)), type := 4, pos := "law.go:219", after := #[{ on := 6, ground := Go.Ground.data }, { on := 12, ground := Go.Ground.data }], guard := none }) (v := ?_) rfl (by kernel_rfl) (by kernel_rfl) (by kernel_rfl) (fun _ _ _ h => h) (Or.inl ⟨by rfl, ?_⟩) (by assumption) ?_
    rotate_left
    · intro w hSw
      try dsimp only at hSw
      go_simp
      try (rw [if_neg (by omega)])
      try with_reducible rfl
    try simp only [Act.put, List.setIfInBounds_toArray, List.set_cons_zero, List.set_cons_succ]
    refine wpAnyH_take (i := 14) (oi := { dst := some 38, op := Go.Op.move (Go.Operand.tmp 37), type := 4, pos := "law.go:219", after := #[{ on := 13, ground := Go.Ground.data }, { on := 11, ground := Go.Ground.chain }], guard := none }) (v := ?_) rfl (by kernel_rfl) (by kernel_rfl) (by kernel_rfl) (fun _ _ _ h => h) (Or.inl ⟨by rfl, ?_⟩) (by assumption) ?_
    rotate_left
    · intro w hSw
      try dsimp only at hSw
      go_simp
      try (rw [if_neg (by omega)])
      try with_reducible rfl
    try simp only [Act.put, List.setIfInBounds_toArray, List.set_cons_zero, List.set_cons_succ]
    refine wpAnyH_take (i := 15) (oi := { dst := some 39, op := Go.Op.load 30 (Go.Operand.tmp 9), type := 30, pos := "law.go:219", after := #[{ on := 14, ground := Go.Ground.guard }], guard := some (14, true) }) (v := ?_) rfl (by kernel_rfl) (by kernel_rfl) (by kernel_rfl) (fun _ _ _ h => h) (Or.inl ⟨by rfl, ?_⟩) (by assumption) ?_
    rotate_left
    · intro w hSw
      try dsimp only at hSw
      go_simp
      try (rw [if_neg (by omega)])
      try with_reducible rfl
    try simp only [Act.put, List.setIfInBounds_toArray, List.set_cons_zero, List.set_cons_succ]
    refine wpAnyH_take (i := 18) (oi := { dst := some 42, op := Go.Op.load 30 (Go.Operand.tmp 9), type := 30, pos := "law.go:219", after := #[{ on := 14, ground := Go.Ground.guard }], guard := some (14, true) }) (v := ?_) rfl (by kernel_rfl) (by kernel_rfl) (by kernel_rfl) (fun _ _ _ h => h) (Or.inl ⟨by rfl, ?_⟩) (by assumption) ?_
    rotate_left
    · intro w hSw
      try dsimp only at hSw
      go_simp
      try (rw [if_neg (by omega)])
      try with_reducible rfl
    try simp only [Act.put, List.setIfInBounds_toArray, List.set_cons_zero, List.set_cons_succ]
    refine wpAnyH_ready (rs := [16]) (by kernel_rfl) (by simp) ?_
    refine AllReadyH.cons (o := { dst := some 40, op := Go.Op.call { callee := Go.Callee.value (Go.Operand.func 14), args := #[Go.Operand.tmp 39], argTypes := #[30] }, type := 9, pos := "law.go:219", after := #[{ on := 15, ground := Go.Ground.data }, { on := 14, ground := Go.Ground.chain }, { on := 14, ground := Go.Ground.guard }], guard := some (14, true) }) rfl (fun K hK => ?_) AllReadyH.nil
    go_simp
    refine (NA.out _ (HT.out.below (bstep B hHeld.2.2.2.2.2.2.2.2.2.2.2.2.2.2.2.2.2.2))).mono ?_
    rintro e v5 ⟨rfl, hb5⟩
    have HBx := Lib.hid (bstep hHeld.2.2.2.2.2.2.2.2.2.2.2.2.2.2.2.2.2.2 hb5)
    clear hHeld hb5
    refine hK.out _ _ ?_ (fun hHeld => ?_)
    · exact keep49 PD.out PT.out PM.out PG.out HBx.out
    clear hK K HBx
    try simp only [Act.put, List.setIfInBounds_toArray, List.set_cons_zero, List.set_cons_succ]
    refine wpAnyH_take (i := 17) (oi := { dst := some 41, op := Go.Op.binOp Go.BinOp.neq 9 (Go.Operand.tmp 40) (Go.Operand.const (Go.Value.string { data := #[] })) 9, type := 4, pos := "law.go:219", after := #[{ on := 16, ground := Go.Ground.data }, { on := 14, ground := Go.Ground.guard }], guard := some (14, true) }) (v := ?_) rfl (by kernel_rfl) (by kernel_rfl) (by kernel_rfl) (fun _ _ _ h => h) (Or.inl ⟨by rfl, ?_⟩) (by assumption) ?_
    rotate_left
    · intro w hSw
      try dsimp only at hSw
      go_simp
      try (rw [if_neg (by omega)])
      try with_reducible rfl
    try simp only [Act.put, List.setIfInBounds_toArray, List.set_cons_zero, List.set_cons_succ]
    refine wpAnyH_ready (rs := [19]) (by kernel_rfl) (by simp) ?_
    refine AllReadyH.cons (o := { dst := some 43, op := Go.Op.call { callee := Go.Callee.value (Go.Operand.func 23), args := #[Go.Operand.tmp 42], argTypes := #[30] }, type := 4, pos := "law.go:219", after := #[{ on := 18, ground := Go.Ground.data }, { on := 16, ground := Go.Ground.chain }, { on := 14, ground := Go.Ground.guard }], guard := some (14, true) }) rfl (fun K hK => ?_) AllReadyH.nil
    go_simp
    refine (MN.out _).mono ?_
    rintro e v6 ⟨rfl, hb6⟩
    have HBx := Lib.hid (bstep hHeld.2.2.2.2.2.2.2.2.2.2.2.2.2.2.2.2.2.2 hb6)
    clear hHeld hb6
    refine hK.out _ _ ?_ (fun hHeld => ?_)
    · exact keep49 PD.out PT.out PM.out PG.out HBx.out
    clear hK K HBx
    try simp only [Act.put, List.setIfInBounds_toArray, List.set_cons_zero, List.set_cons_succ]
    refine wpAnyH_take (i := 20) (oi := { dst := some 44, op := Go.Op.binOp Go.BinOp.eql 4 (Go.Operand.tmp 41) (Go.Operand.tmp 43) 4, type := 4, pos := "law.go:219", after := #[{ on := 17, ground := Go.Ground.data }, { on := 19, ground := Go.Ground.data }, { on := 14, ground := Go.Ground.guard }], guard := some (14, true) }) (v := ?_) rfl (by kernel_rfl) (by kernel_rfl) (by kernel_rfl) (fun _ _ _ h => h) (Or.inl ⟨by rfl, ?_⟩) (by assumption) ?_
    rotate_left
    · intro w hSw
      try dsimp only at hSw
      go_simp
      try (rw [if_neg (by omega)])
      try with_reducible rfl
    try simp only [Act.put, List.setIfInBounds_toArray, List.set_cons_zero, List.set_cons_succ]
    refine wpAnyH_take (i := 21) (oi := { dst := some 45, op := Go.Op.pick (Go.Operand.tmp 38) (Go.Operand.tmp 44) (Go.Operand.const (Go.Value.bool false)), type := 4, pos := "law.go:219", after := #[{ on := 14, ground := Go.Ground.data }, { on := 20, ground := Go.Ground.data }], guard := none }) (v := ?_) rfl (by kernel_rfl) (by kernel_rfl) (by kernel_rfl) (fun _ _ _ h => h) (Or.inl ⟨by rfl, ?_⟩) (by assumption) ?_
    rotate_left
    · intro w hSw
      try dsimp only at hSw
      go_simp
      try (rw [if_neg (by omega)])
      try with_reducible rfl
    try simp only [Act.put, List.setIfInBounds_toArray, List.set_cons_zero, List.set_cons_succ]
    refine wpAnyH_take (i := 22) (oi := { dst := some 46, op := Go.Op.move (Go.Operand.tmp 45), type := 4, pos := "law.go:219", after := #[{ on := 21, ground := Go.Ground.data }, { on := 19, ground := Go.Ground.chain }], guard := none }) (v := ?_) rfl (by kernel_rfl) (by kernel_rfl) (by kernel_rfl) (fun _ _ _ h => h) (Or.inl ⟨by rfl, ?_⟩) (by assumption) ?_
    rotate_left
    · intro w hSw
      try dsimp only at hSw
      go_simp
      try (rw [if_neg (by omega)])
      try with_reducible rfl
    try simp only [Act.put, List.setIfInBounds_toArray, List.set_cons_zero, List.set_cons_succ]
    refine wpAnyH_take (i := 23) (oi := { dst := some 47, op := Go.Op.load 30 (Go.Operand.tmp 10), type := 30, pos := "law.go:219", after := #[{ on := 22, ground := Go.Ground.guard }], guard := some (22, true) }) (v := ?_) rfl (by kernel_rfl) (by kernel_rfl) (by kernel_rfl) (fun _ _ _ h => h) (Or.inl ⟨by rfl, ?_⟩) (by assumption) ?_
    rotate_left
    · intro w hSw
      try dsimp only at hSw
      go_simp
      try (rw [if_neg (by omega)])
      try with_reducible rfl
    try simp only [Act.put, List.setIfInBounds_toArray, List.set_cons_zero, List.set_cons_succ]
    refine wpAnyH_ready (rs := [24]) (by kernel_rfl) (by simp) ?_
    refine AllReadyH.cons (o := { dst := some 48, op := Go.Op.call { callee := Go.Callee.value (Go.Operand.func 14), args := #[Go.Operand.tmp 47], argTypes := #[30] }, type := 9, pos := "law.go:219", after := #[{ on := 23, ground := Go.Ground.data }, { on := 22, ground := Go.Ground.chain }, { on := 22, ground := Go.Ground.guard }], guard := some (22, true) }) rfl (fun K hK => ?_) AllReadyH.nil
    go_simp
    refine (NG.out _ (HT.out.below (bstep B hHeld.2.2.2.2.2.2.2.2.2.2.2.2.2.2.2.2.2.2))).mono ?_
    rintro e v7 ⟨rfl, hb7⟩
    have HBx := Lib.hid (bstep hHeld.2.2.2.2.2.2.2.2.2.2.2.2.2.2.2.2.2.2 hb7)
    clear hHeld hb7
    refine hK.out _ _ ?_ (fun hHeld => ?_)
    · exact keep49 PD.out PT.out PM.out PG.out HBx.out
    clear hK K HBx
    try simp only [Act.put, List.setIfInBounds_toArray, List.set_cons_zero, List.set_cons_succ]
    refine wpAnyH_take (i := 25) (oi := { dst := some 49, op := Go.Op.binOp Go.BinOp.neq 9 (Go.Operand.tmp 48) (Go.Operand.const (Go.Value.string { data := #[] })) 9, type := 4, pos := "law.go:219", after := #[{ on := 24, ground := Go.Ground.data }, { on := 22, ground := Go.Ground.guard }], guard := some (22, true) }) (v := ?_) rfl (by kernel_rfl) (by kernel_rfl) (by kernel_rfl) (fun _ _ _ h => h) (Or.inl ⟨by rfl, ?_⟩) (by assumption) ?_
    rotate_left
    · intro w hSw
      try dsimp only at hSw
      go_simp
      try (rw [if_neg (by omega)])
      try with_reducible rfl
    try simp only [Act.put, List.setIfInBounds_toArray, List.set_cons_zero, List.set_cons_succ]
    refine wpAnyH_take (i := 26) (oi := { dst := some 50, op := Go.Op.pick (Go.Operand.tmp 46) (Go.Operand.tmp 49) (Go.Operand.const (Go.Value.bool false)), type := 4, pos := "law.go:219", after := #[{ on := 22, ground := Go.Ground.data }, { on := 25, ground := Go.Ground.data }], guard := none }) (v := ?_) rfl (by kernel_rfl) (by kernel_rfl) (by kernel_rfl) (fun _ _ _ h => h) (Or.inl ⟨by rfl, ?_⟩) (by assumption) ?_
    rotate_left
    · intro w hSw
      try dsimp only at hSw
      go_simp
      try (rw [if_neg (by omega)])
      try with_reducible rfl
    try simp only [Act.put, List.setIfInBounds_toArray, List.set_cons_zero, List.set_cons_succ]
    refine wpAnyH_take (i := 27) (oi := { dst := some 8, op := Go.Op.assign (Go.Operand.tmp 50), type := 4, pos := "law.go:219", after := #[{ on := 26, ground := Go.Ground.data }, { on := 24, ground := Go.Ground.chain }, { on := 0, ground := Go.Ground.phase }, { on := 1, ground := Go.Ground.phase }, { on := 2, ground := Go.Ground.phase }, { on := 3, ground := Go.Ground.phase }, { on := 4, ground := Go.Ground.phase }, { on := 5, ground := Go.Ground.phase }, { on := 6, ground := Go.Ground.phase }, { on := 7, ground := Go.Ground.phase }, { on := 8, ground := Go.Ground.phase }, { on := 9, ground := Go.Ground.phase }, { on := 10, ground := Go.Ground.phase }, { on := 11, ground := Go.Ground.phase }, { on := 12, ground := Go.Ground.phase }, { on := 13, ground := Go.Ground.phase }, { on := 14, ground := Go.Ground.phase }, { on := 15, ground := Go.Ground.phase }, { on := 16, ground := Go.Ground.phase }, { on := 17, ground := Go.Ground.phase }, { on := 18, ground := Go.Ground.phase }, { on := 19, ground := Go.Ground.phase }, { on := 20, ground := Go.Ground.phase }, { on := 21, ground := Go.Ground.phase }, { on := 22, ground := Go.Ground.phase }, { on := 23, ground := Go.Ground.phase }, { on := 24, ground := Go.Ground.phase }, { on := 25, ground := Go.Ground.phase }, { on := 26, ground := Go.Ground.phase }], guard := none }) (v := ?_) rfl (by kernel_rfl) (by kernel_rfl) (by kernel_rfl) (fun _ _ _ h => h) (Or.inl ⟨by rfl, ?_⟩) (by assumption) ?_
    rotate_left
    · intro w hSw
      try dsimp only at hSw
      go_simp
      try (rw [if_neg (by omega)])
      try with_reducible rfl
    try simp only [Act.put, List.setIfInBounds_toArray, List.set_cons_zero, List.set_cons_succ]
    refine wpAnyH_done (by kernel_rfl) ?_ _
    replace B := bstep B hHeld.2.2.2.2.2.2.2.2.2.2.2.2.2.2.2.2.2.2
    go_wp2
    go_ret
    exact ⟨rfl, B⟩
end Go.Proofs.YthgondbiddncpaaDoor

/-
  The statement LexicalOrder, walked: it answers true.
-/
import Derived.Test.YthgondbiddncpaaDoorYj
import Derived.Test.YthgondbiddncpaaDoorYo
namespace Go.Proofs.YthgondbiddncpaaDoor
open Go.RowKit

theorem keepO9 {V w' : World} {g1 g2 : Nat} {Y M D Z K E s t : Int} (H1 : HoldsT V g1 Y M D) (H2 : HoldsT V (g1 + 1) Z K E) (H3 : HoldsM V g2 s false 0) (H4 : HoldsM V (g2 + 1) t false 0) (B : Below V.heap.size V w') : w'.cell? ⟨g1, 0, none⟩ = some (.int .i64 Y) ∧ w'.cell? ⟨g1, 1, none⟩ = some (.int .i64 M) ∧ w'.cell? ⟨g1, 2, none⟩ = some (.int .i64 D) ∧ w'.cell? ⟨g1 + 1, 0, none⟩ = some (.int .i64 Z) ∧ w'.cell? ⟨g1 + 1, 1, none⟩ = some (.int .i64 K) ∧ w'.cell? ⟨g1 + 1, 2, none⟩ = some (.int .i64 E) ∧ w'.cell? ⟨g2, 0, none⟩ = some (.int .i64 s) ∧ w'.cell? ⟨g2, 1, none⟩ = some (.bool false) ∧ w'.cell? ⟨g2, 2, none⟩ = some (.int .i64 0) ∧ w'.cell? ⟨g2 + 1, 0, none⟩ = some (.int .i64 t) ∧ w'.cell? ⟨g2 + 1, 1, none⟩ = some (.bool false) ∧ w'.cell? ⟨g2 + 1, 2, none⟩ = some (.int .i64 0) ∧ Below V.heap.size V w' := by
  obtain ⟨⟨a1, a2, a3⟩, -, -⟩ := H1.below B
  obtain ⟨⟨b1, b2, b3⟩, -, -⟩ := H2.below B
  obtain ⟨⟨c1, c2, c3⟩, -, -⟩ := H3.below B
  obtain ⟨⟨d1, d2, d3⟩, -, -⟩ := H4.below B
  exact ⟨a1, a2, a3, b1, b2, b3, c1, c2, c3, d1, d2, d3, B⟩
theorem wf_u16 {x : Int} (h : (Lit.int .u16 x).wf = true) : 0 ≤ x ∧ x ≤ 65535 := by
  simp [Lit.wf, IntKind.min, IntKind.max, IntKind.signed, IntKind.bits] at h
  omega
theorem ord_neg (n : Int) : decide (ordI 0 n < 0) = decide (0 < n) := by
  unfold ordI
  rw [decide_eq_decide]
  repeat' split
  all_goals omega
set_option linter.unusedSimpArgs false in
set_option linter.unusedVariables false in
set_option maxRecDepth 100000 in
set_option maxHeartbeats 4000000 in
theorem lexicalOrder_walk (y m d v u x : Int) (hy : (Lit.int .u16 y).wf = true) (hv : (Lit.int .u16 v).wf = true) (w : World) (ht : Tab2 w) : Calls Tryd.prog 7 #[.int .u16 y, .int .i64 m, .int .i64 d, .int .u16 v, .int .i64 u, .int .i64 x] w (Ret (.bool true) w) := by
  have HT := Lib.hid ht
  have AW := Lib.hid awake9
  have y2 := wf_u16 hy
  have v2 := wf_u16 hv
  obtain ⟨Y, hY⟩ : ∃ Y : Int, Y = y % 10000 := ⟨_, rfl⟩
  obtain ⟨Z, hZ⟩ : ∃ Z : Int, Z = v % 10000 := ⟨_, rfl⟩
  have Y0 : 0 ≤ Y ∧ Y < 10000 := by omega
  have Z0 : 0 ≤ Z ∧ Z < 10000 := by omega
  have e1 : y.tmod 10000 = Y := by rw [hY]; exact Int.tmod_eq_emod_of_nonneg y2.1
  have e2 : v.tmod 10000 = Z := by rw [hZ]; exact Int.tmod_eq_emod_of_nonneg v2.1
  have u1 : IntKind.u16.wrap Y = Y := by rw [IntKind.wrap_u16]; omega
  have u2 : IntKind.u16.wrap Z = Z := by rw [IntKind.wrap_u16]; omega
  have i1 : IntKind.i64.wrap Y = Y := by rw [IntKind.wrap_i64]; omega
  have i2 : IntKind.i64.wrap Z = Z := by rw [IntKind.wrap_i64]; omega
  have MK0 := make_any Y m d
  have MK1 := make_any Z u x
  have GD0 := make_day Y m d
  have GD1 := make_day Z u x
  have tY : Y.tmod 1000000000 = Y := Int.tmod_eq_of_lt Y0.1 (by omega)
  have tZ : Z.tmod 1000000000 = Z := Int.tmod_eq_of_lt Z0.1 (by omega)
  rw [tY] at MK0 GD0
  rw [tZ] at MK1 GD1
  have MT0 := makeM_any m false 0
  have MT1 := makeM_any u false 0
  have GM0 := makeM_may m false 0
  have GM1 := makeM_may u false 0
  rw [show offM false 0 = 0 from rfl] at MT0 MT1 GM0 GM1
  generalize mkD d (lenI Y (mkM m)) = D at *
  generalize mkD x (lenI Z (mkM u)) = E at *
  generalize mkM m = M at *
  generalize mkM u = K at *
  generalize hs : m % 86400 = s at *
  generalize ht' : u % 86400 = t at *
  have l0 := day_lims (may_day.2 GD0)
  have l1 := day_lims (may_day.2 GD1)
  have L1 := date_less Y0 Z0 (m := M) (k := K) (d := D) (e := E) (by omega) (by omega) (by omega) (by omega)
  have L2 := time_less (s := s) (t := t) (may_sec GM0) (may_sec GM1)
  have DA0 := date_any Y M D
  have DB0 := date_any Z K E
  have TA0 := time_any s false 0
  have TB0 := time_any t false 0
  rw [show dateT Y M D = dateS Y M D by unfold dateT; rw [if_pos (may_day.2 GD0)]] at DA0
  rw [show dateT Z K E = dateS Z K E by unfold dateT; rw [if_pos (may_day.2 GD1)]] at DB0
  rw [show timeT s false 0 = timeS s false 0 by unfold timeT; rw [if_pos GM0]] at TA0
  rw [show timeT t false 0 = timeS t false 0 by unfold timeT; rw [if_pos GM1]] at TB0
  have CD0 := cmp_any Y M D Z K E
  have CM0 := cmpM_of s false 0 t false 0 _ true (between_yes s false 0 t 0 GM0 GM1)
  have C2 : decide (ordI 0 (t - 0 - (s - 0)) < 0) = decide (s < t) := by rw [ord_neg, decide_eq_decide]; omega
  obtain ⟨b1, hb1⟩ : ∃ q : Bool, decide (ordT Y M D Z K E < 0) = q := ⟨_, rfl⟩
  obtain ⟨b2, hb2⟩ : ∃ q : Bool, decide (s < t) = q := ⟨_, rfl⟩
  rw [hb1] at L1
  rw [hb2] at L2 C2
  generalize ordT Y M D Z K E = c1 at *
  generalize ordI 0 (t - 0 - (s - 0)) = c2 at *
  generalize dateS Y M D = P at *
  generalize dateS Z K E = Q at *
  generalize timeS s false 0 = R at *
  generalize timeS t false 0 = U at *
  have MK := Lib.hid MK0
  have ML := Lib.hid MK1
  have MT := Lib.hid MT0
  have MU := Lib.hid MT1
  have DA := Lib.hid DA0
  have DB := Lib.hid DB0
  have TA := Lib.hid TA0
  have TB := Lib.hid TB0
  have CD := Lib.hid CD0
  have CM := Lib.hid CM0
  clear MK0 MK1 MT0 MT1 DA0 DB0 TA0 TB0 CD0 CM0 GD0 GD1 GM0 GM1 l0 l1 hY hZ Y0 Z0 tY tZ y2 v2 hs ht' hb2 ht hy hv
  go_enter Tryd.func7, Tryd.ntmps7
  go_wp2_with fail
  refine (AW.out _ (HT.out.below (by go_grown))).mono ?_
  rintro e w1 ⟨rfl, hb⟩
  have B : Below w.heap.size w w1 := bstep (by go_grown) hb
  clear hb AW
  go_wp2_with fail
  refine (MK.out _).mono ?_
  rintro e w2 ⟨rfl, hb⟩
  replace B := bstep B hb
  clear hb MK
  go_wp2_with fail
  refine (ML.out _).mono ?_
  rintro e w3 ⟨rfl, hb⟩
  replace B := bstep B hb
  clear hb ML
  have PA := Lib.hid (HoldsT.alloc (HoldsT.new rfl) _ : HoldsT ((w3.alloc (DtC Y M D)).alloc (DtC Z K E)) w3.heap.size Y M D)
  have PB := Lib.hid (HoldsT.new (by simp) : HoldsT ((w3.alloc (DtC Y M D)).alloc (DtC Z K E)) (w3.heap.size + 1) Z K E)
  replace B := ballD1 (ballD1 B (DtC Y M D)) (DtC Z K E)
  go_upto_region 4 with fail
  change Code.wp _ _ _ _ ((w3.alloc (DtC Y M D)).alloc (DtC Z K E))
  generalize ((w3.alloc (DtC Y M D)).alloc (DtC Z K E)) = w4 at *
  obtain ⟨gPA, hg⟩ : ∃ g, g = w3.heap.size := ⟨_, rfl⟩
  rw [← hg] at PA PB
  rw [← hg]
  clear hg
  obtain ⟨⟨c0_0, c0_1, c0_2⟩, -, c0z⟩ := PA.out
  obtain ⟨⟨c1_0, c1_1, c1_2⟩, -, c1z⟩ := PB.out
  go_wp2_with fail
  refine (MT.out _).mono ?_
  rintro e w5 ⟨rfl, hb⟩
  replace PA := Lib.hid (PA.out.below hb)
  replace PB := Lib.hid (PB.out.below hb)
  replace B := bstep B hb
  clear hb MT
  clear c0_0 c0_1 c0_2 c0z c1_0 c1_1 c1_2 c1z
  obtain ⟨⟨c0_0, c0_1, c0_2⟩, -, c0z⟩ := PA.out
  obtain ⟨⟨c1_0, c1_1, c1_2⟩, -, c1z⟩ := PB.out
  go_wp2_with fail
  refine (MU.out _).mono ?_
  rintro e w6 ⟨rfl, hb⟩
  replace PA := Lib.hid (PA.out.below hb)
  replace PB := Lib.hid (PB.out.below hb)
  replace B := bstep B hb
  clear hb MU
  clear c0_0 c0_1 c0_2 c0z c1_0 c1_1 c1_2 c1z
  replace PA := Lib.hid ((PA.out.alloc (TmC s false 0)).alloc (TmC t false 0))
  replace PB := Lib.hid ((PB.out.alloc (TmC s false 0)).alloc (TmC t false 0))
  have PS := Lib.hid (HoldsM.alloc (HoldsM.new rfl) _ : HoldsM ((w6.alloc (TmC s false 0)).alloc (TmC t false 0)) w6.heap.size s false 0)
  have PT := Lib.hid (HoldsM.new (by simp) : HoldsM ((w6.alloc (TmC s false 0)).alloc (TmC t false 0)) (w6.heap.size + 1) t false 0)
  replace B := ballD1 (ballD1 B (TmC s false 0)) (TmC t false 0)
  go_upto_region 5 with fail
  change Code.wp _ _ _ _ ((w6.alloc (TmC s false 0)).alloc (TmC t false 0))
  generalize ((w6.alloc (TmC s false 0)).alloc (TmC t false 0)) = w7 at *
  obtain ⟨gPS, hg⟩ : ∃ g, g = w6.heap.size := ⟨_, rfl⟩
  rw [← hg] at PS PT
  rw [← hg]
  clear hg
  obtain ⟨⟨c0_0, c0_1, c0_2⟩, -, c0z⟩ := PA.out
  obtain ⟨⟨c1_0, c1_1, c1_2⟩, -, c1z⟩ := PB.out
  obtain ⟨⟨c2_0, c2_1, c2_2⟩, -, c2z⟩ := PS.out
  obtain ⟨⟨c3_0, c3_1, c3_2⟩, -, c3z⟩ := PT.out
  go_wp2_with fail
  refine (CM.out _).mono ?_
  rintro e w8 ⟨rfl, hb⟩
  replace PA := Lib.hid (PA.out.below hb)
  replace PB := Lib.hid (PB.out.below hb)
  replace PS := Lib.hid (PS.out.below hb)
  replace PT := Lib.hid (PT.out.below hb)
  replace B := bstep B hb
  clear hb CM
  clear c0_0 c0_1 c0_2 c0z c1_0 c1_1 c1_2 c1z c2_0 c2_1 c2_2 c2z c3_0 c3_1 c3_2 c3z
  go_upto_region 6 with fail
  generalize w8 = V at *
  refine wp_region_held_drew (S := fun w' => w'.cell? ⟨gPA, 0, none⟩ = some (.int .i64 Y) ∧ w'.cell? ⟨gPA, 1, none⟩ = some (.int .i64 M) ∧ w'.cell? ⟨gPA, 2, none⟩ = some (.int .i64 D) ∧ w'.cell? ⟨gPA + 1, 0, none⟩ = some (.int .i64 Z) ∧ w'.cell? ⟨gPA + 1, 1, none⟩ = some (.int .i64 K) ∧ w'.cell? ⟨gPA + 1, 2, none⟩ = some (.int .i64 E) ∧ w'.cell? ⟨gPS, 0, none⟩ = some (.int .i64 s) ∧ w'.cell? ⟨gPS, 1, none⟩ = some (.bool false) ∧ w'.cell? ⟨gPS, 2, none⟩ = some (.int .i64 0) ∧ w'.cell? ⟨gPS + 1, 0, none⟩ = some (.int .i64 t) ∧ w'.cell? ⟨gPS + 1, 1, none⟩ = some (.bool false) ∧ w'.cell? ⟨gPS + 1, 2, none⟩ = some (.int .i64 0) ∧ Below V.heap.size V w') (by kernel_rfl) ?_ (fun hHeld => ?_)
  · exact keepO9 PA.out PB.out PS.out PT.out (Below.refl _ _).drew
  refine wpAnyH_take (i := 0) (oi := { dst := some 43, op := Go.Op.load 26 (Go.Operand.tmp 13), type := 26, pos := "law.go:230", after := #[], guard := none }) (v := ?_) rfl (by kernel_rfl) (by kernel_rfl) (by kernel_rfl) (fun _ _ _ h => h) (Or.inl ⟨by rfl, ?_⟩) (by assumption) ?_
  rotate_left
  · intro w hSw
    try dsimp only at hSw
    go_simp
    try (rw [if_neg (by omega)])
    try with_reducible rfl
  try simp only [Act.put, List.setIfInBounds_toArray, List.set_cons_zero, List.set_cons_succ]
  refine wpAnyH_take (i := 1) (oi := { dst := some 44, op := Go.Op.load 26 (Go.Operand.tmp 14), type := 26, pos := "law.go:230", after := #[], guard := none }) (v := ?_) rfl (by kernel_rfl) (by kernel_rfl) (by kernel_rfl) (fun _ _ _ h => h) (Or.inl ⟨by rfl, ?_⟩) (by assumption) ?_
  rotate_left
  · intro w hSw
    try dsimp only at hSw
    go_simp
    try (rw [if_neg (by omega)])
    try with_reducible rfl
  try simp only [Act.put, List.setIfInBounds_toArray, List.set_cons_zero, List.set_cons_succ]
  refine wpAnyH_take (i := 4) (oi := { dst := some 47, op := Go.Op.load 26 (Go.Operand.tmp 13), type := 26, pos := "law.go:230", after := #[], guard := none }) (v := ?_) rfl (by kernel_rfl) (by kernel_rfl) (by kernel_rfl) (fun _ _ _ h => h) (Or.inl ⟨by rfl, ?_⟩) (by assumption) ?_
  rotate_left
  · intro w hSw
    try dsimp only at hSw
    go_simp
    try (rw [if_neg (by omega)])
    try with_reducible rfl
  try simp only [Act.put, List.setIfInBounds_toArray, List.set_cons_zero, List.set_cons_succ]
  refine wpAnyH_take (i := 6) (oi := { dst := some 49, op := Go.Op.load 26 (Go.Operand.tmp 14), type := 26, pos := "law.go:230", after := #[], guard := none }) (v := ?_) rfl (by kernel_rfl) (by kernel_rfl) (by kernel_rfl) (fun _ _ _ h => h) (Or.inl ⟨by rfl, ?_⟩) (by assumption) ?_
  rotate_left
  · intro w hSw
    try dsimp only at hSw
    go_simp
    try (rw [if_neg (by omega)])
    try with_reducible rfl
  try simp only [Act.put, List.setIfInBounds_toArray, List.set_cons_zero, List.set_cons_succ]
  refine wpAnyH_ready (rs := [2]) (by kernel_rfl) (by simp) ?_
  refine AllReadyH.cons (o := { dst := some 45, op := Go.Op.call { callee := Go.Callee.value (Go.Operand.func 31), args := #[Go.Operand.tmp 43, Go.Operand.tmp 44], argTypes := #[26, 26] }, type := 3, pos := "law.go:230", after := #[{ on := 0, ground := Go.Ground.data }, { on := 1, ground := Go.Ground.data }], guard := none }) rfl (fun K hK => ?_) AllReadyH.nil
  go_simp
  refine (CD.out _).mono ?_
  rintro e v1 ⟨rfl, hb1⟩
  have HBx := Lib.hid (bstep hHeld.2.2.2.2.2.2.2.2.2.2.2.2 hb1)
  clear hHeld hb1
  refine hK.out _ _ ?_ (fun hHeld => ?_)
  · exact keepO9 PA.out PB.out PS.out PT.out HBx.out
  clear hK K HBx
  try simp only [Act.put, List.setIfInBounds_toArray, List.set_cons_zero, List.set_cons_succ]
  refine wpAnyH_take (i := 3) (oi := { dst := some 46, op := Go.Op.binOp Go.BinOp.lss 3 (Go.Operand.tmp 45) (Go.Operand.const (Go.Value.int Go.IntKind.i64 0)) 3, type := 4, pos := "law.go:230", after := #[{ on := 2, ground := Go.Ground.data }], guard := none }) (v := ?_) rfl (by kernel_rfl) (by kernel_rfl) (by kernel_rfl) (fun _ _ _ h => h) (Or.inl ⟨by rfl, ?_⟩) (by assumption) ?_
  rotate_left
  · intro w hSw
    try dsimp only at hSw
    go_simp
    try (rw [if_neg (by omega)])
    try with_reducible rfl
  try simp only [Act.put, List.setIfInBounds_toArray, List.set_cons_zero, List.set_cons_succ]
  refine wpAnyH_ready (rs := [5]) (by kernel_rfl) (by simp) ?_
  refine AllReadyH.cons (o := { dst := some 48, op := Go.Op.call { callee := Go.Callee.value (Go.Operand.func 10), args := #[Go.Operand.tmp 47], argTypes := #[26] }, type := 9, pos := "law.go:230", after := #[{ on := 4, ground := Go.Ground.data }, { on := 2, ground := Go.Ground.chain }], guard := none }) rfl (fun K hK => ?_) AllReadyH.nil
  go_simp
  refine (DA.out _ (HT.out.below (bstep B hHeld.2.2.2.2.2.2.2.2.2.2.2.2))).mono ?_
  rintro e v2 ⟨rfl, hb2⟩
  have HBx := Lib.hid (bstep hHeld.2.2.2.2.2.2.2.2.2.2.2.2 hb2)
  clear hHeld hb2
  refine hK.out _ _ ?_ (fun hHeld => ?_)
  · exact keepO9 PA.out PB.out PS.out PT.out HBx.out
  clear hK K HBx
  try simp only [Act.put, List.setIfInBounds_toArray, List.set_cons_zero, List.set_cons_succ]
  refine wpAnyH_ready (rs := [7]) (by kernel_rfl) (by simp) ?_
  refine AllReadyH.cons (o := { dst := some 50, op := Go.Op.call { callee := Go.Callee.value (Go.Operand.func 10), args := #[Go.Operand.tmp 49], argTypes := #[26] }, type := 9, pos := "law.go:230", after := #[{ on := 6, ground := Go.Ground.data }, { on := 5, ground := Go.Ground.chain }], guard := none }) rfl (fun K hK => ?_) AllReadyH.nil
  go_simp
  refine (DB.out _ (HT.out.below (bstep B hHeld.2.2.2.2.2.2.2.2.2.2.2.2))).mono ?_
  rintro e v3 ⟨rfl, hb3⟩
  have HBx := Lib.hid (bstep hHeld.2.2.2.2.2.2.2.2.2.2.2.2 hb3)
  clear hHeld hb3
  refine hK.out _ _ ?_ (fun hHeld => ?_)
  · exact keepO9 PA.out PB.out PS.out PT.out HBx.out
  clear hK K HBx
  try simp only [Act.put, List.setIfInBounds_toArray, List.set_cons_zero, List.set_cons_succ]
  refine wpAnyH_take (i := 8) (oi := { dst := some 51, op := Go.Op.binOp Go.BinOp.lss 9 (Go.Operand.tmp 48) (Go.Operand.tmp 50) 9, type := 4, pos := "law.go:230", after := #[{ on := 5, ground := Go.Ground.data }, { on := 7, ground := Go.Ground.data }], guard := none }) (v := ?_) rfl (by kernel_rfl) (by kernel_rfl) (by kernel_rfl) (fun _ _ _ h => h) (Or.inl ⟨by rfl, ?_⟩) (by assumption) ?_
  rotate_left
  · intro w hSw
    try dsimp only at hSw
    go_simp
    try (rw [if_neg (by omega)])
    try with_reducible rfl
  try simp only [Act.put, List.setIfInBounds_toArray, List.set_cons_zero, List.set_cons_succ]
  refine wpAnyH_take (i := 9) (oi := { dst := some 52, op := Go.Op.binOp Go.BinOp.eql 4 (Go.Operand.tmp 46) (Go.Operand.tmp 51) 4, type := 4, pos := "law.go:230", after := #[{ on := 3, ground := Go.Ground.data }, { on := 8, ground := Go.Ground.data }], guard := none }) (v := ?_) rfl (by kernel_rfl) (by kernel_rfl) (by kernel_rfl) (fun _ _ _ h => h) (Or.inl ⟨by rfl, ?_⟩) (by assumption) ?_
  rotate_left
  · intro w hSw
    try dsimp only at hSw
    go_simp
    try (rw [if_neg (by omega)])
    try with_reducible rfl
  try simp only [Act.put, List.setIfInBounds_toArray, List.set_cons_zero, List.set_cons_succ]
  refine wpAnyH_take (i := 10) (oi := { dst := some 53, op := Go.Op.move (Go.Operand.tmp 52), type := 4, pos := "law.go:230", after := #[{ on := 9, ground := Go.Ground.data }, { on := 7, ground := Go.Ground.chain }], guard := none }) (v := ?_) rfl (by kernel_rfl) (by kernel_rfl) (by kernel_rfl) (fun _ _ _ h => h) (Or.inl ⟨by rfl, ?_⟩) (by assumption) ?_
  rotate_left
  · intro w hSw
    try dsimp only at hSw
    go_simp
    try (rw [if_neg (by omega)])
    try with_reducible rfl
  try simp only [Act.put, List.setIfInBounds_toArray, List.set_cons_zero, List.set_cons_succ]
  refine wpAnyH_take (i := 11) (oi := { dst := some 54, op := Go.Op.move (Go.Operand.tmp 17), type := 3, pos := "law.go:230", after := #[{ on := 10, ground := Go.Ground.guard }], guard := some (10, true) }) (v := ?_) rfl (by kernel_rfl) (by kernel_rfl) (by kernel_rfl) (fun _ _ _ h => h) (Or.inl ⟨by rfl, ?_⟩) (by assumption) ?_
  rotate_left
  · intro w hSw
    try dsimp only at hSw
    go_simp
    try (rw [if_neg (by omega)])
    try with_reducible rfl
  try simp only [Act.put, List.setIfInBounds_toArray, List.set_cons_zero, List.set_cons_succ]
  refine wpAnyH_take (i := 13) (oi := { dst := some 56, op := Go.Op.load 28 (Go.Operand.tmp 15), type := 28, pos := "law.go:230", after := #[{ on := 10, ground := Go.Ground.guard }], guard := some (10, true) }) (v := ?_) rfl (by kernel_rfl) (by kernel_rfl) (by kernel_rfl) (fun _ _ _ h => h) (Or.inl ⟨by rfl, ?_⟩) (by assumption) ?_
  rotate_left
  · intro w hSw
    try dsimp only at hSw
    go_simp
    try (rw [if_neg (by omega)])
    try with_reducible rfl
  try simp only [Act.put, List.setIfInBounds_toArray, List.set_cons_zero, List.set_cons_succ]
  refine wpAnyH_take (i := 15) (oi := { dst := some 58, op := Go.Op.load 28 (Go.Operand.tmp 16), type := 28, pos := "law.go:230", after := #[{ on := 10, ground := Go.Ground.guard }], guard := some (10, true) }) (v := ?_) rfl (by kernel_rfl) (by kernel_rfl) (by kernel_rfl) (fun _ _ _ h => h) (Or.inl ⟨by rfl, ?_⟩) (by assumption) ?_
  rotate_left
  · intro w hSw
    try dsimp only at hSw
    go_simp
    try (rw [if_neg (by omega)])
    try with_reducible rfl
  try simp only [Act.put, List.setIfInBounds_toArray, List.set_cons_zero, List.set_cons_succ]
  refine wpAnyH_take (i := 12) (oi := { dst := some 55, op := Go.Op.binOp Go.BinOp.lss 3 (Go.Operand.tmp 54) (Go.Operand.const (Go.Value.int Go.IntKind.i64 0)) 3, type := 4, pos := "law.go:230", after := #[{ on := 11, ground := Go.Ground.data }, { on := 10, ground := Go.Ground.guard }], guard := some (10, true) }) (v := ?_) rfl (by kernel_rfl) (by kernel_rfl) (by kernel_rfl) (fun _ _ _ h => h) (Or.inl ⟨by rfl, ?_⟩) (by assumption) ?_
  rotate_left
  · intro w hSw
    try dsimp only at hSw
    go_simp
    try (rw [if_neg (by omega)])
    try with_reducible rfl
  try simp only [Act.put, List.setIfInBounds_toArray, List.set_cons_zero, List.set_cons_succ]
  refine wpAnyH_ready (rs := [14]) (by kernel_rfl) (by simp) ?_
  refine AllReadyH.cons (o := { dst := some 57, op := Go.Op.call { callee := Go.Callee.value (Go.Operand.func 12), args := #[Go.Operand.tmp 56], argTypes := #[28] }, type := 9, pos := "law.go:230", after := #[{ on := 13, ground := Go.Ground.data }, { on := 10, ground := Go.Ground.chain }, { on := 10, ground := Go.Ground.guard }], guard := some (10, true) }) rfl (fun K hK => ?_) AllReadyH.nil
  go_simp
  refine (TA.out _ (HT.out.below (bstep B hHeld.2.2.2.2.2.2.2.2.2.2.2.2))).mono ?_
  rintro e v4 ⟨rfl, hb4⟩
  have HBx := Lib.hid (bstep hHeld.2.2.2.2.2.2.2.2.2.2.2.2 hb4)
  clear hHeld hb4
  refine hK.out _ _ ?_ (fun hHeld => ?_)
  · exact keepO9 PA.out PB.out PS.out PT.out HBx.out
  clear hK K HBx
  try simp only [Act.put, List.setIfInBounds_toArray, List.set_cons_zero, List.set_cons_succ]
  refine wpAnyH_ready (rs := [16]) (by kernel_rfl) (by simp) ?_
  refine AllReadyH.cons (o := { dst := some 59, op := Go.Op.call { callee := Go.Callee.value (Go.Operand.func 12), args := #[Go.Operand.tmp 58], argTypes := #[28] }, type := 9, pos := "law.go:230", after := #[{ on := 15, ground := Go.Ground.data }, { on := 14, ground := Go.Ground.chain }, { on := 10, ground := Go.Ground.guard }], guard := some (10, true) }) rfl (fun K hK => ?_) AllReadyH.nil
  go_simp
  refine (TB.out _ (HT.out.below (bstep B hHeld.2.2.2.2.2.2.2.2.2.2.2.2))).mono ?_
  rintro e v5 ⟨rfl, hb5⟩
  have HBx := Lib.hid (bstep hHeld.2.2.2.2.2.2.2.2.2.2.2.2 hb5)
  clear hHeld hb5
  refine hK.out _ _ ?_ (fun hHeld => ?_)
  · exact keepO9 PA.out PB.out PS.out PT.out HBx.out
  clear hK K HBx
  try simp only [Act.put, List.setIfInBounds_toArray, List.set_cons_zero, List.set_cons_succ]
  refine wpAnyH_take (i := 17) (oi := { dst := some 60, op := Go.Op.binOp Go.BinOp.lss 9 (Go.Operand.tmp 57) (Go.Operand.tmp 59) 9, type := 4, pos := "law.go:230", after := #[{ on := 14, ground := Go.Ground.data }, { on := 16, ground := Go.Ground.data }, { on := 10, ground := Go.Ground.guard }], guard := some (10, true) }) (v := ?_) rfl (by kernel_rfl) (by kernel_rfl) (by kernel_rfl) (fun _ _ _ h => h) (Or.inl ⟨by rfl, ?_⟩) (by assumption) ?_
  rotate_left
  · intro w hSw
    try dsimp only at hSw
    go_simp
    try (rw [if_neg (by omega)])
    try with_reducible rfl
  try simp only [Act.put, List.setIfInBounds_toArray, List.set_cons_zero, List.set_cons_succ]
  refine wpAnyH_take (i := 18) (oi := { dst := some 61, op := Go.Op.binOp Go.BinOp.eql 4 (Go.Operand.tmp 55) (Go.Operand.tmp 60) 4, type := 4, pos := "law.go:230", after := #[{ on := 12, ground := Go.Ground.data }, { on := 17, ground := Go.Ground.data }, { on := 10, ground := Go.Ground.guard }], guard := some (10, true) }) (v := ?_) rfl (by kernel_rfl) (by kernel_rfl) (by kernel_rfl) (fun _ _ _ h => h) (Or.inl ⟨by rfl, ?_⟩) (by assumption) ?_
  rotate_left
  · intro w hSw
    try dsimp only at hSw
    go_simp
    try (rw [if_neg (by omega)])
    try with_reducible rfl
  try simp only [Act.put, List.setIfInBounds_toArray, List.set_cons_zero, List.set_cons_succ]
  refine wpAnyH_take (i := 19) (oi := { dst := some 62, op := Go.Op.pick (Go.Operand.tmp 53) (Go.Operand.tmp 61) (Go.Operand.const (Go.Value.bool false)), type := 4, pos := "law.go:230", after := #[{ on := 10, ground := Go.Ground.data }, { on := 18, ground := Go.Ground.data }], guard := none }) (v := ?_) rfl (by kernel_rfl) (by kernel_rfl) (by kernel_rfl) (fun _ _ _ h => h) (Or.inl ⟨by rfl, ?_⟩) (by assumption) ?_
  rotate_left
  · intro w hSw
    try dsimp only at hSw
    go_simp
    try (rw [if_neg (by omega)])
    try with_reducible rfl
  try simp only [Act.put, List.setIfInBounds_toArray, List.set_cons_zero, List.set_cons_succ]
  refine wpAnyH_take (i := 20) (oi := { dst := some 12, op := Go.Op.assign (Go.Operand.tmp 62), type := 4, pos := "law.go:230", after := #[{ on := 19, ground := Go.Ground.data }, { on := 16, ground := Go.Ground.chain }, { on := 0, ground := Go.Ground.phase }, { on := 1, ground := Go.Ground.phase }, { on := 2, ground := Go.Ground.phase }, { on := 3, ground := Go.Ground.phase }, { on := 4, ground := Go.Ground.phase }, { on := 5, ground := Go.Ground.phase }, { on := 6, ground := Go.Ground.phase }, { on := 7, ground := Go.Ground.phase }, { on := 8, ground := Go.Ground.phase }, { on := 9, ground := Go.Ground.phase }, { on := 10, ground := Go.Ground.phase }, { on := 11, ground := Go.Ground.phase }, { on := 12, ground := Go.Ground.phase }, { on := 13, ground := Go.Ground.phase }, { on := 14, ground := Go.Ground.phase }, { on := 15, ground := Go.Ground.phase }, { on := 16, ground := Go.Ground.phase }, { on := 17, ground := Go.Ground.phase }, { on := 18, ground := Go.Ground.phase }, { on := 19, ground := Go.Ground.phase }], guard := none }) (v := ?_) rfl (by kernel_rfl) (by kernel_rfl) (by kernel_rfl) (fun _ _ _ h => h) (Or.inl ⟨by rfl, ?_⟩) (by assumption) ?_
  rotate_left
  · intro w hSw
    try dsimp only at hSw
    go_simp
    try (rw [if_neg (by omega)])
    try with_reducible rfl
  try simp only [Act.put, List.setIfInBounds_toArray, List.set_cons_zero, List.set_cons_succ]
  refine wpAnyH_done (by kernel_rfl) ?_ _
  replace B := bstep B hHeld.2.2.2.2.2.2.2.2.2.2.2.2
  go_wp2
  go_ret
  exact ⟨rfl, B⟩
end Go.Proofs.YthgondbiddncpaaDoor

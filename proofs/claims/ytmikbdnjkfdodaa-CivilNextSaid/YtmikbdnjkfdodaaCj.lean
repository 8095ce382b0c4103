/-
  The statement CivilNext, walked: it answers true.
-/
import Derived.Test.YtmikbdnjkfdodaaCg
namespace Go.Proofs.Ytmikbdnjkfdodaa
open Go.RowKit

/-- The day behind a day: its place in the year. -/
theorem next_yd {y m d p q r : Int} (h : Day y m d) (h' : Day p q r) (e : numI p q r = numI y m d + 1) : (p = y ∧ ydI p q r = ydI y m d + 1) ∨ (p = y + 1 ∧ ydI p q r = 1 ∧ ydI y m d ≠ 0) := by
  have a := num_year h
  have b := num_year h'
  have u := h.yd
  have v := h'.yd
  have s := yst_step y
  rcases Int.lt_trichotomy p y with k | k | k
  · have := yst_mono (show p + 1 ≤ y by omega); omega
  · subst k
    refine .inl ⟨rfl, ?_⟩
    unfold numI at e
    omega
  · have c := yst_mono (show y + 1 ≤ p by omega)
    have k2 : p = y + 1 := by
      have : yst p < yst (y + 1 + 1) := by have := yst_step (y + 1); have := ylen_two (y + 1); omega
      have := yst_lt this
      omega
    subst k2
    refine .inr ⟨rfl, ?_, by omega⟩
    unfold numI at e
    omega
/-- .. its week is another one just if it is a Monday. -/
theorem next_week {y m d p q r : Int} (h : Day y m d) (h' : Day p q r) (e : numI p q r = numI y m d + 1) : (wdI (numI p q r) = 1 ∧ weekI p q r ≠ weekI y m d) ∨ (wdI (numI p q r) ≠ 1 ∧ weekI p q r = weekI y m d) := by
  obtain ⟨a1, a2⟩ := wy_spec h
  obtain ⟨b1, b2⟩ := wy_spec h'
  unfold weekI
  generalize wyI y (numI y m d) = A at *
  generalize wyI p (numI p q r) = B at *
  rw [e] at b1 b2 ⊢
  generalize numI y m d = n at *
  have t : (wdI (n + 1) = 1 ∧ thI (n + 1) = thI n + 7) ∨ (wdI (n + 1) ≠ 1 ∧ thI (n + 1) = thI n) := by unfold thI wdI; omega
  rcases t with ⟨t1, t2⟩ | ⟨t1, t2⟩
  · refine .inl ⟨t1, ?_⟩
    rw [t2] at b1 b2 ⊢
    generalize thI n = x at *
    have s := yst_step A
    have l := ylen_two A
    have s2 := yst_step (A + 1)
    have l2 := ylen_two (A + 1)
    unfold wkI
    have c : A < B + 1 := yst_lt (by omega)
    have c2 : B < A + 1 + 1 := yst_lt (by omega)
    rcases (show B = A ∨ B = A + 1 by omega) with rfl | rfl <;> omega
  · refine .inr ⟨t1, ?_⟩
    rw [t2] at b1 b2 ⊢
    rw [year_one b1 b2 a1 a2]
theorem tdiv_nat' {a b : Int} : (0 ≤ a → a.tdiv b = a / b) ∧ (0 ≤ a → a.tmod b = a % b) := ⟨Int.tdiv_eq_ediv_of_nonneg, Int.tmod_eq_emod_of_nonneg⟩
theorem ordI_self (a : Int) : ordI a a = 0 := by unfold ordI; rw [if_neg (Int.lt_irrefl a), if_neg (Int.lt_irrefl a)]
theorem ordI_next (a : Int) : ordI a (a + 1) = -1 ∧ ordI (a + 1) a = 1 := by
  unfold ordI
  exact ⟨by rw [if_pos (by omega)], by rw [if_neg (by omega), if_pos (by omega)]⟩

set_option maxRecDepth 100000 in
set_option maxHeartbeats 8000000 in
theorem civilNext_A1 (y m d : Int) (Y M D q r : Int) (h1 : Day Y M D) (h2 : Day Y q r) (en : numI Y q r = numI Y M D + 1)
    (K1 : ∀ w : World, Calls Try.prog 21 #[.int .i64 y, .int .i64 m, .int .i64 d] w (Ret (Dt Y M D) w))
    (hy : ydI Y q r = ydI Y M D + 1) (hw : wdI (numI Y q r) = 1 ∧ weekI Y q r ≠ weekI Y M D) (w : World) : Calls Try.prog 7 #[.int .i64 y, .int .i64 m, .int .i64 d] w (Ret (.bool true) w) := by
  have AW := Lib.hid awake6
  have MK := Lib.hid K1
  have N1 := Lib.hid (number_yes Y M D h1)
  have rn := num_in h1
  have O10 := of_num Y q r h2
  rw [en] at O10
  have W10 := weekday_yes Y M D h1
  have WZ0 := weekday_yes Y q r h2
  have CXZ0 := cmp_any Y M D Y q r
  rw [ordT_num h1 h2, en, (ordI_next _).1] at CXZ0
  have CZX0 := cmp_any Y q r Y M D
  rw [ordT_num h2 h1, en, (ordI_next _).2] at CZX0
  have CXX0 := cmp_any Y M D Y M D
  rw [ordT_num h1 h1, ordI_self] at CXX0
  have YX0 := yearday_yes Y M D h1
  have YZ0 := yearday_yes Y q r h2
  have KX0 := week_yes Y M D h1
  have KZ0 := week_yes Y q r h2
  have ydr := h1.yd
  have yl := ylen_two Y
  obtain ⟨yx, hyx⟩ : ∃ x, x = ydI Y M D := ⟨_, rfl⟩
  rw [← hyx] at YX0 hy ydr
  obtain ⟨kx, hkx⟩ : ∃ x, x = weekI Y M D := ⟨_, rfl⟩
  rw [← hkx] at KX0 hw
  rw [hy] at YZ0
  rw [en] at hw
  obtain ⟨kz, hkz⟩ : ∃ x, x = weekI Y q r := ⟨_, rfl⟩
  rw [← hkz] at KZ0 hw
  rw [en] at WZ0
  have wr : 1 ≤ wdI (numI Y M D) ∧ wdI (numI Y M D) ≤ 7 := by unfold wdI; omega
  have wn : wdI (numI Y M D + 1) = (wdI (numI Y M D)).tmod 7 + 1 := by rw [tdiv_nat'.2 (by omega)]; unfold wdI; omega
  have wr2 : 1 ≤ wdI (numI Y M D + 1) ∧ wdI (numI Y M D + 1) ≤ 7 := by unfold wdI; omega
  obtain ⟨n, hn⟩ : ∃ x, x = numI Y M D := ⟨_, rfl⟩
  rw [← hn] at N1 O10 rn WZ0 W10 wn wr wr2 hw
  have u1 : I64 (n + 1) := by unfold I64; omega
  have f1 := u1.wrap
  have f1' := u1.wrap'
  obtain ⟨wz, hwz⟩ : ∃ x, x = wdI (n + 1) := ⟨_, rfl⟩
  rw [← hwz] at WZ0 wn wr2 hw
  obtain ⟨wx, hwx⟩ : ∃ x, x = wdI n := ⟨_, rfl⟩
  rw [← hwx] at W10 wn wr
  have u2 : I64 (wx.tmod 7 + 1) := by rw [← wn]; unfold I64; omega
  have f2 : IntKind.i64.wrap (wx.tmod 7 + 1) = wz := by rw [u2.wrap, wn]
  have f2' : wrap64 (wx.tmod 7 + 1) = wz := by rw [u2.wrap', wn]
  have u3 : I64 (yx + 1) := by unfold I64; omega
  have f3 := u3.wrap
  have f3' := u3.wrap'
  clear u3
  obtain ⟨w1, w2⟩ := hw
  have f6 : (kz != kx) = true := by simpa using w2
  have f7 : wz = 1 := w1
  subst f7
  have O1 := Lib.hid O10
  have WX := Lib.hid W10
  have WZ := Lib.hid WZ0
  have CXZ := Lib.hid CXZ0
  have CZX := Lib.hid CZX0
  have CXX := Lib.hid CXX0
  have YX := Lib.hid YX0
  have YZ := Lib.hid YZ0
  have KX := Lib.hid KX0
  have KZ := Lib.hid KZ0
  clear O10 W10 WZ0 CXZ0 CZX0 CXX0 YX0 YZ0 KX0 KZ0 h1 h2 en K1 rn ydr yl hyx hkx u1 u2 wn wr wr2 hn hwz hwx hkz w1 w2 hy
  go_enter Try.func7, Try.ntmps7
  go_wp2_with fail
  refine (AW.out _).mono ?_
  rintro e w1 ⟨rfl, hb⟩
  have B : Below w.heap.size w w1 := bstep (by go_grown) hb
  clear hb AW
  go_wp2_with fail
  refine (MK.out _).mono ?_
  rintro e w2 ⟨rfl, hb⟩
  replace B := bstep B hb
  clear hb MK
  have PX := Lib.hid (HoldsT.new rfl : HoldsT (w2.alloc (DtC Y M D)) w2.heap.size Y M D)
  replace B := ballD1 B (DtC Y M D)
  go_upto_region 4 with fail
  change Code.wp _ _ _ _ (w2.alloc (DtC Y M D))
  generalize w2.alloc (DtC Y M D) = w3 at *
  obtain ⟨gPX, hg⟩ : ∃ g, g = w2.heap.size := ⟨_, rfl⟩
  rw [← hg] at PX ⊢
  clear hg
  obtain ⟨⟨c01, c02, c03⟩, -, c09⟩ := PX.out
  go_wp2_with fail
  refine (N1.out _).mono ?_
  rintro e w4 ⟨rfl, hb⟩
  replace PX := Lib.hid (PX.out.below hb)
  replace B := bstep B hb
  clear hb N1
  clear c01 c02 c03 c09
  obtain ⟨⟨c01, c02, c03⟩, -, c09⟩ := PX.out
  go_wp2_with fail
  refine (O1.out _).mono ?_
  rintro e w5 ⟨rfl, hb⟩
  replace PX := Lib.hid (PX.out.below hb)
  replace B := bstep B hb
  clear hb O1
  clear c01 c02 c03 c09
  replace PX := Lib.hid (PX.out.alloc (DtC Y q r))
  have PZ := Lib.hid (HoldsT.new rfl : HoldsT (w5.alloc (DtC Y q r)) w5.heap.size Y q r)
  replace B := ballD1 B (DtC Y q r)
  go_upto_region 6 with fail
  change Code.wp _ _ _ _ (w5.alloc (DtC Y q r))
  generalize w5.alloc (DtC Y q r) = w6 at *
  obtain ⟨gPZ, hg⟩ : ∃ g, g = w5.heap.size := ⟨_, rfl⟩
  rw [← hg] at PZ ⊢
  clear hg
  obtain ⟨⟨c01, c02, c03⟩, -, c09⟩ := PX.out
  obtain ⟨⟨c11, c12, c13⟩, -, c19⟩ := PZ.out
  go_wp2_with fail
  refine (WX.out _).mono ?_
  rintro e w7 ⟨rfl, hb⟩
  replace PX := Lib.hid (PX.out.below hb)
  replace PZ := Lib.hid (PZ.out.below hb)
  replace B := bstep B hb
  clear hb WX
  clear c01 c02 c03 c09 c11 c12 c13 c19
  obtain ⟨⟨c01, c02, c03⟩, -, c09⟩ := PX.out
  obtain ⟨⟨c11, c12, c13⟩, -, c19⟩ := PZ.out
  go_upto_region 9 with fail
  generalize w7 = V at *
  refine wp_region_held_drew (S := fun w' => w'.cell? ⟨gPX, 0, none⟩ = some (.int .i64 Y) ∧ w'.cell? ⟨gPX, 1, none⟩ = some (.int .i64 M) ∧ w'.cell? ⟨gPX, 2, none⟩ = some (.int .i64 D) ∧ w'.cell? ⟨gPZ, 0, none⟩ = some (.int .i64 Y) ∧ w'.cell? ⟨gPZ, 1, none⟩ = some (.int .i64 q) ∧ w'.cell? ⟨gPZ, 2, none⟩ = some (.int .i64 r) ∧ Below V.heap.size V w') (by kernel_rfl) ?_ (fun hHeld => ?_)
  · exact keepT2 PX.out.1 PX.out.2.2 PZ.out.1 PZ.out.2.2 (Below.refl _ _).drew
  refine wpAnyH_take (i := 0) (oi := { dst := some 39, op := Go.Op.load 23 (Go.Operand.tmp 10), type := 23, pos := "law.go:107", after := #[], guard := none }) (v := ?_) rfl (by kernel_rfl) (by kernel_rfl) (by kernel_rfl) (fun _ _ _ h => h) (Or.inl ⟨by rfl, ?_⟩) (by assumption) ?_
  rotate_left
  · intro w hSw
    try dsimp only at hSw
    go_simp
    try with_reducible rfl
  try simp only [Act.put, List.setIfInBounds_toArray, List.set_cons_zero, List.set_cons_succ]
  refine wpAnyH_take (i := 2) (oi := { dst := some 41, op := Go.Op.move (Go.Operand.tmp 12), type := 3, pos := "law.go:107", after := #[], guard := none }) (v := ?_) rfl (by kernel_rfl) (by kernel_rfl) (by kernel_rfl) (fun _ _ _ h => h) (Or.inl ⟨by rfl, ?_⟩) (by assumption) ?_
  rotate_left
  · intro w hSw
    try dsimp only at hSw
    go_simp
    try with_reducible rfl
  try simp only [Act.put, List.setIfInBounds_toArray, List.set_cons_zero, List.set_cons_succ]
  refine wpAnyH_ready (rs := [1]) (by kernel_rfl) (by simp) ?_
  refine AllReadyH.cons (o := { dst := some 40, op := Go.Op.call { callee := Go.Callee.value (Go.Operand.func 18), args := #[Go.Operand.tmp 39], argTypes := #[23] }, type := 3, pos := "law.go:107", after := #[{ on := 0, ground := Go.Ground.data }], guard := none }) rfl (fun K hK => ?_) AllReadyH.nil
  go_simp
  refine (WZ.out _).mono ?_
  rintro e v1 ⟨rfl, hbv1⟩
  have HBx := Lib.hid (bstep hHeld.2.2.2.2.2.2 hbv1)
  clear hHeld hbv1
  refine hK.out _ _ ?_ (fun hHeld => ?_)
  · exact keepT2 PX.out.1 PX.out.2.2 PZ.out.1 PZ.out.2.2 HBx.out
  clear hK K HBx
  try simp only [Act.put, List.setIfInBounds_toArray, List.set_cons_zero, List.set_cons_succ]
  refine wpAnyH_take (i := 3) (oi := { dst := some 42, op := Go.Op.binOp Go.BinOp.eql 3 (Go.Operand.tmp 40) (Go.Operand.tmp 41) 3, type := 4, pos := "law.go:107", after := #[{ on := 1, ground := Go.Ground.data }, { on := 2, ground := Go.Ground.data }], guard := none }) (v := ?_) rfl (by kernel_rfl) (by kernel_rfl) (by kernel_rfl) (fun _ _ _ h => h) (Or.inl ⟨by rfl, ?_⟩) (by assumption) ?_
  rotate_left
  · intro w hSw
    try dsimp only at hSw
    go_simp
    try with_reducible rfl
  try simp only [Act.put, List.setIfInBounds_toArray, List.set_cons_zero, List.set_cons_succ]
  refine wpAnyH_take (i := 4) (oi := { dst := some 43, op := Go.Op.move (Go.Operand.tmp 42), type := 4, pos := "law.go:107", after := #[{ on := 3, ground := Go.Ground.data }, { on := 1, ground := Go.Ground.chain }], guard := none }) (v := ?_) rfl (by kernel_rfl) (by kernel_rfl) (by kernel_rfl) (fun _ _ _ h => h) (Or.inl ⟨by rfl, ?_⟩) (by assumption) ?_
  rotate_left
  · intro w hSw
    try dsimp only at hSw
    go_simp
    try with_reducible rfl
  try simp only [Act.put, List.setIfInBounds_toArray, List.set_cons_zero, List.set_cons_succ]
  refine wpAnyH_take (i := 5) (oi := { dst := some 44, op := Go.Op.load 23 (Go.Operand.tmp 7), type := 23, pos := "law.go:107", after := #[{ on := 4, ground := Go.Ground.guard }], guard := some (4, true) }) (v := ?_) rfl (by kernel_rfl) (by kernel_rfl) (by kernel_rfl) (fun _ _ _ h => h) (Or.inl ⟨by rfl, ?_⟩) (by assumption) ?_
  rotate_left
  · intro w hSw
    try dsimp only at hSw
    go_simp
    try with_reducible rfl
  try simp only [Act.put, List.setIfInBounds_toArray, List.set_cons_zero, List.set_cons_succ]
  refine wpAnyH_take (i := 6) (oi := { dst := some 45, op := Go.Op.load 23 (Go.Operand.tmp 10), type := 23, pos := "law.go:107", after := #[{ on := 4, ground := Go.Ground.guard }], guard := some (4, true) }) (v := ?_) rfl (by kernel_rfl) (by kernel_rfl) (by kernel_rfl) (fun _ _ _ h => h) (Or.inl ⟨by rfl, ?_⟩) (by assumption) ?_
  rotate_left
  · intro w hSw
    try dsimp only at hSw
    go_simp
    try with_reducible rfl
  try simp only [Act.put, List.setIfInBounds_toArray, List.set_cons_zero, List.set_cons_succ]
  refine wpAnyH_ready (rs := [7]) (by kernel_rfl) (by simp) ?_
  refine AllReadyH.cons (o := { dst := some 46, op := Go.Op.call { callee := Go.Callee.value (Go.Operand.func 28), args := #[Go.Operand.tmp 44, Go.Operand.tmp 45], argTypes := #[23, 23] }, type := 3, pos := "law.go:107", after := #[{ on := 5, ground := Go.Ground.data }, { on := 6, ground := Go.Ground.data }, { on := 4, ground := Go.Ground.chain }, { on := 4, ground := Go.Ground.guard }], guard := some (4, true) }) rfl (fun K hK => ?_) AllReadyH.nil
  go_simp
  refine (CXZ.out _).mono ?_
  rintro e v2 ⟨rfl, hbv2⟩
  have HBx := Lib.hid (bstep hHeld.2.2.2.2.2.2 hbv2)
  clear hHeld hbv2
  refine hK.out _ _ ?_ (fun hHeld => ?_)
  · exact keepT2 PX.out.1 PX.out.2.2 PZ.out.1 PZ.out.2.2 HBx.out
  clear hK K HBx
  try simp only [Act.put, List.setIfInBounds_toArray, List.set_cons_zero, List.set_cons_succ]
  refine wpAnyH_take (i := 8) (oi := { dst := some 47, op := Go.Op.binOp Go.BinOp.eql 3 (Go.Operand.tmp 46) (Go.Operand.const (Go.Value.int Go.IntKind.i64 (-1))) 3, type := 4, pos := "law.go:107", after := #[{ on := 7, ground := Go.Ground.data }, { on := 4, ground := Go.Ground.guard }], guard := some (4, true) }) (v := ?_) rfl (by kernel_rfl) (by kernel_rfl) (by kernel_rfl) (fun _ _ _ h => h) (Or.inl ⟨by rfl, ?_⟩) (by assumption) ?_
  rotate_left
  · intro w hSw
    try dsimp only at hSw
    go_simp
    try with_reducible rfl
  try simp only [Act.put, List.setIfInBounds_toArray, List.set_cons_zero, List.set_cons_succ]
  refine wpAnyH_take (i := 9) (oi := { dst := some 48, op := Go.Op.pick (Go.Operand.tmp 43) (Go.Operand.tmp 47) (Go.Operand.const (Go.Value.bool false)), type := 4, pos := "law.go:107", after := #[{ on := 4, ground := Go.Ground.data }, { on := 8, ground := Go.Ground.data }], guard := none }) (v := ?_) rfl (by kernel_rfl) (by kernel_rfl) (by kernel_rfl) (fun _ _ _ h => h) (Or.inl ⟨by rfl, ?_⟩) (by assumption) ?_
  rotate_left
  · intro w hSw
    try dsimp only at hSw
    go_simp
    try with_reducible rfl
  try simp only [Act.put, List.setIfInBounds_toArray, List.set_cons_zero, List.set_cons_succ]
  refine wpAnyH_take (i := 10) (oi := { dst := some 49, op := Go.Op.move (Go.Operand.tmp 48), type := 4, pos := "law.go:107", after := #[{ on := 9, ground := Go.Ground.data }, { on := 7, ground := Go.Ground.chain }], guard := none }) (v := ?_) rfl (by kernel_rfl) (by kernel_rfl) (by kernel_rfl) (fun _ _ _ h => h) (Or.inl ⟨by rfl, ?_⟩) (by assumption) ?_
  rotate_left
  · intro w hSw
    try dsimp only at hSw
    go_simp
    try with_reducible rfl
  try simp only [Act.put, List.setIfInBounds_toArray, List.set_cons_zero, List.set_cons_succ]
  refine wpAnyH_take (i := 11) (oi := { dst := some 50, op := Go.Op.load 23 (Go.Operand.tmp 10), type := 23, pos := "law.go:107", after := #[{ on := 10, ground := Go.Ground.guard }], guard := some (10, true) }) (v := ?_) rfl (by kernel_rfl) (by kernel_rfl) (by kernel_rfl) (fun _ _ _ h => h) (Or.inl ⟨by rfl, ?_⟩) (by assumption) ?_
  rotate_left
  · intro w hSw
    try dsimp only at hSw
    go_simp
    try with_reducible rfl
  try simp only [Act.put, List.setIfInBounds_toArray, List.set_cons_zero, List.set_cons_succ]
  refine wpAnyH_take (i := 12) (oi := { dst := some 51, op := Go.Op.load 23 (Go.Operand.tmp 7), type := 23, pos := "law.go:107", after := #[{ on := 10, ground := Go.Ground.guard }], guard := some (10, true) }) (v := ?_) rfl (by kernel_rfl) (by kernel_rfl) (by kernel_rfl) (fun _ _ _ h => h) (Or.inl ⟨by rfl, ?_⟩) (by assumption) ?_
  rotate_left
  · intro w hSw
    try dsimp only at hSw
    go_simp
    try with_reducible rfl
  try simp only [Act.put, List.setIfInBounds_toArray, List.set_cons_zero, List.set_cons_succ]
  refine wpAnyH_ready (rs := [13]) (by kernel_rfl) (by simp) ?_
  refine AllReadyH.cons (o := { dst := some 52, op := Go.Op.call { callee := Go.Callee.value (Go.Operand.func 28), args := #[Go.Operand.tmp 50, Go.Operand.tmp 51], argTypes := #[23, 23] }, type := 3, pos := "law.go:107", after := #[{ on := 11, ground := Go.Ground.data }, { on := 12, ground := Go.Ground.data }, { on := 10, ground := Go.Ground.chain }, { on := 10, ground := Go.Ground.guard }], guard := some (10, true) }) rfl (fun K hK => ?_) AllReadyH.nil
  go_simp
  refine (CZX.out _).mono ?_
  rintro e v3 ⟨rfl, hbv3⟩
  have HBx := Lib.hid (bstep hHeld.2.2.2.2.2.2 hbv3)
  clear hHeld hbv3
  refine hK.out _ _ ?_ (fun hHeld => ?_)
  · exact keepT2 PX.out.1 PX.out.2.2 PZ.out.1 PZ.out.2.2 HBx.out
  clear hK K HBx
  try simp only [Act.put, List.setIfInBounds_toArray, List.set_cons_zero, List.set_cons_succ]
  refine wpAnyH_take (i := 14) (oi := { dst := some 53, op := Go.Op.binOp Go.BinOp.eql 3 (Go.Operand.tmp 52) (Go.Operand.const (Go.Value.int Go.IntKind.i64 1)) 3, type := 4, pos := "law.go:107", after := #[{ on := 13, ground := Go.Ground.data }, { on := 10, ground := Go.Ground.guard }], guard := some (10, true) }) (v := ?_) rfl (by kernel_rfl) (by kernel_rfl) (by kernel_rfl) (fun _ _ _ h => h) (Or.inl ⟨by rfl, ?_⟩) (by assumption) ?_
  rotate_left
  · intro w hSw
    try dsimp only at hSw
    go_simp
    try with_reducible rfl
  try simp only [Act.put, List.setIfInBounds_toArray, List.set_cons_zero, List.set_cons_succ]
  refine wpAnyH_take (i := 15) (oi := { dst := some 54, op := Go.Op.pick (Go.Operand.tmp 49) (Go.Operand.tmp 53) (Go.Operand.const (Go.Value.bool false)), type := 4, pos := "law.go:107", after := #[{ on := 10, ground := Go.Ground.data }, { on := 14, ground := Go.Ground.data }], guard := none }) (v := ?_) rfl (by kernel_rfl) (by kernel_rfl) (by kernel_rfl) (fun _ _ _ h => h) (Or.inl ⟨by rfl, ?_⟩) (by assumption) ?_
  rotate_left
  · intro w hSw
    try dsimp only at hSw
    go_simp
    try with_reducible rfl
  try simp only [Act.put, List.setIfInBounds_toArray, List.set_cons_zero, List.set_cons_succ]
  refine wpAnyH_take (i := 16) (oi := { dst := some 55, op := Go.Op.move (Go.Operand.tmp 54), type := 4, pos := "law.go:107", after := #[{ on := 15, ground := Go.Ground.data }, { on := 13, ground := Go.Ground.chain }], guard := none }) (v := ?_) rfl (by kernel_rfl) (by kernel_rfl) (by kernel_rfl) (fun _ _ _ h => h) (Or.inl ⟨by rfl, ?_⟩) (by assumption) ?_
  rotate_left
  · intro w hSw
    try dsimp only at hSw
    go_simp
    try with_reducible rfl
  try simp only [Act.put, List.setIfInBounds_toArray, List.set_cons_zero, List.set_cons_succ]
  refine wpAnyH_take (i := 17) (oi := { dst := some 56, op := Go.Op.load 23 (Go.Operand.tmp 7), type := 23, pos := "law.go:107", after := #[{ on := 16, ground := Go.Ground.guard }], guard := some (16, true) }) (v := ?_) rfl (by kernel_rfl) (by kernel_rfl) (by kernel_rfl) (fun _ _ _ h => h) (Or.inl ⟨by rfl, ?_⟩) (by assumption) ?_
  rotate_left
  · intro w hSw
    try dsimp only at hSw
    go_simp
    try with_reducible rfl
  try simp only [Act.put, List.setIfInBounds_toArray, List.set_cons_zero, List.set_cons_succ]
  refine wpAnyH_take (i := 18) (oi := { dst := some 57, op := Go.Op.load 23 (Go.Operand.tmp 7), type := 23, pos := "law.go:107", after := #[{ on := 16, ground := Go.Ground.guard }], guard := some (16, true) }) (v := ?_) rfl (by kernel_rfl) (by kernel_rfl) (by kernel_rfl) (fun _ _ _ h => h) (Or.inl ⟨by rfl, ?_⟩) (by assumption) ?_
  rotate_left
  · intro w hSw
    try dsimp only at hSw
    go_simp
    try with_reducible rfl
  try simp only [Act.put, List.setIfInBounds_toArray, List.set_cons_zero, List.set_cons_succ]
  refine wpAnyH_ready (rs := [19]) (by kernel_rfl) (by simp) ?_
  refine AllReadyH.cons (o := { dst := some 58, op := Go.Op.call { callee := Go.Callee.value (Go.Operand.func 28), args := #[Go.Operand.tmp 56, Go.Operand.tmp 57], argTypes := #[23, 23] }, type := 3, pos := "law.go:107", after := #[{ on := 17, ground := Go.Ground.data }, { on := 18, ground := Go.Ground.data }, { on := 16, ground := Go.Ground.chain }, { on := 16, ground := Go.Ground.guard }], guard := some (16, true) }) rfl (fun K hK => ?_) AllReadyH.nil
  go_simp
  refine (CXX.out _).mono ?_
  rintro e v4 ⟨rfl, hbv4⟩
  have HBx := Lib.hid (bstep hHeld.2.2.2.2.2.2 hbv4)
  clear hHeld hbv4
  refine hK.out _ _ ?_ (fun hHeld => ?_)
  · exact keepT2 PX.out.1 PX.out.2.2 PZ.out.1 PZ.out.2.2 HBx.out
  clear hK K HBx
  try simp only [Act.put, List.setIfInBounds_toArray, List.set_cons_zero, List.set_cons_succ]
  refine wpAnyH_take (i := 20) (oi := { dst := some 59, op := Go.Op.binOp Go.BinOp.eql 3 (Go.Operand.tmp 58) (Go.Operand.const (Go.Value.int Go.IntKind.i64 0)) 3, type := 4, pos := "law.go:107", after := #[{ on := 19, ground := Go.Ground.data }, { on := 16, ground := Go.Ground.guard }], guard := some (16, true) }) (v := ?_) rfl (by kernel_rfl) (by kernel_rfl) (by kernel_rfl) (fun _ _ _ h => h) (Or.inl ⟨by rfl, ?_⟩) (by assumption) ?_
  rotate_left
  · intro w hSw
    try dsimp only at hSw
    go_simp
    try with_reducible rfl
  try simp only [Act.put, List.setIfInBounds_toArray, List.set_cons_zero, List.set_cons_succ]
  refine wpAnyH_take (i := 21) (oi := { dst := some 60, op := Go.Op.pick (Go.Operand.tmp 55) (Go.Operand.tmp 59) (Go.Operand.const (Go.Value.bool false)), type := 4, pos := "law.go:107", after := #[{ on := 16, ground := Go.Ground.data }, { on := 20, ground := Go.Ground.data }], guard := none }) (v := ?_) rfl (by kernel_rfl) (by kernel_rfl) (by kernel_rfl) (fun _ _ _ h => h) (Or.inl ⟨by rfl, ?_⟩) (by assumption) ?_
  rotate_left
  · intro w hSw
    try dsimp only at hSw
    go_simp
    try with_reducible rfl
  try simp only [Act.put, List.setIfInBounds_toArray, List.set_cons_zero, List.set_cons_succ]
  refine wpAnyH_take (i := 22) (oi := { dst := some 61, op := Go.Op.move (Go.Operand.tmp 60), type := 4, pos := "law.go:107", after := #[{ on := 21, ground := Go.Ground.data }, { on := 19, ground := Go.Ground.chain }], guard := none }) (v := ?_) rfl (by kernel_rfl) (by kernel_rfl) (by kernel_rfl) (fun _ _ _ h => h) (Or.inl ⟨by rfl, ?_⟩) (by assumption) ?_
  rotate_left
  · intro w hSw
    try dsimp only at hSw
    go_simp
    try with_reducible rfl
  try simp only [Act.put, List.setIfInBounds_toArray, List.set_cons_zero, List.set_cons_succ]
  refine wpAnyH_take (i := 23) (oi := { dst := some 62, op := Go.Op.load 23 (Go.Operand.tmp 10), type := 23, pos := "law.go:107", after := #[{ on := 22, ground := Go.Ground.guard }], guard := some (22, true) }) (v := ?_) rfl (by kernel_rfl) (by kernel_rfl) (by kernel_rfl) (fun _ _ _ h => h) (Or.inl ⟨by rfl, ?_⟩) (by assumption) ?_
  rotate_left
  · intro w hSw
    try dsimp only at hSw
    go_simp
    try with_reducible rfl
  try simp only [Act.put, List.setIfInBounds_toArray, List.set_cons_zero, List.set_cons_succ]
  refine wpAnyH_take (i := 25) (oi := { dst := some 64, op := Go.Op.load 23 (Go.Operand.tmp 7), type := 23, pos := "law.go:107", after := #[{ on := 22, ground := Go.Ground.guard }], guard := some (22, true) }) (v := ?_) rfl (by kernel_rfl) (by kernel_rfl) (by kernel_rfl) (fun _ _ _ h => h) (Or.inl ⟨by rfl, ?_⟩) (by assumption) ?_
  rotate_left
  · intro w hSw
    try dsimp only at hSw
    go_simp
    try with_reducible rfl
  try simp only [Act.put, List.setIfInBounds_toArray, List.set_cons_zero, List.set_cons_succ]
  refine wpAnyH_ready (rs := [24]) (by kernel_rfl) (by simp) ?_
  refine AllReadyH.cons (o := { dst := some 63, op := Go.Op.call { callee := Go.Callee.value (Go.Operand.func 19), args := #[Go.Operand.tmp 62], argTypes := #[23] }, type := 3, pos := "law.go:107", after := #[{ on := 23, ground := Go.Ground.data }, { on := 22, ground := Go.Ground.chain }, { on := 22, ground := Go.Ground.guard }], guard := some (22, true) }) rfl (fun K hK => ?_) AllReadyH.nil
  go_simp
  refine (YZ.out _).mono ?_
  rintro e v5 ⟨rfl, hbv5⟩
  have HBx := Lib.hid (bstep hHeld.2.2.2.2.2.2 hbv5)
  clear hHeld hbv5
  refine hK.out _ _ ?_ (fun hHeld => ?_)
  · exact keepT2 PX.out.1 PX.out.2.2 PZ.out.1 PZ.out.2.2 HBx.out
  clear hK K HBx
  try simp only [Act.put, List.setIfInBounds_toArray, List.set_cons_zero, List.set_cons_succ]
  refine wpAnyH_ready (rs := [26]) (by kernel_rfl) (by simp) ?_
  refine AllReadyH.cons (o := { dst := some 65, op := Go.Op.call { callee := Go.Callee.value (Go.Operand.func 19), args := #[Go.Operand.tmp 64], argTypes := #[23] }, type := 3, pos := "law.go:107", after := #[{ on := 25, ground := Go.Ground.data }, { on := 24, ground := Go.Ground.chain }, { on := 22, ground := Go.Ground.guard }], guard := some (22, true) }) rfl (fun K hK => ?_) AllReadyH.nil
  go_simp
  refine (YX.out _).mono ?_
  rintro e v6 ⟨rfl, hbv6⟩
  have HBx := Lib.hid (bstep hHeld.2.2.2.2.2.2 hbv6)
  clear hHeld hbv6
  refine hK.out _ _ ?_ (fun hHeld => ?_)
  · exact keepT2 PX.out.1 PX.out.2.2 PZ.out.1 PZ.out.2.2 HBx.out
  clear hK K HBx
  try simp only [Act.put, List.setIfInBounds_toArray, List.set_cons_zero, List.set_cons_succ]
  refine wpAnyH_take (i := 27) (oi := { dst := some 66, op := Go.Op.binOp Go.BinOp.add 3 (Go.Operand.tmp 65) (Go.Operand.const (Go.Value.int Go.IntKind.i64 1)) 3, type := 3, pos := "law.go:107", after := #[{ on := 26, ground := Go.Ground.data }, { on := 22, ground := Go.Ground.guard }], guard := some (22, true) }) (v := ?_) rfl (by kernel_rfl) (by kernel_rfl) (by kernel_rfl) (fun _ _ _ h => h) (Or.inl ⟨by rfl, ?_⟩) (by assumption) ?_
  rotate_left
  · intro w hSw
    try dsimp only at hSw
    go_simp
    try with_reducible rfl
  try simp only [Act.put, List.setIfInBounds_toArray, List.set_cons_zero, List.set_cons_succ]
  refine wpAnyH_take (i := 28) (oi := { dst := some 67, op := Go.Op.binOp Go.BinOp.eql 3 (Go.Operand.tmp 63) (Go.Operand.tmp 66) 3, type := 4, pos := "law.go:107", after := #[{ on := 24, ground := Go.Ground.data }, { on := 27, ground := Go.Ground.data }, { on := 22, ground := Go.Ground.guard }], guard := some (22, true) }) (v := ?_) rfl (by kernel_rfl) (by kernel_rfl) (by kernel_rfl) (fun _ _ _ h => h) (Or.inl ⟨by rfl, ?_⟩) (by assumption) ?_
  rotate_left
  · intro w hSw
    try dsimp only at hSw
    go_simp
    try with_reducible rfl
  try simp only [Act.put, List.setIfInBounds_toArray, List.set_cons_zero, List.set_cons_succ]
  refine wpAnyH_take (i := 29) (oi := { dst := some 68, op := Go.Op.move (Go.Operand.tmp 67), type := 4, pos := "law.go:107", after := #[{ on := 28, ground := Go.Ground.data }, { on := 26, ground := Go.Ground.chain }, { on := 22, ground := Go.Ground.guard }], guard := some (22, true) }) (v := ?_) rfl (by kernel_rfl) (by kernel_rfl) (by kernel_rfl) (fun _ _ _ h => h) (Or.inl ⟨by rfl, ?_⟩) (by assumption) ?_
  rotate_left
  · intro w hSw
    try dsimp only at hSw
    go_simp
    try with_reducible rfl
  try simp only [Act.put, List.setIfInBounds_toArray, List.set_cons_zero, List.set_cons_succ]
  refine wpAnyH_take (i := 30) (oi := { dst := some 69, op := Go.Op.load 23 (Go.Operand.tmp 10), type := 23, pos := "law.go:107", after := #[{ on := 29, ground := Go.Ground.guard }], guard := some (29, false) }) (v := undef) rfl (by kernel_rfl) (by kernel_rfl) (by kernel_rfl) (fun _ _ _ h => h) (Or.inr ⟨by rfl, rfl⟩) (by assumption) ?_
  try simp only [Act.put, List.setIfInBounds_toArray, List.set_cons_zero, List.set_cons_succ]
  refine wpAnyH_take (i := 31) (oi := { dst := some 70, op := Go.Op.call { callee := Go.Callee.value (Go.Operand.func 19), args := #[Go.Operand.tmp 69], argTypes := #[23] }, type := 3, pos := "law.go:107", after := #[{ on := 30, ground := Go.Ground.data }, { on := 29, ground := Go.Ground.chain }, { on := 29, ground := Go.Ground.guard }], guard := some (29, false) }) (v := undef) rfl (by kernel_rfl) (by kernel_rfl) (by kernel_rfl) (fun _ _ _ h => h) (Or.inr ⟨by rfl, rfl⟩) (by assumption) ?_
  try simp only [Act.put, List.setIfInBounds_toArray, List.set_cons_zero, List.set_cons_succ]
  refine wpAnyH_take (i := 32) (oi := { dst := some 71, op := Go.Op.binOp Go.BinOp.eql 3 (Go.Operand.tmp 70) (Go.Operand.const (Go.Value.int Go.IntKind.i64 1)) 3, type := 4, pos := "law.go:107", after := #[{ on := 31, ground := Go.Ground.data }, { on := 29, ground := Go.Ground.guard }], guard := some (29, false) }) (v := undef) rfl (by kernel_rfl) (by kernel_rfl) (by kernel_rfl) (fun _ _ _ h => h) (Or.inr ⟨by rfl, rfl⟩) (by assumption) ?_
  try simp only [Act.put, List.setIfInBounds_toArray, List.set_cons_zero, List.set_cons_succ]
  refine wpAnyH_take (i := 33) (oi := { dst := some 72, op := Go.Op.move (Go.Operand.tmp 71), type := 4, pos := "law.go:107", after := #[{ on := 32, ground := Go.Ground.data }, { on := 31, ground := Go.Ground.chain }, { on := 29, ground := Go.Ground.guard }], guard := some (29, false) }) (v := undef) rfl (by kernel_rfl) (by kernel_rfl) (by kernel_rfl) (fun _ _ _ h => h) (Or.inr ⟨by rfl, rfl⟩) (by assumption) ?_
  try simp only [Act.put, List.setIfInBounds_toArray, List.set_cons_zero, List.set_cons_succ]
  refine wpAnyH_take (i := 34) (oi := { dst := some 73, op := Go.Op.fieldAddr 23 (Go.Operand.tmp 10) 0, type := 0, pos := "law.go:107", after := #[{ on := 33, ground := Go.Ground.guard }], guard := some (33, true) }) (v := undef) rfl (by kernel_rfl) (by kernel_rfl) (by kernel_rfl) (fun _ _ _ h => h) (Or.inr ⟨by rfl, rfl⟩) (by assumption) ?_
  try simp only [Act.put, List.setIfInBounds_toArray, List.set_cons_zero, List.set_cons_succ]
  refine wpAnyH_take (i := 36) (oi := { dst := some 75, op := Go.Op.fieldAddr 23 (Go.Operand.tmp 7) 0, type := 0, pos := "law.go:107", after := #[{ on := 33, ground := Go.Ground.guard }], guard := some (33, true) }) (v := undef) rfl (by kernel_rfl) (by kernel_rfl) (by kernel_rfl) (fun _ _ _ h => h) (Or.inr ⟨by rfl, rfl⟩) (by assumption) ?_
  try simp only [Act.put, List.setIfInBounds_toArray, List.set_cons_zero, List.set_cons_succ]
  refine wpAnyH_take (i := 35) (oi := { dst := some 74, op := Go.Op.load 3 (Go.Operand.tmp 73), type := 3, pos := "law.go:107", after := #[{ on := 34, ground := Go.Ground.data }, { on := 33, ground := Go.Ground.guard }], guard := some (33, true) }) (v := undef) rfl (by kernel_rfl) (by kernel_rfl) (by kernel_rfl) (fun _ _ _ h => h) (Or.inr ⟨by rfl, rfl⟩) (by assumption) ?_
  try simp only [Act.put, List.setIfInBounds_toArray, List.set_cons_zero, List.set_cons_succ]
  refine wpAnyH_take (i := 37) (oi := { dst := some 76, op := Go.Op.load 3 (Go.Operand.tmp 75), type := 3, pos := "law.go:107", after := #[{ on := 36, ground := Go.Ground.data }, { on := 33, ground := Go.Ground.guard }], guard := some (33, true) }) (v := undef) rfl (by kernel_rfl) (by kernel_rfl) (by kernel_rfl) (fun _ _ _ h => h) (Or.inr ⟨by rfl, rfl⟩) (by assumption) ?_
  try simp only [Act.put, List.setIfInBounds_toArray, List.set_cons_zero, List.set_cons_succ]
  refine wpAnyH_take (i := 38) (oi := { dst := some 77, op := Go.Op.binOp Go.BinOp.add 3 (Go.Operand.tmp 76) (Go.Operand.const (Go.Value.int Go.IntKind.i64 1)) 3, type := 3, pos := "law.go:107", after := #[{ on := 37, ground := Go.Ground.data }, { on := 33, ground := Go.Ground.guard }], guard := some (33, true) }) (v := undef) rfl (by kernel_rfl) (by kernel_rfl) (by kernel_rfl) (fun _ _ _ h => h) (Or.inr ⟨by rfl, rfl⟩) (by assumption) ?_
  try simp only [Act.put, List.setIfInBounds_toArray, List.set_cons_zero, List.set_cons_succ]
  refine wpAnyH_take (i := 39) (oi := { dst := some 78, op := Go.Op.binOp Go.BinOp.eql 3 (Go.Operand.tmp 74) (Go.Operand.tmp 77) 3, type := 4, pos := "law.go:107", after := #[{ on := 35, ground := Go.Ground.data }, { on := 38, ground := Go.Ground.data }, { on := 33, ground := Go.Ground.guard }], guard := some (33, true) }) (v := undef) rfl (by kernel_rfl) (by kernel_rfl) (by kernel_rfl) (fun _ _ _ h => h) (Or.inr ⟨by rfl, rfl⟩) (by assumption) ?_
  try simp only [Act.put, List.setIfInBounds_toArray, List.set_cons_zero, List.set_cons_succ]
  refine wpAnyH_take (i := 40) (oi := { dst := some 79, op := Go.Op.pick (Go.Operand.tmp 72) (Go.Operand.tmp 78) (Go.Operand.const (Go.Value.bool false)), type := 4, pos := "law.go:107", after := #[{ on := 33, ground := Go.Ground.data }, { on := 39, ground := Go.Ground.data }, { on := 29, ground := Go.Ground.guard }], guard := some (29, false) }) (v := undef) rfl (by kernel_rfl) (by kernel_rfl) (by kernel_rfl) (fun _ _ _ h => h) (Or.inr ⟨by rfl, rfl⟩) (by assumption) ?_
  try simp only [Act.put, List.setIfInBounds_toArray, List.set_cons_zero, List.set_cons_succ]
  refine wpAnyH_take (i := 41) (oi := { dst := some 80, op := Go.Op.pick (Go.Operand.tmp 68) (Go.Operand.const (Go.Value.bool true)) (Go.Operand.tmp 79), type := 4, pos := "law.go:107", after := #[{ on := 29, ground := Go.Ground.data }, { on := 40, ground := Go.Ground.data }, { on := 22, ground := Go.Ground.guard }], guard := some (22, true) }) (v := ?_) rfl (by kernel_rfl) (by kernel_rfl) (by kernel_rfl) (fun _ _ _ h => h) (Or.inl ⟨by rfl, ?_⟩) (by assumption) ?_
  rotate_left
  · intro w hSw
    try dsimp only at hSw
    go_simp
    try with_reducible rfl
  try simp only [Act.put, List.setIfInBounds_toArray, List.set_cons_zero, List.set_cons_succ]
  refine wpAnyH_take (i := 42) (oi := { dst := some 81, op := Go.Op.pick (Go.Operand.tmp 61) (Go.Operand.tmp 80) (Go.Operand.const (Go.Value.bool false)), type := 4, pos := "law.go:107", after := #[{ on := 22, ground := Go.Ground.data }, { on := 41, ground := Go.Ground.data }], guard := none }) (v := ?_) rfl (by kernel_rfl) (by kernel_rfl) (by kernel_rfl) (fun _ _ _ h => h) (Or.inl ⟨by rfl, ?_⟩) (by assumption) ?_
  rotate_left
  · intro w hSw
    try dsimp only at hSw
    go_simp
    try with_reducible rfl
  try simp only [Act.put, List.setIfInBounds_toArray, List.set_cons_zero, List.set_cons_succ]
  refine wpAnyH_take (i := 43) (oi := { dst := some 82, op := Go.Op.move (Go.Operand.tmp 81), type := 4, pos := "law.go:107", after := #[{ on := 42, ground := Go.Ground.data }, { on := 33, ground := Go.Ground.chain }], guard := none }) (v := ?_) rfl (by kernel_rfl) (by kernel_rfl) (by kernel_rfl) (fun _ _ _ h => h) (Or.inl ⟨by rfl, ?_⟩) (by assumption) ?_
  rotate_left
  · intro w hSw
    try dsimp only at hSw
    go_simp
    try with_reducible rfl
  try simp only [Act.put, List.setIfInBounds_toArray, List.set_cons_zero, List.set_cons_succ]
  refine wpAnyH_take (i := 44) (oi := { dst := some 83, op := Go.Op.move (Go.Operand.tmp 12), type := 3, pos := "law.go:107", after := #[{ on := 43, ground := Go.Ground.guard }], guard := some (43, true) }) (v := ?_) rfl (by kernel_rfl) (by kernel_rfl) (by kernel_rfl) (fun _ _ _ h => h) (Or.inl ⟨by rfl, ?_⟩) (by assumption) ?_
  rotate_left
  · intro w hSw
    try dsimp only at hSw
    go_simp
    try with_reducible rfl
  try simp only [Act.put, List.setIfInBounds_toArray, List.set_cons_zero, List.set_cons_succ]
  refine wpAnyH_take (i := 46) (oi := { dst := some 85, op := Go.Op.load 23 (Go.Operand.tmp 10), type := 23, pos := "law.go:107", after := #[{ on := 43, ground := Go.Ground.guard }], guard := some (43, true) }) (v := ?_) rfl (by kernel_rfl) (by kernel_rfl) (by kernel_rfl) (fun _ _ _ h => h) (Or.inl ⟨by rfl, ?_⟩) (by assumption) ?_
  rotate_left
  · intro w hSw
    try dsimp only at hSw
    go_simp
    try with_reducible rfl
  try simp only [Act.put, List.setIfInBounds_toArray, List.set_cons_zero, List.set_cons_succ]
  refine wpAnyH_take (i := 48) (oi := { dst := some 87, op := Go.Op.load 23 (Go.Operand.tmp 7), type := 23, pos := "law.go:107", after := #[{ on := 43, ground := Go.Ground.guard }], guard := some (43, true) }) (v := ?_) rfl (by kernel_rfl) (by kernel_rfl) (by kernel_rfl) (fun _ _ _ h => h) (Or.inl ⟨by rfl, ?_⟩) (by assumption) ?_
  rotate_left
  · intro w hSw
    try dsimp only at hSw
    go_simp
    try with_reducible rfl
  try simp only [Act.put, List.setIfInBounds_toArray, List.set_cons_zero, List.set_cons_succ]
  refine wpAnyH_take (i := 45) (oi := { dst := some 84, op := Go.Op.binOp Go.BinOp.eql 3 (Go.Operand.tmp 83) (Go.Operand.const (Go.Value.int Go.IntKind.i64 1)) 3, type := 4, pos := "law.go:107", after := #[{ on := 44, ground := Go.Ground.data }, { on := 43, ground := Go.Ground.guard }], guard := some (43, true) }) (v := ?_) rfl (by kernel_rfl) (by kernel_rfl) (by kernel_rfl) (fun _ _ _ h => h) (Or.inl ⟨by rfl, ?_⟩) (by assumption) ?_
  rotate_left
  · intro w hSw
    try dsimp only at hSw
    go_simp
    try with_reducible rfl
  try simp only [Act.put, List.setIfInBounds_toArray, List.set_cons_zero, List.set_cons_succ]
  refine wpAnyH_ready (rs := [47]) (by kernel_rfl) (by simp) ?_
  refine AllReadyH.cons (o := { dst := some 86, op := Go.Op.call { callee := Go.Callee.value (Go.Operand.func 20), args := #[Go.Operand.tmp 85], argTypes := #[23] }, type := 3, pos := "law.go:107", after := #[{ on := 46, ground := Go.Ground.data }, { on := 43, ground := Go.Ground.chain }, { on := 43, ground := Go.Ground.guard }], guard := some (43, true) }) rfl (fun K hK => ?_) AllReadyH.nil
  go_simp
  refine (KZ.out _).mono ?_
  rintro e v8 ⟨rfl, hbv8⟩
  have HBx := Lib.hid (bstep hHeld.2.2.2.2.2.2 hbv8)
  clear hHeld hbv8
  refine hK.out _ _ ?_ (fun hHeld => ?_)
  · exact keepT2 PX.out.1 PX.out.2.2 PZ.out.1 PZ.out.2.2 HBx.out
  clear hK K HBx
  try simp only [Act.put, List.setIfInBounds_toArray, List.set_cons_zero, List.set_cons_succ]
  refine wpAnyH_ready (rs := [49]) (by kernel_rfl) (by simp) ?_
  refine AllReadyH.cons (o := { dst := some 88, op := Go.Op.call { callee := Go.Callee.value (Go.Operand.func 20), args := #[Go.Operand.tmp 87], argTypes := #[23] }, type := 3, pos := "law.go:107", after := #[{ on := 48, ground := Go.Ground.data }, { on := 47, ground := Go.Ground.chain }, { on := 43, ground := Go.Ground.guard }], guard := some (43, true) }) rfl (fun K hK => ?_) AllReadyH.nil
  go_simp
  refine (KX.out _).mono ?_
  rintro e v9 ⟨rfl, hbv9⟩
  have HBx := Lib.hid (bstep hHeld.2.2.2.2.2.2 hbv9)
  clear hHeld hbv9
  refine hK.out _ _ ?_ (fun hHeld => ?_)
  · exact keepT2 PX.out.1 PX.out.2.2 PZ.out.1 PZ.out.2.2 HBx.out
  clear hK K HBx
  try simp only [Act.put, List.setIfInBounds_toArray, List.set_cons_zero, List.set_cons_succ]
  refine wpAnyH_take (i := 50) (oi := { dst := some 89, op := Go.Op.binOp Go.BinOp.neq 3 (Go.Operand.tmp 86) (Go.Operand.tmp 88) 3, type := 4, pos := "law.go:107", after := #[{ on := 47, ground := Go.Ground.data }, { on := 49, ground := Go.Ground.data }, { on := 43, ground := Go.Ground.guard }], guard := some (43, true) }) (v := ?_) rfl (by kernel_rfl) (by kernel_rfl) (by kernel_rfl) (fun _ _ _ h => h) (Or.inl ⟨by rfl, ?_⟩) (by assumption) ?_
  rotate_left
  · intro w hSw
    try dsimp only at hSw
    go_simp
    try with_reducible rfl
  try simp only [Act.put, List.setIfInBounds_toArray, List.set_cons_zero, List.set_cons_succ]
  refine wpAnyH_take (i := 51) (oi := { dst := some 90, op := Go.Op.binOp Go.BinOp.eql 4 (Go.Operand.tmp 84) (Go.Operand.tmp 89) 4, type := 4, pos := "law.go:107", after := #[{ on := 45, ground := Go.Ground.data }, { on := 50, ground := Go.Ground.data }, { on := 43, ground := Go.Ground.guard }], guard := some (43, true) }) (v := ?_) rfl (by kernel_rfl) (by kernel_rfl) (by kernel_rfl) (fun _ _ _ h => h) (Or.inl ⟨by rfl, ?_⟩) (by assumption) ?_
  rotate_left
  · intro w hSw
    try dsimp only at hSw
    go_simp
    try with_reducible rfl
  try simp only [Act.put, List.setIfInBounds_toArray, List.set_cons_zero, List.set_cons_succ]
  refine wpAnyH_take (i := 52) (oi := { dst := some 91, op := Go.Op.pick (Go.Operand.tmp 82) (Go.Operand.tmp 90) (Go.Operand.const (Go.Value.bool false)), type := 4, pos := "law.go:107", after := #[{ on := 43, ground := Go.Ground.data }, { on := 51, ground := Go.Ground.data }], guard := none }) (v := ?_) rfl (by kernel_rfl) (by kernel_rfl) (by kernel_rfl) (fun _ _ _ h => h) (Or.inl ⟨by rfl, ?_⟩) (by assumption) ?_
  rotate_left
  · intro w hSw
    try dsimp only at hSw
    go_simp
    try with_reducible rfl
  try simp only [Act.put, List.setIfInBounds_toArray, List.set_cons_zero, List.set_cons_succ]
  refine wpAnyH_take (i := 53) (oi := { dst := some 6, op := Go.Op.assign (Go.Operand.tmp 91), type := 4, pos := "law.go:107", after := #[{ on := 52, ground := Go.Ground.data }, { on := 49, ground := Go.Ground.chain }, { on := 0, ground := Go.Ground.phase }, { on := 1, ground := Go.Ground.phase }, { on := 2, ground := Go.Ground.phase }, { on := 3, ground := Go.Ground.phase }, { on := 4, ground := Go.Ground.phase }, { on := 5, ground := Go.Ground.phase }, { on := 6, ground := Go.Ground.phase }, { on := 7, ground := Go.Ground.phase }, { on := 8, ground := Go.Ground.phase }, { on := 9, ground := Go.Ground.phase }, { on := 10, ground := Go.Ground.phase }, { on := 11, ground := Go.Ground.phase }, { on := 12, ground := Go.Ground.phase }, { on := 13, ground := Go.Ground.phase }, { on := 14, ground := Go.Ground.phase }, { on := 15, ground := Go.Ground.phase }, { on := 16, ground := Go.Ground.phase }, { on := 17, ground := Go.Ground.phase }, { on := 18, ground := Go.Ground.phase }, { on := 19, ground := Go.Ground.phase }, { on := 20, ground := Go.Ground.phase }, { on := 21, ground := Go.Ground.phase }, { on := 22, ground := Go.Ground.phase }, { on := 23, ground := Go.Ground.phase }, { on := 24, ground := Go.Ground.phase }, { on := 25, ground := Go.Ground.phase }, { on := 26, ground := Go.Ground.phase }, { on := 27, ground := Go.Ground.phase }, { on := 28, ground := Go.Ground.phase }, { on := 29, ground := Go.Ground.phase }, { on := 30, ground := Go.Ground.phase }, { on := 31, ground := Go.Ground.phase }, { on := 32, ground := Go.Ground.phase }, { on := 33, ground := Go.Ground.phase }, { on := 34, ground := Go.Ground.phase }, { on := 35, ground := Go.Ground.phase }, { on := 36, ground := Go.Ground.phase }, { on := 37, ground := Go.Ground.phase }, { on := 38, ground := Go.Ground.phase }, { on := 39, ground := Go.Ground.phase }, { on := 40, ground := Go.Ground.phase }, { on := 41, ground := Go.Ground.phase }, { on := 42, ground := Go.Ground.phase }, { on := 43, ground := Go.Ground.phase }, { on := 44, ground := Go.Ground.phase }, { on := 45, ground := Go.Ground.phase }, { on := 46, ground := Go.Ground.phase }, { on := 47, ground := Go.Ground.phase }, { on := 48, ground := Go.Ground.phase }, { on := 49, ground := Go.Ground.phase }, { on := 50, ground := Go.Ground.phase }, { on := 51, ground := Go.Ground.phase }, { on := 52, ground := Go.Ground.phase }], guard := none }) (v := ?_) rfl (by kernel_rfl) (by kernel_rfl) (by kernel_rfl) (fun _ _ _ h => h) (Or.inl ⟨by rfl, ?_⟩) (by assumption) ?_
  rotate_left
  · intro w hSw
    try dsimp only at hSw
    go_simp
    try with_reducible rfl
  try simp only [Act.put, List.setIfInBounds_toArray, List.set_cons_zero, List.set_cons_succ]
  refine wpAnyH_done (by kernel_rfl) ?_ _
  go_wp2
  go_ret
  exact ⟨rfl, bstep B hHeld.2.2.2.2.2.2⟩

set_option maxRecDepth 100000 in
set_option maxHeartbeats 8000000 in
theorem civilNext_A2 (y m d : Int) (Y M D q r : Int) (h1 : Day Y M D) (h2 : Day Y q r) (en : numI Y q r = numI Y M D + 1)
    (K1 : ∀ w : World, Calls Try.prog 21 #[.int .i64 y, .int .i64 m, .int .i64 d] w (Ret (Dt Y M D) w))
    (hy : ydI Y q r = ydI Y M D + 1) (hw : wdI (numI Y q r) ≠ 1 ∧ weekI Y q r = weekI Y M D) (w : World) : Calls Try.prog 7 #[.int .i64 y, .int .i64 m, .int .i64 d] w (Ret (.bool true) w) := by
  have AW := Lib.hid awake6
  have MK := Lib.hid K1
  have N1 := Lib.hid (number_yes Y M D h1)
  have rn := num_in h1
  have O10 := of_num Y q r h2
  rw [en] at O10
  have W10 := weekday_yes Y M D h1
  have WZ0 := weekday_yes Y q r h2
  have CXZ0 := cmp_any Y M D Y q r
  rw [ordT_num h1 h2, en, (ordI_next _).1] at CXZ0
  have CZX0 := cmp_any Y q r Y M D
  rw [ordT_num h2 h1, en, (ordI_next _).2] at CZX0
  have CXX0 := cmp_any Y M D Y M D
  rw [ordT_num h1 h1, ordI_self] at CXX0
  have YX0 := yearday_yes Y M D h1
  have YZ0 := yearday_yes Y q r h2
  have KX0 := week_yes Y M D h1
  have KZ0 := week_yes Y q r h2
  have ydr := h1.yd
  have yl := ylen_two Y
  obtain ⟨yx, hyx⟩ : ∃ x, x = ydI Y M D := ⟨_, rfl⟩
  rw [← hyx] at YX0 hy ydr
  obtain ⟨kx, hkx⟩ : ∃ x, x = weekI Y M D := ⟨_, rfl⟩
  rw [← hkx] at KX0 hw
  rw [hy] at YZ0
  rw [en] at hw
  rw [hw.2] at KZ0
  rw [en] at WZ0
  have wr : 1 ≤ wdI (numI Y M D) ∧ wdI (numI Y M D) ≤ 7 := by unfold wdI; omega
  have wn : wdI (numI Y M D + 1) = (wdI (numI Y M D)).tmod 7 + 1 := by rw [tdiv_nat'.2 (by omega)]; unfold wdI; omega
  have wr2 : 1 ≤ wdI (numI Y M D + 1) ∧ wdI (numI Y M D + 1) ≤ 7 := by unfold wdI; omega
  obtain ⟨n, hn⟩ : ∃ x, x = numI Y M D := ⟨_, rfl⟩
  rw [← hn] at N1 O10 rn WZ0 W10 wn wr wr2 hw
  have u1 : I64 (n + 1) := by unfold I64; omega
  have f1 := u1.wrap
  have f1' := u1.wrap'
  obtain ⟨wz, hwz⟩ : ∃ x, x = wdI (n + 1) := ⟨_, rfl⟩
  rw [← hwz] at WZ0 wn wr2 hw
  obtain ⟨wx, hwx⟩ : ∃ x, x = wdI n := ⟨_, rfl⟩
  rw [← hwx] at W10 wn wr
  have u2 : I64 (wx.tmod 7 + 1) := by rw [← wn]; unfold I64; omega
  have f2 : IntKind.i64.wrap (wx.tmod 7 + 1) = wz := by rw [u2.wrap, wn]
  have f2' : wrap64 (wx.tmod 7 + 1) = wz := by rw [u2.wrap', wn]
  have u3 : I64 (yx + 1) := by unfold I64; omega
  have f3 := u3.wrap
  have f3' := u3.wrap'
  clear u3
  have f6 : (wz == 1) = false := beq_eq_false_iff_ne.2 hw.1
  have O1 := Lib.hid O10
  have WX := Lib.hid W10
  have WZ := Lib.hid WZ0
  have CXZ := Lib.hid CXZ0
  have CZX := Lib.hid CZX0
  have CXX := Lib.hid CXX0
  have YX := Lib.hid YX0
  have YZ := Lib.hid YZ0
  have KX := Lib.hid KX0
  have KZ := Lib.hid KZ0
  clear O10 W10 WZ0 CXZ0 CZX0 CXX0 YX0 YZ0 KX0 KZ0 h1 h2 en K1 rn ydr yl hyx hkx u1 u2 wn wr wr2 hn hwz hwx hw hy
  go_enter Try.func7, Try.ntmps7
  go_wp2_with fail
  refine (AW.out _).mono ?_
  rintro e w1 ⟨rfl, hb⟩
  have B : Below w.heap.size w w1 := bstep (by go_grown) hb
  clear hb AW
  go_wp2_with fail
  refine (MK.out _).mono ?_
  rintro e w2 ⟨rfl, hb⟩
  replace B := bstep B hb
  clear hb MK
  have PX := Lib.hid (HoldsT.new rfl : HoldsT (w2.alloc (DtC Y M D)) w2.heap.size Y M D)
  replace B := ballD1 B (DtC Y M D)
  go_upto_region 4 with fail
  change Code.wp _ _ _ _ (w2.alloc (DtC Y M D))
  generalize w2.alloc (DtC Y M D) = w3 at *
  obtain ⟨gPX, hg⟩ : ∃ g, g = w2.heap.size := ⟨_, rfl⟩
  rw [← hg] at PX ⊢
  clear hg
  obtain ⟨⟨c01, c02, c03⟩, -, c09⟩ := PX.out
  go_wp2_with fail
  refine (N1.out _).mono ?_
  rintro e w4 ⟨rfl, hb⟩
  replace PX := Lib.hid (PX.out.below hb)
  replace B := bstep B hb
  clear hb N1
  clear c01 c02 c03 c09
  obtain ⟨⟨c01, c02, c03⟩, -, c09⟩ := PX.out
  go_wp2_with fail
  refine (O1.out _).mono ?_
  rintro e w5 ⟨rfl, hb⟩
  replace PX := Lib.hid (PX.out.below hb)
  replace B := bstep B hb
  clear hb O1
  clear c01 c02 c03 c09
  replace PX := Lib.hid (PX.out.alloc (DtC Y q r))
  have PZ := Lib.hid (HoldsT.new rfl : HoldsT (w5.alloc (DtC Y q r)) w5.heap.size Y q r)
  replace B := ballD1 B (DtC Y q r)
  go_upto_region 6 with fail
  change Code.wp _ _ _ _ (w5.alloc (DtC Y q r))
  generalize w5.alloc (DtC Y q r) = w6 at *
  obtain ⟨gPZ, hg⟩ : ∃ g, g = w5.heap.size := ⟨_, rfl⟩
  rw [← hg] at PZ ⊢
  clear hg
  obtain ⟨⟨c01, c02, c03⟩, -, c09⟩ := PX.out
  obtain ⟨⟨c11, c12, c13⟩, -, c19⟩ := PZ.out
  go_wp2_with fail
  refine (WX.out _).mono ?_
  rintro e w7 ⟨rfl, hb⟩
  replace PX := Lib.hid (PX.out.below hb)
  replace PZ := Lib.hid (PZ.out.below hb)
  replace B := bstep B hb
  clear hb WX
  clear c01 c02 c03 c09 c11 c12 c13 c19
  obtain ⟨⟨c01, c02, c03⟩, -, c09⟩ := PX.out
  obtain ⟨⟨c11, c12, c13⟩, -, c19⟩ := PZ.out
  go_upto_region 9 with fail
  generalize w7 = V at *
  refine wp_region_held_drew (S := fun w' => w'.cell? ⟨gPX, 0, none⟩ = some (.int .i64 Y) ∧ w'.cell? ⟨gPX, 1, none⟩ = some (.int .i64 M) ∧ w'.cell? ⟨gPX, 2, none⟩ = some (.int .i64 D) ∧ w'.cell? ⟨gPZ, 0, none⟩ = some (.int .i64 Y) ∧ w'.cell? ⟨gPZ, 1, none⟩ = some (.int .i64 q) ∧ w'.cell? ⟨gPZ, 2, none⟩ = some (.int .i64 r) ∧ Below V.heap.size V w') (by kernel_rfl) ?_ (fun hHeld => ?_)
  · exact keepT2 PX.out.1 PX.out.2.2 PZ.out.1 PZ.out.2.2 (Below.refl _ _).drew
  refine wpAnyH_take (i := 0) (oi := { dst := some 39, op := Go.Op.load 23 (Go.Operand.tmp 10), type := 23, pos := "law.go:107", after := #[], guard := none }) (v := ?_) rfl (by kernel_rfl) (by kernel_rfl) (by kernel_rfl) (fun _ _ _ h => h) (Or.inl ⟨by rfl, ?_⟩) (by assumption) ?_
  rotate_left
  · intro w hSw
    try dsimp only at hSw
    go_simp
    try with_reducible rfl
  try simp only [Act.put, List.setIfInBounds_toArray, List.set_cons_zero, List.set_cons_succ]
  refine wpAnyH_take (i := 2) (oi := { dst := some 41, op := Go.Op.move (Go.Operand.tmp 12), type := 3, pos := "law.go:107", after := #[], guard := none }) (v := ?_) rfl (by kernel_rfl) (by kernel_rfl) (by kernel_rfl) (fun _ _ _ h => h) (Or.inl ⟨by rfl, ?_⟩) (by assumption) ?_
  rotate_left
  · intro w hSw
    try dsimp only at hSw
    go_simp
    try with_reducible rfl
  try simp only [Act.put, List.setIfInBounds_toArray, List.set_cons_zero, List.set_cons_succ]
  refine wpAnyH_ready (rs := [1]) (by kernel_rfl) (by simp) ?_
  refine AllReadyH.cons (o := { dst := some 40, op := Go.Op.call { callee := Go.Callee.value (Go.Operand.func 18), args := #[Go.Operand.tmp 39], argTypes := #[23] }, type := 3, pos := "law.go:107", after := #[{ on := 0, ground := Go.Ground.data }], guard := none }) rfl (fun K hK => ?_) AllReadyH.nil
  go_simp
  refine (WZ.out _).mono ?_
  rintro e v1 ⟨rfl, hbv1⟩
  have HBx := Lib.hid (bstep hHeld.2.2.2.2.2.2 hbv1)
  clear hHeld hbv1
  refine hK.out _ _ ?_ (fun hHeld => ?_)
  · exact keepT2 PX.out.1 PX.out.2.2 PZ.out.1 PZ.out.2.2 HBx.out
  clear hK K HBx
  try simp only [Act.put, List.setIfInBounds_toArray, List.set_cons_zero, List.set_cons_succ]
  refine wpAnyH_take (i := 3) (oi := { dst := some 42, op := Go.Op.binOp Go.BinOp.eql 3 (Go.Operand.tmp 40) (Go.Operand.tmp 41) 3, type := 4, pos := "law.go:107", after := #[{ on := 1, ground := Go.Ground.data }, { on := 2, ground := Go.Ground.data }], guard := none }) (v := ?_) rfl (by kernel_rfl) (by kernel_rfl) (by kernel_rfl) (fun _ _ _ h => h) (Or.inl ⟨by rfl, ?_⟩) (by assumption) ?_
  rotate_left
  · intro w hSw
    try dsimp only at hSw
    go_simp
    try with_reducible rfl
  try simp only [Act.put, List.setIfInBounds_toArray, List.set_cons_zero, List.set_cons_succ]
  refine wpAnyH_take (i := 4) (oi := { dst := some 43, op := Go.Op.move (Go.Operand.tmp 42), type := 4, pos := "law.go:107", after := #[{ on := 3, ground := Go.Ground.data }, { on := 1, ground := Go.Ground.chain }], guard := none }) (v := ?_) rfl (by kernel_rfl) (by kernel_rfl) (by kernel_rfl) (fun _ _ _ h => h) (Or.inl ⟨by rfl, ?_⟩) (by assumption) ?_
  rotate_left
  · intro w hSw
    try dsimp only at hSw
    go_simp
    try with_reducible rfl
  try simp only [Act.put, List.setIfInBounds_toArray, List.set_cons_zero, List.set_cons_succ]
  refine wpAnyH_take (i := 5) (oi := { dst := some 44, op := Go.Op.load 23 (Go.Operand.tmp 7), type := 23, pos := "law.go:107", after := #[{ on := 4, ground := Go.Ground.guard }], guard := some (4, true) }) (v := ?_) rfl (by kernel_rfl) (by kernel_rfl) (by kernel_rfl) (fun _ _ _ h => h) (Or.inl ⟨by rfl, ?_⟩) (by assumption) ?_
  rotate_left
  · intro w hSw
    try dsimp only at hSw
    go_simp
    try with_reducible rfl
  try simp only [Act.put, List.setIfInBounds_toArray, List.set_cons_zero, List.set_cons_succ]
  refine wpAnyH_take (i := 6) (oi := { dst := some 45, op := Go.Op.load 23 (Go.Operand.tmp 10), type := 23, pos := "law.go:107", after := #[{ on := 4, ground := Go.Ground.guard }], guard := some (4, true) }) (v := ?_) rfl (by kernel_rfl) (by kernel_rfl) (by kernel_rfl) (fun _ _ _ h => h) (Or.inl ⟨by rfl, ?_⟩) (by assumption) ?_
  rotate_left
  · intro w hSw
    try dsimp only at hSw
    go_simp
    try with_reducible rfl
  try simp only [Act.put, List.setIfInBounds_toArray, List.set_cons_zero, List.set_cons_succ]
  refine wpAnyH_ready (rs := [7]) (by kernel_rfl) (by simp) ?_
  refine AllReadyH.cons (o := { dst := some 46, op := Go.Op.call { callee := Go.Callee.value (Go.Operand.func 28), args := #[Go.Operand.tmp 44, Go.Operand.tmp 45], argTypes := #[23, 23] }, type := 3, pos := "law.go:107", after := #[{ on := 5, ground := Go.Ground.data }, { on := 6, ground := Go.Ground.data }, { on := 4, ground := Go.Ground.chain }, { on := 4, ground := Go.Ground.guard }], guard := some (4, true) }) rfl (fun K hK => ?_) AllReadyH.nil
  go_simp
  refine (CXZ.out _).mono ?_
  rintro e v2 ⟨rfl, hbv2⟩
  have HBx := Lib.hid (bstep hHeld.2.2.2.2.2.2 hbv2)
  clear hHeld hbv2
  refine hK.out _ _ ?_ (fun hHeld => ?_)
  · exact keepT2 PX.out.1 PX.out.2.2 PZ.out.1 PZ.out.2.2 HBx.out
  clear hK K HBx
  try simp only [Act.put, List.setIfInBounds_toArray, List.set_cons_zero, List.set_cons_succ]
  refine wpAnyH_take (i := 8) (oi := { dst := some 47, op := Go.Op.binOp Go.BinOp.eql 3 (Go.Operand.tmp 46) (Go.Operand.const (Go.Value.int Go.IntKind.i64 (-1))) 3, type := 4, pos := "law.go:107", after := #[{ on := 7, ground := Go.Ground.data }, { on := 4, ground := Go.Ground.guard }], guard := some (4, true) }) (v := ?_) rfl (by kernel_rfl) (by kernel_rfl) (by kernel_rfl) (fun _ _ _ h => h) (Or.inl ⟨by rfl, ?_⟩) (by assumption) ?_
  rotate_left
  · intro w hSw
    try dsimp only at hSw
    go_simp
    try with_reducible rfl
  try simp only [Act.put, List.setIfInBounds_toArray, List.set_cons_zero, List.set_cons_succ]
  refine wpAnyH_take (i := 9) (oi := { dst := some 48, op := Go.Op.pick (Go.Operand.tmp 43) (Go.Operand.tmp 47) (Go.Operand.const (Go.Value.bool false)), type := 4, pos := "law.go:107", after := #[{ on := 4, ground := Go.Ground.data }, { on := 8, ground := Go.Ground.data }], guard := none }) (v := ?_) rfl (by kernel_rfl) (by kernel_rfl) (by kernel_rfl) (fun _ _ _ h => h) (Or.inl ⟨by rfl, ?_⟩) (by assumption) ?_
  rotate_left
  · intro w hSw
    try dsimp only at hSw
    go_simp
    try with_reducible rfl
  try simp only [Act.put, List.setIfInBounds_toArray, List.set_cons_zero, List.set_cons_succ]
  refine wpAnyH_take (i := 10) (oi := { dst := some 49, op := Go.Op.move (Go.Operand.tmp 48), type := 4, pos := "law.go:107", after := #[{ on := 9, ground := Go.Ground.data }, { on := 7, ground := Go.Ground.chain }], guard := none }) (v := ?_) rfl (by kernel_rfl) (by kernel_rfl) (by kernel_rfl) (fun _ _ _ h => h) (Or.inl ⟨by rfl, ?_⟩) (by assumption) ?_
  rotate_left
  · intro w hSw
    try dsimp only at hSw
    go_simp
    try with_reducible rfl
  try simp only [Act.put, List.setIfInBounds_toArray, List.set_cons_zero, List.set_cons_succ]
  refine wpAnyH_take (i := 11) (oi := { dst := some 50, op := Go.Op.load 23 (Go.Operand.tmp 10), type := 23, pos := "law.go:107", after := #[{ on := 10, ground := Go.Ground.guard }], guard := some (10, true) }) (v := ?_) rfl (by kernel_rfl) (by kernel_rfl) (by kernel_rfl) (fun _ _ _ h => h) (Or.inl ⟨by rfl, ?_⟩) (by assumption) ?_
  rotate_left
  · intro w hSw
    try dsimp only at hSw
    go_simp
    try with_reducible rfl
  try simp only [Act.put, List.setIfInBounds_toArray, List.set_cons_zero, List.set_cons_succ]
  refine wpAnyH_take (i := 12) (oi := { dst := some 51, op := Go.Op.load 23 (Go.Operand.tmp 7), type := 23, pos := "law.go:107", after := #[{ on := 10, ground := Go.Ground.guard }], guard := some (10, true) }) (v := ?_) rfl (by kernel_rfl) (by kernel_rfl) (by kernel_rfl) (fun _ _ _ h => h) (Or.inl ⟨by rfl, ?_⟩) (by assumption) ?_
  rotate_left
  · intro w hSw
    try dsimp only at hSw
    go_simp
    try with_reducible rfl
  try simp only [Act.put, List.setIfInBounds_toArray, List.set_cons_zero, List.set_cons_succ]
  refine wpAnyH_ready (rs := [13]) (by kernel_rfl) (by simp) ?_
  refine AllReadyH.cons (o := { dst := some 52, op := Go.Op.call { callee := Go.Callee.value (Go.Operand.func 28), args := #[Go.Operand.tmp 50, Go.Operand.tmp 51], argTypes := #[23, 23] }, type := 3, pos := "law.go:107", after := #[{ on := 11, ground := Go.Ground.data }, { on := 12, ground := Go.Ground.data }, { on := 10, ground := Go.Ground.chain }, { on := 10, ground := Go.Ground.guard }], guard := some (10, true) }) rfl (fun K hK => ?_) AllReadyH.nil
  go_simp
  refine (CZX.out _).mono ?_
  rintro e v3 ⟨rfl, hbv3⟩
  have HBx := Lib.hid (bstep hHeld.2.2.2.2.2.2 hbv3)
  clear hHeld hbv3
  refine hK.out _ _ ?_ (fun hHeld => ?_)
  · exact keepT2 PX.out.1 PX.out.2.2 PZ.out.1 PZ.out.2.2 HBx.out
  clear hK K HBx
  try simp only [Act.put, List.setIfInBounds_toArray, List.set_cons_zero, List.set_cons_succ]
  refine wpAnyH_take (i := 14) (oi := { dst := some 53, op := Go.Op.binOp Go.BinOp.eql 3 (Go.Operand.tmp 52) (Go.Operand.const (Go.Value.int Go.IntKind.i64 1)) 3, type := 4, pos := "law.go:107", after := #[{ on := 13, ground := Go.Ground.data }, { on := 10, ground := Go.Ground.guard }], guard := some (10, true) }) (v := ?_) rfl (by kernel_rfl) (by kernel_rfl) (by kernel_rfl) (fun _ _ _ h => h) (Or.inl ⟨by rfl, ?_⟩) (by assumption) ?_
  rotate_left
  · intro w hSw
    try dsimp only at hSw
    go_simp
    try with_reducible rfl
  try simp only [Act.put, List.setIfInBounds_toArray, List.set_cons_zero, List.set_cons_succ]
  refine wpAnyH_take (i := 15) (oi := { dst := some 54, op := Go.Op.pick (Go.Operand.tmp 49) (Go.Operand.tmp 53) (Go.Operand.const (Go.Value.bool false)), type := 4, pos := "law.go:107", after := #[{ on := 10, ground := Go.Ground.data }, { on := 14, ground := Go.Ground.data }], guard := none }) (v := ?_) rfl (by kernel_rfl) (by kernel_rfl) (by kernel_rfl) (fun _ _ _ h => h) (Or.inl ⟨by rfl, ?_⟩) (by assumption) ?_
  rotate_left
  · intro w hSw
    try dsimp only at hSw
    go_simp
    try with_reducible rfl
  try simp only [Act.put, List.setIfInBounds_toArray, List.set_cons_zero, List.set_cons_succ]
  refine wpAnyH_take (i := 16) (oi := { dst := some 55, op := Go.Op.move (Go.Operand.tmp 54), type := 4, pos := "law.go:107", after := #[{ on := 15, ground := Go.Ground.data }, { on := 13, ground := Go.Ground.chain }], guard := none }) (v := ?_) rfl (by kernel_rfl) (by kernel_rfl) (by kernel_rfl) (fun _ _ _ h => h) (Or.inl ⟨by rfl, ?_⟩) (by assumption) ?_
  rotate_left
  · intro w hSw
    try dsimp only at hSw
    go_simp
    try with_reducible rfl
  try simp only [Act.put, List.setIfInBounds_toArray, List.set_cons_zero, List.set_cons_succ]
  refine wpAnyH_take (i := 17) (oi := { dst := some 56, op := Go.Op.load 23 (Go.Operand.tmp 7), type := 23, pos := "law.go:107", after := #[{ on := 16, ground := Go.Ground.guard }], guard := some (16, true) }) (v := ?_) rfl (by kernel_rfl) (by kernel_rfl) (by kernel_rfl) (fun _ _ _ h => h) (Or.inl ⟨by rfl, ?_⟩) (by assumption) ?_
  rotate_left
  · intro w hSw
    try dsimp only at hSw
    go_simp
    try with_reducible rfl
  try simp only [Act.put, List.setIfInBounds_toArray, List.set_cons_zero, List.set_cons_succ]
  refine wpAnyH_take (i := 18) (oi := { dst := some 57, op := Go.Op.load 23 (Go.Operand.tmp 7), type := 23, pos := "law.go:107", after := #[{ on := 16, ground := Go.Ground.guard }], guard := some (16, true) }) (v := ?_) rfl (by kernel_rfl) (by kernel_rfl) (by kernel_rfl) (fun _ _ _ h => h) (Or.inl ⟨by rfl, ?_⟩) (by assumption) ?_
  rotate_left
  · intro w hSw
    try dsimp only at hSw
    go_simp
    try with_reducible rfl
  try simp only [Act.put, List.setIfInBounds_toArray, List.set_cons_zero, List.set_cons_succ]
  refine wpAnyH_ready (rs := [19]) (by kernel_rfl) (by simp) ?_
  refine AllReadyH.cons (o := { dst := some 58, op := Go.Op.call { callee := Go.Callee.value (Go.Operand.func 28), args := #[Go.Operand.tmp 56, Go.Operand.tmp 57], argTypes := #[23, 23] }, type := 3, pos := "law.go:107", after := #[{ on := 17, ground := Go.Ground.data }, { on := 18, ground := Go.Ground.data }, { on := 16, ground := Go.Ground.chain }, { on := 16, ground := Go.Ground.guard }], guard := some (16, true) }) rfl (fun K hK => ?_) AllReadyH.nil
  go_simp
  refine (CXX.out _).mono ?_
  rintro e v4 ⟨rfl, hbv4⟩
  have HBx := Lib.hid (bstep hHeld.2.2.2.2.2.2 hbv4)
  clear hHeld hbv4
  refine hK.out _ _ ?_ (fun hHeld => ?_)
  · exact keepT2 PX.out.1 PX.out.2.2 PZ.out.1 PZ.out.2.2 HBx.out
  clear hK K HBx
  try simp only [Act.put, List.setIfInBounds_toArray, List.set_cons_zero, List.set_cons_succ]
  refine wpAnyH_take (i := 20) (oi := { dst := some 59, op := Go.Op.binOp Go.BinOp.eql 3 (Go.Operand.tmp 58) (Go.Operand.const (Go.Value.int Go.IntKind.i64 0)) 3, type := 4, pos := "law.go:107", after := #[{ on := 19, ground := Go.Ground.data }, { on := 16, ground := Go.Ground.guard }], guard := some (16, true) }) (v := ?_) rfl (by kernel_rfl) (by kernel_rfl) (by kernel_rfl) (fun _ _ _ h => h) (Or.inl ⟨by rfl, ?_⟩) (by assumption) ?_
  rotate_left
  · intro w hSw
    try dsimp only at hSw
    go_simp
    try with_reducible rfl
  try simp only [Act.put, List.setIfInBounds_toArray, List.set_cons_zero, List.set_cons_succ]
  refine wpAnyH_take (i := 21) (oi := { dst := some 60, op := Go.Op.pick (Go.Operand.tmp 55) (Go.Operand.tmp 59) (Go.Operand.const (Go.Value.bool false)), type := 4, pos := "law.go:107", after := #[{ on := 16, ground := Go.Ground.data }, { on := 20, ground := Go.Ground.data }], guard := none }) (v := ?_) rfl (by kernel_rfl) (by kernel_rfl) (by kernel_rfl) (fun _ _ _ h => h) (Or.inl ⟨by rfl, ?_⟩) (by assumption) ?_
  rotate_left
  · intro w hSw
    try dsimp only at hSw
    go_simp
    try with_reducible rfl
  try simp only [Act.put, List.setIfInBounds_toArray, List.set_cons_zero, List.set_cons_succ]
  refine wpAnyH_take (i := 22) (oi := { dst := some 61, op := Go.Op.move (Go.Operand.tmp 60), type := 4, pos := "law.go:107", after := #[{ on := 21, ground := Go.Ground.data }, { on := 19, ground := Go.Ground.chain }], guard := none }) (v := ?_) rfl (by kernel_rfl) (by kernel_rfl) (by kernel_rfl) (fun _ _ _ h => h) (Or.inl ⟨by rfl, ?_⟩) (by assumption) ?_
  rotate_left
  · intro w hSw
    try dsimp only at hSw
    go_simp
    try with_reducible rfl
  try simp only [Act.put, List.setIfInBounds_toArray, List.set_cons_zero, List.set_cons_succ]
  refine wpAnyH_take (i := 23) (oi := { dst := some 62, op := Go.Op.load 23 (Go.Operand.tmp 10), type := 23, pos := "law.go:107", after := #[{ on := 22, ground := Go.Ground.guard }], guard := some (22, true) }) (v := ?_) rfl (by kernel_rfl) (by kernel_rfl) (by kernel_rfl) (fun _ _ _ h => h) (Or.inl ⟨by rfl, ?_⟩) (by assumption) ?_
  rotate_left
  · intro w hSw
    try dsimp only at hSw
    go_simp
    try with_reducible rfl
  try simp only [Act.put, List.setIfInBounds_toArray, List.set_cons_zero, List.set_cons_succ]
  refine wpAnyH_take (i := 25) (oi := { dst := some 64, op := Go.Op.load 23 (Go.Operand.tmp 7), type := 23, pos := "law.go:107", after := #[{ on := 22, ground := Go.Ground.guard }], guard := some (22, true) }) (v := ?_) rfl (by kernel_rfl) (by kernel_rfl) (by kernel_rfl) (fun _ _ _ h => h) (Or.inl ⟨by rfl, ?_⟩) (by assumption) ?_
  rotate_left
  · intro w hSw
    try dsimp only at hSw
    go_simp
    try with_reducible rfl
  try simp only [Act.put, List.setIfInBounds_toArray, List.set_cons_zero, List.set_cons_succ]
  refine wpAnyH_ready (rs := [24]) (by kernel_rfl) (by simp) ?_
  refine AllReadyH.cons (o := { dst := some 63, op := Go.Op.call { callee := Go.Callee.value (Go.Operand.func 19), args := #[Go.Operand.tmp 62], argTypes := #[23] }, type := 3, pos := "law.go:107", after := #[{ on := 23, ground := Go.Ground.data }, { on := 22, ground := Go.Ground.chain }, { on := 22, ground := Go.Ground.guard }], guard := some (22, true) }) rfl (fun K hK => ?_) AllReadyH.nil
  go_simp
  refine (YZ.out _).mono ?_
  rintro e v5 ⟨rfl, hbv5⟩
  have HBx := Lib.hid (bstep hHeld.2.2.2.2.2.2 hbv5)
  clear hHeld hbv5
  refine hK.out _ _ ?_ (fun hHeld => ?_)
  · exact keepT2 PX.out.1 PX.out.2.2 PZ.out.1 PZ.out.2.2 HBx.out
  clear hK K HBx
  try simp only [Act.put, List.setIfInBounds_toArray, List.set_cons_zero, List.set_cons_succ]
  refine wpAnyH_ready (rs := [26]) (by kernel_rfl) (by simp) ?_
  refine AllReadyH.cons (o := { dst := some 65, op := Go.Op.call { callee := Go.Callee.value (Go.Operand.func 19), args := #[Go.Operand.tmp 64], argTypes := #[23] }, type := 3, pos := "law.go:107", after := #[{ on := 25, ground := Go.Ground.data }, { on := 24, ground := Go.Ground.chain }, { on := 22, ground := Go.Ground.guard }], guard := some (22, true) }) rfl (fun K hK => ?_) AllReadyH.nil
  go_simp
  refine (YX.out _).mono ?_
  rintro e v6 ⟨rfl, hbv6⟩
  have HBx := Lib.hid (bstep hHeld.2.2.2.2.2.2 hbv6)
  clear hHeld hbv6
  refine hK.out _ _ ?_ (fun hHeld => ?_)
  · exact keepT2 PX.out.1 PX.out.2.2 PZ.out.1 PZ.out.2.2 HBx.out
  clear hK K HBx
  try simp only [Act.put, List.setIfInBounds_toArray, List.set_cons_zero, List.set_cons_succ]
  refine wpAnyH_take (i := 27) (oi := { dst := some 66, op := Go.Op.binOp Go.BinOp.add 3 (Go.Operand.tmp 65) (Go.Operand.const (Go.Value.int Go.IntKind.i64 1)) 3, type := 3, pos := "law.go:107", after := #[{ on := 26, ground := Go.Ground.data }, { on := 22, ground := Go.Ground.guard }], guard := some (22, true) }) (v := ?_) rfl (by kernel_rfl) (by kernel_rfl) (by kernel_rfl) (fun _ _ _ h => h) (Or.inl ⟨by rfl, ?_⟩) (by assumption) ?_
  rotate_left
  · intro w hSw
    try dsimp only at hSw
    go_simp
    try with_reducible rfl
  try simp only [Act.put, List.setIfInBounds_toArray, List.set_cons_zero, List.set_cons_succ]
  refine wpAnyH_take (i := 28) (oi := { dst := some 67, op := Go.Op.binOp Go.BinOp.eql 3 (Go.Operand.tmp 63) (Go.Operand.tmp 66) 3, type := 4, pos := "law.go:107", after := #[{ on := 24, ground := Go.Ground.data }, { on := 27, ground := Go.Ground.data }, { on := 22, ground := Go.Ground.guard }], guard := some (22, true) }) (v := ?_) rfl (by kernel_rfl) (by kernel_rfl) (by kernel_rfl) (fun _ _ _ h => h) (Or.inl ⟨by rfl, ?_⟩) (by assumption) ?_
  rotate_left
  · intro w hSw
    try dsimp only at hSw
    go_simp
    try with_reducible rfl
  try simp only [Act.put, List.setIfInBounds_toArray, List.set_cons_zero, List.set_cons_succ]
  refine wpAnyH_take (i := 29) (oi := { dst := some 68, op := Go.Op.move (Go.Operand.tmp 67), type := 4, pos := "law.go:107", after := #[{ on := 28, ground := Go.Ground.data }, { on := 26, ground := Go.Ground.chain }, { on := 22, ground := Go.Ground.guard }], guard := some (22, true) }) (v := ?_) rfl (by kernel_rfl) (by kernel_rfl) (by kernel_rfl) (fun _ _ _ h => h) (Or.inl ⟨by rfl, ?_⟩) (by assumption) ?_
  rotate_left
  · intro w hSw
    try dsimp only at hSw
    go_simp
    try with_reducible rfl
  try simp only [Act.put, List.setIfInBounds_toArray, List.set_cons_zero, List.set_cons_succ]
  refine wpAnyH_take (i := 30) (oi := { dst := some 69, op := Go.Op.load 23 (Go.Operand.tmp 10), type := 23, pos := "law.go:107", after := #[{ on := 29, ground := Go.Ground.guard }], guard := some (29, false) }) (v := undef) rfl (by kernel_rfl) (by kernel_rfl) (by kernel_rfl) (fun _ _ _ h => h) (Or.inr ⟨by rfl, rfl⟩) (by assumption) ?_
  try simp only [Act.put, List.setIfInBounds_toArray, List.set_cons_zero, List.set_cons_succ]
  refine wpAnyH_take (i := 31) (oi := { dst := some 70, op := Go.Op.call { callee := Go.Callee.value (Go.Operand.func 19), args := #[Go.Operand.tmp 69], argTypes := #[23] }, type := 3, pos := "law.go:107", after := #[{ on := 30, ground := Go.Ground.data }, { on := 29, ground := Go.Ground.chain }, { on := 29, ground := Go.Ground.guard }], guard := some (29, false) }) (v := undef) rfl (by kernel_rfl) (by kernel_rfl) (by kernel_rfl) (fun _ _ _ h => h) (Or.inr ⟨by rfl, rfl⟩) (by assumption) ?_
  try simp only [Act.put, List.setIfInBounds_toArray, List.set_cons_zero, List.set_cons_succ]
  refine wpAnyH_take (i := 32) (oi := { dst := some 71, op := Go.Op.binOp Go.BinOp.eql 3 (Go.Operand.tmp 70) (Go.Operand.const (Go.Value.int Go.IntKind.i64 1)) 3, type := 4, pos := "law.go:107", after := #[{ on := 31, ground := Go.Ground.data }, { on := 29, ground := Go.Ground.guard }], guard := some (29, false) }) (v := undef) rfl (by kernel_rfl) (by kernel_rfl) (by kernel_rfl) (fun _ _ _ h => h) (Or.inr ⟨by rfl, rfl⟩) (by assumption) ?_
  try simp only [Act.put, List.setIfInBounds_toArray, List.set_cons_zero, List.set_cons_succ]
  refine wpAnyH_take (i := 33) (oi := { dst := some 72, op := Go.Op.move (Go.Operand.tmp 71), type := 4, pos := "law.go:107", after := #[{ on := 32, ground := Go.Ground.data }, { on := 31, ground := Go.Ground.chain }, { on := 29, ground := Go.Ground.guard }], guard := some (29, false) }) (v := undef) rfl (by kernel_rfl) (by kernel_rfl) (by kernel_rfl) (fun _ _ _ h => h) (Or.inr ⟨by rfl, rfl⟩) (by assumption) ?_
  try simp only [Act.put, List.setIfInBounds_toArray, List.set_cons_zero, List.set_cons_succ]
  refine wpAnyH_take (i := 34) (oi := { dst := some 73, op := Go.Op.fieldAddr 23 (Go.Operand.tmp 10) 0, type := 0, pos := "law.go:107", after := #[{ on := 33, ground := Go.Ground.guard }], guard := some (33, true) }) (v := undef) rfl (by kernel_rfl) (by kernel_rfl) (by kernel_rfl) (fun _ _ _ h => h) (Or.inr ⟨by rfl, rfl⟩) (by assumption) ?_
  try simp only [Act.put, List.setIfInBounds_toArray, List.set_cons_zero, List.set_cons_succ]
  refine wpAnyH_take (i := 36) (oi := { dst := some 75, op := Go.Op.fieldAddr 23 (Go.Operand.tmp 7) 0, type := 0, pos := "law.go:107", after := #[{ on := 33, ground := Go.Ground.guard }], guard := some (33, true) }) (v := undef) rfl (by kernel_rfl) (by kernel_rfl) (by kernel_rfl) (fun _ _ _ h => h) (Or.inr ⟨by rfl, rfl⟩) (by assumption) ?_
  try simp only [Act.put, List.setIfInBounds_toArray, List.set_cons_zero, List.set_cons_succ]
  refine wpAnyH_take (i := 35) (oi := { dst := some 74, op := Go.Op.load 3 (Go.Operand.tmp 73), type := 3, pos := "law.go:107", after := #[{ on := 34, ground := Go.Ground.data }, { on := 33, ground := Go.Ground.guard }], guard := some (33, true) }) (v := undef) rfl (by kernel_rfl) (by kernel_rfl) (by kernel_rfl) (fun _ _ _ h => h) (Or.inr ⟨by rfl, rfl⟩) (by assumption) ?_
  try simp only [Act.put, List.setIfInBounds_toArray, List.set_cons_zero, List.set_cons_succ]
  refine wpAnyH_take (i := 37) (oi := { dst := some 76, op := Go.Op.load 3 (Go.Operand.tmp 75), type := 3, pos := "law.go:107", after := #[{ on := 36, ground := Go.Ground.data }, { on := 33, ground := Go.Ground.guard }], guard := some (33, true) }) (v := undef) rfl (by kernel_rfl) (by kernel_rfl) (by kernel_rfl) (fun _ _ _ h => h) (Or.inr ⟨by rfl, rfl⟩) (by assumption) ?_
  try simp only [Act.put, List.setIfInBounds_toArray, List.set_cons_zero, List.set_cons_succ]
  refine wpAnyH_take (i := 38) (oi := { dst := some 77, op := Go.Op.binOp Go.BinOp.add 3 (Go.Operand.tmp 76) (Go.Operand.const (Go.Value.int Go.IntKind.i64 1)) 3, type := 3, pos := "law.go:107", after := #[{ on := 37, ground := Go.Ground.data }, { on := 33, ground := Go.Ground.guard }], guard := some (33, true) }) (v := undef) rfl (by kernel_rfl) (by kernel_rfl) (by kernel_rfl) (fun _ _ _ h => h) (Or.inr ⟨by rfl, rfl⟩) (by assumption) ?_
  try simp only [Act.put, List.setIfInBounds_toArray, List.set_cons_zero, List.set_cons_succ]
  refine wpAnyH_take (i := 39) (oi := { dst := some 78, op := Go.Op.binOp Go.BinOp.eql 3 (Go.Operand.tmp 74) (Go.Operand.tmp 77) 3, type := 4, pos := "law.go:107", after := #[{ on := 35, ground := Go.Ground.data }, { on := 38, ground := Go.Ground.data }, { on := 33, ground := Go.Ground.guard }], guard := some (33, true) }) (v := undef) rfl (by kernel_rfl) (by kernel_rfl) (by kernel_rfl) (fun _ _ _ h => h) (Or.inr ⟨by rfl, rfl⟩) (by assumption) ?_
  try simp only [Act.put, List.setIfInBounds_toArray, List.set_cons_zero, List.set_cons_succ]
  refine wpAnyH_take (i := 40) (oi := { dst := some 79, op := Go.Op.pick (Go.Operand.tmp 72) (Go.Operand.tmp 78) (Go.Operand.const (Go.Value.bool false)), type := 4, pos := "law.go:107", after := #[{ on := 33, ground := Go.Ground.data }, { on := 39, ground := Go.Ground.data }, { on := 29, ground := Go.Ground.guard }], guard := some (29, false) }) (v := undef) rfl (by kernel_rfl) (by kernel_rfl) (by kernel_rfl) (fun _ _ _ h => h) (Or.inr ⟨by rfl, rfl⟩) (by assumption) ?_
  try simp only [Act.put, List.setIfInBounds_toArray, List.set_cons_zero, List.set_cons_succ]
  refine wpAnyH_take (i := 41) (oi := { dst := some 80, op := Go.Op.pick (Go.Operand.tmp 68) (Go.Operand.const (Go.Value.bool true)) (Go.Operand.tmp 79), type := 4, pos := "law.go:107", after := #[{ on := 29, ground := Go.Ground.data }, { on := 40, ground := Go.Ground.data }, { on := 22, ground := Go.Ground.guard }], guard := some (22, true) }) (v := ?_) rfl (by kernel_rfl) (by kernel_rfl) (by kernel_rfl) (fun _ _ _ h => h) (Or.inl ⟨by rfl, ?_⟩) (by assumption) ?_
  rotate_left
  · intro w hSw
    try dsimp only at hSw
    go_simp
    try with_reducible rfl
  try simp only [Act.put, List.setIfInBounds_toArray, List.set_cons_zero, List.set_cons_succ]
  refine wpAnyH_take (i := 42) (oi := { dst := some 81, op := Go.Op.pick (Go.Operand.tmp 61) (Go.Operand.tmp 80) (Go.Operand.const (Go.Value.bool false)), type := 4, pos := "law.go:107", after := #[{ on := 22, ground := Go.Ground.data }, { on := 41, ground := Go.Ground.data }], guard := none }) (v := ?_) rfl (by kernel_rfl) (by kernel_rfl) (by kernel_rfl) (fun _ _ _ h => h) (Or.inl ⟨by rfl, ?_⟩) (by assumption) ?_
  rotate_left
  · intro w hSw
    try dsimp only at hSw
    go_simp
    try with_reducible rfl
  try simp only [Act.put, List.setIfInBounds_toArray, List.set_cons_zero, List.set_cons_succ]
  refine wpAnyH_take (i := 43) (oi := { dst := some 82, op := Go.Op.move (Go.Operand.tmp 81), type := 4, pos := "law.go:107", after := #[{ on := 42, ground := Go.Ground.data }, { on := 33, ground := Go.Ground.chain }], guard := none }) (v := ?_) rfl (by kernel_rfl) (by kernel_rfl) (by kernel_rfl) (fun _ _ _ h => h) (Or.inl ⟨by rfl, ?_⟩) (by assumption) ?_
  rotate_left
  · intro w hSw
    try dsimp only at hSw
    go_simp
    try with_reducible rfl
  try simp only [Act.put, List.setIfInBounds_toArray, List.set_cons_zero, List.set_cons_succ]
  refine wpAnyH_take (i := 44) (oi := { dst := some 83, op := Go.Op.move (Go.Operand.tmp 12), type := 3, pos := "law.go:107", after := #[{ on := 43, ground := Go.Ground.guard }], guard := some (43, true) }) (v := ?_) rfl (by kernel_rfl) (by kernel_rfl) (by kernel_rfl) (fun _ _ _ h => h) (Or.inl ⟨by rfl, ?_⟩) (by assumption) ?_
  rotate_left
  · intro w hSw
    try dsimp only at hSw
    go_simp
    try with_reducible rfl
  try simp only [Act.put, List.setIfInBounds_toArray, List.set_cons_zero, List.set_cons_succ]
  refine wpAnyH_take (i := 46) (oi := { dst := some 85, op := Go.Op.load 23 (Go.Operand.tmp 10), type := 23, pos := "law.go:107", after := #[{ on := 43, ground := Go.Ground.guard }], guard := some (43, true) }) (v := ?_) rfl (by kernel_rfl) (by kernel_rfl) (by kernel_rfl) (fun _ _ _ h => h) (Or.inl ⟨by rfl, ?_⟩) (by assumption) ?_
  rotate_left
  · intro w hSw
    try dsimp only at hSw
    go_simp
    try with_reducible rfl
  try simp only [Act.put, List.setIfInBounds_toArray, List.set_cons_zero, List.set_cons_succ]
  refine wpAnyH_take (i := 48) (oi := { dst := some 87, op := Go.Op.load 23 (Go.Operand.tmp 7), type := 23, pos := "law.go:107", after := #[{ on := 43, ground := Go.Ground.guard }], guard := some (43, true) }) (v := ?_) rfl (by kernel_rfl) (by kernel_rfl) (by kernel_rfl) (fun _ _ _ h => h) (Or.inl ⟨by rfl, ?_⟩) (by assumption) ?_
  rotate_left
  · intro w hSw
    try dsimp only at hSw
    go_simp
    try with_reducible rfl
  try simp only [Act.put, List.setIfInBounds_toArray, List.set_cons_zero, List.set_cons_succ]
  refine wpAnyH_take (i := 45) (oi := { dst := some 84, op := Go.Op.binOp Go.BinOp.eql 3 (Go.Operand.tmp 83) (Go.Operand.const (Go.Value.int Go.IntKind.i64 1)) 3, type := 4, pos := "law.go:107", after := #[{ on := 44, ground := Go.Ground.data }, { on := 43, ground := Go.Ground.guard }], guard := some (43, true) }) (v := ?_) rfl (by kernel_rfl) (by kernel_rfl) (by kernel_rfl) (fun _ _ _ h => h) (Or.inl ⟨by rfl, ?_⟩) (by assumption) ?_
  rotate_left
  · intro w hSw
    try dsimp only at hSw
    go_simp
    try with_reducible rfl
  try simp only [Act.put, List.setIfInBounds_toArray, List.set_cons_zero, List.set_cons_succ]
  refine wpAnyH_ready (rs := [47]) (by kernel_rfl) (by simp) ?_
  refine AllReadyH.cons (o := { dst := some 86, op := Go.Op.call { callee := Go.Callee.value (Go.Operand.func 20), args := #[Go.Operand.tmp 85], argTypes := #[23] }, type := 3, pos := "law.go:107", after := #[{ on := 46, ground := Go.Ground.data }, { on := 43, ground := Go.Ground.chain }, { on := 43, ground := Go.Ground.guard }], guard := some (43, true) }) rfl (fun K hK => ?_) AllReadyH.nil
  go_simp
  refine (KZ.out _).mono ?_
  rintro e v8 ⟨rfl, hbv8⟩
  have HBx := Lib.hid (bstep hHeld.2.2.2.2.2.2 hbv8)
  clear hHeld hbv8
  refine hK.out _ _ ?_ (fun hHeld => ?_)
  · exact keepT2 PX.out.1 PX.out.2.2 PZ.out.1 PZ.out.2.2 HBx.out
  clear hK K HBx
  try simp only [Act.put, List.setIfInBounds_toArray, List.set_cons_zero, List.set_cons_succ]
  refine wpAnyH_ready (rs := [49]) (by kernel_rfl) (by simp) ?_
  refine AllReadyH.cons (o := { dst := some 88, op := Go.Op.call { callee := Go.Callee.value (Go.Operand.func 20), args := #[Go.Operand.tmp 87], argTypes := #[23] }, type := 3, pos := "law.go:107", after := #[{ on := 48, ground := Go.Ground.data }, { on := 47, ground := Go.Ground.chain }, { on := 43, ground := Go.Ground.guard }], guard := some (43, true) }) rfl (fun K hK => ?_) AllReadyH.nil
  go_simp
  refine (KX.out _).mono ?_
  rintro e v9 ⟨rfl, hbv9⟩
  have HBx := Lib.hid (bstep hHeld.2.2.2.2.2.2 hbv9)
  clear hHeld hbv9
  refine hK.out _ _ ?_ (fun hHeld => ?_)
  · exact keepT2 PX.out.1 PX.out.2.2 PZ.out.1 PZ.out.2.2 HBx.out
  clear hK K HBx
  try simp only [Act.put, List.setIfInBounds_toArray, List.set_cons_zero, List.set_cons_succ]
  refine wpAnyH_take (i := 50) (oi := { dst := some 89, op := Go.Op.binOp Go.BinOp.neq 3 (Go.Operand.tmp 86) (Go.Operand.tmp 88) 3, type := 4, pos := "law.go:107", after := #[{ on := 47, ground := Go.Ground.data }, { on := 49, ground := Go.Ground.data }, { on := 43, ground := Go.Ground.guard }], guard := some (43, true) }) (v := ?_) rfl (by kernel_rfl) (by kernel_rfl) (by kernel_rfl) (fun _ _ _ h => h) (Or.inl ⟨by rfl, ?_⟩) (by assumption) ?_
  rotate_left
  · intro w hSw
    try dsimp only at hSw
    go_simp
    try with_reducible rfl
  try simp only [Act.put, List.setIfInBounds_toArray, List.set_cons_zero, List.set_cons_succ]
  refine wpAnyH_take (i := 51) (oi := { dst := some 90, op := Go.Op.binOp Go.BinOp.eql 4 (Go.Operand.tmp 84) (Go.Operand.tmp 89) 4, type := 4, pos := "law.go:107", after := #[{ on := 45, ground := Go.Ground.data }, { on := 50, ground := Go.Ground.data }, { on := 43, ground := Go.Ground.guard }], guard := some (43, true) }) (v := ?_) rfl (by kernel_rfl) (by kernel_rfl) (by kernel_rfl) (fun _ _ _ h => h) (Or.inl ⟨by rfl, ?_⟩) (by assumption) ?_
  rotate_left
  · intro w hSw
    try dsimp only at hSw
    go_simp
    try with_reducible rfl
  try simp only [Act.put, List.setIfInBounds_toArray, List.set_cons_zero, List.set_cons_succ]
  refine wpAnyH_take (i := 52) (oi := { dst := some 91, op := Go.Op.pick (Go.Operand.tmp 82) (Go.Operand.tmp 90) (Go.Operand.const (Go.Value.bool false)), type := 4, pos := "law.go:107", after := #[{ on := 43, ground := Go.Ground.data }, { on := 51, ground := Go.Ground.data }], guard := none }) (v := ?_) rfl (by kernel_rfl) (by kernel_rfl) (by kernel_rfl) (fun _ _ _ h => h) (Or.inl ⟨by rfl, ?_⟩) (by assumption) ?_
  rotate_left
  · intro w hSw
    try dsimp only at hSw
    go_simp
    try with_reducible rfl
  try simp only [Act.put, List.setIfInBounds_toArray, List.set_cons_zero, List.set_cons_succ]
  refine wpAnyH_take (i := 53) (oi := { dst := some 6, op := Go.Op.assign (Go.Operand.tmp 91), type := 4, pos := "law.go:107", after := #[{ on := 52, ground := Go.Ground.data }, { on := 49, ground := Go.Ground.chain }, { on := 0, ground := Go.Ground.phase }, { on := 1, ground := Go.Ground.phase }, { on := 2, ground := Go.Ground.phase }, { on := 3, ground := Go.Ground.phase }, { on := 4, ground := Go.Ground.phase }, { on := 5, ground := Go.Ground.phase }, { on := 6, ground := Go.Ground.phase }, { on := 7, ground := Go.Ground.phase }, { on := 8, ground := Go.Ground.phase }, { on := 9, ground := Go.Ground.phase }, { on := 10, ground := Go.Ground.phase }, { on := 11, ground := Go.Ground.phase }, { on := 12, ground := Go.Ground.phase }, { on := 13, ground := Go.Ground.phase }, { on := 14, ground := Go.Ground.phase }, { on := 15, ground := Go.Ground.phase }, { on := 16, ground := Go.Ground.phase }, { on := 17, ground := Go.Ground.phase }, { on := 18, ground := Go.Ground.phase }, { on := 19, ground := Go.Ground.phase }, { on := 20, ground := Go.Ground.phase }, { on := 21, ground := Go.Ground.phase }, { on := 22, ground := Go.Ground.phase }, { on := 23, ground := Go.Ground.phase }, { on := 24, ground := Go.Ground.phase }, { on := 25, ground := Go.Ground.phase }, { on := 26, ground := Go.Ground.phase }, { on := 27, ground := Go.Ground.phase }, { on := 28, ground := Go.Ground.phase }, { on := 29, ground := Go.Ground.phase }, { on := 30, ground := Go.Ground.phase }, { on := 31, ground := Go.Ground.phase }, { on := 32, ground := Go.Ground.phase }, { on := 33, ground := Go.Ground.phase }, { on := 34, ground := Go.Ground.phase }, { on := 35, ground := Go.Ground.phase }, { on := 36, ground := Go.Ground.phase }, { on := 37, ground := Go.Ground.phase }, { on := 38, ground := Go.Ground.phase }, { on := 39, ground := Go.Ground.phase }, { on := 40, ground := Go.Ground.phase }, { on := 41, ground := Go.Ground.phase }, { on := 42, ground := Go.Ground.phase }, { on := 43, ground := Go.Ground.phase }, { on := 44, ground := Go.Ground.phase }, { on := 45, ground := Go.Ground.phase }, { on := 46, ground := Go.Ground.phase }, { on := 47, ground := Go.Ground.phase }, { on := 48, ground := Go.Ground.phase }, { on := 49, ground := Go.Ground.phase }, { on := 50, ground := Go.Ground.phase }, { on := 51, ground := Go.Ground.phase }, { on := 52, ground := Go.Ground.phase }], guard := none }) (v := ?_) rfl (by kernel_rfl) (by kernel_rfl) (by kernel_rfl) (fun _ _ _ h => h) (Or.inl ⟨by rfl, ?_⟩) (by assumption) ?_
  rotate_left
  · intro w hSw
    try dsimp only at hSw
    go_simp
    try with_reducible rfl
  try simp only [Act.put, List.setIfInBounds_toArray, List.set_cons_zero, List.set_cons_succ]
  refine wpAnyH_done (by kernel_rfl) ?_ _
  go_wp2
  go_ret
  exact ⟨rfl, bstep B hHeld.2.2.2.2.2.2⟩

set_option maxRecDepth 100000 in
set_option maxHeartbeats 8000000 in
theorem civilNext_B1 (y m d : Int) (Y M D q r : Int) (h1 : Day Y M D) (h2 : Day (Y + 1) q r) (en : numI (Y + 1) q r = numI Y M D + 1)
    (K1 : ∀ w : World, Calls Try.prog 21 #[.int .i64 y, .int .i64 m, .int .i64 d] w (Ret (Dt Y M D) w))
    (hy : ydI (Y + 1) q r = 1 ∧ ydI Y M D ≠ 0) (hw : wdI (numI (Y + 1) q r) = 1 ∧ weekI (Y + 1) q r ≠ weekI Y M D) (w : World) : Calls Try.prog 7 #[.int .i64 y, .int .i64 m, .int .i64 d] w (Ret (.bool true) w) := by
  have AW := Lib.hid awake6
  have MK := Lib.hid K1
  have N1 := Lib.hid (number_yes Y M D h1)
  have rn := num_in h1
  have O10 := of_num (Y + 1) q r h2
  rw [en] at O10
  have W10 := weekday_yes Y M D h1
  have WZ0 := weekday_yes (Y + 1) q r h2
  have CXZ0 := cmp_any Y M D (Y + 1) q r
  rw [ordT_num h1 h2, en, (ordI_next _).1] at CXZ0
  have CZX0 := cmp_any (Y + 1) q r Y M D
  rw [ordT_num h2 h1, en, (ordI_next _).2] at CZX0
  have CXX0 := cmp_any Y M D Y M D
  rw [ordT_num h1 h1, ordI_self] at CXX0
  have YX0 := yearday_yes Y M D h1
  have YZ0 := yearday_yes (Y + 1) q r h2
  have KX0 := week_yes Y M D h1
  have KZ0 := week_yes (Y + 1) q r h2
  have ydr := h1.yd
  have yl := ylen_two Y
  obtain ⟨yx, hyx⟩ : ∃ x, x = ydI Y M D := ⟨_, rfl⟩
  rw [← hyx] at YX0 hy ydr
  obtain ⟨kx, hkx⟩ : ∃ x, x = weekI Y M D := ⟨_, rfl⟩
  rw [← hkx] at KX0 hw
  rw [hy.1] at YZ0
  rw [en] at hw
  obtain ⟨kz, hkz⟩ : ∃ x, x = weekI (Y + 1) q r := ⟨_, rfl⟩
  rw [← hkz] at KZ0 hw
  rw [en] at WZ0
  have wr : 1 ≤ wdI (numI Y M D) ∧ wdI (numI Y M D) ≤ 7 := by unfold wdI; omega
  have wn : wdI (numI Y M D + 1) = (wdI (numI Y M D)).tmod 7 + 1 := by rw [tdiv_nat'.2 (by omega)]; unfold wdI; omega
  have wr2 : 1 ≤ wdI (numI Y M D + 1) ∧ wdI (numI Y M D + 1) ≤ 7 := by unfold wdI; omega
  obtain ⟨n, hn⟩ : ∃ x, x = numI Y M D := ⟨_, rfl⟩
  rw [← hn] at N1 O10 rn WZ0 W10 wn wr wr2 hw
  have u1 : I64 (n + 1) := by unfold I64; omega
  have f1 := u1.wrap
  have f1' := u1.wrap'
  obtain ⟨wz, hwz⟩ : ∃ x, x = wdI (n + 1) := ⟨_, rfl⟩
  rw [← hwz] at WZ0 wn wr2 hw
  obtain ⟨wx, hwx⟩ : ∃ x, x = wdI n := ⟨_, rfl⟩
  rw [← hwx] at W10 wn wr
  have u2 : I64 (wx.tmod 7 + 1) := by rw [← wn]; unfold I64; omega
  have f2 : IntKind.i64.wrap (wx.tmod 7 + 1) = wz := by rw [u2.wrap, wn]
  have f2' : wrap64 (wx.tmod 7 + 1) = wz := by rw [u2.wrap', wn]
  obtain ⟨b, hb0⟩ : ∃ b, b = yx + 1 := ⟨_, rfl⟩
  have f3 : IntKind.i64.wrap (yx + 1) = b := by rw [hb0]; exact I64.wrap (by unfold I64; omega)
  have f3' : wrap64 (yx + 1) = b := by rw [hb0]; exact I64.wrap' (by unfold I64; omega)
  have f4 : ((1 : Int) == b) = false := beq_eq_false_iff_ne.2 (by have := hy.2; omega)
  have yr := (show -999999999 ≤ Y ∧ Y ≤ 999999999 from h1.1)
  have f5 : IntKind.i64.wrap (Y + 1) = Y + 1 := I64.wrap (by unfold I64; omega)
  have f5' : wrap64 (Y + 1) = Y + 1 := I64.wrap' (by unfold I64; omega)
  clear hb0 yr
  obtain ⟨w1, w2⟩ := hw
  have f6 : (kz != kx) = true := by simpa using w2
  have f7 : wz = 1 := w1
  subst f7
  have O1 := Lib.hid O10
  have WX := Lib.hid W10
  have WZ := Lib.hid WZ0
  have CXZ := Lib.hid CXZ0
  have CZX := Lib.hid CZX0
  have CXX := Lib.hid CXX0
  have YX := Lib.hid YX0
  have YZ := Lib.hid YZ0
  have KX := Lib.hid KX0
  have KZ := Lib.hid KZ0
  clear O10 W10 WZ0 CXZ0 CZX0 CXX0 YX0 YZ0 KX0 KZ0 h1 h2 en K1 rn ydr yl hyx hkx u1 u2 wn wr wr2 hn hwz hwx hkz w1 w2 hy
  go_enter Try.func7, Try.ntmps7
  go_wp2_with fail
  refine (AW.out _).mono ?_
  rintro e w1 ⟨rfl, hb⟩
  have B : Below w.heap.size w w1 := bstep (by go_grown) hb
  clear hb AW
  go_wp2_with fail
  refine (MK.out _).mono ?_
  rintro e w2 ⟨rfl, hb⟩
  replace B := bstep B hb
  clear hb MK
  have PX := Lib.hid (HoldsT.new rfl : HoldsT (w2.alloc (DtC Y M D)) w2.heap.size Y M D)
  replace B := ballD1 B (DtC Y M D)
  go_upto_region 4 with fail
  change Code.wp _ _ _ _ (w2.alloc (DtC Y M D))
  generalize w2.alloc (DtC Y M D) = w3 at *
  obtain ⟨gPX, hg⟩ : ∃ g, g = w2.heap.size := ⟨_, rfl⟩
  rw [← hg] at PX ⊢
  clear hg
  obtain ⟨⟨c01, c02, c03⟩, -, c09⟩ := PX.out
  go_wp2_with fail
  refine (N1.out _).mono ?_
  rintro e w4 ⟨rfl, hb⟩
  replace PX := Lib.hid (PX.out.below hb)
  replace B := bstep B hb
  clear hb N1
  clear c01 c02 c03 c09
  obtain ⟨⟨c01, c02, c03⟩, -, c09⟩ := PX.out
  go_wp2_with fail
  refine (O1.out _).mono ?_
  rintro e w5 ⟨rfl, hb⟩
  replace PX := Lib.hid (PX.out.below hb)
  replace B := bstep B hb
  clear hb O1
  clear c01 c02 c03 c09
  replace PX := Lib.hid (PX.out.alloc (DtC (Y + 1) q r))
  have PZ := Lib.hid (HoldsT.new rfl : HoldsT (w5.alloc (DtC (Y + 1) q r)) w5.heap.size (Y + 1) q r)
  replace B := ballD1 B (DtC (Y + 1) q r)
  go_upto_region 6 with fail
  change Code.wp _ _ _ _ (w5.alloc (DtC (Y + 1) q r))
  generalize w5.alloc (DtC (Y + 1) q r) = w6 at *
  obtain ⟨gPZ, hg⟩ : ∃ g, g = w5.heap.size := ⟨_, rfl⟩
  rw [← hg] at PZ ⊢
  clear hg
  obtain ⟨⟨c01, c02, c03⟩, -, c09⟩ := PX.out
  obtain ⟨⟨c11, c12, c13⟩, -, c19⟩ := PZ.out
  go_wp2_with fail
  refine (WX.out _).mono ?_
  rintro e w7 ⟨rfl, hb⟩
  replace PX := Lib.hid (PX.out.below hb)
  replace PZ := Lib.hid (PZ.out.below hb)
  replace B := bstep B hb
  clear hb WX
  clear c01 c02 c03 c09 c11 c12 c13 c19
  obtain ⟨⟨c01, c02, c03⟩, -, c09⟩ := PX.out
  obtain ⟨⟨c11, c12, c13⟩, -, c19⟩ := PZ.out
  go_upto_region 9 with fail
  generalize w7 = V at *
  refine wp_region_held_drew (S := fun w' => w'.cell? ⟨gPX, 0, none⟩ = some (.int .i64 Y) ∧ w'.cell? ⟨gPX, 1, none⟩ = some (.int .i64 M) ∧ w'.cell? ⟨gPX, 2, none⟩ = some (.int .i64 D) ∧ w'.cell? ⟨gPZ, 0, none⟩ = some (.int .i64 (Y + 1)) ∧ w'.cell? ⟨gPZ, 1, none⟩ = some (.int .i64 q) ∧ w'.cell? ⟨gPZ, 2, none⟩ = some (.int .i64 r) ∧ Below V.heap.size V w') (by kernel_rfl) ?_ (fun hHeld => ?_)
  · exact keepT2 PX.out.1 PX.out.2.2 PZ.out.1 PZ.out.2.2 (Below.refl _ _).drew
  refine wpAnyH_take (i := 0) (oi := { dst := some 39, op := Go.Op.load 23 (Go.Operand.tmp 10), type := 23, pos := "law.go:107", after := #[], guard := none }) (v := ?_) rfl (by kernel_rfl) (by kernel_rfl) (by kernel_rfl) (fun _ _ _ h => h) (Or.inl ⟨by rfl, ?_⟩) (by assumption) ?_
  rotate_left
  · intro w hSw
    try dsimp only at hSw
    go_simp
    try with_reducible rfl
  try simp only [Act.put, List.setIfInBounds_toArray, List.set_cons_zero, List.set_cons_succ]
  refine wpAnyH_take (i := 2) (oi := { dst := some 41, op := Go.Op.move (Go.Operand.tmp 12), type := 3, pos := "law.go:107", after := #[], guard := none }) (v := ?_) rfl (by kernel_rfl) (by kernel_rfl) (by kernel_rfl) (fun _ _ _ h => h) (Or.inl ⟨by rfl, ?_⟩) (by assumption) ?_
  rotate_left
  · intro w hSw
    try dsimp only at hSw
    go_simp
    try with_reducible rfl
  try simp only [Act.put, List.setIfInBounds_toArray, List.set_cons_zero, List.set_cons_succ]
  refine wpAnyH_ready (rs := [1]) (by kernel_rfl) (by simp) ?_
  refine AllReadyH.cons (o := { dst := some 40, op := Go.Op.call { callee := Go.Callee.value (Go.Operand.func 18), args := #[Go.Operand.tmp 39], argTypes := #[23] }, type := 3, pos := "law.go:107", after := #[{ on := 0, ground := Go.Ground.data }], guard := none }) rfl (fun K hK => ?_) AllReadyH.nil
  go_simp
  refine (WZ.out _).mono ?_
  rintro e v1 ⟨rfl, hbv1⟩
  have HBx := Lib.hid (bstep hHeld.2.2.2.2.2.2 hbv1)
  clear hHeld hbv1
  refine hK.out _ _ ?_ (fun hHeld => ?_)
  · exact keepT2 PX.out.1 PX.out.2.2 PZ.out.1 PZ.out.2.2 HBx.out
  clear hK K HBx
  try simp only [Act.put, List.setIfInBounds_toArray, List.set_cons_zero, List.set_cons_succ]
  refine wpAnyH_take (i := 3) (oi := { dst := some 42, op := Go.Op.binOp Go.BinOp.eql 3 (Go.Operand.tmp 40) (Go.Operand.tmp 41) 3, type := 4, pos := "law.go:107", after := #[{ on := 1, ground := Go.Ground.data }, { on := 2, ground := Go.Ground.data }], guard := none }) (v := ?_) rfl (by kernel_rfl) (by kernel_rfl) (by kernel_rfl) (fun _ _ _ h => h) (Or.inl ⟨by rfl, ?_⟩) (by assumption) ?_
  rotate_left
  · intro w hSw
    try dsimp only at hSw
    go_simp
    try with_reducible rfl
  try simp only [Act.put, List.setIfInBounds_toArray, List.set_cons_zero, List.set_cons_succ]
  refine wpAnyH_take (i := 4) (oi := { dst := some 43, op := Go.Op.move (Go.Operand.tmp 42), type := 4, pos := "law.go:107", after := #[{ on := 3, ground := Go.Ground.data }, { on := 1, ground := Go.Ground.chain }], guard := none }) (v := ?_) rfl (by kernel_rfl) (by kernel_rfl) (by kernel_rfl) (fun _ _ _ h => h) (Or.inl ⟨by rfl, ?_⟩) (by assumption) ?_
  rotate_left
  · intro w hSw
    try dsimp only at hSw
    go_simp
    try with_reducible rfl
  try simp only [Act.put, List.setIfInBounds_toArray, List.set_cons_zero, List.set_cons_succ]
  refine wpAnyH_take (i := 5) (oi := { dst := some 44, op := Go.Op.load 23 (Go.Operand.tmp 7), type := 23, pos := "law.go:107", after := #[{ on := 4, ground := Go.Ground.guard }], guard := some (4, true) }) (v := ?_) rfl (by kernel_rfl) (by kernel_rfl) (by kernel_rfl) (fun _ _ _ h => h) (Or.inl ⟨by rfl, ?_⟩) (by assumption) ?_
  rotate_left
  · intro w hSw
    try dsimp only at hSw
    go_simp
    try with_reducible rfl
  try simp only [Act.put, List.setIfInBounds_toArray, List.set_cons_zero, List.set_cons_succ]
  refine wpAnyH_take (i := 6) (oi := { dst := some 45, op := Go.Op.load 23 (Go.Operand.tmp 10), type := 23, pos := "law.go:107", after := #[{ on := 4, ground := Go.Ground.guard }], guard := some (4, true) }) (v := ?_) rfl (by kernel_rfl) (by kernel_rfl) (by kernel_rfl) (fun _ _ _ h => h) (Or.inl ⟨by rfl, ?_⟩) (by assumption) ?_
  rotate_left
  · intro w hSw
    try dsimp only at hSw
    go_simp
    try with_reducible rfl
  try simp only [Act.put, List.setIfInBounds_toArray, List.set_cons_zero, List.set_cons_succ]
  refine wpAnyH_ready (rs := [7]) (by kernel_rfl) (by simp) ?_
  refine AllReadyH.cons (o := { dst := some 46, op := Go.Op.call { callee := Go.Callee.value (Go.Operand.func 28), args := #[Go.Operand.tmp 44, Go.Operand.tmp 45], argTypes := #[23, 23] }, type := 3, pos := "law.go:107", after := #[{ on := 5, ground := Go.Ground.data }, { on := 6, ground := Go.Ground.data }, { on := 4, ground := Go.Ground.chain }, { on := 4, ground := Go.Ground.guard }], guard := some (4, true) }) rfl (fun K hK => ?_) AllReadyH.nil
  go_simp
  refine (CXZ.out _).mono ?_
  rintro e v2 ⟨rfl, hbv2⟩
  have HBx := Lib.hid (bstep hHeld.2.2.2.2.2.2 hbv2)
  clear hHeld hbv2
  refine hK.out _ _ ?_ (fun hHeld => ?_)
  · exact keepT2 PX.out.1 PX.out.2.2 PZ.out.1 PZ.out.2.2 HBx.out
  clear hK K HBx
  try simp only [Act.put, List.setIfInBounds_toArray, List.set_cons_zero, List.set_cons_succ]
  refine wpAnyH_take (i := 8) (oi := { dst := some 47, op := Go.Op.binOp Go.BinOp.eql 3 (Go.Operand.tmp 46) (Go.Operand.const (Go.Value.int Go.IntKind.i64 (-1))) 3, type := 4, pos := "law.go:107", after := #[{ on := 7, ground := Go.Ground.data }, { on := 4, ground := Go.Ground.guard }], guard := some (4, true) }) (v := ?_) rfl (by kernel_rfl) (by kernel_rfl) (by kernel_rfl) (fun _ _ _ h => h) (Or.inl ⟨by rfl, ?_⟩) (by assumption) ?_
  rotate_left
  · intro w hSw
    try dsimp only at hSw
    go_simp
    try with_reducible rfl
  try simp only [Act.put, List.setIfInBounds_toArray, List.set_cons_zero, List.set_cons_succ]
  refine wpAnyH_take (i := 9) (oi := { dst := some 48, op := Go.Op.pick (Go.Operand.tmp 43) (Go.Operand.tmp 47) (Go.Operand.const (Go.Value.bool false)), type := 4, pos := "law.go:107", after := #[{ on := 4, ground := Go.Ground.data }, { on := 8, ground := Go.Ground.data }], guard := none }) (v := ?_) rfl (by kernel_rfl) (by kernel_rfl) (by kernel_rfl) (fun _ _ _ h => h) (Or.inl ⟨by rfl, ?_⟩) (by assumption) ?_
  rotate_left
  · intro w hSw
    try dsimp only at hSw
    go_simp
    try with_reducible rfl
  try simp only [Act.put, List.setIfInBounds_toArray, List.set_cons_zero, List.set_cons_succ]
  refine wpAnyH_take (i := 10) (oi := { dst := some 49, op := Go.Op.move (Go.Operand.tmp 48), type := 4, pos := "law.go:107", after := #[{ on := 9, ground := Go.Ground.data }, { on := 7, ground := Go.Ground.chain }], guard := none }) (v := ?_) rfl (by kernel_rfl) (by kernel_rfl) (by kernel_rfl) (fun _ _ _ h => h) (Or.inl ⟨by rfl, ?_⟩) (by assumption) ?_
  rotate_left
  · intro w hSw
    try dsimp only at hSw
    go_simp
    try with_reducible rfl
  try simp only [Act.put, List.setIfInBounds_toArray, List.set_cons_zero, List.set_cons_succ]
  refine wpAnyH_take (i := 11) (oi := { dst := some 50, op := Go.Op.load 23 (Go.Operand.tmp 10), type := 23, pos := "law.go:107", after := #[{ on := 10, ground := Go.Ground.guard }], guard := some (10, true) }) (v := ?_) rfl (by kernel_rfl) (by kernel_rfl) (by kernel_rfl) (fun _ _ _ h => h) (Or.inl ⟨by rfl, ?_⟩) (by assumption) ?_
  rotate_left
  · intro w hSw
    try dsimp only at hSw
    go_simp
    try with_reducible rfl
  try simp only [Act.put, List.setIfInBounds_toArray, List.set_cons_zero, List.set_cons_succ]
  refine wpAnyH_take (i := 12) (oi := { dst := some 51, op := Go.Op.load 23 (Go.Operand.tmp 7), type := 23, pos := "law.go:107", after := #[{ on := 10, ground := Go.Ground.guard }], guard := some (10, true) }) (v := ?_) rfl (by kernel_rfl) (by kernel_rfl) (by kernel_rfl) (fun _ _ _ h => h) (Or.inl ⟨by rfl, ?_⟩) (by assumption) ?_
  rotate_left
  · intro w hSw
    try dsimp only at hSw
    go_simp
    try with_reducible rfl
  try simp only [Act.put, List.setIfInBounds_toArray, List.set_cons_zero, List.set_cons_succ]
  refine wpAnyH_ready (rs := [13]) (by kernel_rfl) (by simp) ?_
  refine AllReadyH.cons (o := { dst := some 52, op := Go.Op.call { callee := Go.Callee.value (Go.Operand.func 28), args := #[Go.Operand.tmp 50, Go.Operand.tmp 51], argTypes := #[23, 23] }, type := 3, pos := "law.go:107", after := #[{ on := 11, ground := Go.Ground.data }, { on := 12, ground := Go.Ground.data }, { on := 10, ground := Go.Ground.chain }, { on := 10, ground := Go.Ground.guard }], guard := some (10, true) }) rfl (fun K hK => ?_) AllReadyH.nil
  go_simp
  refine (CZX.out _).mono ?_
  rintro e v3 ⟨rfl, hbv3⟩
  have HBx := Lib.hid (bstep hHeld.2.2.2.2.2.2 hbv3)
  clear hHeld hbv3
  refine hK.out _ _ ?_ (fun hHeld => ?_)
  · exact keepT2 PX.out.1 PX.out.2.2 PZ.out.1 PZ.out.2.2 HBx.out
  clear hK K HBx
  try simp only [Act.put, List.setIfInBounds_toArray, List.set_cons_zero, List.set_cons_succ]
  refine wpAnyH_take (i := 14) (oi := { dst := some 53, op := Go.Op.binOp Go.BinOp.eql 3 (Go.Operand.tmp 52) (Go.Operand.const (Go.Value.int Go.IntKind.i64 1)) 3, type := 4, pos := "law.go:107", after := #[{ on := 13, ground := Go.Ground.data }, { on := 10, ground := Go.Ground.guard }], guard := some (10, true) }) (v := ?_) rfl (by kernel_rfl) (by kernel_rfl) (by kernel_rfl) (fun _ _ _ h => h) (Or.inl ⟨by rfl, ?_⟩) (by assumption) ?_
  rotate_left
  · intro w hSw
    try dsimp only at hSw
    go_simp
    try with_reducible rfl
  try simp only [Act.put, List.setIfInBounds_toArray, List.set_cons_zero, List.set_cons_succ]
  refine wpAnyH_take (i := 15) (oi := { dst := some 54, op := Go.Op.pick (Go.Operand.tmp 49) (Go.Operand.tmp 53) (Go.Operand.const (Go.Value.bool false)), type := 4, pos := "law.go:107", after := #[{ on := 10, ground := Go.Ground.data }, { on := 14, ground := Go.Ground.data }], guard := none }) (v := ?_) rfl (by kernel_rfl) (by kernel_rfl) (by kernel_rfl) (fun _ _ _ h => h) (Or.inl ⟨by rfl, ?_⟩) (by assumption) ?_
  rotate_left
  · intro w hSw
    try dsimp only at hSw
    go_simp
    try with_reducible rfl
  try simp only [Act.put, List.setIfInBounds_toArray, List.set_cons_zero, List.set_cons_succ]
  refine wpAnyH_take (i := 16) (oi := { dst := some 55, op := Go.Op.move (Go.Operand.tmp 54), type := 4, pos := "law.go:107", after := #[{ on := 15, ground := Go.Ground.data }, { on := 13, ground := Go.Ground.chain }], guard := none }) (v := ?_) rfl (by kernel_rfl) (by kernel_rfl) (by kernel_rfl) (fun _ _ _ h => h) (Or.inl ⟨by rfl, ?_⟩) (by assumption) ?_
  rotate_left
  · intro w hSw
    try dsimp only at hSw
    go_simp
    try with_reducible rfl
  try simp only [Act.put, List.setIfInBounds_toArray, List.set_cons_zero, List.set_cons_succ]
  refine wpAnyH_take (i := 17) (oi := { dst := some 56, op := Go.Op.load 23 (Go.Operand.tmp 7), type := 23, pos := "law.go:107", after := #[{ on := 16, ground := Go.Ground.guard }], guard := some (16, true) }) (v := ?_) rfl (by kernel_rfl) (by kernel_rfl) (by kernel_rfl) (fun _ _ _ h => h) (Or.inl ⟨by rfl, ?_⟩) (by assumption) ?_
  rotate_left
  · intro w hSw
    try dsimp only at hSw
    go_simp
    try with_reducible rfl
  try simp only [Act.put, List.setIfInBounds_toArray, List.set_cons_zero, List.set_cons_succ]
  refine wpAnyH_take (i := 18) (oi := { dst := some 57, op := Go.Op.load 23 (Go.Operand.tmp 7), type := 23, pos := "law.go:107", after := #[{ on := 16, ground := Go.Ground.guard }], guard := some (16, true) }) (v := ?_) rfl (by kernel_rfl) (by kernel_rfl) (by kernel_rfl) (fun _ _ _ h => h) (Or.inl ⟨by rfl, ?_⟩) (by assumption) ?_
  rotate_left
  · intro w hSw
    try dsimp only at hSw
    go_simp
    try with_reducible rfl
  try simp only [Act.put, List.setIfInBounds_toArray, List.set_cons_zero, List.set_cons_succ]
  refine wpAnyH_ready (rs := [19]) (by kernel_rfl) (by simp) ?_
  refine AllReadyH.cons (o := { dst := some 58, op := Go.Op.call { callee := Go.Callee.value (Go.Operand.func 28), args := #[Go.Operand.tmp 56, Go.Operand.tmp 57], argTypes := #[23, 23] }, type := 3, pos := "law.go:107", after := #[{ on := 17, ground := Go.Ground.data }, { on := 18, ground := Go.Ground.data }, { on := 16, ground := Go.Ground.chain }, { on := 16, ground := Go.Ground.guard }], guard := some (16, true) }) rfl (fun K hK => ?_) AllReadyH.nil
  go_simp
  refine (CXX.out _).mono ?_
  rintro e v4 ⟨rfl, hbv4⟩
  have HBx := Lib.hid (bstep hHeld.2.2.2.2.2.2 hbv4)
  clear hHeld hbv4
  refine hK.out _ _ ?_ (fun hHeld => ?_)
  · exact keepT2 PX.out.1 PX.out.2.2 PZ.out.1 PZ.out.2.2 HBx.out
  clear hK K HBx
  try simp only [Act.put, List.setIfInBounds_toArray, List.set_cons_zero, List.set_cons_succ]
  refine wpAnyH_take (i := 20) (oi := { dst := some 59, op := Go.Op.binOp Go.BinOp.eql 3 (Go.Operand.tmp 58) (Go.Operand.const (Go.Value.int Go.IntKind.i64 0)) 3, type := 4, pos := "law.go:107", after := #[{ on := 19, ground := Go.Ground.data }, { on := 16, ground := Go.Ground.guard }], guard := some (16, true) }) (v := ?_) rfl (by kernel_rfl) (by kernel_rfl) (by kernel_rfl) (fun _ _ _ h => h) (Or.inl ⟨by rfl, ?_⟩) (by assumption) ?_
  rotate_left
  · intro w hSw
    try dsimp only at hSw
    go_simp
    try with_reducible rfl
  try simp only [Act.put, List.setIfInBounds_toArray, List.set_cons_zero, List.set_cons_succ]
  refine wpAnyH_take (i := 21) (oi := { dst := some 60, op := Go.Op.pick (Go.Operand.tmp 55) (Go.Operand.tmp 59) (Go.Operand.const (Go.Value.bool false)), type := 4, pos := "law.go:107", after := #[{ on := 16, ground := Go.Ground.data }, { on := 20, ground := Go.Ground.data }], guard := none }) (v := ?_) rfl (by kernel_rfl) (by kernel_rfl) (by kernel_rfl) (fun _ _ _ h => h) (Or.inl ⟨by rfl, ?_⟩) (by assumption) ?_
  rotate_left
  · intro w hSw
    try dsimp only at hSw
    go_simp
    try with_reducible rfl
  try simp only [Act.put, List.setIfInBounds_toArray, List.set_cons_zero, List.set_cons_succ]
  refine wpAnyH_take (i := 22) (oi := { dst := some 61, op := Go.Op.move (Go.Operand.tmp 60), type := 4, pos := "law.go:107", after := #[{ on := 21, ground := Go.Ground.data }, { on := 19, ground := Go.Ground.chain }], guard := none }) (v := ?_) rfl (by kernel_rfl) (by kernel_rfl) (by kernel_rfl) (fun _ _ _ h => h) (Or.inl ⟨by rfl, ?_⟩) (by assumption) ?_
  rotate_left
  · intro w hSw
    try dsimp only at hSw
    go_simp
    try with_reducible rfl
  try simp only [Act.put, List.setIfInBounds_toArray, List.set_cons_zero, List.set_cons_succ]
  refine wpAnyH_take (i := 23) (oi := { dst := some 62, op := Go.Op.load 23 (Go.Operand.tmp 10), type := 23, pos := "law.go:107", after := #[{ on := 22, ground := Go.Ground.guard }], guard := some (22, true) }) (v := ?_) rfl (by kernel_rfl) (by kernel_rfl) (by kernel_rfl) (fun _ _ _ h => h) (Or.inl ⟨by rfl, ?_⟩) (by assumption) ?_
  rotate_left
  · intro w hSw
    try dsimp only at hSw
    go_simp
    try with_reducible rfl
  try simp only [Act.put, List.setIfInBounds_toArray, List.set_cons_zero, List.set_cons_succ]
  refine wpAnyH_take (i := 25) (oi := { dst := some 64, op := Go.Op.load 23 (Go.Operand.tmp 7), type := 23, pos := "law.go:107", after := #[{ on := 22, ground := Go.Ground.guard }], guard := some (22, true) }) (v := ?_) rfl (by kernel_rfl) (by kernel_rfl) (by kernel_rfl) (fun _ _ _ h => h) (Or.inl ⟨by rfl, ?_⟩) (by assumption) ?_
  rotate_left
  · intro w hSw
    try dsimp only at hSw
    go_simp
    try with_reducible rfl
  try simp only [Act.put, List.setIfInBounds_toArray, List.set_cons_zero, List.set_cons_succ]
  refine wpAnyH_ready (rs := [24]) (by kernel_rfl) (by simp) ?_
  refine AllReadyH.cons (o := { dst := some 63, op := Go.Op.call { callee := Go.Callee.value (Go.Operand.func 19), args := #[Go.Operand.tmp 62], argTypes := #[23] }, type := 3, pos := "law.go:107", after := #[{ on := 23, ground := Go.Ground.data }, { on := 22, ground := Go.Ground.chain }, { on := 22, ground := Go.Ground.guard }], guard := some (22, true) }) rfl (fun K hK => ?_) AllReadyH.nil
  go_simp
  refine (YZ.out _).mono ?_
  rintro e v5 ⟨rfl, hbv5⟩
  have HBx := Lib.hid (bstep hHeld.2.2.2.2.2.2 hbv5)
  clear hHeld hbv5
  refine hK.out _ _ ?_ (fun hHeld => ?_)
  · exact keepT2 PX.out.1 PX.out.2.2 PZ.out.1 PZ.out.2.2 HBx.out
  clear hK K HBx
  try simp only [Act.put, List.setIfInBounds_toArray, List.set_cons_zero, List.set_cons_succ]
  refine wpAnyH_ready (rs := [26]) (by kernel_rfl) (by simp) ?_
  refine AllReadyH.cons (o := { dst := some 65, op := Go.Op.call { callee := Go.Callee.value (Go.Operand.func 19), args := #[Go.Operand.tmp 64], argTypes := #[23] }, type := 3, pos := "law.go:107", after := #[{ on := 25, ground := Go.Ground.data }, { on := 24, ground := Go.Ground.chain }, { on := 22, ground := Go.Ground.guard }], guard := some (22, true) }) rfl (fun K hK => ?_) AllReadyH.nil
  go_simp
  refine (YX.out _).mono ?_
  rintro e v6 ⟨rfl, hbv6⟩
  have HBx := Lib.hid (bstep hHeld.2.2.2.2.2.2 hbv6)
  clear hHeld hbv6
  refine hK.out _ _ ?_ (fun hHeld => ?_)
  · exact keepT2 PX.out.1 PX.out.2.2 PZ.out.1 PZ.out.2.2 HBx.out
  clear hK K HBx
  try simp only [Act.put, List.setIfInBounds_toArray, List.set_cons_zero, List.set_cons_succ]
  refine wpAnyH_take (i := 27) (oi := { dst := some 66, op := Go.Op.binOp Go.BinOp.add 3 (Go.Operand.tmp 65) (Go.Operand.const (Go.Value.int Go.IntKind.i64 1)) 3, type := 3, pos := "law.go:107", after := #[{ on := 26, ground := Go.Ground.data }, { on := 22, ground := Go.Ground.guard }], guard := some (22, true) }) (v := ?_) rfl (by kernel_rfl) (by kernel_rfl) (by kernel_rfl) (fun _ _ _ h => h) (Or.inl ⟨by rfl, ?_⟩) (by assumption) ?_
  rotate_left
  · intro w hSw
    try dsimp only at hSw
    go_simp
    try with_reducible rfl
  try simp only [Act.put, List.setIfInBounds_toArray, List.set_cons_zero, List.set_cons_succ]
  refine wpAnyH_take (i := 28) (oi := { dst := some 67, op := Go.Op.binOp Go.BinOp.eql 3 (Go.Operand.tmp 63) (Go.Operand.tmp 66) 3, type := 4, pos := "law.go:107", after := #[{ on := 24, ground := Go.Ground.data }, { on := 27, ground := Go.Ground.data }, { on := 22, ground := Go.Ground.guard }], guard := some (22, true) }) (v := ?_) rfl (by kernel_rfl) (by kernel_rfl) (by kernel_rfl) (fun _ _ _ h => h) (Or.inl ⟨by rfl, ?_⟩) (by assumption) ?_
  rotate_left
  · intro w hSw
    try dsimp only at hSw
    go_simp
    try with_reducible rfl
  try simp only [Act.put, List.setIfInBounds_toArray, List.set_cons_zero, List.set_cons_succ]
  refine wpAnyH_take (i := 29) (oi := { dst := some 68, op := Go.Op.move (Go.Operand.tmp 67), type := 4, pos := "law.go:107", after := #[{ on := 28, ground := Go.Ground.data }, { on := 26, ground := Go.Ground.chain }, { on := 22, ground := Go.Ground.guard }], guard := some (22, true) }) (v := ?_) rfl (by kernel_rfl) (by kernel_rfl) (by kernel_rfl) (fun _ _ _ h => h) (Or.inl ⟨by rfl, ?_⟩) (by assumption) ?_
  rotate_left
  · intro w hSw
    try dsimp only at hSw
    go_simp
    try with_reducible rfl
  try simp only [Act.put, List.setIfInBounds_toArray, List.set_cons_zero, List.set_cons_succ]
  refine wpAnyH_take (i := 30) (oi := { dst := some 69, op := Go.Op.load 23 (Go.Operand.tmp 10), type := 23, pos := "law.go:107", after := #[{ on := 29, ground := Go.Ground.guard }], guard := some (29, false) }) (v := ?_) rfl (by kernel_rfl) (by kernel_rfl) (by kernel_rfl) (fun _ _ _ h => h) (Or.inl ⟨by rfl, ?_⟩) (by assumption) ?_
  rotate_left
  · intro w hSw
    try dsimp only at hSw
    go_simp
    try with_reducible rfl
  try simp only [Act.put, List.setIfInBounds_toArray, List.set_cons_zero, List.set_cons_succ]
  refine wpAnyH_ready (rs := [31]) (by kernel_rfl) (by simp) ?_
  refine AllReadyH.cons (o := { dst := some 70, op := Go.Op.call { callee := Go.Callee.value (Go.Operand.func 19), args := #[Go.Operand.tmp 69], argTypes := #[23] }, type := 3, pos := "law.go:107", after := #[{ on := 30, ground := Go.Ground.data }, { on := 29, ground := Go.Ground.chain }, { on := 29, ground := Go.Ground.guard }], guard := some (29, false) }) rfl (fun K hK => ?_) AllReadyH.nil
  go_simp
  refine (YZ.out _).mono ?_
  rintro e v7 ⟨rfl, hbv7⟩
  have HBx := Lib.hid (bstep hHeld.2.2.2.2.2.2 hbv7)
  clear hHeld hbv7
  refine hK.out _ _ ?_ (fun hHeld => ?_)
  · exact keepT2 PX.out.1 PX.out.2.2 PZ.out.1 PZ.out.2.2 HBx.out
  clear hK K HBx
  try simp only [Act.put, List.setIfInBounds_toArray, List.set_cons_zero, List.set_cons_succ]
  refine wpAnyH_take (i := 32) (oi := { dst := some 71, op := Go.Op.binOp Go.BinOp.eql 3 (Go.Operand.tmp 70) (Go.Operand.const (Go.Value.int Go.IntKind.i64 1)) 3, type := 4, pos := "law.go:107", after := #[{ on := 31, ground := Go.Ground.data }, { on := 29, ground := Go.Ground.guard }], guard := some (29, false) }) (v := ?_) rfl (by kernel_rfl) (by kernel_rfl) (by kernel_rfl) (fun _ _ _ h => h) (Or.inl ⟨by rfl, ?_⟩) (by assumption) ?_
  rotate_left
  · intro w hSw
    try dsimp only at hSw
    go_simp
    try with_reducible rfl
  try simp only [Act.put, List.setIfInBounds_toArray, List.set_cons_zero, List.set_cons_succ]
  refine wpAnyH_take (i := 33) (oi := { dst := some 72, op := Go.Op.move (Go.Operand.tmp 71), type := 4, pos := "law.go:107", after := #[{ on := 32, ground := Go.Ground.data }, { on := 31, ground := Go.Ground.chain }, { on := 29, ground := Go.Ground.guard }], guard := some (29, false) }) (v := ?_) rfl (by kernel_rfl) (by kernel_rfl) (by kernel_rfl) (fun _ _ _ h => h) (Or.inl ⟨by rfl, ?_⟩) (by assumption) ?_
  rotate_left
  · intro w hSw
    try dsimp only at hSw
    go_simp
    try with_reducible rfl
  try simp only [Act.put, List.setIfInBounds_toArray, List.set_cons_zero, List.set_cons_succ]
  refine wpAnyH_take (i := 34) (oi := { dst := some 73, op := Go.Op.fieldAddr 23 (Go.Operand.tmp 10) 0, type := 0, pos := "law.go:107", after := #[{ on := 33, ground := Go.Ground.guard }], guard := some (33, true) }) (v := ?_) rfl (by kernel_rfl) (by kernel_rfl) (by kernel_rfl) (fun _ _ _ h => h) (Or.inl ⟨by rfl, ?_⟩) (by assumption) ?_
  rotate_left
  · intro w hSw
    try dsimp only at hSw
    go_simp
    try with_reducible rfl
  try simp only [Act.put, List.setIfInBounds_toArray, List.set_cons_zero, List.set_cons_succ]
  refine wpAnyH_take (i := 36) (oi := { dst := some 75, op := Go.Op.fieldAddr 23 (Go.Operand.tmp 7) 0, type := 0, pos := "law.go:107", after := #[{ on := 33, ground := Go.Ground.guard }], guard := some (33, true) }) (v := ?_) rfl (by kernel_rfl) (by kernel_rfl) (by kernel_rfl) (fun _ _ _ h => h) (Or.inl ⟨by rfl, ?_⟩) (by assumption) ?_
  rotate_left
  · intro w hSw
    try dsimp only at hSw
    go_simp
    try with_reducible rfl
  try simp only [Act.put, List.setIfInBounds_toArray, List.set_cons_zero, List.set_cons_succ]
  refine wpAnyH_take (i := 35) (oi := { dst := some 74, op := Go.Op.load 3 (Go.Operand.tmp 73), type := 3, pos := "law.go:107", after := #[{ on := 34, ground := Go.Ground.data }, { on := 33, ground := Go.Ground.guard }], guard := some (33, true) }) (v := ?_) rfl (by kernel_rfl) (by kernel_rfl) (by kernel_rfl) (fun _ _ _ h => h) (Or.inl ⟨by rfl, ?_⟩) (by assumption) ?_
  rotate_left
  · intro w hSw
    try dsimp only at hSw
    go_simp
    try with_reducible rfl
  try simp only [Act.put, List.setIfInBounds_toArray, List.set_cons_zero, List.set_cons_succ]
  refine wpAnyH_take (i := 37) (oi := { dst := some 76, op := Go.Op.load 3 (Go.Operand.tmp 75), type := 3, pos := "law.go:107", after := #[{ on := 36, ground := Go.Ground.data }, { on := 33, ground := Go.Ground.guard }], guard := some (33, true) }) (v := ?_) rfl (by kernel_rfl) (by kernel_rfl) (by kernel_rfl) (fun _ _ _ h => h) (Or.inl ⟨by rfl, ?_⟩) (by assumption) ?_
  rotate_left
  · intro w hSw
    try dsimp only at hSw
    go_simp
    try with_reducible rfl
  try simp only [Act.put, List.setIfInBounds_toArray, List.set_cons_zero, List.set_cons_succ]
  refine wpAnyH_take (i := 38) (oi := { dst := some 77, op := Go.Op.binOp Go.BinOp.add 3 (Go.Operand.tmp 76) (Go.Operand.const (Go.Value.int Go.IntKind.i64 1)) 3, type := 3, pos := "law.go:107", after := #[{ on := 37, ground := Go.Ground.data }, { on := 33, ground := Go.Ground.guard }], guard := some (33, true) }) (v := ?_) rfl (by kernel_rfl) (by kernel_rfl) (by kernel_rfl) (fun _ _ _ h => h) (Or.inl ⟨by rfl, ?_⟩) (by assumption) ?_
  rotate_left
  · intro w hSw
    try dsimp only at hSw
    go_simp
    try with_reducible rfl
  try simp only [Act.put, List.setIfInBounds_toArray, List.set_cons_zero, List.set_cons_succ]
  refine wpAnyH_take (i := 39) (oi := { dst := some 78, op := Go.Op.binOp Go.BinOp.eql 3 (Go.Operand.tmp 74) (Go.Operand.tmp 77) 3, type := 4, pos := "law.go:107", after := #[{ on := 35, ground := Go.Ground.data }, { on := 38, ground := Go.Ground.data }, { on := 33, ground := Go.Ground.guard }], guard := some (33, true) }) (v := ?_) rfl (by kernel_rfl) (by kernel_rfl) (by kernel_rfl) (fun _ _ _ h => h) (Or.inl ⟨by rfl, ?_⟩) (by assumption) ?_
  rotate_left
  · intro w hSw
    try dsimp only at hSw
    go_simp
    try with_reducible rfl
  try simp only [Act.put, List.setIfInBounds_toArray, List.set_cons_zero, List.set_cons_succ]
  refine wpAnyH_take (i := 40) (oi := { dst := some 79, op := Go.Op.pick (Go.Operand.tmp 72) (Go.Operand.tmp 78) (Go.Operand.const (Go.Value.bool false)), type := 4, pos := "law.go:107", after := #[{ on := 33, ground := Go.Ground.data }, { on := 39, ground := Go.Ground.data }, { on := 29, ground := Go.Ground.guard }], guard := some (29, false) }) (v := ?_) rfl (by kernel_rfl) (by kernel_rfl) (by kernel_rfl) (fun _ _ _ h => h) (Or.inl ⟨by rfl, ?_⟩) (by assumption) ?_
  rotate_left
  · intro w hSw
    try dsimp only at hSw
    go_simp
    try with_reducible rfl
  try simp only [Act.put, List.setIfInBounds_toArray, List.set_cons_zero, List.set_cons_succ]
  refine wpAnyH_take (i := 41) (oi := { dst := some 80, op := Go.Op.pick (Go.Operand.tmp 68) (Go.Operand.const (Go.Value.bool true)) (Go.Operand.tmp 79), type := 4, pos := "law.go:107", after := #[{ on := 29, ground := Go.Ground.data }, { on := 40, ground := Go.Ground.data }, { on := 22, ground := Go.Ground.guard }], guard := some (22, true) }) (v := ?_) rfl (by kernel_rfl) (by kernel_rfl) (by kernel_rfl) (fun _ _ _ h => h) (Or.inl ⟨by rfl, ?_⟩) (by assumption) ?_
  rotate_left
  · intro w hSw
    try dsimp only at hSw
    go_simp
    try with_reducible rfl
  try simp only [Act.put, List.setIfInBounds_toArray, List.set_cons_zero, List.set_cons_succ]
  refine wpAnyH_take (i := 42) (oi := { dst := some 81, op := Go.Op.pick (Go.Operand.tmp 61) (Go.Operand.tmp 80) (Go.Operand.const (Go.Value.bool false)), type := 4, pos := "law.go:107", after := #[{ on := 22, ground := Go.Ground.data }, { on := 41, ground := Go.Ground.data }], guard := none }) (v := ?_) rfl (by kernel_rfl) (by kernel_rfl) (by kernel_rfl) (fun _ _ _ h => h) (Or.inl ⟨by rfl, ?_⟩) (by assumption) ?_
  rotate_left
  · intro w hSw
    try dsimp only at hSw
    go_simp
    try with_reducible rfl
  try simp only [Act.put, List.setIfInBounds_toArray, List.set_cons_zero, List.set_cons_succ]
  refine wpAnyH_take (i := 43) (oi := { dst := some 82, op := Go.Op.move (Go.Operand.tmp 81), type := 4, pos := "law.go:107", after := #[{ on := 42, ground := Go.Ground.data }, { on := 33, ground := Go.Ground.chain }], guard := none }) (v := ?_) rfl (by kernel_rfl) (by kernel_rfl) (by kernel_rfl) (fun _ _ _ h => h) (Or.inl ⟨by rfl, ?_⟩) (by assumption) ?_
  rotate_left
  · intro w hSw
    try dsimp only at hSw
    go_simp
    try with_reducible rfl
  try simp only [Act.put, List.setIfInBounds_toArray, List.set_cons_zero, List.set_cons_succ]
  refine wpAnyH_take (i := 44) (oi := { dst := some 83, op := Go.Op.move (Go.Operand.tmp 12), type := 3, pos := "law.go:107", after := #[{ on := 43, ground := Go.Ground.guard }], guard := some (43, true) }) (v := ?_) rfl (by kernel_rfl) (by kernel_rfl) (by kernel_rfl) (fun _ _ _ h => h) (Or.inl ⟨by rfl, ?_⟩) (by assumption) ?_
  rotate_left
  · intro w hSw
    try dsimp only at hSw
    go_simp
    try with_reducible rfl
  try simp only [Act.put, List.setIfInBounds_toArray, List.set_cons_zero, List.set_cons_succ]
  refine wpAnyH_take (i := 46) (oi := { dst := some 85, op := Go.Op.load 23 (Go.Operand.tmp 10), type := 23, pos := "law.go:107", after := #[{ on := 43, ground := Go.Ground.guard }], guard := some (43, true) }) (v := ?_) rfl (by kernel_rfl) (by kernel_rfl) (by kernel_rfl) (fun _ _ _ h => h) (Or.inl ⟨by rfl, ?_⟩) (by assumption) ?_
  rotate_left
  · intro w hSw
    try dsimp only at hSw
    go_simp
    try with_reducible rfl
  try simp only [Act.put, List.setIfInBounds_toArray, List.set_cons_zero, List.set_cons_succ]
  refine wpAnyH_take (i := 48) (oi := { dst := some 87, op := Go.Op.load 23 (Go.Operand.tmp 7), type := 23, pos := "law.go:107", after := #[{ on := 43, ground := Go.Ground.guard }], guard := some (43, true) }) (v := ?_) rfl (by kernel_rfl) (by kernel_rfl) (by kernel_rfl) (fun _ _ _ h => h) (Or.inl ⟨by rfl, ?_⟩) (by assumption) ?_
  rotate_left
  · intro w hSw
    try dsimp only at hSw
    go_simp
    try with_reducible rfl
  try simp only [Act.put, List.setIfInBounds_toArray, List.set_cons_zero, List.set_cons_succ]
  refine wpAnyH_take (i := 45) (oi := { dst := some 84, op := Go.Op.binOp Go.BinOp.eql 3 (Go.Operand.tmp 83) (Go.Operand.const (Go.Value.int Go.IntKind.i64 1)) 3, type := 4, pos := "law.go:107", after := #[{ on := 44, ground := Go.Ground.data }, { on := 43, ground := Go.Ground.guard }], guard := some (43, true) }) (v := ?_) rfl (by kernel_rfl) (by kernel_rfl) (by kernel_rfl) (fun _ _ _ h => h) (Or.inl ⟨by rfl, ?_⟩) (by assumption) ?_
  rotate_left
  · intro w hSw
    try dsimp only at hSw
    go_simp
    try with_reducible rfl
  try simp only [Act.put, List.setIfInBounds_toArray, List.set_cons_zero, List.set_cons_succ]
  refine wpAnyH_ready (rs := [47]) (by kernel_rfl) (by simp) ?_
  refine AllReadyH.cons (o := { dst := some 86, op := Go.Op.call { callee := Go.Callee.value (Go.Operand.func 20), args := #[Go.Operand.tmp 85], argTypes := #[23] }, type := 3, pos := "law.go:107", after := #[{ on := 46, ground := Go.Ground.data }, { on := 43, ground := Go.Ground.chain }, { on := 43, ground := Go.Ground.guard }], guard := some (43, true) }) rfl (fun K hK => ?_) AllReadyH.nil
  go_simp
  refine (KZ.out _).mono ?_
  rintro e v8 ⟨rfl, hbv8⟩
  have HBx := Lib.hid (bstep hHeld.2.2.2.2.2.2 hbv8)
  clear hHeld hbv8
  refine hK.out _ _ ?_ (fun hHeld => ?_)
  · exact keepT2 PX.out.1 PX.out.2.2 PZ.out.1 PZ.out.2.2 HBx.out
  clear hK K HBx
  try simp only [Act.put, List.setIfInBounds_toArray, List.set_cons_zero, List.set_cons_succ]
  refine wpAnyH_ready (rs := [49]) (by kernel_rfl) (by simp) ?_
  refine AllReadyH.cons (o := { dst := some 88, op := Go.Op.call { callee := Go.Callee.value (Go.Operand.func 20), args := #[Go.Operand.tmp 87], argTypes := #[23] }, type := 3, pos := "law.go:107", after := #[{ on := 48, ground := Go.Ground.data }, { on := 47, ground := Go.Ground.chain }, { on := 43, ground := Go.Ground.guard }], guard := some (43, true) }) rfl (fun K hK => ?_) AllReadyH.nil
  go_simp
  refine (KX.out _).mono ?_
  rintro e v9 ⟨rfl, hbv9⟩
  have HBx := Lib.hid (bstep hHeld.2.2.2.2.2.2 hbv9)
  clear hHeld hbv9
  refine hK.out _ _ ?_ (fun hHeld => ?_)
  · exact keepT2 PX.out.1 PX.out.2.2 PZ.out.1 PZ.out.2.2 HBx.out
  clear hK K HBx
  try simp only [Act.put, List.setIfInBounds_toArray, List.set_cons_zero, List.set_cons_succ]
  refine wpAnyH_take (i := 50) (oi := { dst := some 89, op := Go.Op.binOp Go.BinOp.neq 3 (Go.Operand.tmp 86) (Go.Operand.tmp 88) 3, type := 4, pos := "law.go:107", after := #[{ on := 47, ground := Go.Ground.data }, { on := 49, ground := Go.Ground.data }, { on := 43, ground := Go.Ground.guard }], guard := some (43, true) }) (v := ?_) rfl (by kernel_rfl) (by kernel_rfl) (by kernel_rfl) (fun _ _ _ h => h) (Or.inl ⟨by rfl, ?_⟩) (by assumption) ?_
  rotate_left
  · intro w hSw
    try dsimp only at hSw
    go_simp
    try with_reducible rfl
  try simp only [Act.put, List.setIfInBounds_toArray, List.set_cons_zero, List.set_cons_succ]
  refine wpAnyH_take (i := 51) (oi := { dst := some 90, op := Go.Op.binOp Go.BinOp.eql 4 (Go.Operand.tmp 84) (Go.Operand.tmp 89) 4, type := 4, pos := "law.go:107", after := #[{ on := 45, ground := Go.Ground.data }, { on := 50, ground := Go.Ground.data }, { on := 43, ground := Go.Ground.guard }], guard := some (43, true) }) (v := ?_) rfl (by kernel_rfl) (by kernel_rfl) (by kernel_rfl) (fun _ _ _ h => h) (Or.inl ⟨by rfl, ?_⟩) (by assumption) ?_
  rotate_left
  · intro w hSw
    try dsimp only at hSw
    go_simp
    try with_reducible rfl
  try simp only [Act.put, List.setIfInBounds_toArray, List.set_cons_zero, List.set_cons_succ]
  refine wpAnyH_take (i := 52) (oi := { dst := some 91, op := Go.Op.pick (Go.Operand.tmp 82) (Go.Operand.tmp 90) (Go.Operand.const (Go.Value.bool false)), type := 4, pos := "law.go:107", after := #[{ on := 43, ground := Go.Ground.data }, { on := 51, ground := Go.Ground.data }], guard := none }) (v := ?_) rfl (by kernel_rfl) (by kernel_rfl) (by kernel_rfl) (fun _ _ _ h => h) (Or.inl ⟨by rfl, ?_⟩) (by assumption) ?_
  rotate_left
  · intro w hSw
    try dsimp only at hSw
    go_simp
    try with_reducible rfl
  try simp only [Act.put, List.setIfInBounds_toArray, List.set_cons_zero, List.set_cons_succ]
  refine wpAnyH_take (i := 53) (oi := { dst := some 6, op := Go.Op.assign (Go.Operand.tmp 91), type := 4, pos := "law.go:107", after := #[{ on := 52, ground := Go.Ground.data }, { on := 49, ground := Go.Ground.chain }, { on := 0, ground := Go.Ground.phase }, { on := 1, ground := Go.Ground.phase }, { on := 2, ground := Go.Ground.phase }, { on := 3, ground := Go.Ground.phase }, { on := 4, ground := Go.Ground.phase }, { on := 5, ground := Go.Ground.phase }, { on := 6, ground := Go.Ground.phase }, { on := 7, ground := Go.Ground.phase }, { on := 8, ground := Go.Ground.phase }, { on := 9, ground := Go.Ground.phase }, { on := 10, ground := Go.Ground.phase }, { on := 11, ground := Go.Ground.phase }, { on := 12, ground := Go.Ground.phase }, { on := 13, ground := Go.Ground.phase }, { on := 14, ground := Go.Ground.phase }, { on := 15, ground := Go.Ground.phase }, { on := 16, ground := Go.Ground.phase }, { on := 17, ground := Go.Ground.phase }, { on := 18, ground := Go.Ground.phase }, { on := 19, ground := Go.Ground.phase }, { on := 20, ground := Go.Ground.phase }, { on := 21, ground := Go.Ground.phase }, { on := 22, ground := Go.Ground.phase }, { on := 23, ground := Go.Ground.phase }, { on := 24, ground := Go.Ground.phase }, { on := 25, ground := Go.Ground.phase }, { on := 26, ground := Go.Ground.phase }, { on := 27, ground := Go.Ground.phase }, { on := 28, ground := Go.Ground.phase }, { on := 29, ground := Go.Ground.phase }, { on := 30, ground := Go.Ground.phase }, { on := 31, ground := Go.Ground.phase }, { on := 32, ground := Go.Ground.phase }, { on := 33, ground := Go.Ground.phase }, { on := 34, ground := Go.Ground.phase }, { on := 35, ground := Go.Ground.phase }, { on := 36, ground := Go.Ground.phase }, { on := 37, ground := Go.Ground.phase }, { on := 38, ground := Go.Ground.phase }, { on := 39, ground := Go.Ground.phase }, { on := 40, ground := Go.Ground.phase }, { on := 41, ground := Go.Ground.phase }, { on := 42, ground := Go.Ground.phase }, { on := 43, ground := Go.Ground.phase }, { on := 44, ground := Go.Ground.phase }, { on := 45, ground := Go.Ground.phase }, { on := 46, ground := Go.Ground.phase }, { on := 47, ground := Go.Ground.phase }, { on := 48, ground := Go.Ground.phase }, { on := 49, ground := Go.Ground.phase }, { on := 50, ground := Go.Ground.phase }, { on := 51, ground := Go.Ground.phase }, { on := 52, ground := Go.Ground.phase }], guard := none }) (v := ?_) rfl (by kernel_rfl) (by kernel_rfl) (by kernel_rfl) (fun _ _ _ h => h) (Or.inl ⟨by rfl, ?_⟩) (by assumption) ?_
  rotate_left
  · intro w hSw
    try dsimp only at hSw
    go_simp
    try with_reducible rfl
  try simp only [Act.put, List.setIfInBounds_toArray, List.set_cons_zero, List.set_cons_succ]
  refine wpAnyH_done (by kernel_rfl) ?_ _
  go_wp2
  go_ret
  exact ⟨rfl, bstep B hHeld.2.2.2.2.2.2⟩

set_option maxRecDepth 100000 in
set_option maxHeartbeats 8000000 in
theorem civilNext_B2 (y m d : Int) (Y M D q r : Int) (h1 : Day Y M D) (h2 : Day (Y + 1) q r) (en : numI (Y + 1) q r = numI Y M D + 1)
    (K1 : ∀ w : World, Calls Try.prog 21 #[.int .i64 y, .int .i64 m, .int .i64 d] w (Ret (Dt Y M D) w))
    (hy : ydI (Y + 1) q r = 1 ∧ ydI Y M D ≠ 0) (hw : wdI (numI (Y + 1) q r) ≠ 1 ∧ weekI (Y + 1) q r = weekI Y M D) (w : World) : Calls Try.prog 7 #[.int .i64 y, .int .i64 m, .int .i64 d] w (Ret (.bool true) w) := by
  have AW := Lib.hid awake6
  have MK := Lib.hid K1
  have N1 := Lib.hid (number_yes Y M D h1)
  have rn := num_in h1
  have O10 := of_num (Y + 1) q r h2
  rw [en] at O10
  have W10 := weekday_yes Y M D h1
  have WZ0 := weekday_yes (Y + 1) q r h2
  have CXZ0 := cmp_any Y M D (Y + 1) q r
  rw [ordT_num h1 h2, en, (ordI_next _).1] at CXZ0
  have CZX0 := cmp_any (Y + 1) q r Y M D
  rw [ordT_num h2 h1, en, (ordI_next _).2] at CZX0
  have CXX0 := cmp_any Y M D Y M D
  rw [ordT_num h1 h1, ordI_self] at CXX0
  have YX0 := yearday_yes Y M D h1
  have YZ0 := yearday_yes (Y + 1) q r h2
  have KX0 := week_yes Y M D h1
  have KZ0 := week_yes (Y + 1) q r h2
  have ydr := h1.yd
  have yl := ylen_two Y
  obtain ⟨yx, hyx⟩ : ∃ x, x = ydI Y M D := ⟨_, rfl⟩
  rw [← hyx] at YX0 hy ydr
  obtain ⟨kx, hkx⟩ : ∃ x, x = weekI Y M D := ⟨_, rfl⟩
  rw [← hkx] at KX0 hw
  rw [hy.1] at YZ0
  rw [en] at hw
  rw [hw.2] at KZ0
  rw [en] at WZ0
  have wr : 1 ≤ wdI (numI Y M D) ∧ wdI (numI Y M D) ≤ 7 := by unfold wdI; omega
  have wn : wdI (numI Y M D + 1) = (wdI (numI Y M D)).tmod 7 + 1 := by rw [tdiv_nat'.2 (by omega)]; unfold wdI; omega
  have wr2 : 1 ≤ wdI (numI Y M D + 1) ∧ wdI (numI Y M D + 1) ≤ 7 := by unfold wdI; omega
  obtain ⟨n, hn⟩ : ∃ x, x = numI Y M D := ⟨_, rfl⟩
  rw [← hn] at N1 O10 rn WZ0 W10 wn wr wr2 hw
  have u1 : I64 (n + 1) := by unfold I64; omega
  have f1 := u1.wrap
  have f1' := u1.wrap'
  obtain ⟨wz, hwz⟩ : ∃ x, x = wdI (n + 1) := ⟨_, rfl⟩
  rw [← hwz] at WZ0 wn wr2 hw
  obtain ⟨wx, hwx⟩ : ∃ x, x = wdI n := ⟨_, rfl⟩
  rw [← hwx] at W10 wn wr
  have u2 : I64 (wx.tmod 7 + 1) := by rw [← wn]; unfold I64; omega
  have f2 : IntKind.i64.wrap (wx.tmod 7 + 1) = wz := by rw [u2.wrap, wn]
  have f2' : wrap64 (wx.tmod 7 + 1) = wz := by rw [u2.wrap', wn]
  obtain ⟨b, hb0⟩ : ∃ b, b = yx + 1 := ⟨_, rfl⟩
  have f3 : IntKind.i64.wrap (yx + 1) = b := by rw [hb0]; exact I64.wrap (by unfold I64; omega)
  have f3' : wrap64 (yx + 1) = b := by rw [hb0]; exact I64.wrap' (by unfold I64; omega)
  have f4 : ((1 : Int) == b) = false := beq_eq_false_iff_ne.2 (by have := hy.2; omega)
  have yr := (show -999999999 ≤ Y ∧ Y ≤ 999999999 from h1.1)
  have f5 : IntKind.i64.wrap (Y + 1) = Y + 1 := I64.wrap (by unfold I64; omega)
  have f5' : wrap64 (Y + 1) = Y + 1 := I64.wrap' (by unfold I64; omega)
  clear hb0 yr
  have f6 : (wz == 1) = false := beq_eq_false_iff_ne.2 hw.1
  have O1 := Lib.hid O10
  have WX := Lib.hid W10
  have WZ := Lib.hid WZ0
  have CXZ := Lib.hid CXZ0
  have CZX := Lib.hid CZX0
  have CXX := Lib.hid CXX0
  have YX := Lib.hid YX0
  have YZ := Lib.hid YZ0
  have KX := Lib.hid KX0
  have KZ := Lib.hid KZ0
  clear O10 W10 WZ0 CXZ0 CZX0 CXX0 YX0 YZ0 KX0 KZ0 h1 h2 en K1 rn ydr yl hyx hkx u1 u2 wn wr wr2 hn hwz hwx hw hy
  go_enter Try.func7, Try.ntmps7
  go_wp2_with fail
  refine (AW.out _).mono ?_
  rintro e w1 ⟨rfl, hb⟩
  have B : Below w.heap.size w w1 := bstep (by go_grown) hb
  clear hb AW
  go_wp2_with fail
  refine (MK.out _).mono ?_
  rintro e w2 ⟨rfl, hb⟩
  replace B := bstep B hb
  clear hb MK
  have PX := Lib.hid (HoldsT.new rfl : HoldsT (w2.alloc (DtC Y M D)) w2.heap.size Y M D)
  replace B := ballD1 B (DtC Y M D)
  go_upto_region 4 with fail
  change Code.wp _ _ _ _ (w2.alloc (DtC Y M D))
  generalize w2.alloc (DtC Y M D) = w3 at *
  obtain ⟨gPX, hg⟩ : ∃ g, g = w2.heap.size := ⟨_, rfl⟩
  rw [← hg] at PX ⊢
  clear hg
  obtain ⟨⟨c01, c02, c03⟩, -, c09⟩ := PX.out
  go_wp2_with fail
  refine (N1.out _).mono ?_
  rintro e w4 ⟨rfl, hb⟩
  replace PX := Lib.hid (PX.out.below hb)
  replace B := bstep B hb
  clear hb N1
  clear c01 c02 c03 c09
  obtain ⟨⟨c01, c02, c03⟩, -, c09⟩ := PX.out
  go_wp2_with fail
  refine (O1.out _).mono ?_
  rintro e w5 ⟨rfl, hb⟩
  replace PX := Lib.hid (PX.out.below hb)
  replace B := bstep B hb
  clear hb O1
  clear c01 c02 c03 c09
  replace PX := Lib.hid (PX.out.alloc (DtC (Y + 1) q r))
  have PZ := Lib.hid (HoldsT.new rfl : HoldsT (w5.alloc (DtC (Y + 1) q r)) w5.heap.size (Y + 1) q r)
  replace B := ballD1 B (DtC (Y + 1) q r)
  go_upto_region 6 with fail
  change Code.wp _ _ _ _ (w5.alloc (DtC (Y + 1) q r))
  generalize w5.alloc (DtC (Y + 1) q r) = w6 at *
  obtain ⟨gPZ, hg⟩ : ∃ g, g = w5.heap.size := ⟨_, rfl⟩
  rw [← hg] at PZ ⊢
  clear hg
  obtain ⟨⟨c01, c02, c03⟩, -, c09⟩ := PX.out
  obtain ⟨⟨c11, c12, c13⟩, -, c19⟩ := PZ.out
  go_wp2_with fail
  refine (WX.out _).mono ?_
  rintro e w7 ⟨rfl, hb⟩
  replace PX := Lib.hid (PX.out.below hb)
  replace PZ := Lib.hid (PZ.out.below hb)
  replace B := bstep B hb
  clear hb WX
  clear c01 c02 c03 c09 c11 c12 c13 c19
  obtain ⟨⟨c01, c02, c03⟩, -, c09⟩ := PX.out
  obtain ⟨⟨c11, c12, c13⟩, -, c19⟩ := PZ.out
  go_upto_region 9 with fail
  generalize w7 = V at *
  refine wp_region_held_drew (S := fun w' => w'.cell? ⟨gPX, 0, none⟩ = some (.int .i64 Y) ∧ w'.cell? ⟨gPX, 1, none⟩ = some (.int .i64 M) ∧ w'.cell? ⟨gPX, 2, none⟩ = some (.int .i64 D) ∧ w'.cell? ⟨gPZ, 0, none⟩ = some (.int .i64 (Y + 1)) ∧ w'.cell? ⟨gPZ, 1, none⟩ = some (.int .i64 q) ∧ w'.cell? ⟨gPZ, 2, none⟩ = some (.int .i64 r) ∧ Below V.heap.size V w') (by kernel_rfl) ?_ (fun hHeld => ?_)
  · exact keepT2 PX.out.1 PX.out.2.2 PZ.out.1 PZ.out.2.2 (Below.refl _ _).drew
  refine wpAnyH_take (i := 0) (oi := { dst := some 39, op := Go.Op.load 23 (Go.Operand.tmp 10), type := 23, pos := "law.go:107", after := #[], guard := none }) (v := ?_) rfl (by kernel_rfl) (by kernel_rfl) (by kernel_rfl) (fun _ _ _ h => h) (Or.inl ⟨by rfl, ?_⟩) (by assumption) ?_
  rotate_left
  · intro w hSw
    try dsimp only at hSw
    go_simp
    try with_reducible rfl
  try simp only [Act.put, List.setIfInBounds_toArray, List.set_cons_zero, List.set_cons_succ]
  refine wpAnyH_take (i := 2) (oi := { dst := some 41, op := Go.Op.move (Go.Operand.tmp 12), type := 3, pos := "law.go:107", after := #[], guard := none }) (v := ?_) rfl (by kernel_rfl) (by kernel_rfl) (by kernel_rfl) (fun _ _ _ h => h) (Or.inl ⟨by rfl, ?_⟩) (by assumption) ?_
  rotate_left
  · intro w hSw
    try dsimp only at hSw
    go_simp
    try with_reducible rfl
  try simp only [Act.put, List.setIfInBounds_toArray, List.set_cons_zero, List.set_cons_succ]
  refine wpAnyH_ready (rs := [1]) (by kernel_rfl) (by simp) ?_
  refine AllReadyH.cons (o := { dst := some 40, op := Go.Op.call { callee := Go.Callee.value (Go.Operand.func 18), args := #[Go.Operand.tmp 39], argTypes := #[23] }, type := 3, pos := "law.go:107", after := #[{ on := 0, ground := Go.Ground.data }], guard := none }) rfl (fun K hK => ?_) AllReadyH.nil
  go_simp
  refine (WZ.out _).mono ?_
  rintro e v1 ⟨rfl, hbv1⟩
  have HBx := Lib.hid (bstep hHeld.2.2.2.2.2.2 hbv1)
  clear hHeld hbv1
  refine hK.out _ _ ?_ (fun hHeld => ?_)
  · exact keepT2 PX.out.1 PX.out.2.2 PZ.out.1 PZ.out.2.2 HBx.out
  clear hK K HBx
  try simp only [Act.put, List.setIfInBounds_toArray, List.set_cons_zero, List.set_cons_succ]
  refine wpAnyH_take (i := 3) (oi := { dst := some 42, op := Go.Op.binOp Go.BinOp.eql 3 (Go.Operand.tmp 40) (Go.Operand.tmp 41) 3, type := 4, pos := "law.go:107", after := #[{ on := 1, ground := Go.Ground.data }, { on := 2, ground := Go.Ground.data }], guard := none }) (v := ?_) rfl (by kernel_rfl) (by kernel_rfl) (by kernel_rfl) (fun _ _ _ h => h) (Or.inl ⟨by rfl, ?_⟩) (by assumption) ?_
  rotate_left
  · intro w hSw
    try dsimp only at hSw
    go_simp
    try with_reducible rfl
  try simp only [Act.put, List.setIfInBounds_toArray, List.set_cons_zero, List.set_cons_succ]
  refine wpAnyH_take (i := 4) (oi := { dst := some 43, op := Go.Op.move (Go.Operand.tmp 42), type := 4, pos := "law.go:107", after := #[{ on := 3, ground := Go.Ground.data }, { on := 1, ground := Go.Ground.chain }], guard := none }) (v := ?_) rfl (by kernel_rfl) (by kernel_rfl) (by kernel_rfl) (fun _ _ _ h => h) (Or.inl ⟨by rfl, ?_⟩) (by assumption) ?_
  rotate_left
  · intro w hSw
    try dsimp only at hSw
    go_simp
    try with_reducible rfl
  try simp only [Act.put, List.setIfInBounds_toArray, List.set_cons_zero, List.set_cons_succ]
  refine wpAnyH_take (i := 5) (oi := { dst := some 44, op := Go.Op.load 23 (Go.Operand.tmp 7), type := 23, pos := "law.go:107", after := #[{ on := 4, ground := Go.Ground.guard }], guard := some (4, true) }) (v := ?_) rfl (by kernel_rfl) (by kernel_rfl) (by kernel_rfl) (fun _ _ _ h => h) (Or.inl ⟨by rfl, ?_⟩) (by assumption) ?_
  rotate_left
  · intro w hSw
    try dsimp only at hSw
    go_simp
    try with_reducible rfl
  try simp only [Act.put, List.setIfInBounds_toArray, List.set_cons_zero, List.set_cons_succ]
  refine wpAnyH_take (i := 6) (oi := { dst := some 45, op := Go.Op.load 23 (Go.Operand.tmp 10), type := 23, pos := "law.go:107", after := #[{ on := 4, ground := Go.Ground.guard }], guard := some (4, true) }) (v := ?_) rfl (by kernel_rfl) (by kernel_rfl) (by kernel_rfl) (fun _ _ _ h => h) (Or.inl ⟨by rfl, ?_⟩) (by assumption) ?_
  rotate_left
  · intro w hSw
    try dsimp only at hSw
    go_simp
    try with_reducible rfl
  try simp only [Act.put, List.setIfInBounds_toArray, List.set_cons_zero, List.set_cons_succ]
  refine wpAnyH_ready (rs := [7]) (by kernel_rfl) (by simp) ?_
  refine AllReadyH.cons (o := { dst := some 46, op := Go.Op.call { callee := Go.Callee.value (Go.Operand.func 28), args := #[Go.Operand.tmp 44, Go.Operand.tmp 45], argTypes := #[23, 23] }, type := 3, pos := "law.go:107", after := #[{ on := 5, ground := Go.Ground.data }, { on := 6, ground := Go.Ground.data }, { on := 4, ground := Go.Ground.chain }, { on := 4, ground := Go.Ground.guard }], guard := some (4, true) }) rfl (fun K hK => ?_) AllReadyH.nil
  go_simp
  refine (CXZ.out _).mono ?_
  rintro e v2 ⟨rfl, hbv2⟩
  have HBx := Lib.hid (bstep hHeld.2.2.2.2.2.2 hbv2)
  clear hHeld hbv2
  refine hK.out _ _ ?_ (fun hHeld => ?_)
  · exact keepT2 PX.out.1 PX.out.2.2 PZ.out.1 PZ.out.2.2 HBx.out
  clear hK K HBx
  try simp only [Act.put, List.setIfInBounds_toArray, List.set_cons_zero, List.set_cons_succ]
  refine wpAnyH_take (i := 8) (oi := { dst := some 47, op := Go.Op.binOp Go.BinOp.eql 3 (Go.Operand.tmp 46) (Go.Operand.const (Go.Value.int Go.IntKind.i64 (-1))) 3, type := 4, pos := "law.go:107", after := #[{ on := 7, ground := Go.Ground.data }, { on := 4, ground := Go.Ground.guard }], guard := some (4, true) }) (v := ?_) rfl (by kernel_rfl) (by kernel_rfl) (by kernel_rfl) (fun _ _ _ h => h) (Or.inl ⟨by rfl, ?_⟩) (by assumption) ?_
  rotate_left
  · intro w hSw
    try dsimp only at hSw
    go_simp
    try with_reducible rfl
  try simp only [Act.put, List.setIfInBounds_toArray, List.set_cons_zero, List.set_cons_succ]
  refine wpAnyH_take (i := 9) (oi := { dst := some 48, op := Go.Op.pick (Go.Operand.tmp 43) (Go.Operand.tmp 47) (Go.Operand.const (Go.Value.bool false)), type := 4, pos := "law.go:107", after := #[{ on := 4, ground := Go.Ground.data }, { on := 8, ground := Go.Ground.data }], guard := none }) (v := ?_) rfl (by kernel_rfl) (by kernel_rfl) (by kernel_rfl) (fun _ _ _ h => h) (Or.inl ⟨by rfl, ?_⟩) (by assumption) ?_
  rotate_left
  · intro w hSw
    try dsimp only at hSw
    go_simp
    try with_reducible rfl
  try simp only [Act.put, List.setIfInBounds_toArray, List.set_cons_zero, List.set_cons_succ]
  refine wpAnyH_take (i := 10) (oi := { dst := some 49, op := Go.Op.move (Go.Operand.tmp 48), type := 4, pos := "law.go:107", after := #[{ on := 9, ground := Go.Ground.data }, { on := 7, ground := Go.Ground.chain }], guard := none }) (v := ?_) rfl (by kernel_rfl) (by kernel_rfl) (by kernel_rfl) (fun _ _ _ h => h) (Or.inl ⟨by rfl, ?_⟩) (by assumption) ?_
  rotate_left
  · intro w hSw
    try dsimp only at hSw
    go_simp
    try with_reducible rfl
  try simp only [Act.put, List.setIfInBounds_toArray, List.set_cons_zero, List.set_cons_succ]
  refine wpAnyH_take (i := 11) (oi := { dst := some 50, op := Go.Op.load 23 (Go.Operand.tmp 10), type := 23, pos := "law.go:107", after := #[{ on := 10, ground := Go.Ground.guard }], guard := some (10, true) }) (v := ?_) rfl (by kernel_rfl) (by kernel_rfl) (by kernel_rfl) (fun _ _ _ h => h) (Or.inl ⟨by rfl, ?_⟩) (by assumption) ?_
  rotate_left
  · intro w hSw
    try dsimp only at hSw
    go_simp
    try with_reducible rfl
  try simp only [Act.put, List.setIfInBounds_toArray, List.set_cons_zero, List.set_cons_succ]
  refine wpAnyH_take (i := 12) (oi := { dst := some 51, op := Go.Op.load 23 (Go.Operand.tmp 7), type := 23, pos := "law.go:107", after := #[{ on := 10, ground := Go.Ground.guard }], guard := some (10, true) }) (v := ?_) rfl (by kernel_rfl) (by kernel_rfl) (by kernel_rfl) (fun _ _ _ h => h) (Or.inl ⟨by rfl, ?_⟩) (by assumption) ?_
  rotate_left
  · intro w hSw
    try dsimp only at hSw
    go_simp
    try with_reducible rfl
  try simp only [Act.put, List.setIfInBounds_toArray, List.set_cons_zero, List.set_cons_succ]
  refine wpAnyH_ready (rs := [13]) (by kernel_rfl) (by simp) ?_
  refine AllReadyH.cons (o := { dst := some 52, op := Go.Op.call { callee := Go.Callee.value (Go.Operand.func 28), args := #[Go.Operand.tmp 50, Go.Operand.tmp 51], argTypes := #[23, 23] }, type := 3, pos := "law.go:107", after := #[{ on := 11, ground := Go.Ground.data }, { on := 12, ground := Go.Ground.data }, { on := 10, ground := Go.Ground.chain }, { on := 10, ground := Go.Ground.guard }], guard := some (10, true) }) rfl (fun K hK => ?_) AllReadyH.nil
  go_simp
  refine (CZX.out _).mono ?_
  rintro e v3 ⟨rfl, hbv3⟩
  have HBx := Lib.hid (bstep hHeld.2.2.2.2.2.2 hbv3)
  clear hHeld hbv3
  refine hK.out _ _ ?_ (fun hHeld => ?_)
  · exact keepT2 PX.out.1 PX.out.2.2 PZ.out.1 PZ.out.2.2 HBx.out
  clear hK K HBx
  try simp only [Act.put, List.setIfInBounds_toArray, List.set_cons_zero, List.set_cons_succ]
  refine wpAnyH_take (i := 14) (oi := { dst := some 53, op := Go.Op.binOp Go.BinOp.eql 3 (Go.Operand.tmp 52) (Go.Operand.const (Go.Value.int Go.IntKind.i64 1)) 3, type := 4, pos := "law.go:107", after := #[{ on := 13, ground := Go.Ground.data }, { on := 10, ground := Go.Ground.guard }], guard := some (10, true) }) (v := ?_) rfl (by kernel_rfl) (by kernel_rfl) (by kernel_rfl) (fun _ _ _ h => h) (Or.inl ⟨by rfl, ?_⟩) (by assumption) ?_
  rotate_left
  · intro w hSw
    try dsimp only at hSw
    go_simp
    try with_reducible rfl
  try simp only [Act.put, List.setIfInBounds_toArray, List.set_cons_zero, List.set_cons_succ]
  refine wpAnyH_take (i := 15) (oi := { dst := some 54, op := Go.Op.pick (Go.Operand.tmp 49) (Go.Operand.tmp 53) (Go.Operand.const (Go.Value.bool false)), type := 4, pos := "law.go:107", after := #[{ on := 10, ground := Go.Ground.data }, { on := 14, ground := Go.Ground.data }], guard := none }) (v := ?_) rfl (by kernel_rfl) (by kernel_rfl) (by kernel_rfl) (fun _ _ _ h => h) (Or.inl ⟨by rfl, ?_⟩) (by assumption) ?_
  rotate_left
  · intro w hSw
    try dsimp only at hSw
    go_simp
    try with_reducible rfl
  try simp only [Act.put, List.setIfInBounds_toArray, List.set_cons_zero, List.set_cons_succ]
  refine wpAnyH_take (i := 16) (oi := { dst := some 55, op := Go.Op.move (Go.Operand.tmp 54), type := 4, pos := "law.go:107", after := #[{ on := 15, ground := Go.Ground.data }, { on := 13, ground := Go.Ground.chain }], guard := none }) (v := ?_) rfl (by kernel_rfl) (by kernel_rfl) (by kernel_rfl) (fun _ _ _ h => h) (Or.inl ⟨by rfl, ?_⟩) (by assumption) ?_
  rotate_left
  · intro w hSw
    try dsimp only at hSw
    go_simp
    try with_reducible rfl
  try simp only [Act.put, List.setIfInBounds_toArray, List.set_cons_zero, List.set_cons_succ]
  refine wpAnyH_take (i := 17) (oi := { dst := some 56, op := Go.Op.load 23 (Go.Operand.tmp 7), type := 23, pos := "law.go:107", after := #[{ on := 16, ground := Go.Ground.guard }], guard := some (16, true) }) (v := ?_) rfl (by kernel_rfl) (by kernel_rfl) (by kernel_rfl) (fun _ _ _ h => h) (Or.inl ⟨by rfl, ?_⟩) (by assumption) ?_
  rotate_left
  · intro w hSw
    try dsimp only at hSw
    go_simp
    try with_reducible rfl
  try simp only [Act.put, List.setIfInBounds_toArray, List.set_cons_zero, List.set_cons_succ]
  refine wpAnyH_take (i := 18) (oi := { dst := some 57, op := Go.Op.load 23 (Go.Operand.tmp 7), type := 23, pos := "law.go:107", after := #[{ on := 16, ground := Go.Ground.guard }], guard := some (16, true) }) (v := ?_) rfl (by kernel_rfl) (by kernel_rfl) (by kernel_rfl) (fun _ _ _ h => h) (Or.inl ⟨by rfl, ?_⟩) (by assumption) ?_
  rotate_left
  · intro w hSw
    try dsimp only at hSw
    go_simp
    try with_reducible rfl
  try simp only [Act.put, List.setIfInBounds_toArray, List.set_cons_zero, List.set_cons_succ]
  refine wpAnyH_ready (rs := [19]) (by kernel_rfl) (by simp) ?_
  refine AllReadyH.cons (o := { dst := some 58, op := Go.Op.call { callee := Go.Callee.value (Go.Operand.func 28), args := #[Go.Operand.tmp 56, Go.Operand.tmp 57], argTypes := #[23, 23] }, type := 3, pos := "law.go:107", after := #[{ on := 17, ground := Go.Ground.data }, { on := 18, ground := Go.Ground.data }, { on := 16, ground := Go.Ground.chain }, { on := 16, ground := Go.Ground.guard }], guard := some (16, true) }) rfl (fun K hK => ?_) AllReadyH.nil
  go_simp
  refine (CXX.out _).mono ?_
  rintro e v4 ⟨rfl, hbv4⟩
  have HBx := Lib.hid (bstep hHeld.2.2.2.2.2.2 hbv4)
  clear hHeld hbv4
  refine hK.out _ _ ?_ (fun hHeld => ?_)
  · exact keepT2 PX.out.1 PX.out.2.2 PZ.out.1 PZ.out.2.2 HBx.out
  clear hK K HBx
  try simp only [Act.put, List.setIfInBounds_toArray, List.set_cons_zero, List.set_cons_succ]
  refine wpAnyH_take (i := 20) (oi := { dst := some 59, op := Go.Op.binOp Go.BinOp.eql 3 (Go.Operand.tmp 58) (Go.Operand.const (Go.Value.int Go.IntKind.i64 0)) 3, type := 4, pos := "law.go:107", after := #[{ on := 19, ground := Go.Ground.data }, { on := 16, ground := Go.Ground.guard }], guard := some (16, true) }) (v := ?_) rfl (by kernel_rfl) (by kernel_rfl) (by kernel_rfl) (fun _ _ _ h => h) (Or.inl ⟨by rfl, ?_⟩) (by assumption) ?_
  rotate_left
  · intro w hSw
    try dsimp only at hSw
    go_simp
    try with_reducible rfl
  try simp only [Act.put, List.setIfInBounds_toArray, List.set_cons_zero, List.set_cons_succ]
  refine wpAnyH_take (i := 21) (oi := { dst := some 60, op := Go.Op.pick (Go.Operand.tmp 55) (Go.Operand.tmp 59) (Go.Operand.const (Go.Value.bool false)), type := 4, pos := "law.go:107", after := #[{ on := 16, ground := Go.Ground.data }, { on := 20, ground := Go.Ground.data }], guard := none }) (v := ?_) rfl (by kernel_rfl) (by kernel_rfl) (by kernel_rfl) (fun _ _ _ h => h) (Or.inl ⟨by rfl, ?_⟩) (by assumption) ?_
  rotate_left
  · intro w hSw
    try dsimp only at hSw
    go_simp
    try with_reducible rfl
  try simp only [Act.put, List.setIfInBounds_toArray, List.set_cons_zero, List.set_cons_succ]
  refine wpAnyH_take (i := 22) (oi := { dst := some 61, op := Go.Op.move (Go.Operand.tmp 60), type := 4, pos := "law.go:107", after := #[{ on := 21, ground := Go.Ground.data }, { on := 19, ground := Go.Ground.chain }], guard := none }) (v := ?_) rfl (by kernel_rfl) (by kernel_rfl) (by kernel_rfl) (fun _ _ _ h => h) (Or.inl ⟨by rfl, ?_⟩) (by assumption) ?_
  rotate_left
  · intro w hSw
    try dsimp only at hSw
    go_simp
    try with_reducible rfl
  try simp only [Act.put, List.setIfInBounds_toArray, List.set_cons_zero, List.set_cons_succ]
  refine wpAnyH_take (i := 23) (oi := { dst := some 62, op := Go.Op.load 23 (Go.Operand.tmp 10), type := 23, pos := "law.go:107", after := #[{ on := 22, ground := Go.Ground.guard }], guard := some (22, true) }) (v := ?_) rfl (by kernel_rfl) (by kernel_rfl) (by kernel_rfl) (fun _ _ _ h => h) (Or.inl ⟨by rfl, ?_⟩) (by assumption) ?_
  rotate_left
  · intro w hSw
    try dsimp only at hSw
    go_simp
    try with_reducible rfl
  try simp only [Act.put, List.setIfInBounds_toArray, List.set_cons_zero, List.set_cons_succ]
  refine wpAnyH_take (i := 25) (oi := { dst := some 64, op := Go.Op.load 23 (Go.Operand.tmp 7), type := 23, pos := "law.go:107", after := #[{ on := 22, ground := Go.Ground.guard }], guard := some (22, true) }) (v := ?_) rfl (by kernel_rfl) (by kernel_rfl) (by kernel_rfl) (fun _ _ _ h => h) (Or.inl ⟨by rfl, ?_⟩) (by assumption) ?_
  rotate_left
  · intro w hSw
    try dsimp only at hSw
    go_simp
    try with_reducible rfl
  try simp only [Act.put, List.setIfInBounds_toArray, List.set_cons_zero, List.set_cons_succ]
  refine wpAnyH_ready (rs := [24]) (by kernel_rfl) (by simp) ?_
  refine AllReadyH.cons (o := { dst := some 63, op := Go.Op.call { callee := Go.Callee.value (Go.Operand.func 19), args := #[Go.Operand.tmp 62], argTypes := #[23] }, type := 3, pos := "law.go:107", after := #[{ on := 23, ground := Go.Ground.data }, { on := 22, ground := Go.Ground.chain }, { on := 22, ground := Go.Ground.guard }], guard := some (22, true) }) rfl (fun K hK => ?_) AllReadyH.nil
  go_simp
  refine (YZ.out _).mono ?_
  rintro e v5 ⟨rfl, hbv5⟩
  have HBx := Lib.hid (bstep hHeld.2.2.2.2.2.2 hbv5)
  clear hHeld hbv5
  refine hK.out _ _ ?_ (fun hHeld => ?_)
  · exact keepT2 PX.out.1 PX.out.2.2 PZ.out.1 PZ.out.2.2 HBx.out
  clear hK K HBx
  try simp only [Act.put, List.setIfInBounds_toArray, List.set_cons_zero, List.set_cons_succ]
  refine wpAnyH_ready (rs := [26]) (by kernel_rfl) (by simp) ?_
  refine AllReadyH.cons (o := { dst := some 65, op := Go.Op.call { callee := Go.Callee.value (Go.Operand.func 19), args := #[Go.Operand.tmp 64], argTypes := #[23] }, type := 3, pos := "law.go:107", after := #[{ on := 25, ground := Go.Ground.data }, { on := 24, ground := Go.Ground.chain }, { on := 22, ground := Go.Ground.guard }], guard := some (22, true) }) rfl (fun K hK => ?_) AllReadyH.nil
  go_simp
  refine (YX.out _).mono ?_
  rintro e v6 ⟨rfl, hbv6⟩
  have HBx := Lib.hid (bstep hHeld.2.2.2.2.2.2 hbv6)
  clear hHeld hbv6
  refine hK.out _ _ ?_ (fun hHeld => ?_)
  · exact keepT2 PX.out.1 PX.out.2.2 PZ.out.1 PZ.out.2.2 HBx.out
  clear hK K HBx
  try simp only [Act.put, List.setIfInBounds_toArray, List.set_cons_zero, List.set_cons_succ]
  refine wpAnyH_take (i := 27) (oi := { dst := some 66, op := Go.Op.binOp Go.BinOp.add 3 (Go.Operand.tmp 65) (Go.Operand.const (Go.Value.int Go.IntKind.i64 1)) 3, type := 3, pos := "law.go:107", after := #[{ on := 26, ground := Go.Ground.data }, { on := 22, ground := Go.Ground.guard }], guard := some (22, true) }) (v := ?_) rfl (by kernel_rfl) (by kernel_rfl) (by kernel_rfl) (fun _ _ _ h => h) (Or.inl ⟨by rfl, ?_⟩) (by assumption) ?_
  rotate_left
  · intro w hSw
    try dsimp only at hSw
    go_simp
    try with_reducible rfl
  try simp only [Act.put, List.setIfInBounds_toArray, List.set_cons_zero, List.set_cons_succ]
  refine wpAnyH_take (i := 28) (oi := { dst := some 67, op := Go.Op.binOp Go.BinOp.eql 3 (Go.Operand.tmp 63) (Go.Operand.tmp 66) 3, type := 4, pos := "law.go:107", after := #[{ on := 24, ground := Go.Ground.data }, { on := 27, ground := Go.Ground.data }, { on := 22, ground := Go.Ground.guard }], guard := some (22, true) }) (v := ?_) rfl (by kernel_rfl) (by kernel_rfl) (by kernel_rfl) (fun _ _ _ h => h) (Or.inl ⟨by rfl, ?_⟩) (by assumption) ?_
  rotate_left
  · intro w hSw
    try dsimp only at hSw
    go_simp
    try with_reducible rfl
  try simp only [Act.put, List.setIfInBounds_toArray, List.set_cons_zero, List.set_cons_succ]
  refine wpAnyH_take (i := 29) (oi := { dst := some 68, op := Go.Op.move (Go.Operand.tmp 67), type := 4, pos := "law.go:107", after := #[{ on := 28, ground := Go.Ground.data }, { on := 26, ground := Go.Ground.chain }, { on := 22, ground := Go.Ground.guard }], guard := some (22, true) }) (v := ?_) rfl (by kernel_rfl) (by kernel_rfl) (by kernel_rfl) (fun _ _ _ h => h) (Or.inl ⟨by rfl, ?_⟩) (by assumption) ?_
  rotate_left
  · intro w hSw
    try dsimp only at hSw
    go_simp
    try with_reducible rfl
  try simp only [Act.put, List.setIfInBounds_toArray, List.set_cons_zero, List.set_cons_succ]
  refine wpAnyH_take (i := 30) (oi := { dst := some 69, op := Go.Op.load 23 (Go.Operand.tmp 10), type := 23, pos := "law.go:107", after := #[{ on := 29, ground := Go.Ground.guard }], guard := some (29, false) }) (v := ?_) rfl (by kernel_rfl) (by kernel_rfl) (by kernel_rfl) (fun _ _ _ h => h) (Or.inl ⟨by rfl, ?_⟩) (by assumption) ?_
  rotate_left
  · intro w hSw
    try dsimp only at hSw
    go_simp
    try with_reducible rfl
  try simp only [Act.put, List.setIfInBounds_toArray, List.set_cons_zero, List.set_cons_succ]
  refine wpAnyH_ready (rs := [31]) (by kernel_rfl) (by simp) ?_
  refine AllReadyH.cons (o := { dst := some 70, op := Go.Op.call { callee := Go.Callee.value (Go.Operand.func 19), args := #[Go.Operand.tmp 69], argTypes := #[23] }, type := 3, pos := "law.go:107", after := #[{ on := 30, ground := Go.Ground.data }, { on := 29, ground := Go.Ground.chain }, { on := 29, ground := Go.Ground.guard }], guard := some (29, false) }) rfl (fun K hK => ?_) AllReadyH.nil
  go_simp
  refine (YZ.out _).mono ?_
  rintro e v7 ⟨rfl, hbv7⟩
  have HBx := Lib.hid (bstep hHeld.2.2.2.2.2.2 hbv7)
  clear hHeld hbv7
  refine hK.out _ _ ?_ (fun hHeld => ?_)
  · exact keepT2 PX.out.1 PX.out.2.2 PZ.out.1 PZ.out.2.2 HBx.out
  clear hK K HBx
  try simp only [Act.put, List.setIfInBounds_toArray, List.set_cons_zero, List.set_cons_succ]
  refine wpAnyH_take (i := 32) (oi := { dst := some 71, op := Go.Op.binOp Go.BinOp.eql 3 (Go.Operand.tmp 70) (Go.Operand.const (Go.Value.int Go.IntKind.i64 1)) 3, type := 4, pos := "law.go:107", after := #[{ on := 31, ground := Go.Ground.data }, { on := 29, ground := Go.Ground.guard }], guard := some (29, false) }) (v := ?_) rfl (by kernel_rfl) (by kernel_rfl) (by kernel_rfl) (fun _ _ _ h => h) (Or.inl ⟨by rfl, ?_⟩) (by assumption) ?_
  rotate_left
  · intro w hSw
    try dsimp only at hSw
    go_simp
    try with_reducible rfl
  try simp only [Act.put, List.setIfInBounds_toArray, List.set_cons_zero, List.set_cons_succ]
  refine wpAnyH_take (i := 33) (oi := { dst := some 72, op := Go.Op.move (Go.Operand.tmp 71), type := 4, pos := "law.go:107", after := #[{ on := 32, ground := Go.Ground.data }, { on := 31, ground := Go.Ground.chain }, { on := 29, ground := Go.Ground.guard }], guard := some (29, false) }) (v := ?_) rfl (by kernel_rfl) (by kernel_rfl) (by kernel_rfl) (fun _ _ _ h => h) (Or.inl ⟨by rfl, ?_⟩) (by assumption) ?_
  rotate_left
  · intro w hSw
    try dsimp only at hSw
    go_simp
    try with_reducible rfl
  try simp only [Act.put, List.setIfInBounds_toArray, List.set_cons_zero, List.set_cons_succ]
  refine wpAnyH_take (i := 34) (oi := { dst := some 73, op := Go.Op.fieldAddr 23 (Go.Operand.tmp 10) 0, type := 0, pos := "law.go:107", after := #[{ on := 33, ground := Go.Ground.guard }], guard := some (33, true) }) (v := ?_) rfl (by kernel_rfl) (by kernel_rfl) (by kernel_rfl) (fun _ _ _ h => h) (Or.inl ⟨by rfl, ?_⟩) (by assumption) ?_
  rotate_left
  · intro w hSw
    try dsimp only at hSw
    go_simp
    try with_reducible rfl
  try simp only [Act.put, List.setIfInBounds_toArray, List.set_cons_zero, List.set_cons_succ]
  refine wpAnyH_take (i := 36) (oi := { dst := some 75, op := Go.Op.fieldAddr 23 (Go.Operand.tmp 7) 0, type := 0, pos := "law.go:107", after := #[{ on := 33, ground := Go.Ground.guard }], guard := some (33, true) }) (v := ?_) rfl (by kernel_rfl) (by kernel_rfl) (by kernel_rfl) (fun _ _ _ h => h) (Or.inl ⟨by rfl, ?_⟩) (by assumption) ?_
  rotate_left
  · intro w hSw
    try dsimp only at hSw
    go_simp
    try with_reducible rfl
  try simp only [Act.put, List.setIfInBounds_toArray, List.set_cons_zero, List.set_cons_succ]
  refine wpAnyH_take (i := 35) (oi := { dst := some 74, op := Go.Op.load 3 (Go.Operand.tmp 73), type := 3, pos := "law.go:107", after := #[{ on := 34, ground := Go.Ground.data }, { on := 33, ground := Go.Ground.guard }], guard := some (33, true) }) (v := ?_) rfl (by kernel_rfl) (by kernel_rfl) (by kernel_rfl) (fun _ _ _ h => h) (Or.inl ⟨by rfl, ?_⟩) (by assumption) ?_
  rotate_left
  · intro w hSw
    try dsimp only at hSw
    go_simp
    try with_reducible rfl
  try simp only [Act.put, List.setIfInBounds_toArray, List.set_cons_zero, List.set_cons_succ]
  refine wpAnyH_take (i := 37) (oi := { dst := some 76, op := Go.Op.load 3 (Go.Operand.tmp 75), type := 3, pos := "law.go:107", after := #[{ on := 36, ground := Go.Ground.data }, { on := 33, ground := Go.Ground.guard }], guard := some (33, true) }) (v := ?_) rfl (by kernel_rfl) (by kernel_rfl) (by kernel_rfl) (fun _ _ _ h => h) (Or.inl ⟨by rfl, ?_⟩) (by assumption) ?_
  rotate_left
  · intro w hSw
    try dsimp only at hSw
    go_simp
    try with_reducible rfl
  try simp only [Act.put, List.setIfInBounds_toArray, List.set_cons_zero, List.set_cons_succ]
  refine wpAnyH_take (i := 38) (oi := { dst := some 77, op := Go.Op.binOp Go.BinOp.add 3 (Go.Operand.tmp 76) (Go.Operand.const (Go.Value.int Go.IntKind.i64 1)) 3, type := 3, pos := "law.go:107", after := #[{ on := 37, ground := Go.Ground.data }, { on := 33, ground := Go.Ground.guard }], guard := some (33, true) }) (v := ?_) rfl (by kernel_rfl) (by kernel_rfl) (by kernel_rfl) (fun _ _ _ h => h) (Or.inl ⟨by rfl, ?_⟩) (by assumption) ?_
  rotate_left
  · intro w hSw
    try dsimp only at hSw
    go_simp
    try with_reducible rfl
  try simp only [Act.put, List.setIfInBounds_toArray, List.set_cons_zero, List.set_cons_succ]
  refine wpAnyH_take (i := 39) (oi := { dst := some 78, op := Go.Op.binOp Go.BinOp.eql 3 (Go.Operand.tmp 74) (Go.Operand.tmp 77) 3, type := 4, pos := "law.go:107", after := #[{ on := 35, ground := Go.Ground.data }, { on := 38, ground := Go.Ground.data }, { on := 33, ground := Go.Ground.guard }], guard := some (33, true) }) (v := ?_) rfl (by kernel_rfl) (by kernel_rfl) (by kernel_rfl) (fun _ _ _ h => h) (Or.inl ⟨by rfl, ?_⟩) (by assumption) ?_
  rotate_left
  · intro w hSw
    try dsimp only at hSw
    go_simp
    try with_reducible rfl
  try simp only [Act.put, List.setIfInBounds_toArray, List.set_cons_zero, List.set_cons_succ]
  refine wpAnyH_take (i := 40) (oi := { dst := some 79, op := Go.Op.pick (Go.Operand.tmp 72) (Go.Operand.tmp 78) (Go.Operand.const (Go.Value.bool false)), type := 4, pos := "law.go:107", after := #[{ on := 33, ground := Go.Ground.data }, { on := 39, ground := Go.Ground.data }, { on := 29, ground := Go.Ground.guard }], guard := some (29, false) }) (v := ?_) rfl (by kernel_rfl) (by kernel_rfl) (by kernel_rfl) (fun _ _ _ h => h) (Or.inl ⟨by rfl, ?_⟩) (by assumption) ?_
  rotate_left
  · intro w hSw
    try dsimp only at hSw
    go_simp
    try with_reducible rfl
  try simp only [Act.put, List.setIfInBounds_toArray, List.set_cons_zero, List.set_cons_succ]
  refine wpAnyH_take (i := 41) (oi := { dst := some 80, op := Go.Op.pick (Go.Operand.tmp 68) (Go.Operand.const (Go.Value.bool true)) (Go.Operand.tmp 79), type := 4, pos := "law.go:107", after := #[{ on := 29, ground := Go.Ground.data }, { on := 40, ground := Go.Ground.data }, { on := 22, ground := Go.Ground.guard }], guard := some (22, true) }) (v := ?_) rfl (by kernel_rfl) (by kernel_rfl) (by kernel_rfl) (fun _ _ _ h => h) (Or.inl ⟨by rfl, ?_⟩) (by assumption) ?_
  rotate_left
  · intro w hSw
    try dsimp only at hSw
    go_simp
    try with_reducible rfl
  try simp only [Act.put, List.setIfInBounds_toArray, List.set_cons_zero, List.set_cons_succ]
  refine wpAnyH_take (i := 42) (oi := { dst := some 81, op := Go.Op.pick (Go.Operand.tmp 61) (Go.Operand.tmp 80) (Go.Operand.const (Go.Value.bool false)), type := 4, pos := "law.go:107", after := #[{ on := 22, ground := Go.Ground.data }, { on := 41, ground := Go.Ground.data }], guard := none }) (v := ?_) rfl (by kernel_rfl) (by kernel_rfl) (by kernel_rfl) (fun _ _ _ h => h) (Or.inl ⟨by rfl, ?_⟩) (by assumption) ?_
  rotate_left
  · intro w hSw
    try dsimp only at hSw
    go_simp
    try with_reducible rfl
  try simp only [Act.put, List.setIfInBounds_toArray, List.set_cons_zero, List.set_cons_succ]
  refine wpAnyH_take (i := 43) (oi := { dst := some 82, op := Go.Op.move (Go.Operand.tmp 81), type := 4, pos := "law.go:107", after := #[{ on := 42, ground := Go.Ground.data }, { on := 33, ground := Go.Ground.chain }], guard := none }) (v := ?_) rfl (by kernel_rfl) (by kernel_rfl) (by kernel_rfl) (fun _ _ _ h => h) (Or.inl ⟨by rfl, ?_⟩) (by assumption) ?_
  rotate_left
  · intro w hSw
    try dsimp only at hSw
    go_simp
    try with_reducible rfl
  try simp only [Act.put, List.setIfInBounds_toArray, List.set_cons_zero, List.set_cons_succ]
  refine wpAnyH_take (i := 44) (oi := { dst := some 83, op := Go.Op.move (Go.Operand.tmp 12), type := 3, pos := "law.go:107", after := #[{ on := 43, ground := Go.Ground.guard }], guard := some (43, true) }) (v := ?_) rfl (by kernel_rfl) (by kernel_rfl) (by kernel_rfl) (fun _ _ _ h => h) (Or.inl ⟨by rfl, ?_⟩) (by assumption) ?_
  rotate_left
  · intro w hSw
    try dsimp only at hSw
    go_simp
    try with_reducible rfl
  try simp only [Act.put, List.setIfInBounds_toArray, List.set_cons_zero, List.set_cons_succ]
  refine wpAnyH_take (i := 46) (oi := { dst := some 85, op := Go.Op.load 23 (Go.Operand.tmp 10), type := 23, pos := "law.go:107", after := #[{ on := 43, ground := Go.Ground.guard }], guard := some (43, true) }) (v := ?_) rfl (by kernel_rfl) (by kernel_rfl) (by kernel_rfl) (fun _ _ _ h => h) (Or.inl ⟨by rfl, ?_⟩) (by assumption) ?_
  rotate_left
  · intro w hSw
    try dsimp only at hSw
    go_simp
    try with_reducible rfl
  try simp only [Act.put, List.setIfInBounds_toArray, List.set_cons_zero, List.set_cons_succ]
  refine wpAnyH_take (i := 48) (oi := { dst := some 87, op := Go.Op.load 23 (Go.Operand.tmp 7), type := 23, pos := "law.go:107", after := #[{ on := 43, ground := Go.Ground.guard }], guard := some (43, true) }) (v := ?_) rfl (by kernel_rfl) (by kernel_rfl) (by kernel_rfl) (fun _ _ _ h => h) (Or.inl ⟨by rfl, ?_⟩) (by assumption) ?_
  rotate_left
  · intro w hSw
    try dsimp only at hSw
    go_simp
    try with_reducible rfl
  try simp only [Act.put, List.setIfInBounds_toArray, List.set_cons_zero, List.set_cons_succ]
  refine wpAnyH_take (i := 45) (oi := { dst := some 84, op := Go.Op.binOp Go.BinOp.eql 3 (Go.Operand.tmp 83) (Go.Operand.const (Go.Value.int Go.IntKind.i64 1)) 3, type := 4, pos := "law.go:107", after := #[{ on := 44, ground := Go.Ground.data }, { on := 43, ground := Go.Ground.guard }], guard := some (43, true) }) (v := ?_) rfl (by kernel_rfl) (by kernel_rfl) (by kernel_rfl) (fun _ _ _ h => h) (Or.inl ⟨by rfl, ?_⟩) (by assumption) ?_
  rotate_left
  · intro w hSw
    try dsimp only at hSw
    go_simp
    try with_reducible rfl
  try simp only [Act.put, List.setIfInBounds_toArray, List.set_cons_zero, List.set_cons_succ]
  refine wpAnyH_ready (rs := [47]) (by kernel_rfl) (by simp) ?_
  refine AllReadyH.cons (o := { dst := some 86, op := Go.Op.call { callee := Go.Callee.value (Go.Operand.func 20), args := #[Go.Operand.tmp 85], argTypes := #[23] }, type := 3, pos := "law.go:107", after := #[{ on := 46, ground := Go.Ground.data }, { on := 43, ground := Go.Ground.chain }, { on := 43, ground := Go.Ground.guard }], guard := some (43, true) }) rfl (fun K hK => ?_) AllReadyH.nil
  go_simp
  refine (KZ.out _).mono ?_
  rintro e v8 ⟨rfl, hbv8⟩
  have HBx := Lib.hid (bstep hHeld.2.2.2.2.2.2 hbv8)
  clear hHeld hbv8
  refine hK.out _ _ ?_ (fun hHeld => ?_)
  · exact keepT2 PX.out.1 PX.out.2.2 PZ.out.1 PZ.out.2.2 HBx.out
  clear hK K HBx
  try simp only [Act.put, List.setIfInBounds_toArray, List.set_cons_zero, List.set_cons_succ]
  refine wpAnyH_ready (rs := [49]) (by kernel_rfl) (by simp) ?_
  refine AllReadyH.cons (o := { dst := some 88, op := Go.Op.call { callee := Go.Callee.value (Go.Operand.func 20), args := #[Go.Operand.tmp 87], argTypes := #[23] }, type := 3, pos := "law.go:107", after := #[{ on := 48, ground := Go.Ground.data }, { on := 47, ground := Go.Ground.chain }, { on := 43, ground := Go.Ground.guard }], guard := some (43, true) }) rfl (fun K hK => ?_) AllReadyH.nil
  go_simp
  refine (KX.out _).mono ?_
  rintro e v9 ⟨rfl, hbv9⟩
  have HBx := Lib.hid (bstep hHeld.2.2.2.2.2.2 hbv9)
  clear hHeld hbv9
  refine hK.out _ _ ?_ (fun hHeld => ?_)
  · exact keepT2 PX.out.1 PX.out.2.2 PZ.out.1 PZ.out.2.2 HBx.out
  clear hK K HBx
  try simp only [Act.put, List.setIfInBounds_toArray, List.set_cons_zero, List.set_cons_succ]
  refine wpAnyH_take (i := 50) (oi := { dst := some 89, op := Go.Op.binOp Go.BinOp.neq 3 (Go.Operand.tmp 86) (Go.Operand.tmp 88) 3, type := 4, pos := "law.go:107", after := #[{ on := 47, ground := Go.Ground.data }, { on := 49, ground := Go.Ground.data }, { on := 43, ground := Go.Ground.guard }], guard := some (43, true) }) (v := ?_) rfl (by kernel_rfl) (by kernel_rfl) (by kernel_rfl) (fun _ _ _ h => h) (Or.inl ⟨by rfl, ?_⟩) (by assumption) ?_
  rotate_left
  · intro w hSw
    try dsimp only at hSw
    go_simp
    try with_reducible rfl
  try simp only [Act.put, List.setIfInBounds_toArray, List.set_cons_zero, List.set_cons_succ]
  refine wpAnyH_take (i := 51) (oi := { dst := some 90, op := Go.Op.binOp Go.BinOp.eql 4 (Go.Operand.tmp 84) (Go.Operand.tmp 89) 4, type := 4, pos := "law.go:107", after := #[{ on := 45, ground := Go.Ground.data }, { on := 50, ground := Go.Ground.data }, { on := 43, ground := Go.Ground.guard }], guard := some (43, true) }) (v := ?_) rfl (by kernel_rfl) (by kernel_rfl) (by kernel_rfl) (fun _ _ _ h => h) (Or.inl ⟨by rfl, ?_⟩) (by assumption) ?_
  rotate_left
  · intro w hSw
    try dsimp only at hSw
    go_simp
    try with_reducible rfl
  try simp only [Act.put, List.setIfInBounds_toArray, List.set_cons_zero, List.set_cons_succ]
  refine wpAnyH_take (i := 52) (oi := { dst := some 91, op := Go.Op.pick (Go.Operand.tmp 82) (Go.Operand.tmp 90) (Go.Operand.const (Go.Value.bool false)), type := 4, pos := "law.go:107", after := #[{ on := 43, ground := Go.Ground.data }, { on := 51, ground := Go.Ground.data }], guard := none }) (v := ?_) rfl (by kernel_rfl) (by kernel_rfl) (by kernel_rfl) (fun _ _ _ h => h) (Or.inl ⟨by rfl, ?_⟩) (by assumption) ?_
  rotate_left
  · intro w hSw
    try dsimp only at hSw
    go_simp
    try with_reducible rfl
  try simp only [Act.put, List.setIfInBounds_toArray, List.set_cons_zero, List.set_cons_succ]
  refine wpAnyH_take (i := 53) (oi := { dst := some 6, op := Go.Op.assign (Go.Operand.tmp 91), type := 4, pos := "law.go:107", after := #[{ on := 52, ground := Go.Ground.data }, { on := 49, ground := Go.Ground.chain }, { on := 0, ground := Go.Ground.phase }, { on := 1, ground := Go.Ground.phase }, { on := 2, ground := Go.Ground.phase }, { on := 3, ground := Go.Ground.phase }, { on := 4, ground := Go.Ground.phase }, { on := 5, ground := Go.Ground.phase }, { on := 6, ground := Go.Ground.phase }, { on := 7, ground := Go.Ground.phase }, { on := 8, ground := Go.Ground.phase }, { on := 9, ground := Go.Ground.phase }, { on := 10, ground := Go.Ground.phase }, { on := 11, ground := Go.Ground.phase }, { on := 12, ground := Go.Ground.phase }, { on := 13, ground := Go.Ground.phase }, { on := 14, ground := Go.Ground.phase }, { on := 15, ground := Go.Ground.phase }, { on := 16, ground := Go.Ground.phase }, { on := 17, ground := Go.Ground.phase }, { on := 18, ground := Go.Ground.phase }, { on := 19, ground := Go.Ground.phase }, { on := 20, ground := Go.Ground.phase }, { on := 21, ground := Go.Ground.phase }, { on := 22, ground := Go.Ground.phase }, { on := 23, ground := Go.Ground.phase }, { on := 24, ground := Go.Ground.phase }, { on := 25, ground := Go.Ground.phase }, { on := 26, ground := Go.Ground.phase }, { on := 27, ground := Go.Ground.phase }, { on := 28, ground := Go.Ground.phase }, { on := 29, ground := Go.Ground.phase }, { on := 30, ground := Go.Ground.phase }, { on := 31, ground := Go.Ground.phase }, { on := 32, ground := Go.Ground.phase }, { on := 33, ground := Go.Ground.phase }, { on := 34, ground := Go.Ground.phase }, { on := 35, ground := Go.Ground.phase }, { on := 36, ground := Go.Ground.phase }, { on := 37, ground := Go.Ground.phase }, { on := 38, ground := Go.Ground.phase }, { on := 39, ground := Go.Ground.phase }, { on := 40, ground := Go.Ground.phase }, { on := 41, ground := Go.Ground.phase }, { on := 42, ground := Go.Ground.phase }, { on := 43, ground := Go.Ground.phase }, { on := 44, ground := Go.Ground.phase }, { on := 45, ground := Go.Ground.phase }, { on := 46, ground := Go.Ground.phase }, { on := 47, ground := Go.Ground.phase }, { on := 48, ground := Go.Ground.phase }, { on := 49, ground := Go.Ground.phase }, { on := 50, ground := Go.Ground.phase }, { on := 51, ground := Go.Ground.phase }, { on := 52, ground := Go.Ground.phase }], guard := none }) (v := ?_) rfl (by kernel_rfl) (by kernel_rfl) (by kernel_rfl) (fun _ _ _ h => h) (Or.inl ⟨by rfl, ?_⟩) (by assumption) ?_
  rotate_left
  · intro w hSw
    try dsimp only at hSw
    go_simp
    try with_reducible rfl
  try simp only [Act.put, List.setIfInBounds_toArray, List.set_cons_zero, List.set_cons_succ]
  refine wpAnyH_done (by kernel_rfl) ?_ _
  go_wp2
  go_ret
  exact ⟨rfl, bstep B hHeld.2.2.2.2.2.2⟩
end Go.Proofs.Ytmikbdnjkfdodaa

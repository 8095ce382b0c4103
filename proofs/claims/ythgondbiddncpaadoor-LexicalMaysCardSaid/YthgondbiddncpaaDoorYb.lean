/-
  Package lexical: days, times, moments and durations as texts, each as a contract of its call.
-/
import Derived.Test.YthgondbiddncpaaDoorYa
namespace Go.Proofs.YthgondbiddncpaaDoor
open Go.RowKit

theorem keepT9 {V w' : World} {g : Nat} {y m d : Int} (H : HoldsT V g y m d) (B : Below V.heap.size V w') : w'.cell? ⟨g, 0, none⟩ = some (.int .i64 y) ∧ w'.cell? ⟨g, 1, none⟩ = some (.int .i64 m) ∧ w'.cell? ⟨g, 2, none⟩ = some (.int .i64 d) ∧ Below V.heap.size V w' :=
  ⟨(H.below B).1.1, (H.below B).1.2.1, (H.below B).1.2.2, B⟩
theorem keepM9 {V w' : World} {g : Nat} {s : Int} {z : Bool} {o : Int} (H : HoldsM V g s z o) (B : Below V.heap.size V w') : w'.cell? ⟨g, 0, none⟩ = some (.int .i64 s) ∧ w'.cell? ⟨g, 1, none⟩ = some (.bool z) ∧ w'.cell? ⟨g, 2, none⟩ = some (.int .i64 o) ∧ Below V.heap.size V w' :=
  ⟨(H.below B).1.1, (H.below B).1.2.1, (H.below B).1.2.2, B⟩
theorem keepN9 {V w' : World} {g : Nat} {y m d s : Int} {z : Bool} {o : Int} (H : HoldsN V g y m d s z o) (B : Below V.heap.size V w') : w'.cell? ⟨g, 0, none⟩ = some (.int .i64 y) ∧ w'.cell? ⟨g, 1, none⟩ = some (.int .i64 m) ∧ w'.cell? ⟨g, 2, none⟩ = some (.int .i64 d) ∧ w'.cell? ⟨g, 3, none⟩ = some (.int .i64 s) ∧ w'.cell? ⟨g, 4, none⟩ = some (.bool z) ∧ w'.cell? ⟨g, 5, none⟩ = some (.int .i64 o) ∧ Below V.heap.size V w' :=
  ⟨(H.below B).1.1, (H.below B).1.2.1, (H.below B).1.2.2.1, (H.below B).1.2.2.2.1, (H.below B).1.2.2.2.2.1, (H.below B).1.2.2.2.2.2, B⟩
/-- A day's text. -/
def dateS (y m d : Int) : ByteArray := sgS y ++ padS (absI y) 4 ++ { data := #[45] } ++ padS m 2 ++ { data := #[45] } ++ padS d 2
def dateT (y m d : Int) : ByteArray := if mayT y m d then dateS y m d else { data := #[] }
theorem day_lims {y m d : Int} (h : mayT y m d = true) : -999999999 ≤ y ∧ y ≤ 999999999 ∧ 1 ≤ m ∧ m ≤ 12 ∧ 1 ≤ d ∧ d ≤ 31 := by
  obtain ⟨⟨a, b⟩, ⟨c, e⟩, f, g⟩ := may_day.1 h
  have : lenI y m ≤ 31 := by unfold lenI; repeat' split <;> omega
  omega
set_option linter.unusedSimpArgs false in
set_option linter.unusedVariables false in
set_option maxRecDepth 100000 in
set_option maxHeartbeats 4000000 in
theorem date_any (y m d : Int) (w : World) (ht : Tab2 w) : Calls Tryd.prog 10 #[Dt y m d] w (Ret (.string (dateT y m d)) w) := by
  have HT := Lib.hid ht
  have MD0 := mayDay_any y m d
  unfold dateT
  cases h : mayT y m d
  · rw [h] at MD0
    have MD := Lib.hid MD0
    clear MD0 h ht
    rw [if_neg (by decide)]
    go_enter Tryd.func10, Tryd.ntmps10
    go_upto_region 1 with fail
    have PT := Lib.hid (HoldsT.new rfl : HoldsT (w.alloc (DtC y m d)) w.heap.size y m d)
    have B := ballD1 (Below.refl w.heap.size w) (DtC y m d)
    change Code.wp _ _ _ _ (w.alloc (DtC y m d))
    generalize (w.alloc (DtC y m d)) = w0 at *
    obtain ⟨⟨c0_0, c0_1, c0_2⟩, -, c0z⟩ := PT.out
    go_wp2_with fail
    refine (MD.out _).mono ?_
    rintro e w1 ⟨rfl, hb⟩
    replace PT := Lib.hid (PT.out.below hb)
    replace B := bstep B hb
    clear hb MD
    clear c0_0 c0_1 c0_2 c0z
    clear PT
    go_wp2
    go_ret
    exact ⟨rfl, B⟩
  · rw [h] at MD0
    rw [if_pos rfl]
    have MD := Lib.hid MD0
    obtain ⟨y1, y2, m1, m2, d1, d2⟩ := day_lims h
    have a0 := abs_nonneg y
    have a1 := abs_le (m := 999999999) y1 y2
    have SP0 := split_any y (by omega) (by omega)
    obtain ⟨G, hG⟩ : ∃ zz : ByteArray, zz = sgS y := ⟨_, rfl⟩
    have sG : G.size ≤ 1 := by rw [hG]; exact sg_size y
    obtain ⟨P, hP⟩ : ∃ zz : ByteArray, zz = padS (absI y) 4 := ⟨_, rfl⟩
    have sP : P.size ≤ 100 := by rw [hP]; exact pad_size (by unfold I64; omega) (by decide)
    obtain ⟨Q, hQ⟩ : ∃ zz : ByteArray, zz = padS (m) 2 := ⟨_, rfl⟩
    have sQ : Q.size ≤ 100 := by rw [hQ]; exact pad_size (by unfold I64; omega) (by decide)
    obtain ⟨R, hR⟩ : ∃ zz : ByteArray, zz = padS (d) 2 := ⟨_, rfl⟩
    have sR : R.size ≤ 100 := by rw [hR]; exact pad_size (by unfold I64; omega) (by decide)
    rw [← hG] at SP0
    have CP := Lib.hid (show ∀ w, Tab2 w → Calls Tryd.prog 33 #[.int .i64 (absI y), .int .i64 4] w (Ret (.string P) w) from fun w a => by rw [hP]; exact padded_any (absI y) (by unfold I64; omega) 4 4 rfl (by decide) w a)
    have CQ := Lib.hid (show ∀ w, Tab2 w → Calls Tryd.prog 33 #[.int .i64 m, .int .i64 2] w (Ret (.string Q) w) from fun w a => by rw [hQ]; exact padded_any (m) (by unfold I64; omega) 2 2 rfl (by decide) w a)
    have CR := Lib.hid (show ∀ w, Tab2 w → Calls Tryd.prog 33 #[.int .i64 d, .int .i64 2] w (Ret (.string R) w) from fun w a => by rw [hR]; exact padded_any (d) (by unfold I64; omega) 2 2 rfl (by decide) w a)
    obtain ⟨u1, eu1⟩ : ∃ zz : ByteArray, G ++ P = zz := ⟨_, rfl⟩
    have su1 : u1.size ≤ 101 := by rw [← eu1]; exact size_le (a := 1) (b := 100) sG sP (by decide)
    obtain ⟨u2, eu2⟩ : ∃ zz : ByteArray, u1 ++ ({ data := #[45] } : ByteArray) = zz := ⟨_, rfl⟩
    have su2 : u2.size ≤ 102 := by rw [← eu2]; exact size_le (a := 101) (b := 1) su1 (by decide) (by decide)
    obtain ⟨u3, eu3⟩ : ∃ zz : ByteArray, u2 ++ Q = zz := ⟨_, rfl⟩
    have su3 : u3.size ≤ 202 := by rw [← eu3]; exact size_le (a := 102) (b := 100) su2 sQ (by decide)
    obtain ⟨u4, eu4⟩ : ∃ zz : ByteArray, u3 ++ ({ data := #[45] } : ByteArray) = zz := ⟨_, rfl⟩
    have su4 : u4.size ≤ 203 := by rw [← eu4]; exact size_le (a := 202) (b := 1) su3 (by decide) (by decide)
    obtain ⟨u5, eu5⟩ : ∃ zz : ByteArray, u4 ++ R = zz := ⟨_, rfl⟩
    have su5 : u5.size ≤ 303 := by rw [← eu5]; exact size_le (a := 203) (b := 100) su4 sR (by decide)
    have RES := Lib.hid (show u5 = dateS y m d from by rw [← eu5, ← eu4, ← eu3, ← eu2, ← eu1, hG, hP, hQ, hR]; rfl)
    clear hG hP hQ hR MD0 h ht y1 y2 m1 m2 d1 d2 a1
    generalize absI y = x at *
    have SP := Lib.hid SP0
    clear SP0 a0
    go_enter Tryd.func10, Tryd.ntmps10
    go_upto_region 1 with fail
    have PT := Lib.hid (HoldsT.new rfl : HoldsT (w.alloc (DtC y m d)) w.heap.size y m d)
    have B := ballD1 (Below.refl w.heap.size w) (DtC y m d)
    change Code.wp _ _ _ _ (w.alloc (DtC y m d))
    generalize (w.alloc (DtC y m d)) = w0 at *
    obtain ⟨⟨c0_0, c0_1, c0_2⟩, -, c0z⟩ := PT.out
    go_wp2_with fail
    refine (MD.out _).mono ?_
    rintro e w1 ⟨rfl, hb⟩
    replace PT := Lib.hid (PT.out.below hb)
    replace B := bstep B hb
    clear hb MD
    clear c0_0 c0_1 c0_2 c0z
    obtain ⟨⟨c0_0, c0_1, c0_2⟩, -, c0z⟩ := PT.out
    go_wp2_with fail
    refine (SP.out _).mono ?_
    rintro e w2 ⟨rfl, hb⟩
    replace PT := Lib.hid (PT.out.below hb)
    replace B := bstep B hb
    clear hb SP
    clear c0_0 c0_1 c0_2 c0z
    go_upto_region 4 with fail
    generalize w2 = V at *
    refine wp_region_held_drew (S := fun w' => w'.cell? ⟨w.heap.size, 0, none⟩ = some (.int .i64 y) ∧ w'.cell? ⟨w.heap.size, 1, none⟩ = some (.int .i64 m) ∧ w'.cell? ⟨w.heap.size, 2, none⟩ = some (.int .i64 d) ∧ Below V.heap.size V w') (by kernel_rfl) ?_ (fun hHeld => ?_)
    · exact keepT9 PT.out (Below.refl _ _).drew
    refine wpAnyH_take (i := 0) (oi := { dst := some 14, op := Go.Op.move (Go.Operand.tmp 3), type := 9, pos := "lexical.go:24", after := #[], guard := none }) (v := ?_) rfl (by kernel_rfl) (by kernel_rfl) (by kernel_rfl) (fun _ _ _ h => h) (Or.inl ⟨by rfl, ?_⟩) (by assumption) ?_
    rotate_left
    · intro w hSw
      try dsimp only at hSw
      go_simp
      try (rw [if_neg (by omega)])
      try with_reducible rfl
    try simp only [Act.put, List.setIfInBounds_toArray, List.set_cons_zero, List.set_cons_succ]
    refine wpAnyH_take (i := 1) (oi := { dst := some 15, op := Go.Op.move (Go.Operand.tmp 4), type := 3, pos := "lexical.go:24", after := #[], guard := none }) (v := ?_) rfl (by kernel_rfl) (by kernel_rfl) (by kernel_rfl) (fun _ _ _ h => h) (Or.inl ⟨by rfl, ?_⟩) (by assumption) ?_
    rotate_left
    · intro w hSw
      try dsimp only at hSw
      go_simp
      try (rw [if_neg (by omega)])
      try with_reducible rfl
    try simp only [Act.put, List.setIfInBounds_toArray, List.set_cons_zero, List.set_cons_succ]
    refine wpAnyH_take (i := 5) (oi := { dst := some 19, op := Go.Op.fieldAddr 26 (Go.Operand.tmp 1) 1, type := 0, pos := "lexical.go:24", after := #[], guard := none }) (v := ?_) rfl (by kernel_rfl) (by kernel_rfl) (by kernel_rfl) (fun _ _ _ h => h) (Or.inl ⟨by rfl, ?_⟩) (by assumption) ?_
    rotate_left
    · intro w hSw
      try dsimp only at hSw
      go_simp
      try (rw [if_neg (by omega)])
      try with_reducible rfl
    try simp only [Act.put, List.setIfInBounds_toArray, List.set_cons_zero, List.set_cons_succ]
    refine wpAnyH_take (i := 10) (oi := { dst := some 24, op := Go.Op.fieldAddr 26 (Go.Operand.tmp 1) 2, type := 0, pos := "lexical.go:24", after := #[], guard := none }) (v := ?_) rfl (by kernel_rfl) (by kernel_rfl) (by kernel_rfl) (fun _ _ _ h => h) (Or.inl ⟨by rfl, ?_⟩) (by assumption) ?_
    rotate_left
    · intro w hSw
      try dsimp only at hSw
      go_simp
      try (rw [if_neg (by omega)])
      try with_reducible rfl
    try simp only [Act.put, List.setIfInBounds_toArray, List.set_cons_zero, List.set_cons_succ]
    refine wpAnyH_take (i := 6) (oi := { dst := some 20, op := Go.Op.load 3 (Go.Operand.tmp 19), type := 3, pos := "lexical.go:24", after := #[{ on := 5, ground := Go.Ground.data }], guard := none }) (v := ?_) rfl (by kernel_rfl) (by kernel_rfl) (by kernel_rfl) (fun _ _ _ h => h) (Or.inl ⟨by rfl, ?_⟩) (by assumption) ?_
    rotate_left
    · intro w hSw
      try dsimp only at hSw
      go_simp
      try (rw [if_neg (by omega)])
      try with_reducible rfl
    try simp only [Act.put, List.setIfInBounds_toArray, List.set_cons_zero, List.set_cons_succ]
    refine wpAnyH_take (i := 11) (oi := { dst := some 25, op := Go.Op.load 3 (Go.Operand.tmp 24), type := 3, pos := "lexical.go:24", after := #[{ on := 10, ground := Go.Ground.data }], guard := none }) (v := ?_) rfl (by kernel_rfl) (by kernel_rfl) (by kernel_rfl) (fun _ _ _ h => h) (Or.inl ⟨by rfl, ?_⟩) (by assumption) ?_
    rotate_left
    · intro w hSw
      try dsimp only at hSw
      go_simp
      try (rw [if_neg (by omega)])
      try with_reducible rfl
    try simp only [Act.put, List.setIfInBounds_toArray, List.set_cons_zero, List.set_cons_succ]
    refine wpAnyH_ready (rs := [2]) (by kernel_rfl) (by simp) ?_
    refine AllReadyH.cons (o := { dst := some 16, op := Go.Op.call { callee := Go.Callee.value (Go.Operand.func 33), args := #[Go.Operand.tmp 15, Go.Operand.const (Go.Value.int Go.IntKind.i64 4)], argTypes := #[3, 3] }, type := 9, pos := "lexical.go:24", after := #[{ on := 1, ground := Go.Ground.data }], guard := none }) rfl (fun K hK => ?_) AllReadyH.nil
    go_simp
    refine (CP.out _ (HT.out.below (bstep B hHeld.2.2.2))).mono ?_
    rintro e v1 ⟨rfl, hb1⟩
    have HBx := Lib.hid (bstep hHeld.2.2.2 hb1)
    clear hHeld hb1
    refine hK.out _ _ ?_ (fun hHeld => ?_)
    · exact keepT9 PT.out HBx.out
    clear hK K HBx
    try simp only [Act.put, List.setIfInBounds_toArray, List.set_cons_zero, List.set_cons_succ]
    refine wpAnyH_take (i := 3) (oi := { dst := some 17, op := Go.Op.binOp Go.BinOp.add 9 (Go.Operand.tmp 14) (Go.Operand.tmp 16) 9, type := 9, pos := "lexical.go:24", after := #[{ on := 0, ground := Go.Ground.data }, { on := 2, ground := Go.Ground.data }], guard := none }) (v := ?_) rfl (by kernel_rfl) (by kernel_rfl) (by kernel_rfl) (fun _ _ _ h => h) (Or.inl ⟨by rfl, ?_⟩) (by assumption) ?_
    rotate_left
    · intro w hSw
      try dsimp only at hSw
      go_simp
      try (rw [if_neg (by omega)])
      try with_reducible rfl
    try simp only [Act.put, List.setIfInBounds_toArray, List.set_cons_zero, List.set_cons_succ]
    refine wpAnyH_take (i := 4) (oi := { dst := some 18, op := Go.Op.binOp Go.BinOp.add 9 (Go.Operand.tmp 17) (Go.Operand.const (Go.Value.string { data := #[45] })) 9, type := 9, pos := "lexical.go:24", after := #[{ on := 3, ground := Go.Ground.data }], guard := none }) (v := ?_) rfl (by kernel_rfl) (by kernel_rfl) (by kernel_rfl) (fun _ _ _ h => h) (Or.inl ⟨by rfl, ?_⟩) (by assumption) ?_
    rotate_left
    · intro w hSw
      try dsimp only at hSw
      go_simp
      try (rw [if_neg (by omega)])
      try with_reducible rfl
    try simp only [Act.put, List.setIfInBounds_toArray, List.set_cons_zero, List.set_cons_succ]
    refine wpAnyH_ready (rs := [7]) (by kernel_rfl) (by simp) ?_
    refine AllReadyH.cons (o := { dst := some 21, op := Go.Op.call { callee := Go.Callee.value (Go.Operand.func 33), args := #[Go.Operand.tmp 20, Go.Operand.const (Go.Value.int Go.IntKind.i64 2)], argTypes := #[3, 3] }, type := 9, pos := "lexical.go:24", after := #[{ on := 6, ground := Go.Ground.data }, { on := 2, ground := Go.Ground.chain }], guard := none }) rfl (fun K hK => ?_) AllReadyH.nil
    go_simp
    refine (CQ.out _ (HT.out.below (bstep B hHeld.2.2.2))).mono ?_
    rintro e v2 ⟨rfl, hb2⟩
    have HBx := Lib.hid (bstep hHeld.2.2.2 hb2)
    clear hHeld hb2
    refine hK.out _ _ ?_ (fun hHeld => ?_)
    · exact keepT9 PT.out HBx.out
    clear hK K HBx
    try simp only [Act.put, List.setIfInBounds_toArray, List.set_cons_zero, List.set_cons_succ]
    refine wpAnyH_take (i := 8) (oi := { dst := some 22, op := Go.Op.binOp Go.BinOp.add 9 (Go.Operand.tmp 18) (Go.Operand.tmp 21) 9, type := 9, pos := "lexical.go:24", after := #[{ on := 4, ground := Go.Ground.data }, { on := 7, ground := Go.Ground.data }], guard := none }) (v := ?_) rfl (by kernel_rfl) (by kernel_rfl) (by kernel_rfl) (fun _ _ _ h => h) (Or.inl ⟨by rfl, ?_⟩) (by assumption) ?_
    rotate_left
    · intro w hSw
      try dsimp only at hSw
      go_simp
      try (rw [if_neg (by omega)])
      try with_reducible rfl
    try simp only [Act.put, List.setIfInBounds_toArray, List.set_cons_zero, List.set_cons_succ]
    refine wpAnyH_take (i := 9) (oi := { dst := some 23, op := Go.Op.binOp Go.BinOp.add 9 (Go.Operand.tmp 22) (Go.Operand.const (Go.Value.string { data := #[45] })) 9, type := 9, pos := "lexical.go:24", after := #[{ on := 8, ground := Go.Ground.data }], guard := none }) (v := ?_) rfl (by kernel_rfl) (by kernel_rfl) (by kernel_rfl) (fun _ _ _ h => h) (Or.inl ⟨by rfl, ?_⟩) (by assumption) ?_
    rotate_left
    · intro w hSw
      try dsimp only at hSw
      go_simp
      try (rw [if_neg (by omega)])
      try with_reducible rfl
    try simp only [Act.put, List.setIfInBounds_toArray, List.set_cons_zero, List.set_cons_succ]
    refine wpAnyH_ready (rs := [12]) (by kernel_rfl) (by simp) ?_
    refine AllReadyH.cons (o := { dst := some 26, op := Go.Op.call { callee := Go.Callee.value (Go.Operand.func 33), args := #[Go.Operand.tmp 25, Go.Operand.const (Go.Value.int Go.IntKind.i64 2)], argTypes := #[3, 3] }, type := 9, pos := "lexical.go:24", after := #[{ on := 11, ground := Go.Ground.data }, { on := 7, ground := Go.Ground.chain }], guard := none }) rfl (fun K hK => ?_) AllReadyH.nil
    go_simp
    refine (CR.out _ (HT.out.below (bstep B hHeld.2.2.2))).mono ?_
    rintro e v3 ⟨rfl, hb3⟩
    have HBx := Lib.hid (bstep hHeld.2.2.2 hb3)
    clear hHeld hb3
    refine hK.out _ _ ?_ (fun hHeld => ?_)
    · exact keepT9 PT.out HBx.out
    clear hK K HBx
    try simp only [Act.put, List.setIfInBounds_toArray, List.set_cons_zero, List.set_cons_succ]
    refine wpAnyH_take (i := 13) (oi := { dst := some 27, op := Go.Op.binOp Go.BinOp.add 9 (Go.Operand.tmp 23) (Go.Operand.tmp 26) 9, type := 9, pos := "lexical.go:24", after := #[{ on := 9, ground := Go.Ground.data }, { on := 12, ground := Go.Ground.data }], guard := none }) (v := ?_) rfl (by kernel_rfl) (by kernel_rfl) (by kernel_rfl) (fun _ _ _ h => h) (Or.inl ⟨by rfl, ?_⟩) (by assumption) ?_
    rotate_left
    · intro w hSw
      try dsimp only at hSw
      go_simp
      try (rw [if_neg (by omega)])
      try with_reducible rfl
    try simp only [Act.put, List.setIfInBounds_toArray, List.set_cons_zero, List.set_cons_succ]
    refine wpAnyH_take (i := 14) (oi := { dst := some 2, op := Go.Op.assign (Go.Operand.tmp 27), type := 9, pos := "lexical.go:24", after := #[{ on := 13, ground := Go.Ground.data }, { on := 12, ground := Go.Ground.chain }, { on := 0, ground := Go.Ground.phase }, { on := 1, ground := Go.Ground.phase }, { on := 2, ground := Go.Ground.phase }, { on := 3, ground := Go.Ground.phase }, { on := 4, ground := Go.Ground.phase }, { on := 5, ground := Go.Ground.phase }, { on := 6, ground := Go.Ground.phase }, { on := 7, ground := Go.Ground.phase }, { on := 8, ground := Go.Ground.phase }, { on := 9, ground := Go.Ground.phase }, { on := 10, ground := Go.Ground.phase }, { on := 11, ground := Go.Ground.phase }, { on := 12, ground := Go.Ground.phase }, { on := 13, ground := Go.Ground.phase }], guard := none }) (v := ?_) rfl (by kernel_rfl) (by kernel_rfl) (by kernel_rfl) (fun _ _ _ h => h) (Or.inl ⟨by rfl, ?_⟩) (by assumption) ?_
    rotate_left
    · intro w hSw
      try dsimp only at hSw
      go_simp
      try (rw [if_neg (by omega)])
      try with_reducible rfl
    try simp only [Act.put, List.setIfInBounds_toArray, List.set_cons_zero, List.set_cons_succ]
    refine wpAnyH_done (by kernel_rfl) ?_ _
    replace B := bstep B hHeld.2.2.2
    go_wp2
    go_ret
    exact ⟨congrArg (fun z => Ending.returned (.string z)) RES.out, B⟩
/-- A time's text. -/
def timeS (s : Int) (z : Bool) (o : Int) : ByteArray := if z then minS s ++ secS s ++ offS o else minS s ++ secS s
def timeT (s : Int) (z : Bool) (o : Int) : ByteArray := if mayM s z o then timeS s z o else { data := #[] }
set_option linter.unusedSimpArgs false in
set_option linter.unusedVariables false in
set_option maxRecDepth 100000 in
set_option maxHeartbeats 4000000 in
theorem time_any (s : Int) (z : Bool) (o : Int) (w : World) (ht : Tab2 w) : Calls Tryd.prog 12 #[Tm s z o] w (Ret (.string (timeT s z o)) w) := by
  have HT := Lib.hid ht
  have MD0 := mayM_any s z o
  unfold timeT
  cases h : mayM s z o
  · rw [h] at MD0
    have MD := Lib.hid MD0
    clear MD0 h ht
    rw [if_neg (by decide)]
    go_enter Tryd.func12, Tryd.ntmps12
    go_upto_region 1 with fail
    have PT := Lib.hid (HoldsM.new rfl : HoldsM (w.alloc (TmC s z o)) w.heap.size s z o)
    have B := ballD1 (Below.refl w.heap.size w) (TmC s z o)
    change Code.wp _ _ _ _ (w.alloc (TmC s z o))
    generalize (w.alloc (TmC s z o)) = w0 at *
    obtain ⟨⟨c0_0, c0_1, c0_2⟩, -, c0z⟩ := PT.out
    go_wp2_with fail
    refine (MD.out _).mono ?_
    rintro e w1 ⟨rfl, hb⟩
    replace PT := Lib.hid (PT.out.below hb)
    replace B := bstep B hb
    clear hb MD
    clear c0_0 c0_1 c0_2 c0z
    clear PT
    go_wp2
    go_ret
    exact ⟨rfl, B⟩
  · rw [h] at MD0
    rw [if_pos rfl]
    have MD := Lib.hid MD0
    obtain ⟨s1, s2⟩ := may_sec h
    obtain ⟨o1, o2⟩ := may_off h
    obtain ⟨M, hM⟩ : ∃ zz : ByteArray, zz = minS s := ⟨_, rfl⟩
    have sM : M.size ≤ 210 := by rw [hM]; exact min_size s1 (by omega)
    obtain ⟨S, hS⟩ : ∃ zz : ByteArray, zz = secS s := ⟨_, rfl⟩
    have sS : S.size ≤ 110 := by rw [hS]; exact sec_size s
    obtain ⟨O, hO⟩ : ∃ zz : ByteArray, zz = offS o := ⟨_, rfl⟩
    have sO : O.size ≤ 330 := by rw [hO]; exact off_size o1 o2
    have CM := Lib.hid (show ∀ w, Tab2 w → Calls Tryd.prog 35 #[.int .i64 s] w (Ret (.string M) w) from fun w a => by rw [hM]; exact minutesOf_any s s1 (by omega) w a)
    have CS := Lib.hid (show ∀ w, Tab2 w → Calls Tryd.prog 36 #[.int .i64 s] w (Ret (.string S) w) from fun w a => by rw [hS]; exact secondsOf_any s s1 w a)
    have CO := Lib.hid (show ∀ w, Tab2 w → Calls Tryd.prog 37 #[.int .i64 o] w (Ret (.string O) w) from fun w a => by rw [hO]; exact offset_any o o1 o2 w a)
    obtain ⟨u1, eu1⟩ : ∃ zz : ByteArray, M ++ S = zz := ⟨_, rfl⟩
    have su1 : u1.size ≤ 320 := by rw [← eu1]; exact size_le (a := 210) (b := 110) sM sS (by decide)
    obtain ⟨u2, eu2⟩ : ∃ zz : ByteArray, u1 ++ O = zz := ⟨_, rfl⟩
    have su2 : u2.size ≤ 650 := by rw [← eu2]; exact size_le (a := 320) (b := 330) su1 sO (by decide)
    have RES := Lib.hid (show (if z then u2 else u1) = timeS s z o from by rw [← eu2, ← eu1, hM, hS, hO]; rfl)
    clear hM hS hO MD0 h ht s1 s2 o1 o2
    cases z
    · go_enter Tryd.func12, Tryd.ntmps12
      go_upto_region 1 with fail
      have PT := Lib.hid (HoldsM.new rfl : HoldsM (w.alloc (TmC s false o)) w.heap.size s false o)
      have B := ballD1 (Below.refl w.heap.size w) (TmC s false o)
      change Code.wp _ _ _ _ (w.alloc (TmC s false o))
      generalize (w.alloc (TmC s false o)) = w0 at *
      obtain ⟨⟨c0_0, c0_1, c0_2⟩, -, c0z⟩ := PT.out
      go_wp2_with fail
      refine (MD.out _).mono ?_
      rintro e w1 ⟨rfl, hb⟩
      replace PT := Lib.hid (PT.out.below hb)
      replace B := bstep B hb
      clear hb MD
      clear c0_0 c0_1 c0_2 c0z
      go_upto_region 3 with fail
      generalize w1 = V at *
      refine wp_region_held_drew (S := fun w' => w'.cell? ⟨w.heap.size, 0, none⟩ = some (.int .i64 s) ∧ w'.cell? ⟨w.heap.size, 1, none⟩ = some (.bool false) ∧ w'.cell? ⟨w.heap.size, 2, none⟩ = some (.int .i64 o) ∧ Below V.heap.size V w') (by kernel_rfl) ?_ (fun hHeld => ?_)
      · exact keepM9 PT.out (Below.refl _ _).drew
      refine wpAnyH_take (i := 0) (oi := { dst := some 7, op := Go.Op.fieldAddr 28 (Go.Operand.tmp 1) 0, type := 0, pos := "lexical.go:32", after := #[], guard := none }) (v := ?_) rfl (by kernel_rfl) (by kernel_rfl) (by kernel_rfl) (fun _ _ _ h => h) (Or.inl ⟨by rfl, ?_⟩) (by assumption) ?_
      rotate_left
      · intro w hSw
        try dsimp only at hSw
        go_simp
        try (rw [if_neg (by omega)])
        try with_reducible rfl
      try simp only [Act.put, List.setIfInBounds_toArray, List.set_cons_zero, List.set_cons_succ]
      refine wpAnyH_take (i := 3) (oi := { dst := some 10, op := Go.Op.fieldAddr 28 (Go.Operand.tmp 1) 0, type := 0, pos := "lexical.go:32", after := #[], guard := none }) (v := ?_) rfl (by kernel_rfl) (by kernel_rfl) (by kernel_rfl) (fun _ _ _ h => h) (Or.inl ⟨by rfl, ?_⟩) (by assumption) ?_
      rotate_left
      · intro w hSw
        try dsimp only at hSw
        go_simp
        try (rw [if_neg (by omega)])
        try with_reducible rfl
      try simp only [Act.put, List.setIfInBounds_toArray, List.set_cons_zero, List.set_cons_succ]
      refine wpAnyH_take (i := 1) (oi := { dst := some 8, op := Go.Op.load 3 (Go.Operand.tmp 7), type := 3, pos := "lexical.go:32", after := #[{ on := 0, ground := Go.Ground.data }], guard := none }) (v := ?_) rfl (by kernel_rfl) (by kernel_rfl) (by kernel_rfl) (fun _ _ _ h => h) (Or.inl ⟨by rfl, ?_⟩) (by assumption) ?_
      rotate_left
      · intro w hSw
        try dsimp only at hSw
        go_simp
        try (rw [if_neg (by omega)])
        try with_reducible rfl
      try simp only [Act.put, List.setIfInBounds_toArray, List.set_cons_zero, List.set_cons_succ]
      refine wpAnyH_take (i := 4) (oi := { dst := some 11, op := Go.Op.load 3 (Go.Operand.tmp 10), type := 3, pos := "lexical.go:32", after := #[{ on := 3, ground := Go.Ground.data }], guard := none }) (v := ?_) rfl (by kernel_rfl) (by kernel_rfl) (by kernel_rfl) (fun _ _ _ h => h) (Or.inl ⟨by rfl, ?_⟩) (by assumption) ?_
      rotate_left
      · intro w hSw
        try dsimp only at hSw
        go_simp
        try (rw [if_neg (by omega)])
        try with_reducible rfl
      try simp only [Act.put, List.setIfInBounds_toArray, List.set_cons_zero, List.set_cons_succ]
      refine wpAnyH_ready (rs := [2]) (by kernel_rfl) (by simp) ?_
      refine AllReadyH.cons (o := { dst := some 9, op := Go.Op.call { callee := Go.Callee.value (Go.Operand.func 35), args := #[Go.Operand.tmp 8], argTypes := #[3] }, type := 9, pos := "lexical.go:32", after := #[{ on := 1, ground := Go.Ground.data }], guard := none }) rfl (fun K hK => ?_) AllReadyH.nil
      go_simp
      refine (CM.out _ (HT.out.below (bstep B hHeld.2.2.2))).mono ?_
      rintro e v1 ⟨rfl, hb1⟩
      have HBx := Lib.hid (bstep hHeld.2.2.2 hb1)
      clear hHeld hb1
      refine hK.out _ _ ?_ (fun hHeld => ?_)
      · exact keepM9 PT.out HBx.out
      clear hK K HBx
      try simp only [Act.put, List.setIfInBounds_toArray, List.set_cons_zero, List.set_cons_succ]
      refine wpAnyH_ready (rs := [5]) (by kernel_rfl) (by simp) ?_
      refine AllReadyH.cons (o := { dst := some 12, op := Go.Op.call { callee := Go.Callee.value (Go.Operand.func 36), args := #[Go.Operand.tmp 11], argTypes := #[3] }, type := 9, pos := "lexical.go:32", after := #[{ on := 4, ground := Go.Ground.data }, { on := 2, ground := Go.Ground.chain }], guard := none }) rfl (fun K hK => ?_) AllReadyH.nil
      go_simp
      refine (CS.out _ (HT.out.below (bstep B hHeld.2.2.2))).mono ?_
      rintro e v2 ⟨rfl, hb2⟩
      have HBx := Lib.hid (bstep hHeld.2.2.2 hb2)
      clear hHeld hb2
      refine hK.out _ _ ?_ (fun hHeld => ?_)
      · exact keepM9 PT.out HBx.out
      clear hK K HBx
      try simp only [Act.put, List.setIfInBounds_toArray, List.set_cons_zero, List.set_cons_succ]
      refine wpAnyH_take (i := 6) (oi := { dst := some 13, op := Go.Op.binOp Go.BinOp.add 9 (Go.Operand.tmp 9) (Go.Operand.tmp 12) 9, type := 9, pos := "lexical.go:32", after := #[{ on := 2, ground := Go.Ground.data }, { on := 5, ground := Go.Ground.data }], guard := none }) (v := ?_) rfl (by kernel_rfl) (by kernel_rfl) (by kernel_rfl) (fun _ _ _ h => h) (Or.inl ⟨by rfl, ?_⟩) (by assumption) ?_
      rotate_left
      · intro w hSw
        try dsimp only at hSw
        go_simp
        try (rw [if_neg (by omega)])
        try with_reducible rfl
      try simp only [Act.put, List.setIfInBounds_toArray, List.set_cons_zero, List.set_cons_succ]
      refine wpAnyH_take (i := 7) (oi := { dst := some 3, op := Go.Op.assign (Go.Operand.tmp 13), type := 9, pos := "lexical.go:32", after := #[{ on := 6, ground := Go.Ground.data }, { on := 5, ground := Go.Ground.chain }, { on := 0, ground := Go.Ground.phase }, { on := 1, ground := Go.Ground.phase }, { on := 2, ground := Go.Ground.phase }, { on := 3, ground := Go.Ground.phase }, { on := 4, ground := Go.Ground.phase }, { on := 5, ground := Go.Ground.phase }, { on := 6, ground := Go.Ground.phase }], guard := none }) (v := ?_) rfl (by kernel_rfl) (by kernel_rfl) (by kernel_rfl) (fun _ _ _ h => h) (Or.inl ⟨by rfl, ?_⟩) (by assumption) ?_
      rotate_left
      · intro w hSw
        try dsimp only at hSw
        go_simp
        try (rw [if_neg (by omega)])
        try with_reducible rfl
      try simp only [Act.put, List.setIfInBounds_toArray, List.set_cons_zero, List.set_cons_succ]
      refine wpAnyH_done (by kernel_rfl) ?_ _
      replace B := bstep B hHeld.2.2.2
      replace PT := Lib.hid (PT.out.below hHeld.2.2.2)
      clear hHeld
      obtain ⟨⟨c0_0, c0_1, c0_2⟩, -, c0z⟩ := PT.out
      go_wp2
      go_ret
      exact ⟨congrArg (fun z => Ending.returned (.string z)) RES.out, B⟩
    · go_enter Tryd.func12, Tryd.ntmps12
      go_upto_region 1 with fail
      have PT := Lib.hid (HoldsM.new rfl : HoldsM (w.alloc (TmC s true o)) w.heap.size s true o)
      have B := ballD1 (Below.refl w.heap.size w) (TmC s true o)
      change Code.wp _ _ _ _ (w.alloc (TmC s true o))
      generalize (w.alloc (TmC s true o)) = w0 at *
      obtain ⟨⟨c0_0, c0_1, c0_2⟩, -, c0z⟩ := PT.out
      go_wp2_with fail
      refine (MD.out _).mono ?_
      rintro e w1 ⟨rfl, hb⟩
      replace PT := Lib.hid (PT.out.below hb)
      replace B := bstep B hb
      clear hb MD
      clear c0_0 c0_1 c0_2 c0z
      go_upto_region 3 with fail
      generalize w1 = V at *
      refine wp_region_held_drew (S := fun w' => w'.cell? ⟨w.heap.size, 0, none⟩ = some (.int .i64 s) ∧ w'.cell? ⟨w.heap.size, 1, none⟩ = some (.bool true) ∧ w'.cell? ⟨w.heap.size, 2, none⟩ = some (.int .i64 o) ∧ Below V.heap.size V w') (by kernel_rfl) ?_ (fun hHeld => ?_)
      · exact keepM9 PT.out (Below.refl _ _).drew
      refine wpAnyH_take (i := 0) (oi := { dst := some 7, op := Go.Op.fieldAddr 28 (Go.Operand.tmp 1) 0, type := 0, pos := "lexical.go:32", after := #[], guard := none }) (v := ?_) rfl (by kernel_rfl) (by kernel_rfl) (by kernel_rfl) (fun _ _ _ h => h) (Or.inl ⟨by rfl, ?_⟩) (by assumption) ?_
      rotate_left
      · intro w hSw
        try dsimp only at hSw
        go_simp
        try (rw [if_neg (by omega)])
        try with_reducible rfl
      try simp only [Act.put, List.setIfInBounds_toArray, List.set_cons_zero, List.set_cons_succ]
      refine wpAnyH_take (i := 3) (oi := { dst := some 10, op := Go.Op.fieldAddr 28 (Go.Operand.tmp 1) 0, type := 0, pos := "lexical.go:32", after := #[], guard := none }) (v := ?_) rfl (by kernel_rfl) (by kernel_rfl) (by kernel_rfl) (fun _ _ _ h => h) (Or.inl ⟨by rfl, ?_⟩) (by assumption) ?_
      rotate_left
      · intro w hSw
        try dsimp only at hSw
        go_simp
        try (rw [if_neg (by omega)])
        try with_reducible rfl
      try simp only [Act.put, List.setIfInBounds_toArray, List.set_cons_zero, List.set_cons_succ]
      refine wpAnyH_take (i := 1) (oi := { dst := some 8, op := Go.Op.load 3 (Go.Operand.tmp 7), type := 3, pos := "lexical.go:32", after := #[{ on := 0, ground := Go.Ground.data }], guard := none }) (v := ?_) rfl (by kernel_rfl) (by kernel_rfl) (by kernel_rfl) (fun _ _ _ h => h) (Or.inl ⟨by rfl, ?_⟩) (by assumption) ?_
      rotate_left
      · intro w hSw
        try dsimp only at hSw
        go_simp
        try (rw [if_neg (by omega)])
        try with_reducible rfl
      try simp only [Act.put, List.setIfInBounds_toArray, List.set_cons_zero, List.set_cons_succ]
      refine wpAnyH_take (i := 4) (oi := { dst := some 11, op := Go.Op.load 3 (Go.Operand.tmp 10), type := 3, pos := "lexical.go:32", after := #[{ on := 3, ground := Go.Ground.data }], guard := none }) (v := ?_) rfl (by kernel_rfl) (by kernel_rfl) (by kernel_rfl) (fun _ _ _ h => h) (Or.inl ⟨by rfl, ?_⟩) (by assumption) ?_
      rotate_left
      · intro w hSw
        try dsimp only at hSw
        go_simp
        try (rw [if_neg (by omega)])
        try with_reducible rfl
      try simp only [Act.put, List.setIfInBounds_toArray, List.set_cons_zero, List.set_cons_succ]
      refine wpAnyH_ready (rs := [2]) (by kernel_rfl) (by simp) ?_
      refine AllReadyH.cons (o := { dst := some 9, op := Go.Op.call { callee := Go.Callee.value (Go.Operand.func 35), args := #[Go.Operand.tmp 8], argTypes := #[3] }, type := 9, pos := "lexical.go:32", after := #[{ on := 1, ground := Go.Ground.data }], guard := none }) rfl (fun K hK => ?_) AllReadyH.nil
      go_simp
      refine (CM.out _ (HT.out.below (bstep B hHeld.2.2.2))).mono ?_
      rintro e v1 ⟨rfl, hb1⟩
      have HBx := Lib.hid (bstep hHeld.2.2.2 hb1)
      clear hHeld hb1
      refine hK.out _ _ ?_ (fun hHeld => ?_)
      · exact keepM9 PT.out HBx.out
      clear hK K HBx
      try simp only [Act.put, List.setIfInBounds_toArray, List.set_cons_zero, List.set_cons_succ]
      refine wpAnyH_ready (rs := [5]) (by kernel_rfl) (by simp) ?_
      refine AllReadyH.cons (o := { dst := some 12, op := Go.Op.call { callee := Go.Callee.value (Go.Operand.func 36), args := #[Go.Operand.tmp 11], argTypes := #[3] }, type := 9, pos := "lexical.go:32", after := #[{ on := 4, ground := Go.Ground.data }, { on := 2, ground := Go.Ground.chain }], guard := none }) rfl (fun K hK => ?_) AllReadyH.nil
      go_simp
      refine (CS.out _ (HT.out.below (bstep B hHeld.2.2.2))).mono ?_
      rintro e v2 ⟨rfl, hb2⟩
      have HBx := Lib.hid (bstep hHeld.2.2.2 hb2)
      clear hHeld hb2
      refine hK.out _ _ ?_ (fun hHeld => ?_)
      · exact keepM9 PT.out HBx.out
      clear hK K HBx
      try simp only [Act.put, List.setIfInBounds_toArray, List.set_cons_zero, List.set_cons_succ]
      refine wpAnyH_take (i := 6) (oi := { dst := some 13, op := Go.Op.binOp Go.BinOp.add 9 (Go.Operand.tmp 9) (Go.Operand.tmp 12) 9, type := 9, pos := "lexical.go:32", after := #[{ on := 2, ground := Go.Ground.data }, { on := 5, ground := Go.Ground.data }], guard := none }) (v := ?_) rfl (by kernel_rfl) (by kernel_rfl) (by kernel_rfl) (fun _ _ _ h => h) (Or.inl ⟨by rfl, ?_⟩) (by assumption) ?_
      rotate_left
      · intro w hSw
        try dsimp only at hSw
        go_simp
        try (rw [if_neg (by omega)])
        try with_reducible rfl
      try simp only [Act.put, List.setIfInBounds_toArray, List.set_cons_zero, List.set_cons_succ]
      refine wpAnyH_take (i := 7) (oi := { dst := some 3, op := Go.Op.assign (Go.Operand.tmp 13), type := 9, pos := "lexical.go:32", after := #[{ on := 6, ground := Go.Ground.data }, { on := 5, ground := Go.Ground.chain }, { on := 0, ground := Go.Ground.phase }, { on := 1, ground := Go.Ground.phase }, { on := 2, ground := Go.Ground.phase }, { on := 3, ground := Go.Ground.phase }, { on := 4, ground := Go.Ground.phase }, { on := 5, ground := Go.Ground.phase }, { on := 6, ground := Go.Ground.phase }], guard := none }) (v := ?_) rfl (by kernel_rfl) (by kernel_rfl) (by kernel_rfl) (fun _ _ _ h => h) (Or.inl ⟨by rfl, ?_⟩) (by assumption) ?_
      rotate_left
      · intro w hSw
        try dsimp only at hSw
        go_simp
        try (rw [if_neg (by omega)])
        try with_reducible rfl
      try simp only [Act.put, List.setIfInBounds_toArray, List.set_cons_zero, List.set_cons_succ]
      refine wpAnyH_done (by kernel_rfl) ?_ _
      replace B := bstep B hHeld.2.2.2
      replace PT := Lib.hid (PT.out.below hHeld.2.2.2)
      clear hHeld
      obtain ⟨⟨c0_0, c0_1, c0_2⟩, -, c0z⟩ := PT.out
      go_wp2_with fail
      refine (CO.out _ (HT.out.below B)).mono ?_
      rintro e w2 ⟨rfl, hb⟩
      replace PT := Lib.hid (PT.out.below hb)
      replace B := bstep B hb
      clear hb CO
      clear c0_0 c0_1 c0_2 c0z
      clear PT
      go_wp2
      go_ret
      exact ⟨congrArg (fun z => Ending.returned (.string z)) RES.out, B⟩
theorem date_size (y m d : Int) : (dateT y m d).size ≤ 303 := by
  unfold dateT
  split
  · rename_i h
    obtain ⟨y1, y2, m1, m2, d1, d2⟩ := day_lims h
    have a0 := abs_nonneg y
    have a1 := abs_le (m := 999999999) y1 y2
    exact size_le (a := 203) (b := 100) (size_le (a := 202) (b := 1) (size_le (a := 102) (b := 100) (size_le (a := 101) (b := 1) (size_le (a := 1) (b := 100) (sg_size y) (pad_size (by unfold I64; omega) (by decide)) (by decide)) (by decide) (by decide)) (pad_size (by unfold I64; omega) (by decide)) (by decide)) (by decide) (by decide)) (pad_size (by unfold I64; omega) (by decide)) (by decide)
  · decide
theorem time_size (s : Int) (z : Bool) (o : Int) : (timeT s z o).size ≤ 650 := by
  unfold timeT
  split
  · rename_i h
    obtain ⟨s1, s2⟩ := may_sec h
    obtain ⟨o1, o2⟩ := may_off h
    unfold timeS
    split
    · exact size_le (a := 320) (b := 330) (size_le (a := 210) (b := 110) (min_size s1 (by omega)) (sec_size s) (by decide)) (off_size o1 o2) (by decide)
    · exact size_le (a := 210) (b := 110) (min_size s1 (by omega)) (sec_size s) (by decide)
  · decide
/-- A moment's text. -/
def momT (y m d s : Int) (z : Bool) (o : Int) : ByteArray := if mayN y m d s z o then dateT y m d ++ { data := #[84] } ++ timeT s z o else { data := #[] }
set_option linter.unusedSimpArgs false in
set_option linter.unusedVariables false in
set_option maxRecDepth 100000 in
set_option maxHeartbeats 4000000 in
theorem moment_any (y m d s : Int) (z : Bool) (o : Int) (w : World) (ht : Tab2 w) : Calls Tryd.prog 14 #[Mo y m d s z o] w (Ret (.string (momT y m d s z o)) w) := by
  have HT := Lib.hid ht
  have MD0 := mayN_any y m d s z o
  unfold momT
  cases h : mayN y m d s z o
  · rw [h] at MD0
    have MD := Lib.hid MD0
    clear MD0 h ht
    rw [if_neg (by decide)]
    go_enter Tryd.func14, Tryd.ntmps14
    go_upto_region 1 with fail
    have PT := Lib.hid (HoldsN.new rfl : HoldsN (w.alloc (MoC y m d s z o)) w.heap.size y m d s z o)
    have B := ballD1 (Below.refl w.heap.size w) (MoC y m d s z o)
    change Code.wp _ _ _ _ (w.alloc (MoC y m d s z o))
    generalize (w.alloc (MoC y m d s z o)) = w0 at *
    obtain ⟨⟨c0_0, c0_1, c0_2, c0_3, c0_4, c0_5⟩, -, c0z⟩ := PT.out
    go_wp2_with fail
    refine (MD.out _).mono ?_
    rintro e w1 ⟨rfl, hb⟩
    replace PT := Lib.hid (PT.out.below hb)
    replace B := bstep B hb
    clear hb MD
    clear c0_0 c0_1 c0_2 c0_3 c0_4 c0_5 c0z
    clear PT
    go_wp2
    go_ret
    exact ⟨rfl, B⟩
  · rw [h] at MD0
    rw [if_pos rfl]
    have MD := Lib.hid MD0
    obtain ⟨P, hP⟩ : ∃ zz : ByteArray, zz = dateT y m d := ⟨_, rfl⟩
    have sP : P.size ≤ 303 := by rw [hP]; exact date_size y m d
    obtain ⟨Q, hQ⟩ : ∃ zz : ByteArray, zz = timeT s z o := ⟨_, rfl⟩
    have sQ : Q.size ≤ 650 := by rw [hQ]; exact time_size s z o
    have CP := Lib.hid (show ∀ w, Tab2 w → Calls Tryd.prog 10 #[Dt y m d] w (Ret (.string P) w) from fun w a => by rw [hP]; exact date_any y m d w a)
    have CQ := Lib.hid (show ∀ w, Tab2 w → Calls Tryd.prog 12 #[Tm s z o] w (Ret (.string Q) w) from fun w a => by rw [hQ]; exact time_any s z o w a)
    obtain ⟨u1, eu1⟩ : ∃ zz : ByteArray, P ++ ({ data := #[84] } : ByteArray) = zz := ⟨_, rfl⟩
    have su1 : u1.size ≤ 304 := by rw [← eu1]; exact size_le (a := 303) (b := 1) sP (by decide) (by decide)
    obtain ⟨u2, eu2⟩ : ∃ zz : ByteArray, u1 ++ Q = zz := ⟨_, rfl⟩
    have su2 : u2.size ≤ 954 := by rw [← eu2]; exact size_le (a := 304) (b := 650) su1 sQ (by decide)
    have RES := Lib.hid (show u2 = dateT y m d ++ { data := #[84] } ++ timeT s z o from by rw [← eu2, ← eu1, hP, hQ])
    clear hP hQ MD0 h ht
    go_enter Tryd.func14, Tryd.ntmps14
    go_upto_region 1 with fail
    have PT := Lib.hid (HoldsN.new rfl : HoldsN (w.alloc (MoC y m d s z o)) w.heap.size y m d s z o)
    have B := ballD1 (Below.refl w.heap.size w) (MoC y m d s z o)
    change Code.wp _ _ _ _ (w.alloc (MoC y m d s z o))
    generalize (w.alloc (MoC y m d s z o)) = w0 at *
    obtain ⟨⟨c0_0, c0_1, c0_2, c0_3, c0_4, c0_5⟩, -, c0z⟩ := PT.out
    go_wp2_with fail
    refine (MD.out _).mono ?_
    rintro e w1 ⟨rfl, hb⟩
    replace PT := Lib.hid (PT.out.below hb)
    replace B := bstep B hb
    clear hb MD
    clear c0_0 c0_1 c0_2 c0_3 c0_4 c0_5 c0z
    go_upto_region 3 with fail
    generalize w1 = V at *
    refine wp_region_held_drew (S := fun w' => w'.cell? ⟨w.heap.size, 0, none⟩ = some (.int .i64 y) ∧ w'.cell? ⟨w.heap.size, 1, none⟩ = some (.int .i64 m) ∧ w'.cell? ⟨w.heap.size, 2, none⟩ = some (.int .i64 d) ∧ w'.cell? ⟨w.heap.size, 3, none⟩ = some (.int .i64 s) ∧ w'.cell? ⟨w.heap.size, 4, none⟩ = some (.bool z) ∧ w'.cell? ⟨w.heap.size, 5, none⟩ = some (.int .i64 o) ∧ Below V.heap.size V w') (by kernel_rfl) ?_ (fun hHeld => ?_)
    · exact keepN9 PT.out (Below.refl _ _).drew
    refine wpAnyH_take (i := 0) (oi := { dst := some 6, op := Go.Op.fieldAddr 30 (Go.Operand.tmp 1) 0, type := 0, pos := "lexical.go:44", after := #[], guard := none }) (v := ?_) rfl (by kernel_rfl) (by kernel_rfl) (by kernel_rfl) (fun _ _ _ h => h) (Or.inl ⟨by rfl, ?_⟩) (by assumption) ?_
    rotate_left
    · intro w hSw
      try dsimp only at hSw
      go_simp
      try (rw [if_neg (by omega)])
      try with_reducible rfl
    try simp only [Act.put, List.setIfInBounds_toArray, List.set_cons_zero, List.set_cons_succ]
    refine wpAnyH_take (i := 4) (oi := { dst := some 10, op := Go.Op.fieldAddr 30 (Go.Operand.tmp 1) 1, type := 0, pos := "lexical.go:44", after := #[], guard := none }) (v := ?_) rfl (by kernel_rfl) (by kernel_rfl) (by kernel_rfl) (fun _ _ _ h => h) (Or.inl ⟨by rfl, ?_⟩) (by assumption) ?_
    rotate_left
    · intro w hSw
      try dsimp only at hSw
      go_simp
      try (rw [if_neg (by omega)])
      try with_reducible rfl
    try simp only [Act.put, List.setIfInBounds_toArray, List.set_cons_zero, List.set_cons_succ]
    refine wpAnyH_take (i := 1) (oi := { dst := some 7, op := Go.Op.load 26 (Go.Operand.tmp 6), type := 26, pos := "lexical.go:44", after := #[{ on := 0, ground := Go.Ground.data }], guard := none }) (v := ?_) rfl (by kernel_rfl) (by kernel_rfl) (by kernel_rfl) (fun _ _ _ h => h) (Or.inl ⟨by rfl, ?_⟩) (by assumption) ?_
    rotate_left
    · intro w hSw
      try dsimp only at hSw
      go_simp
      try (rw [if_neg (by omega)])
      try with_reducible rfl
    try simp only [Act.put, List.setIfInBounds_toArray, List.set_cons_zero, List.set_cons_succ]
    refine wpAnyH_take (i := 5) (oi := { dst := some 11, op := Go.Op.load 28 (Go.Operand.tmp 10), type := 28, pos := "lexical.go:44", after := #[{ on := 4, ground := Go.Ground.data }], guard := none }) (v := ?_) rfl (by kernel_rfl) (by kernel_rfl) (by kernel_rfl) (fun _ _ _ h => h) (Or.inl ⟨by rfl, ?_⟩) (by assumption) ?_
    rotate_left
    · intro w hSw
      try dsimp only at hSw
      go_simp
      try (rw [if_neg (by omega)])
      try with_reducible rfl
    try simp only [Act.put, List.setIfInBounds_toArray, List.set_cons_zero, List.set_cons_succ]
    refine wpAnyH_ready (rs := [2]) (by kernel_rfl) (by simp) ?_
    refine AllReadyH.cons (o := { dst := some 8, op := Go.Op.call { callee := Go.Callee.value (Go.Operand.func 10), args := #[Go.Operand.tmp 7], argTypes := #[26] }, type := 9, pos := "lexical.go:44", after := #[{ on := 1, ground := Go.Ground.data }], guard := none }) rfl (fun K hK => ?_) AllReadyH.nil
    go_simp
    refine (CP.out _ (HT.out.below (bstep B hHeld.2.2.2.2.2.2))).mono ?_
    rintro e v1 ⟨rfl, hb1⟩
    have HBx := Lib.hid (bstep hHeld.2.2.2.2.2.2 hb1)
    clear hHeld hb1
    refine hK.out _ _ ?_ (fun hHeld => ?_)
    · exact keepN9 PT.out HBx.out
    clear hK K HBx
    try simp only [Act.put, List.setIfInBounds_toArray, List.set_cons_zero, List.set_cons_succ]
    refine wpAnyH_take (i := 3) (oi := { dst := some 9, op := Go.Op.binOp Go.BinOp.add 9 (Go.Operand.tmp 8) (Go.Operand.const (Go.Value.string { data := #[84] })) 9, type := 9, pos := "lexical.go:44", after := #[{ on := 2, ground := Go.Ground.data }], guard := none }) (v := ?_) rfl (by kernel_rfl) (by kernel_rfl) (by kernel_rfl) (fun _ _ _ h => h) (Or.inl ⟨by rfl, ?_⟩) (by assumption) ?_
    rotate_left
    · intro w hSw
      try dsimp only at hSw
      go_simp
      try (rw [if_neg (by omega)])
      try with_reducible rfl
    try simp only [Act.put, List.setIfInBounds_toArray, List.set_cons_zero, List.set_cons_succ]
    refine wpAnyH_ready (rs := [6]) (by kernel_rfl) (by simp) ?_
    refine AllReadyH.cons (o := { dst := some 12, op := Go.Op.call { callee := Go.Callee.value (Go.Operand.func 12), args := #[Go.Operand.tmp 11], argTypes := #[28] }, type := 9, pos := "lexical.go:44", after := #[{ on := 5, ground := Go.Ground.data }, { on := 2, ground := Go.Ground.chain }], guard := none }) rfl (fun K hK => ?_) AllReadyH.nil
    go_simp
    refine (CQ.out _ (HT.out.below (bstep B hHeld.2.2.2.2.2.2))).mono ?_
    rintro e v2 ⟨rfl, hb2⟩
    have HBx := Lib.hid (bstep hHeld.2.2.2.2.2.2 hb2)
    clear hHeld hb2
    refine hK.out _ _ ?_ (fun hHeld => ?_)
    · exact keepN9 PT.out HBx.out
    clear hK K HBx
    try simp only [Act.put, List.setIfInBounds_toArray, List.set_cons_zero, List.set_cons_succ]
    refine wpAnyH_take (i := 7) (oi := { dst := some 13, op := Go.Op.binOp Go.BinOp.add 9 (Go.Operand.tmp 9) (Go.Operand.tmp 12) 9, type := 9, pos := "lexical.go:44", after := #[{ on := 3, ground := Go.Ground.data }, { on := 6, ground := Go.Ground.data }], guard := none }) (v := ?_) rfl (by kernel_rfl) (by kernel_rfl) (by kernel_rfl) (fun _ _ _ h => h) (Or.inl ⟨by rfl, ?_⟩) (by assumption) ?_
    rotate_left
    · intro w hSw
      try dsimp only at hSw
      go_simp
      try (rw [if_neg (by omega)])
      try with_reducible rfl
    try simp only [Act.put, List.setIfInBounds_toArray, List.set_cons_zero, List.set_cons_succ]
    refine wpAnyH_take (i := 8) (oi := { dst := some 2, op := Go.Op.assign (Go.Operand.tmp 13), type := 9, pos := "lexical.go:44", after := #[{ on := 7, ground := Go.Ground.data }, { on := 6, ground := Go.Ground.chain }, { on := 0, ground := Go.Ground.phase }, { on := 1, ground := Go.Ground.phase }, { on := 2, ground := Go.Ground.phase }, { on := 3, ground := Go.Ground.phase }, { on := 4, ground := Go.Ground.phase }, { on := 5, ground := Go.Ground.phase }, { on := 6, ground := Go.Ground.phase }, { on := 7, ground := Go.Ground.phase }], guard := none }) (v := ?_) rfl (by kernel_rfl) (by kernel_rfl) (by kernel_rfl) (fun _ _ _ h => h) (Or.inl ⟨by rfl, ?_⟩) (by assumption) ?_
    rotate_left
    · intro w hSw
      try dsimp only at hSw
      go_simp
      try (rw [if_neg (by omega)])
      try with_reducible rfl
    try simp only [Act.put, List.setIfInBounds_toArray, List.set_cons_zero, List.set_cons_succ]
    refine wpAnyH_done (by kernel_rfl) ?_ _
    replace B := bstep B hHeld.2.2.2.2.2.2
    go_wp2
    go_ret
    exact ⟨congrArg (fun z => Ending.returned (.string z)) RES.out, B⟩
/-- Whether there is that duration. -/
def mayL (n : Int) : Bool := decide (-9007199254740992 ≤ n) && decide (n ≤ 9007199254740992)
theorem mayL_of {n : Int} : mayL n = true ↔ -9007199254740992 ≤ n ∧ n ≤ 9007199254740992 := by unfold mayL; rw [Bool.and_eq_true, decide_eq_true_iff, decide_eq_true_iff]
set_option linter.unusedSimpArgs false in
set_option linter.unusedVariables false in
set_option maxRecDepth 100000 in
set_option maxHeartbeats 4000000 in
theorem maySpan_any (n : Int) (w : World) : Calls Tryd.prog 39 #[.int .i64 n] w (Ret (.bool (mayL n)) w) := by
  unfold mayL
  cases t1 : decide (-9007199254740992 ≤ n) <;> cases t2 : decide (n ≤ 9007199254740992)
  all_goals
    go_enter Tryd.func39, Tryd.ntmps39
    go_wp2
    go_ret
    exact ⟨rfl, by go_grown⟩
/-- A number and its letter, if it is not 0. -/
def partS (n : Int) (L : ByteArray) : ByteArray := if n = 0 then { data := #[] } else itS n ++ L
theorem part_size {n : Int} (h : I64 n) {L : ByteArray} (k : L.size ≤ 5) : (partS n L).size ≤ 40 := by
  unfold partS
  split
  · decide
  · exact size_le (a := 35) (b := 5) (it_size h) k (by decide)
set_option linter.unusedSimpArgs false in
set_option linter.unusedVariables false in
set_option maxRecDepth 100000 in
set_option maxHeartbeats 4000000 in
theorem part_any (n : Int) (h : I64 n) (L : ByteArray) (sL : L.size ≤ 5) (w : World) (ht : Tab2 w) : Calls Tryd.prog 40 #[.int .i64 n, .string L] w (Ret (.string (partS n L)) w) := by
  have HT := Lib.hid ht
  unfold partS
  by_cases z : n = 0
  · subst z
    rw [if_pos rfl]
    have t0 : ((0 : Int) == 0) = true := rfl
    clear ht h
    go_enter Tryd.func40, Tryd.ntmps40
    go_wp2
    go_ret
    exact ⟨rfl, by go_grown⟩
  · rw [if_neg z]
    have t0 : (n == 0) = false := by simpa using z
    obtain ⟨D, hD⟩ : ∃ zz : ByteArray, zz = itS n := ⟨_, rfl⟩
    have sD : D.size ≤ 35 := by rw [hD]; exact it_size h
    have CD := Lib.hid (show ∀ w, Tab2 w → Calls Tryd.prog 59 #[.int .i64 n] w (Ret (.string D) w) from fun w a => by rw [hD]; exact itoaP n h w a)
    obtain ⟨u1, eu1⟩ : ∃ zz : ByteArray, D ++ L = zz := ⟨_, rfl⟩
    have su1 : u1.size ≤ 40 := by rw [← eu1]; exact size_le (a := 35) (b := 5) sD sL (by decide)
    have RES := Lib.hid (show u1 = itS n ++ L from by rw [← eu1, hD])
    clear hD h ht z
    go_enter Tryd.func40, Tryd.ntmps40
    go_wp2_with fail
    refine (CD.out _ (HT.out.below (by go_grown))).mono ?_
    rintro e w1 ⟨rfl, hb⟩
    have B : Below w.heap.size w w1 := bstep (by go_grown) hb
    clear hb CD
    go_wp2
    go_ret
    exact ⟨congrArg (fun z => Ending.returned (.string z)) RES.out, B⟩
/-- The hours, minutes and seconds of a duration's text. -/
def restS (n : Int) : ByteArray := partS (n / 3600) { data := #[72] } ++ partS (n % 3600 / 60) { data := #[77] } ++ partS (n % 60) { data := #[83] }
def restT (n : Int) : ByteArray := if restS n = { data := #[] } then { data := #[] } else { data := #[84] } ++ restS n
def daysS (n : Int) : ByteArray := if mayL n = false then { data := #[] } else if n = 0 then { data := #[80, 84, 48, 83] } else sgS n ++ { data := #[80] } ++ partS (absI n / 86400) { data := #[68] } ++ restT (absI n % 86400)
def monthsS (n : Int) : ByteArray := if mayL n = false then { data := #[] } else if n = 0 then { data := #[80, 48, 77] } else sgS n ++ { data := #[80] } ++ partS (absI n / 12) { data := #[89] } ++ partS (absI n % 12) { data := #[77] }
theorem rest_size {n : Int} (h1 : 0 ≤ n) (h2 : n ≤ 9007199254740992) : (restS n).size ≤ 120 :=
  size_le (a := 80) (b := 40) (size_le (a := 40) (b := 40) (part_size (by unfold I64; omega) (by decide)) (part_size (by unfold I64; omega) (by decide)) (by decide)) (part_size (by unfold I64; omega) (by decide)) (by decide)
set_option linter.unusedSimpArgs false in
set_option linter.unusedVariables false in
set_option maxRecDepth 100000 in
set_option maxHeartbeats 4000000 in
theorem days_any (n : Int) (w : World) (ht : Tab2 w) : Calls Tryd.prog 15 #[.int .i64 n] w (Ret (.string (daysS n)) w) := by
  have HT := Lib.hid ht
  have MS0 := maySpan_any n
  unfold daysS
  cases h : mayL n
  · rw [h] at MS0
    have MS := Lib.hid MS0
    clear MS0 h ht
    rw [if_pos rfl]
    go_enter Tryd.func15, Tryd.ntmps15
    go_wp2_with fail
    refine (MS.out _).mono ?_
    rintro e w1 ⟨rfl, hb⟩
    have B : Below w.heap.size w w1 := bstep (by go_grown) hb
    clear hb MS
    go_wp2
    go_ret
    exact ⟨rfl, B⟩
  · rw [h] at MS0
    have MS := Lib.hid MS0
    rw [if_neg (by decide)]
    by_cases k : n = 0
    · subst k
      rw [if_pos rfl]
      have t0 : ((0 : Int) == 0) = true := rfl
      clear MS0 h ht
      go_enter Tryd.func15, Tryd.ntmps15
      go_wp2_with fail
      refine (MS.out _).mono ?_
      rintro e w1 ⟨rfl, hb⟩
      have B : Below w.heap.size w w1 := bstep (by go_grown) hb
      clear hb MS
      go_wp2
      go_ret
      exact ⟨rfl, B⟩
    · rw [if_neg k]
      have t0 : (n == 0) = false := by simpa using k
      obtain ⟨n1, n2⟩ := mayL_of.1 h
      have a0 := abs_nonneg n
      have a1 := abs_le (m := 9007199254740992) n1 n2
      have SP0 := split_any n (by omega) (by omega)
      obtain ⟨G, hG⟩ : ∃ zz : ByteArray, zz = sgS n := ⟨_, rfl⟩
      have sG : G.size ≤ 1 := by rw [hG]; exact sg_size n
      rw [← hG] at SP0
      obtain ⟨x, hx⟩ : ∃ x, x = absI n := ⟨_, rfl⟩
      rw [← hx] at SP0 a0 a1 ⊢
      obtain ⟨r, hr⟩ : ∃ r, r = x % 86400 := ⟨_, rfl⟩
      have r0 : 0 ≤ r := by omega
      have r1 : r < 86400 := by omega
      obtain ⟨P1, hP1⟩ : ∃ zz : ByteArray, zz = partS (r / 3600) { data := #[72] } := ⟨_, rfl⟩
      have sP1 : P1.size ≤ 40 := by rw [hP1]; exact part_size (by unfold I64; omega) (by decide)
      have CP1 := Lib.hid (show ∀ w, Tab2 w → Calls Tryd.prog 40 #[.int .i64 (r / 3600), .string { data := #[72] }] w (Ret (.string P1) w) from fun w a => by rw [hP1]; exact part_any (r / 3600) (by unfold I64; omega) { data := #[72] } (by decide) w a)
      obtain ⟨P2, hP2⟩ : ∃ zz : ByteArray, zz = partS (r % 3600 / 60) { data := #[77] } := ⟨_, rfl⟩
      have sP2 : P2.size ≤ 40 := by rw [hP2]; exact part_size (by unfold I64; omega) (by decide)
      have CP2 := Lib.hid (show ∀ w, Tab2 w → Calls Tryd.prog 40 #[.int .i64 (r % 3600 / 60), .string { data := #[77] }] w (Ret (.string P2) w) from fun w a => by rw [hP2]; exact part_any (r % 3600 / 60) (by unfold I64; omega) { data := #[77] } (by decide) w a)
      obtain ⟨P3, hP3⟩ : ∃ zz : ByteArray, zz = partS (r % 60) { data := #[83] } := ⟨_, rfl⟩
      have sP3 : P3.size ≤ 40 := by rw [hP3]; exact part_size (by unfold I64; omega) (by decide)
      have CP3 := Lib.hid (show ∀ w, Tab2 w → Calls Tryd.prog 40 #[.int .i64 (r % 60), .string { data := #[83] }] w (Ret (.string P3) w) from fun w a => by rw [hP3]; exact part_any (r % 60) (by unfold I64; omega) { data := #[83] } (by decide) w a)
      obtain ⟨P4, hP4⟩ : ∃ zz : ByteArray, zz = partS (x / 86400) { data := #[68] } := ⟨_, rfl⟩
      have sP4 : P4.size ≤ 40 := by rw [hP4]; exact part_size (by unfold I64; omega) (by decide)
      have CP4 := Lib.hid (show ∀ w, Tab2 w → Calls Tryd.prog 40 #[.int .i64 (x / 86400), .string { data := #[68] }] w (Ret (.string P4) w) from fun w a => by rw [hP4]; exact part_any (x / 86400) (by unfold I64; omega) { data := #[68] } (by decide) w a)
      obtain ⟨u1, eu1⟩ : ∃ zz : ByteArray, P1 ++ P2 = zz := ⟨_, rfl⟩
      have su1 : u1.size ≤ 80 := by rw [← eu1]; exact size_le (a := 40) (b := 40) sP1 sP2 (by decide)
      obtain ⟨u2, eu2⟩ : ∃ zz : ByteArray, u1 ++ P3 = zz := ⟨_, rfl⟩
      have su2 : u2.size ≤ 120 := by rw [← eu2]; exact size_le (a := 80) (b := 40) su1 sP3 (by decide)
      obtain ⟨u3, eu3⟩ : ∃ zz : ByteArray, ({ data := #[84] } : ByteArray) ++ u2 = zz := ⟨_, rfl⟩
      have su3 : u3.size ≤ 121 := by rw [← eu3]; exact size_le (a := 1) (b := 120) (by decide) su2 (by decide)
      obtain ⟨v1, ev1⟩ : ∃ zz : ByteArray, G ++ ({ data := #[80] } : ByteArray) = zz := ⟨_, rfl⟩
      have sv1 : v1.size ≤ 2 := by rw [← ev1]; exact size_le (a := 1) (b := 1) sG (by decide) (by decide)
      obtain ⟨v2, ev2⟩ : ∃ zz : ByteArray, v1 ++ P4 = zz := ⟨_, rfl⟩
      have sv2 : v2.size ≤ 42 := by rw [← ev2]; exact size_le (a := 2) (b := 40) sv1 sP4 (by decide)
      obtain ⟨v3, ev3⟩ : ∃ zz : ByteArray, v2 ++ u3 = zz := ⟨_, rfl⟩
      have sv3 : v3.size ≤ 163 := by rw [← ev3]; exact size_le (a := 42) (b := 121) sv2 su3 (by decide)
      obtain ⟨v4, ev4⟩ : ∃ zz : ByteArray, v2 ++ u2 = zz := ⟨_, rfl⟩
      have sv4 : v4.size ≤ 163 := by rw [← ev4]; exact size_le (a := 42) (b := 120) sv2 su2 (by decide)
      have e0 : restS r = u2 := by rw [← eu2, ← eu1, hP1, hP2, hP3]; rfl
      have RES1 : u2 = { data := #[] } → v4 = sgS n ++ { data := #[80] } ++ partS (x / 86400) { data := #[68] } ++ restT r := by intro k; unfold restT; rw [e0, if_pos k, ← ev4, k, ← ev2, ← ev1, hG, hP4]
      have RES2 : ¬ u2 = { data := #[] } → v3 = sgS n ++ { data := #[80] } ++ partS (x / 86400) { data := #[68] } ++ restT r := by intro k; unfold restT; rw [e0, if_neg k, ← ev3, ← ev2, ← ev1, ← eu3, hG, hP4]
      have d1 : x.tmod 86400 = r := by rw [hr]; exact Int.tmod_eq_emod_of_nonneg a0
      have d2 : r.tdiv 3600 = r / 3600 := Int.tdiv_eq_ediv_of_nonneg r0
      have d3 : r.tmod 3600 = r % 3600 := Int.tmod_eq_emod_of_nonneg r0
      have d4 : (r % 3600).tdiv 60 = r % 3600 / 60 := Int.tdiv_eq_ediv_of_nonneg (by omega)
      have d5 : r.tmod 60 = r % 60 := Int.tmod_eq_emod_of_nonneg r0
      have d6 : x.tdiv 86400 = x / 86400 := Int.tdiv_eq_ediv_of_nonneg a0
      have f1 : wrap64 (r / 3600) = r / 3600 := by unfold wrap64; omega
      have g1 : IntKind.i64.wrap (r / 3600) = r / 3600 := by rw [IntKind.wrap_i64]; omega
      have f2 : wrap64 (r % 3600 / 60) = r % 3600 / 60 := by unfold wrap64; omega
      have g2 : IntKind.i64.wrap (r % 3600 / 60) = r % 3600 / 60 := by rw [IntKind.wrap_i64]; omega
      have f3 : wrap64 (x / 86400) = x / 86400 := by unfold wrap64; omega
      have g3 : IntKind.i64.wrap (x / 86400) = x / 86400 := by rw [IntKind.wrap_i64]; omega
      rw [← hr]
      clear hr hx hG hP1 hP2 hP3 hP4 MS0 h ht n1 n2 a0 a1 r0 r1 k e0
      have SP := Lib.hid SP0
      clear SP0
      by_cases q : u2 = { data := #[] }
      · have RES := Lib.hid (RES1 q)
        clear RES1 RES2
        have q2 : u2.toList.isEmpty = true := by rw [q]; exact str_empty
        clear q
        go_enter Tryd.func15, Tryd.ntmps15
        go_wp2_with fail
        refine (MS.out _).mono ?_
        rintro e w1 ⟨rfl, hb⟩
        have B : Below w.heap.size w w1 := bstep (by go_grown) hb
        clear hb MS
        go_wp2_with fail
        refine (SP.out _).mono ?_
        rintro e w2 ⟨rfl, hb⟩
        replace B := bstep B hb
        clear hb SP
        go_wp2_with fail
        refine (CP1.out _ (HT.out.below B)).mono ?_
        rintro e w3 ⟨rfl, hb⟩
        replace B := bstep B hb
        clear hb CP1
        go_wp2_with fail
        refine (CP2.out _ (HT.out.below B)).mono ?_
        rintro e w4 ⟨rfl, hb⟩
        replace B := bstep B hb
        clear hb CP2
        go_wp2_with fail
        refine (CP3.out _ (HT.out.below B)).mono ?_
        rintro e w5 ⟨rfl, hb⟩
        replace B := bstep B hb
        clear hb CP3
        go_wp2_with fail
        refine (CP4.out _ (HT.out.below B)).mono ?_
        rintro e w6 ⟨rfl, hb⟩
        replace B := bstep B hb
        clear hb CP4
        go_wp2
        go_ret
        exact ⟨congrArg (fun z => Ending.returned (.string z)) RES.out, B⟩
      · have RES := Lib.hid (RES2 q)
        clear RES1 RES2
        have q2 : u2.toList.isEmpty = false := str_some q
        clear q
        go_enter Tryd.func15, Tryd.ntmps15
        go_wp2_with fail
        refine (MS.out _).mono ?_
        rintro e w1 ⟨rfl, hb⟩
        have B : Below w.heap.size w w1 := bstep (by go_grown) hb
        clear hb MS
        go_wp2_with fail
        refine (SP.out _).mono ?_
        rintro e w2 ⟨rfl, hb⟩
        replace B := bstep B hb
        clear hb SP
        go_wp2_with fail
        refine (CP1.out _ (HT.out.below B)).mono ?_
        rintro e w3 ⟨rfl, hb⟩
        replace B := bstep B hb
        clear hb CP1
        go_wp2_with fail
        refine (CP2.out _ (HT.out.below B)).mono ?_
        rintro e w4 ⟨rfl, hb⟩
        replace B := bstep B hb
        clear hb CP2
        go_wp2_with fail
        refine (CP3.out _ (HT.out.below B)).mono ?_
        rintro e w5 ⟨rfl, hb⟩
        replace B := bstep B hb
        clear hb CP3
        go_wp2_with fail
        refine (CP4.out _ (HT.out.below B)).mono ?_
        rintro e w6 ⟨rfl, hb⟩
        replace B := bstep B hb
        clear hb CP4
        go_wp2
        go_ret
        exact ⟨congrArg (fun z => Ending.returned (.string z)) RES.out, B⟩
set_option linter.unusedSimpArgs false in
set_option linter.unusedVariables false in
set_option maxRecDepth 100000 in
set_option maxHeartbeats 4000000 in
theorem months_any (n : Int) (w : World) (ht : Tab2 w) : Calls Tryd.prog 16 #[.int .i64 n] w (Ret (.string (monthsS n)) w) := by
  have HT := Lib.hid ht
  have MS0 := maySpan_any n
  unfold monthsS
  cases h : mayL n
  · rw [h] at MS0
    have MS := Lib.hid MS0
    clear MS0 h ht
    rw [if_pos rfl]
    go_enter Tryd.func16, Tryd.ntmps16
    go_wp2_with fail
    refine (MS.out _).mono ?_
    rintro e w1 ⟨rfl, hb⟩
    have B : Below w.heap.size w w1 := bstep (by go_grown) hb
    clear hb MS
    go_wp2
    go_ret
    exact ⟨rfl, B⟩
  · rw [h] at MS0
    have MS := Lib.hid MS0
    rw [if_neg (by decide)]
    by_cases k : n = 0
    · subst k
      rw [if_pos rfl]
      have t0 : ((0 : Int) == 0) = true := rfl
      clear MS0 h ht
      go_enter Tryd.func16, Tryd.ntmps16
      go_wp2_with fail
      refine (MS.out _).mono ?_
      rintro e w1 ⟨rfl, hb⟩
      have B : Below w.heap.size w w1 := bstep (by go_grown) hb
      clear hb MS
      go_wp2
      go_ret
      exact ⟨rfl, B⟩
    · rw [if_neg k]
      have t0 : (n == 0) = false := by simpa using k
      obtain ⟨n1, n2⟩ := mayL_of.1 h
      have a0 := abs_nonneg n
      have a1 := abs_le (m := 9007199254740992) n1 n2
      have SP0 := split_any n (by omega) (by omega)
      obtain ⟨G, hG⟩ : ∃ zz : ByteArray, zz = sgS n := ⟨_, rfl⟩
      have sG : G.size ≤ 1 := by rw [hG]; exact sg_size n
      rw [← hG] at SP0
      obtain ⟨x, hx⟩ : ∃ x, x = absI n := ⟨_, rfl⟩
      rw [← hx] at SP0 a0 a1 ⊢
      obtain ⟨P1, hP1⟩ : ∃ zz : ByteArray, zz = partS (x / 12) { data := #[89] } := ⟨_, rfl⟩
      have sP1 : P1.size ≤ 40 := by rw [hP1]; exact part_size (by unfold I64; omega) (by decide)
      have CP1 := Lib.hid (show ∀ w, Tab2 w → Calls Tryd.prog 40 #[.int .i64 (x / 12), .string { data := #[89] }] w (Ret (.string P1) w) from fun w a => by rw [hP1]; exact part_any (x / 12) (by unfold I64; omega) { data := #[89] } (by decide) w a)
      obtain ⟨P2, hP2⟩ : ∃ zz : ByteArray, zz = partS (x % 12) { data := #[77] } := ⟨_, rfl⟩
      have sP2 : P2.size ≤ 40 := by rw [hP2]; exact part_size (by unfold I64; omega) (by decide)
      have CP2 := Lib.hid (show ∀ w, Tab2 w → Calls Tryd.prog 40 #[.int .i64 (x % 12), .string { data := #[77] }] w (Ret (.string P2) w) from fun w a => by rw [hP2]; exact part_any (x % 12) (by unfold I64; omega) { data := #[77] } (by decide) w a)
      obtain ⟨v1, ev1⟩ : ∃ zz : ByteArray, G ++ ({ data := #[80] } : ByteArray) = zz := ⟨_, rfl⟩
      have sv1 : v1.size ≤ 2 := by rw [← ev1]; exact size_le (a := 1) (b := 1) sG (by decide) (by decide)
      obtain ⟨v2, ev2⟩ : ∃ zz : ByteArray, v1 ++ P1 = zz := ⟨_, rfl⟩
      have sv2 : v2.size ≤ 42 := by rw [← ev2]; exact size_le (a := 2) (b := 40) sv1 sP1 (by decide)
      obtain ⟨v3, ev3⟩ : ∃ zz : ByteArray, v2 ++ P2 = zz := ⟨_, rfl⟩
      have sv3 : v3.size ≤ 82 := by rw [← ev3]; exact size_le (a := 42) (b := 40) sv2 sP2 (by decide)
      have RES := Lib.hid (show v3 = sgS n ++ { data := #[80] } ++ partS (x / 12) { data := #[89] } ++ partS (x % 12) { data := #[77] } from by rw [← ev3, ← ev2, ← ev1, hG, hP1, hP2])
      have d1 : x.tmod 12 = x % 12 := Int.tmod_eq_emod_of_nonneg a0
      have d6 : x.tdiv 12 = x / 12 := Int.tdiv_eq_ediv_of_nonneg a0
      have f3 : wrap64 (x / 12) = x / 12 := by unfold wrap64; omega
      have g3 : IntKind.i64.wrap (x / 12) = x / 12 := by rw [IntKind.wrap_i64]; omega
      clear hx hG hP1 hP2 MS0 h ht n1 n2 a0 a1 k
      have SP := Lib.hid SP0
      clear SP0
      go_enter Tryd.func16, Tryd.ntmps16
      go_wp2_with fail
      refine (MS.out _).mono ?_
      rintro e w1 ⟨rfl, hb⟩
      have B : Below w.heap.size w w1 := bstep (by go_grown) hb
      clear hb MS
      go_wp2_with fail
      refine (SP.out _).mono ?_
      rintro e w2 ⟨rfl, hb⟩
      replace B := bstep B hb
      clear hb SP
      go_wp2_with fail
      refine (CP1.out _ (HT.out.below B)).mono ?_
      rintro e w3 ⟨rfl, hb⟩
      replace B := bstep B hb
      clear hb CP1
      go_wp2_with fail
      refine (CP2.out _ (HT.out.below B)).mono ?_
      rintro e w4 ⟨rfl, hb⟩
      replace B := bstep B hb
      clear hb CP2
      go_wp2
      go_ret
      exact ⟨congrArg (fun z => Ending.returned (.string z)) RES.out, B⟩
end Go.Proofs.YthgondbiddncpaaDoor

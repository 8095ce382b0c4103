/-
  The statement LexicalTells, walked: it answers true.
-/
import Derived.Test.YthgondbiddncpaaDoorYj
namespace Go.Proofs.YthgondbiddncpaaDoor
open Go.RowKit

/-- What the statement says of a duration that may be: its days' text, its months'. -/
theorem days_form {n : Int} (h : mayL n = true) (k : n ≠ 0) : daysS n = sgS n ++ { data := #[80] } ++ partS (absI n / 86400) { data := #[68] } ++ restT (absI n % 86400) := by
  unfold daysS
  rw [if_neg (by rw [h]; decide), if_neg k]
theorem months_form {n : Int} (h : mayL n = true) (k : n ≠ 0) : monthsS n = sgS n ++ { data := #[80] } ++ partS (absI n / 12) { data := #[89] } ++ partS (absI n % 12) { data := #[77] } := by
  unfold monthsS
  rw [if_neg (by rw [h]; decide), if_neg k]
theorem rest_form {k : Int} (_ : 0 ≤ k) : restS (k % 86400) = partS (k % 86400 / 3600) { data := #[72] } ++ partS (k % 3600 / 60) { data := #[77] } ++ partS (k % 60) { data := #[83] } := by
  unfold restS
  rw [show k % 86400 % 3600 = k % 3600 by omega, show k % 86400 % 60 = k % 60 by omega]
theorem keepN1 {V w' : World} {g1 : Nat} {y m d s o : Int} {z : Bool} (H3 : HoldsN V g1 y m d s z o) (B : Below V.heap.size V w') : w'.cell? ⟨g1, 0, none⟩ = some (.int .i64 y) ∧ w'.cell? ⟨g1, 1, none⟩ = some (.int .i64 m) ∧ w'.cell? ⟨g1, 2, none⟩ = some (.int .i64 d) ∧ w'.cell? ⟨g1, 3, none⟩ = some (.int .i64 s) ∧ w'.cell? ⟨g1, 4, none⟩ = some (.bool z) ∧ w'.cell? ⟨g1, 5, none⟩ = some (.int .i64 o) ∧ Below V.heap.size V w' := by
  obtain ⟨⟨c1, c2, c3, c4, c5, c6⟩, -, -⟩ := H3.below B
  exact ⟨c1, c2, c3, c4, c5, c6, B⟩
set_option linter.unusedSimpArgs false in
set_option linter.unusedVariables false in
set_option maxRecDepth 100000 in
set_option maxHeartbeats 80000000 in
theorem lexicalTells_walk (y m d s o : Int) (z : Bool) (n : Int) (w : World) (ht : Tab2 w) : Calls Tryd.prog 3 #[Rw y m d s o z, .int .i64 n] w (Ret (.bool true) w) := by
  have HT := Lib.hid ht
  have AW := Lib.hid awake9
  have MK0 := make8_any y m d s o z
  have GD := make_day y m d
  have GM := makeM_may s z o
  generalize mkD d (lenI (y.tmod 1000000000) (mkM m)) = E at *
  generalize y.tmod 1000000000 = Y at *
  generalize mkM m = M at *
  generalize s % 86400 = A at *
  generalize offM z o = O at *
  have GN := mayN_of GD GM
  have DA0 := date_any Y M E
  have DR0 := dateR_any Y M E (may_day.2 GD)
  have TA0 := time_any A z O
  have TR0 := timeR_any A z O GM
  have NA0 := moment_any Y M E A z O
  have sP : (dateT Y M E).size ≤ 303 := date_size Y M E
  have sQ : (timeT A z O).size ≤ 650 := time_size A z O
  have eN : momT Y M E A z O = dateT Y M E ++ { data := #[84] } ++ timeT A z O := by unfold momT; rw [if_pos GN]
  rw [eN] at NA0
  rw [show dateS Y M E = dateT Y M E by unfold dateT; rw [if_pos (may_day.2 GD)]] at DR0
  rw [show timeS A z O = timeT A z O by unfold timeT; rw [if_pos GM]] at TR0
  generalize dateT Y M E = P at *
  generalize timeT A z O = Q at *
  obtain ⟨u1, eu1⟩ : ∃ q : ByteArray, P ++ { data := #[84] } = q := ⟨_, rfl⟩
  have su1 : u1.size ≤ 304 := by rw [← eu1]; exact size_le (a := 303) (b := 1) sP (by decide) (by decide)
  obtain ⟨u2, eu2⟩ : ∃ q : ByteArray, u1 ++ Q = q := ⟨_, rfl⟩
  have su2 : u2.size ≤ 954 := by rw [← eu2]; exact size_le (a := 304) (b := 650) su1 sQ (by decide)
  rw [eu1, eu2] at NA0
  have MK := Lib.hid MK0
  have DA := Lib.hid DA0
  have DR := Lib.hid DR0
  have TA := Lib.hid TA0
  have TR := Lib.hid TR0
  have NA := Lib.hid NA0
  clear MK0 DA0 DR0 TA0 TR0 NA0 GD GM GN eN ht
  by_cases k1 : n < -9007199254740992
  · have t1 : decide (n < -9007199254740992) = true := decide_eq_true k1
    have ML : mayL n = false := by
      cases h : mayL n
      · rfl
      · have := mayL_of.1 h; omega
    have CD := Lib.hid (show ∀ w, Tab2 w → Calls Tryd.prog 15 #[.int .i64 n] w (Ret (.string { data := #[] }) w) from fun w a => by have e := days_any n w a; rw [show daysS n = { data := #[] } by unfold daysS; rw [if_pos ML]] at e; exact e)
    have CM := Lib.hid (show ∀ w, Tab2 w → Calls Tryd.prog 16 #[.int .i64 n] w (Ret (.string { data := #[] }) w) from fun w a => by have e := months_any n w a; rw [show monthsS n = { data := #[] } by unfold monthsS; rw [if_pos ML]] at e; exact e)
    clear k1 ML
    go_enter Tryd.func3, Tryd.ntmps3
    go_upto_region 1 with fail
    have PR := Lib.hid (HoldsR.new rfl : HoldsR (w.alloc (RwC y m d s o z)) w.heap.size y m d s o z)
    have B := ballD1 (Below.refl w.heap.size w) (RwC y m d s o z)
    change Code.wp _ _ _ _ (w.alloc (RwC y m d s o z))
    generalize (w.alloc (RwC y m d s o z)) = w0 at *
    obtain ⟨⟨c0_0, c0_1, c0_2, c0_3, c0_4, c0_5⟩, -, c0z⟩ := PR.out
    go_wp2_with fail
    refine (AW.out _ (HT.out.below B)).mono ?_
    rintro e w1 ⟨rfl, hb⟩
    replace PR := Lib.hid (PR.out.below hb)
    replace B := bstep B hb
    clear hb AW
    clear c0_0 c0_1 c0_2 c0_3 c0_4 c0_5 c0z
    obtain ⟨⟨c0_0, c0_1, c0_2, c0_3, c0_4, c0_5⟩, -, c0z⟩ := PR.out
    go_wp2_with fail
    refine (MK.out _).mono ?_
    rintro e w2 ⟨rfl, hb⟩
    replace PR := Lib.hid (PR.out.below hb)
    replace B := bstep B hb
    clear hb MK
    clear c0_0 c0_1 c0_2 c0_3 c0_4 c0_5 c0z
    replace PR := Lib.hid (PR.out.alloc (MoC Y M E A z O))
    have PM := Lib.hid (HoldsN.new rfl : HoldsN (w2.alloc (MoC Y M E A z O)) w2.heap.size Y M E A z O)
    replace B := ballD1 B (MoC Y M E A z O)
    go_upto_region 4 with fail
    change Code.wp _ _ _ _ (w2.alloc (MoC Y M E A z O))
    generalize w2.alloc (MoC Y M E A z O) = w3 at *
    obtain ⟨gPM, hg⟩ : ∃ g, g = w2.heap.size := ⟨_, rfl⟩
    rw [← hg] at PM ⊢
    clear hg
    clear PR
    go_upto_region 4 with fail
    generalize w3 = V at *
    refine wp_region_held_drew (S := fun w' => w'.cell? ⟨gPM, 0, none⟩ = some (.int .i64 Y) ∧ w'.cell? ⟨gPM, 1, none⟩ = some (.int .i64 M) ∧ w'.cell? ⟨gPM, 2, none⟩ = some (.int .i64 E) ∧ w'.cell? ⟨gPM, 3, none⟩ = some (.int .i64 A) ∧ w'.cell? ⟨gPM, 4, none⟩ = some (.bool z) ∧ w'.cell? ⟨gPM, 5, none⟩ = some (.int .i64 O) ∧ Below V.heap.size V w') (by kernel_rfl) ?_ (fun hHeld => ?_)
    · exact keepN1 PM.out (Below.refl _ _).drew
    refine wpAnyH_take (i := 0) (oi := { dst := some 15, op := Go.Op.fieldAddr 30 (Go.Operand.tmp 5) 0, type := 0, pos := "law.go:80", after := #[], guard := none }) (v := ?_) rfl (by kernel_rfl) (by kernel_rfl) (by kernel_rfl) (fun _ _ _ h => h) (Or.inl ⟨by rfl, ?_⟩) (by assumption) ?_
    rotate_left
    · intro w hSw
      try dsimp only at hSw
      go_simp
      try (rw [if_neg (by omega)])
      try with_reducible rfl
    try simp only [Act.put, List.setIfInBounds_toArray, List.set_cons_zero, List.set_cons_succ]
    refine wpAnyH_take (i := 3) (oi := { dst := some 18, op := Go.Op.fieldAddr 30 (Go.Operand.tmp 5) 0, type := 0, pos := "law.go:80", after := #[], guard := none }) (v := ?_) rfl (by kernel_rfl) (by kernel_rfl) (by kernel_rfl) (fun _ _ _ h => h) (Or.inl ⟨by rfl, ?_⟩) (by assumption) ?_
    rotate_left
    · intro w hSw
      try dsimp only at hSw
      go_simp
      try (rw [if_neg (by omega)])
      try with_reducible rfl
    try simp only [Act.put, List.setIfInBounds_toArray, List.set_cons_zero, List.set_cons_succ]
    refine wpAnyH_take (i := 1) (oi := { dst := some 16, op := Go.Op.load 26 (Go.Operand.tmp 15), type := 26, pos := "law.go:80", after := #[{ on := 0, ground := Go.Ground.data }], guard := none }) (v := ?_) rfl (by kernel_rfl) (by kernel_rfl) (by kernel_rfl) (fun _ _ _ h => h) (Or.inl ⟨by rfl, ?_⟩) (by assumption) ?_
    rotate_left
    · intro w hSw
      try dsimp only at hSw
      go_simp
      try (rw [if_neg (by omega)])
      try with_reducible rfl
    try simp only [Act.put, List.setIfInBounds_toArray, List.set_cons_zero, List.set_cons_succ]
    refine wpAnyH_take (i := 4) (oi := { dst := some 19, op := Go.Op.load 26 (Go.Operand.tmp 18), type := 26, pos := "law.go:80", after := #[{ on := 3, ground := Go.Ground.data }], guard := none }) (v := ?_) rfl (by kernel_rfl) (by kernel_rfl) (by kernel_rfl) (fun _ _ _ h => h) (Or.inl ⟨by rfl, ?_⟩) (by assumption) ?_
    rotate_left
    · intro w hSw
      try dsimp only at hSw
      go_simp
      try (rw [if_neg (by omega)])
      try with_reducible rfl
    try simp only [Act.put, List.setIfInBounds_toArray, List.set_cons_zero, List.set_cons_succ]
    refine wpAnyH_ready (rs := [2]) (by kernel_rfl) (by simp) ?_
    refine AllReadyH.cons (o := { dst := some 17, op := Go.Op.call { callee := Go.Callee.value (Go.Operand.func 10), args := #[Go.Operand.tmp 16], argTypes := #[26] }, type := 9, pos := "law.go:80", after := #[{ on := 1, ground := Go.Ground.data }], guard := none }) rfl (fun K hK => ?_) AllReadyH.nil
    go_simp
    refine (DA.out _ (HT.out.below (bstep B hHeld.2.2.2.2.2.2))).mono ?_
    rintro e v1 ⟨rfl, hb1⟩
    have HBx := Lib.hid (bstep hHeld.2.2.2.2.2.2 hb1)
    clear hHeld hb1
    refine hK.out _ _ ?_ (fun hHeld => ?_)
    · exact keepN1 PM.out HBx.out
    clear hK K HBx
    try simp only [Act.put, List.setIfInBounds_toArray, List.set_cons_zero, List.set_cons_succ]
    refine wpAnyH_ready (rs := [5]) (by kernel_rfl) (by simp) ?_
    refine AllReadyH.cons (o := { dst := some 20, op := Go.Op.call { callee := Go.Callee.value (Go.Operand.func 11), args := #[Go.Operand.tmp 19], argTypes := #[26] }, type := 9, pos := "law.go:80", after := #[{ on := 4, ground := Go.Ground.data }, { on := 2, ground := Go.Ground.chain }], guard := none }) rfl (fun K hK => ?_) AllReadyH.nil
    go_simp
    refine (DR.out _).mono ?_
    rintro e v2 ⟨rfl, hb2⟩
    have HBx := Lib.hid (bstep hHeld.2.2.2.2.2.2 hb2)
    clear hHeld hb2
    refine hK.out _ _ ?_ (fun hHeld => ?_)
    · exact keepN1 PM.out HBx.out
    clear hK K HBx
    try simp only [Act.put, List.setIfInBounds_toArray, List.set_cons_zero, List.set_cons_succ]
    refine wpAnyH_take (i := 6) (oi := { dst := some 21, op := Go.Op.binOp Go.BinOp.neq 9 (Go.Operand.tmp 17) (Go.Operand.tmp 20) 9, type := 4, pos := "law.go:80", after := #[{ on := 2, ground := Go.Ground.data }, { on := 5, ground := Go.Ground.data }], guard := none }) (v := ?_) rfl (by kernel_rfl) (by kernel_rfl) (by kernel_rfl) (fun _ _ _ h => h) (Or.inl ⟨by rfl, ?_⟩) (by assumption) ?_
    rotate_left
    · intro w hSw
      try dsimp only at hSw
      go_simp
      try (rw [if_neg (by omega)])
      try with_reducible rfl
    try simp only [Act.put, List.setIfInBounds_toArray, List.set_cons_zero, List.set_cons_succ]
    refine wpAnyH_take (i := 7) (oi := { dst := some 22, op := Go.Op.move (Go.Operand.tmp 21), type := 4, pos := "law.go:80", after := #[{ on := 6, ground := Go.Ground.data }, { on := 5, ground := Go.Ground.chain }], guard := none }) (v := ?_) rfl (by kernel_rfl) (by kernel_rfl) (by kernel_rfl) (fun _ _ _ h => h) (Or.inl ⟨by rfl, ?_⟩) (by assumption) ?_
    rotate_left
    · intro w hSw
      try dsimp only at hSw
      go_simp
      try (rw [if_neg (by omega)])
      try with_reducible rfl
    try simp only [Act.put, List.setIfInBounds_toArray, List.set_cons_zero, List.set_cons_succ]
    refine wpAnyH_take (i := 8) (oi := { dst := some 23, op := Go.Op.fieldAddr 30 (Go.Operand.tmp 5) 1, type := 0, pos := "law.go:80", after := #[{ on := 7, ground := Go.Ground.guard }], guard := some (7, false) }) (v := ?_) rfl (by kernel_rfl) (by kernel_rfl) (by kernel_rfl) (fun _ _ _ h => h) (Or.inl ⟨by rfl, ?_⟩) (by assumption) ?_
    rotate_left
    · intro w hSw
      try dsimp only at hSw
      go_simp
      try (rw [if_neg (by omega)])
      try with_reducible rfl
    try simp only [Act.put, List.setIfInBounds_toArray, List.set_cons_zero, List.set_cons_succ]
    refine wpAnyH_take (i := 11) (oi := { dst := some 26, op := Go.Op.fieldAddr 30 (Go.Operand.tmp 5) 1, type := 0, pos := "law.go:80", after := #[{ on := 7, ground := Go.Ground.guard }], guard := some (7, false) }) (v := ?_) rfl (by kernel_rfl) (by kernel_rfl) (by kernel_rfl) (fun _ _ _ h => h) (Or.inl ⟨by rfl, ?_⟩) (by assumption) ?_
    rotate_left
    · intro w hSw
      try dsimp only at hSw
      go_simp
      try (rw [if_neg (by omega)])
      try with_reducible rfl
    try simp only [Act.put, List.setIfInBounds_toArray, List.set_cons_zero, List.set_cons_succ]
    refine wpAnyH_take (i := 9) (oi := { dst := some 24, op := Go.Op.load 28 (Go.Operand.tmp 23), type := 28, pos := "law.go:80", after := #[{ on := 8, ground := Go.Ground.data }, { on := 7, ground := Go.Ground.guard }], guard := some (7, false) }) (v := ?_) rfl (by kernel_rfl) (by kernel_rfl) (by kernel_rfl) (fun _ _ _ h => h) (Or.inl ⟨by rfl, ?_⟩) (by assumption) ?_
    rotate_left
    · intro w hSw
      try dsimp only at hSw
      go_simp
      try (rw [if_neg (by omega)])
      try with_reducible rfl
    try simp only [Act.put, List.setIfInBounds_toArray, List.set_cons_zero, List.set_cons_succ]
    refine wpAnyH_take (i := 12) (oi := { dst := some 27, op := Go.Op.load 28 (Go.Operand.tmp 26), type := 28, pos := "law.go:80", after := #[{ on := 11, ground := Go.Ground.data }, { on := 7, ground := Go.Ground.guard }], guard := some (7, false) }) (v := ?_) rfl (by kernel_rfl) (by kernel_rfl) (by kernel_rfl) (fun _ _ _ h => h) (Or.inl ⟨by rfl, ?_⟩) (by assumption) ?_
    rotate_left
    · intro w hSw
      try dsimp only at hSw
      go_simp
      try (rw [if_neg (by omega)])
      try with_reducible rfl
    try simp only [Act.put, List.setIfInBounds_toArray, List.set_cons_zero, List.set_cons_succ]
    refine wpAnyH_ready (rs := [10]) (by kernel_rfl) (by simp) ?_
    refine AllReadyH.cons (o := { dst := some 25, op := Go.Op.call { callee := Go.Callee.value (Go.Operand.func 12), args := #[Go.Operand.tmp 24], argTypes := #[28] }, type := 9, pos := "law.go:80", after := #[{ on := 9, ground := Go.Ground.data }, { on := 7, ground := Go.Ground.chain }, { on := 7, ground := Go.Ground.guard }], guard := some (7, false) }) rfl (fun K hK => ?_) AllReadyH.nil
    go_simp
    refine (TA.out _ (HT.out.below (bstep B hHeld.2.2.2.2.2.2))).mono ?_
    rintro e v3 ⟨rfl, hb3⟩
    have HBx := Lib.hid (bstep hHeld.2.2.2.2.2.2 hb3)
    clear hHeld hb3
    refine hK.out _ _ ?_ (fun hHeld => ?_)
    · exact keepN1 PM.out HBx.out
    clear hK K HBx
    try simp only [Act.put, List.setIfInBounds_toArray, List.set_cons_zero, List.set_cons_succ]
    refine wpAnyH_ready (rs := [13]) (by kernel_rfl) (by simp) ?_
    refine AllReadyH.cons (o := { dst := some 28, op := Go.Op.call { callee := Go.Callee.value (Go.Operand.func 13), args := #[Go.Operand.tmp 27], argTypes := #[28] }, type := 9, pos := "law.go:80", after := #[{ on := 12, ground := Go.Ground.data }, { on := 10, ground := Go.Ground.chain }, { on := 7, ground := Go.Ground.guard }], guard := some (7, false) }) rfl (fun K hK => ?_) AllReadyH.nil
    go_simp
    refine (TR.out _).mono ?_
    rintro e v4 ⟨rfl, hb4⟩
    have HBx := Lib.hid (bstep hHeld.2.2.2.2.2.2 hb4)
    clear hHeld hb4
    refine hK.out _ _ ?_ (fun hHeld => ?_)
    · exact keepN1 PM.out HBx.out
    clear hK K HBx
    try simp only [Act.put, List.setIfInBounds_toArray, List.set_cons_zero, List.set_cons_succ]
    refine wpAnyH_take (i := 14) (oi := { dst := some 29, op := Go.Op.binOp Go.BinOp.neq 9 (Go.Operand.tmp 25) (Go.Operand.tmp 28) 9, type := 4, pos := "law.go:80", after := #[{ on := 10, ground := Go.Ground.data }, { on := 13, ground := Go.Ground.data }, { on := 7, ground := Go.Ground.guard }], guard := some (7, false) }) (v := ?_) rfl (by kernel_rfl) (by kernel_rfl) (by kernel_rfl) (fun _ _ _ h => h) (Or.inl ⟨by rfl, ?_⟩) (by assumption) ?_
    rotate_left
    · intro w hSw
      try dsimp only at hSw
      go_simp
      try (rw [if_neg (by omega)])
      try with_reducible rfl
    try simp only [Act.put, List.setIfInBounds_toArray, List.set_cons_zero, List.set_cons_succ]
    refine wpAnyH_take (i := 15) (oi := { dst := some 30, op := Go.Op.pick (Go.Operand.tmp 22) (Go.Operand.const (Go.Value.bool true)) (Go.Operand.tmp 29), type := 4, pos := "law.go:80", after := #[{ on := 7, ground := Go.Ground.data }, { on := 14, ground := Go.Ground.data }], guard := none }) (v := ?_) rfl (by kernel_rfl) (by kernel_rfl) (by kernel_rfl) (fun _ _ _ h => h) (Or.inl ⟨by rfl, ?_⟩) (by assumption) ?_
    rotate_left
    · intro w hSw
      try dsimp only at hSw
      go_simp
      try (rw [if_neg (by omega)])
      try with_reducible rfl
    try simp only [Act.put, List.setIfInBounds_toArray, List.set_cons_zero, List.set_cons_succ]
    refine wpAnyH_take (i := 16) (oi := { dst := some 31, op := Go.Op.move (Go.Operand.tmp 30), type := 4, pos := "law.go:80", after := #[{ on := 15, ground := Go.Ground.data }, { on := 13, ground := Go.Ground.chain }], guard := none }) (v := ?_) rfl (by kernel_rfl) (by kernel_rfl) (by kernel_rfl) (fun _ _ _ h => h) (Or.inl ⟨by rfl, ?_⟩) (by assumption) ?_
    rotate_left
    · intro w hSw
      try dsimp only at hSw
      go_simp
      try (rw [if_neg (by omega)])
      try with_reducible rfl
    try simp only [Act.put, List.setIfInBounds_toArray, List.set_cons_zero, List.set_cons_succ]
    refine wpAnyH_take (i := 17) (oi := { dst := some 32, op := Go.Op.load 30 (Go.Operand.tmp 5), type := 30, pos := "law.go:80", after := #[{ on := 16, ground := Go.Ground.guard }], guard := some (16, false) }) (v := ?_) rfl (by kernel_rfl) (by kernel_rfl) (by kernel_rfl) (fun _ _ _ h => h) (Or.inl ⟨by rfl, ?_⟩) (by assumption) ?_
    rotate_left
    · intro w hSw
      try dsimp only at hSw
      go_simp
      try (rw [if_neg (by omega)])
      try with_reducible rfl
    try simp only [Act.put, List.setIfInBounds_toArray, List.set_cons_zero, List.set_cons_succ]
    refine wpAnyH_take (i := 19) (oi := { dst := some 34, op := Go.Op.fieldAddr 30 (Go.Operand.tmp 5) 0, type := 0, pos := "law.go:80", after := #[{ on := 16, ground := Go.Ground.guard }], guard := some (16, false) }) (v := ?_) rfl (by kernel_rfl) (by kernel_rfl) (by kernel_rfl) (fun _ _ _ h => h) (Or.inl ⟨by rfl, ?_⟩) (by assumption) ?_
    rotate_left
    · intro w hSw
      try dsimp only at hSw
      go_simp
      try (rw [if_neg (by omega)])
      try with_reducible rfl
    try simp only [Act.put, List.setIfInBounds_toArray, List.set_cons_zero, List.set_cons_succ]
    refine wpAnyH_take (i := 23) (oi := { dst := some 38, op := Go.Op.fieldAddr 30 (Go.Operand.tmp 5) 1, type := 0, pos := "law.go:80", after := #[{ on := 16, ground := Go.Ground.guard }], guard := some (16, false) }) (v := ?_) rfl (by kernel_rfl) (by kernel_rfl) (by kernel_rfl) (fun _ _ _ h => h) (Or.inl ⟨by rfl, ?_⟩) (by assumption) ?_
    rotate_left
    · intro w hSw
      try dsimp only at hSw
      go_simp
      try (rw [if_neg (by omega)])
      try with_reducible rfl
    try simp only [Act.put, List.setIfInBounds_toArray, List.set_cons_zero, List.set_cons_succ]
    refine wpAnyH_take (i := 20) (oi := { dst := some 35, op := Go.Op.load 26 (Go.Operand.tmp 34), type := 26, pos := "law.go:80", after := #[{ on := 19, ground := Go.Ground.data }, { on := 16, ground := Go.Ground.guard }], guard := some (16, false) }) (v := ?_) rfl (by kernel_rfl) (by kernel_rfl) (by kernel_rfl) (fun _ _ _ h => h) (Or.inl ⟨by rfl, ?_⟩) (by assumption) ?_
    rotate_left
    · intro w hSw
      try dsimp only at hSw
      go_simp
      try (rw [if_neg (by omega)])
      try with_reducible rfl
    try simp only [Act.put, List.setIfInBounds_toArray, List.set_cons_zero, List.set_cons_succ]
    refine wpAnyH_take (i := 24) (oi := { dst := some 39, op := Go.Op.load 28 (Go.Operand.tmp 38), type := 28, pos := "law.go:80", after := #[{ on := 23, ground := Go.Ground.data }, { on := 16, ground := Go.Ground.guard }], guard := some (16, false) }) (v := ?_) rfl (by kernel_rfl) (by kernel_rfl) (by kernel_rfl) (fun _ _ _ h => h) (Or.inl ⟨by rfl, ?_⟩) (by assumption) ?_
    rotate_left
    · intro w hSw
      try dsimp only at hSw
      go_simp
      try (rw [if_neg (by omega)])
      try with_reducible rfl
    try simp only [Act.put, List.setIfInBounds_toArray, List.set_cons_zero, List.set_cons_succ]
    refine wpAnyH_ready (rs := [18]) (by kernel_rfl) (by simp) ?_
    refine AllReadyH.cons (o := { dst := some 33, op := Go.Op.call { callee := Go.Callee.value (Go.Operand.func 14), args := #[Go.Operand.tmp 32], argTypes := #[30] }, type := 9, pos := "law.go:80", after := #[{ on := 17, ground := Go.Ground.data }, { on := 16, ground := Go.Ground.chain }, { on := 16, ground := Go.Ground.guard }], guard := some (16, false) }) rfl (fun K hK => ?_) AllReadyH.nil
    go_simp
    refine (NA.out _ (HT.out.below (bstep B hHeld.2.2.2.2.2.2))).mono ?_
    rintro e v5 ⟨rfl, hb5⟩
    have HBx := Lib.hid (bstep hHeld.2.2.2.2.2.2 hb5)
    clear hHeld hb5
    refine hK.out _ _ ?_ (fun hHeld => ?_)
    · exact keepN1 PM.out HBx.out
    clear hK K HBx
    try simp only [Act.put, List.setIfInBounds_toArray, List.set_cons_zero, List.set_cons_succ]
    refine wpAnyH_ready (rs := [21]) (by kernel_rfl) (by simp) ?_
    refine AllReadyH.cons (o := { dst := some 36, op := Go.Op.call { callee := Go.Callee.value (Go.Operand.func 11), args := #[Go.Operand.tmp 35], argTypes := #[26] }, type := 9, pos := "law.go:80", after := #[{ on := 20, ground := Go.Ground.data }, { on := 18, ground := Go.Ground.chain }, { on := 16, ground := Go.Ground.guard }], guard := some (16, false) }) rfl (fun K hK => ?_) AllReadyH.nil
    go_simp
    refine (DR.out _).mono ?_
    rintro e v6 ⟨rfl, hb6⟩
    have HBx := Lib.hid (bstep hHeld.2.2.2.2.2.2 hb6)
    clear hHeld hb6
    refine hK.out _ _ ?_ (fun hHeld => ?_)
    · exact keepN1 PM.out HBx.out
    clear hK K HBx
    try simp only [Act.put, List.setIfInBounds_toArray, List.set_cons_zero, List.set_cons_succ]
    refine wpAnyH_take (i := 22) (oi := { dst := some 37, op := Go.Op.binOp Go.BinOp.add 9 (Go.Operand.tmp 36) (Go.Operand.const (Go.Value.string { data := #[84] })) 9, type := 9, pos := "law.go:80", after := #[{ on := 21, ground := Go.Ground.data }, { on := 16, ground := Go.Ground.guard }], guard := some (16, false) }) (v := ?_) rfl (by kernel_rfl) (by kernel_rfl) (by kernel_rfl) (fun _ _ _ h => h) (Or.inl ⟨by rfl, ?_⟩) (by assumption) ?_
    rotate_left
    · intro w hSw
      try dsimp only at hSw
      go_simp
      try (rw [if_neg (by omega)])
      try with_reducible rfl
    try simp only [Act.put, List.setIfInBounds_toArray, List.set_cons_zero, List.set_cons_succ]
    refine wpAnyH_ready (rs := [25]) (by kernel_rfl) (by simp) ?_
    refine AllReadyH.cons (o := { dst := some 40, op := Go.Op.call { callee := Go.Callee.value (Go.Operand.func 13), args := #[Go.Operand.tmp 39], argTypes := #[28] }, type := 9, pos := "law.go:80", after := #[{ on := 24, ground := Go.Ground.data }, { on := 21, ground := Go.Ground.chain }, { on := 16, ground := Go.Ground.guard }], guard := some (16, false) }) rfl (fun K hK => ?_) AllReadyH.nil
    go_simp
    refine (TR.out _).mono ?_
    rintro e v7 ⟨rfl, hb7⟩
    have HBx := Lib.hid (bstep hHeld.2.2.2.2.2.2 hb7)
    clear hHeld hb7
    refine hK.out _ _ ?_ (fun hHeld => ?_)
    · exact keepN1 PM.out HBx.out
    clear hK K HBx
    try simp only [Act.put, List.setIfInBounds_toArray, List.set_cons_zero, List.set_cons_succ]
    refine wpAnyH_take (i := 26) (oi := { dst := some 41, op := Go.Op.binOp Go.BinOp.add 9 (Go.Operand.tmp 37) (Go.Operand.tmp 40) 9, type := 9, pos := "law.go:80", after := #[{ on := 22, ground := Go.Ground.data }, { on := 25, ground := Go.Ground.data }, { on := 16, ground := Go.Ground.guard }], guard := some (16, false) }) (v := ?_) rfl (by kernel_rfl) (by kernel_rfl) (by kernel_rfl) (fun _ _ _ h => h) (Or.inl ⟨by rfl, ?_⟩) (by assumption) ?_
    rotate_left
    · intro w hSw
      try dsimp only at hSw
      go_simp
      try (rw [if_neg (by omega)])
      try with_reducible rfl
    try simp only [Act.put, List.setIfInBounds_toArray, List.set_cons_zero, List.set_cons_succ]
    refine wpAnyH_take (i := 27) (oi := { dst := some 42, op := Go.Op.binOp Go.BinOp.neq 9 (Go.Operand.tmp 33) (Go.Operand.tmp 41) 9, type := 4, pos := "law.go:80", after := #[{ on := 18, ground := Go.Ground.data }, { on := 26, ground := Go.Ground.data }, { on := 16, ground := Go.Ground.guard }], guard := some (16, false) }) (v := ?_) rfl (by kernel_rfl) (by kernel_rfl) (by kernel_rfl) (fun _ _ _ h => h) (Or.inl ⟨by rfl, ?_⟩) (by assumption) ?_
    rotate_left
    · intro w hSw
      try dsimp only at hSw
      go_simp
      try (rw [if_neg (by omega)])
      try with_reducible rfl
    try simp only [Act.put, List.setIfInBounds_toArray, List.set_cons_zero, List.set_cons_succ]
    refine wpAnyH_take (i := 28) (oi := { dst := some 43, op := Go.Op.pick (Go.Operand.tmp 31) (Go.Operand.const (Go.Value.bool true)) (Go.Operand.tmp 42), type := 4, pos := "law.go:80", after := #[{ on := 16, ground := Go.Ground.data }, { on := 27, ground := Go.Ground.data }], guard := none }) (v := ?_) rfl (by kernel_rfl) (by kernel_rfl) (by kernel_rfl) (fun _ _ _ h => h) (Or.inl ⟨by rfl, ?_⟩) (by assumption) ?_
    rotate_left
    · intro w hSw
      try dsimp only at hSw
      go_simp
      try (rw [if_neg (by omega)])
      try with_reducible rfl
    try simp only [Act.put, List.setIfInBounds_toArray, List.set_cons_zero, List.set_cons_succ]
    refine wpAnyH_done (by kernel_rfl) ?_ _
    replace B := bstep B hHeld.2.2.2.2.2.2
    clear hHeld PM DA DR TA TR NA
    go_wp2_with fail
    refine (CD.out _ (HT.out.below B)).mono ?_
    rintro e w4 ⟨rfl, hb⟩
    replace B := bstep B hb
    clear hb CD
    go_wp2_with fail
    refine (CM.out _ (HT.out.below B)).mono ?_
    rintro e w5 ⟨rfl, hb⟩
    replace B := bstep B hb
    clear hb CM
    go_wp2
    go_ret
    exact ⟨rfl, B⟩
  · by_cases k2 : 9007199254740992 < n
    · have t1 : decide (n < -9007199254740992) = false := decide_eq_false k1
      have t2 : decide (9007199254740992 < n) = true := decide_eq_true k2
      have ML : mayL n = false := by
        cases h : mayL n
        · rfl
        · have := mayL_of.1 h; omega
      have CD := Lib.hid (show ∀ w, Tab2 w → Calls Tryd.prog 15 #[.int .i64 n] w (Ret (.string { data := #[] }) w) from fun w a => by have e := days_any n w a; rw [show daysS n = { data := #[] } by unfold daysS; rw [if_pos ML]] at e; exact e)
      have CM := Lib.hid (show ∀ w, Tab2 w → Calls Tryd.prog 16 #[.int .i64 n] w (Ret (.string { data := #[] }) w) from fun w a => by have e := months_any n w a; rw [show monthsS n = { data := #[] } by unfold monthsS; rw [if_pos ML]] at e; exact e)
      clear k1 k2 ML
      go_enter Tryd.func3, Tryd.ntmps3
      go_upto_region 1 with fail
      have PR := Lib.hid (HoldsR.new rfl : HoldsR (w.alloc (RwC y m d s o z)) w.heap.size y m d s o z)
      have B := ballD1 (Below.refl w.heap.size w) (RwC y m d s o z)
      change Code.wp _ _ _ _ (w.alloc (RwC y m d s o z))
      generalize (w.alloc (RwC y m d s o z)) = w0 at *
      obtain ⟨⟨c0_0, c0_1, c0_2, c0_3, c0_4, c0_5⟩, -, c0z⟩ := PR.out
      go_wp2_with fail
      refine (AW.out _ (HT.out.below B)).mono ?_
      rintro e w1 ⟨rfl, hb⟩
      replace PR := Lib.hid (PR.out.below hb)
      replace B := bstep B hb
      clear hb AW
      clear c0_0 c0_1 c0_2 c0_3 c0_4 c0_5 c0z
      obtain ⟨⟨c0_0, c0_1, c0_2, c0_3, c0_4, c0_5⟩, -, c0z⟩ := PR.out
      go_wp2_with fail
      refine (MK.out _).mono ?_
      rintro e w2 ⟨rfl, hb⟩
      replace PR := Lib.hid (PR.out.below hb)
      replace B := bstep B hb
      clear hb MK
      clear c0_0 c0_1 c0_2 c0_3 c0_4 c0_5 c0z
      replace PR := Lib.hid (PR.out.alloc (MoC Y M E A z O))
      have PM := Lib.hid (HoldsN.new rfl : HoldsN (w2.alloc (MoC Y M E A z O)) w2.heap.size Y M E A z O)
      replace B := ballD1 B (MoC Y M E A z O)
      go_upto_region 4 with fail
      change Code.wp _ _ _ _ (w2.alloc (MoC Y M E A z O))
      generalize w2.alloc (MoC Y M E A z O) = w3 at *
      obtain ⟨gPM, hg⟩ : ∃ g, g = w2.heap.size := ⟨_, rfl⟩
      rw [← hg] at PM ⊢
      clear hg
      clear PR
      go_upto_region 4 with fail
      generalize w3 = V at *
      refine wp_region_held_drew (S := fun w' => w'.cell? ⟨gPM, 0, none⟩ = some (.int .i64 Y) ∧ w'.cell? ⟨gPM, 1, none⟩ = some (.int .i64 M) ∧ w'.cell? ⟨gPM, 2, none⟩ = some (.int .i64 E) ∧ w'.cell? ⟨gPM, 3, none⟩ = some (.int .i64 A) ∧ w'.cell? ⟨gPM, 4, none⟩ = some (.bool z) ∧ w'.cell? ⟨gPM, 5, none⟩ = some (.int .i64 O) ∧ Below V.heap.size V w') (by kernel_rfl) ?_ (fun hHeld => ?_)
      · exact keepN1 PM.out (Below.refl _ _).drew
      refine wpAnyH_take (i := 0) (oi := { dst := some 15, op := Go.Op.fieldAddr 30 (Go.Operand.tmp 5) 0, type := 0, pos := "law.go:80", after := #[], guard := none }) (v := ?_) rfl (by kernel_rfl) (by kernel_rfl) (by kernel_rfl) (fun _ _ _ h => h) (Or.inl ⟨by rfl, ?_⟩) (by assumption) ?_
      rotate_left
      · intro w hSw
        try dsimp only at hSw
        go_simp
        try (rw [if_neg (by omega)])
        try with_reducible rfl
      try simp only [Act.put, List.setIfInBounds_toArray, List.set_cons_zero, List.set_cons_succ]
      refine wpAnyH_take (i := 3) (oi := { dst := some 18, op := Go.Op.fieldAddr 30 (Go.Operand.tmp 5) 0, type := 0, pos := "law.go:80", after := #[], guard := none }) (v := ?_) rfl (by kernel_rfl) (by kernel_rfl) (by kernel_rfl) (fun _ _ _ h => h) (Or.inl ⟨by rfl, ?_⟩) (by assumption) ?_
      rotate_left
      · intro w hSw
        try dsimp only at hSw
        go_simp
        try (rw [if_neg (by omega)])
        try with_reducible rfl
      try simp only [Act.put, List.setIfInBounds_toArray, List.set_cons_zero, List.set_cons_succ]
      refine wpAnyH_take (i := 1) (oi := { dst := some 16, op := Go.Op.load 26 (Go.Operand.tmp 15), type := 26, pos := "law.go:80", after := #[{ on := 0, ground := Go.Ground.data }], guard := none }) (v := ?_) rfl (by kernel_rfl) (by kernel_rfl) (by kernel_rfl) (fun _ _ _ h => h) (Or.inl ⟨by rfl, ?_⟩) (by assumption) ?_
      rotate_left
      · intro w hSw
        try dsimp only at hSw
        go_simp
        try (rw [if_neg (by omega)])
        try with_reducible rfl
      try simp only [Act.put, List.setIfInBounds_toArray, List.set_cons_zero, List.set_cons_succ]
      refine wpAnyH_take (i := 4) (oi := { dst := some 19, op := Go.Op.load 26 (Go.Operand.tmp 18), type := 26, pos := "law.go:80", after := #[{ on := 3, ground := Go.Ground.data }], guard := none }) (v := ?_) rfl (by kernel_rfl) (by kernel_rfl) (by kernel_rfl) (fun _ _ _ h => h) (Or.inl ⟨by rfl, ?_⟩) (by assumption) ?_
      rotate_left
      · intro w hSw
        try dsimp only at hSw
        go_simp
        try (rw [if_neg (by omega)])
        try with_reducible rfl
      try simp only [Act.put, List.setIfInBounds_toArray, List.set_cons_zero, List.set_cons_succ]
      refine wpAnyH_ready (rs := [2]) (by kernel_rfl) (by simp) ?_
      refine AllReadyH.cons (o := { dst := some 17, op := Go.Op.call { callee := Go.Callee.value (Go.Operand.func 10), args := #[Go.Operand.tmp 16], argTypes := #[26] }, type := 9, pos := "law.go:80", after := #[{ on := 1, ground := Go.Ground.data }], guard := none }) rfl (fun K hK => ?_) AllReadyH.nil
      go_simp
      refine (DA.out _ (HT.out.below (bstep B hHeld.2.2.2.2.2.2))).mono ?_
      rintro e v1 ⟨rfl, hb1⟩
      have HBx := Lib.hid (bstep hHeld.2.2.2.2.2.2 hb1)
      clear hHeld hb1
      refine hK.out _ _ ?_ (fun hHeld => ?_)
      · exact keepN1 PM.out HBx.out
      clear hK K HBx
      try simp only [Act.put, List.setIfInBounds_toArray, List.set_cons_zero, List.set_cons_succ]
      refine wpAnyH_ready (rs := [5]) (by kernel_rfl) (by simp) ?_
      refine AllReadyH.cons (o := { dst := some 20, op := Go.Op.call { callee := Go.Callee.value (Go.Operand.func 11), args := #[Go.Operand.tmp 19], argTypes := #[26] }, type := 9, pos := "law.go:80", after := #[{ on := 4, ground := Go.Ground.data }, { on := 2, ground := Go.Ground.chain }], guard := none }) rfl (fun K hK => ?_) AllReadyH.nil
      go_simp
      refine (DR.out _).mono ?_
      rintro e v2 ⟨rfl, hb2⟩
      have HBx := Lib.hid (bstep hHeld.2.2.2.2.2.2 hb2)
      clear hHeld hb2
      refine hK.out _ _ ?_ (fun hHeld => ?_)
      · exact keepN1 PM.out HBx.out
      clear hK K HBx
      try simp only [Act.put, List.setIfInBounds_toArray, List.set_cons_zero, List.set_cons_succ]
      refine wpAnyH_take (i := 6) (oi := { dst := some 21, op := Go.Op.binOp Go.BinOp.neq 9 (Go.Operand.tmp 17) (Go.Operand.tmp 20) 9, type := 4, pos := "law.go:80", after := #[{ on := 2, ground := Go.Ground.data }, { on := 5, ground := Go.Ground.data }], guard := none }) (v := ?_) rfl (by kernel_rfl) (by kernel_rfl) (by kernel_rfl) (fun _ _ _ h => h) (Or.inl ⟨by rfl, ?_⟩) (by assumption) ?_
      rotate_left
      · intro w hSw
        try dsimp only at hSw
        go_simp
        try (rw [if_neg (by omega)])
        try with_reducible rfl
      try simp only [Act.put, List.setIfInBounds_toArray, List.set_cons_zero, List.set_cons_succ]
      refine wpAnyH_take (i := 7) (oi := { dst := some 22, op := Go.Op.move (Go.Operand.tmp 21), type := 4, pos := "law.go:80", after := #[{ on := 6, ground := Go.Ground.data }, { on := 5, ground := Go.Ground.chain }], guard := none }) (v := ?_) rfl (by kernel_rfl) (by kernel_rfl) (by kernel_rfl) (fun _ _ _ h => h) (Or.inl ⟨by rfl, ?_⟩) (by assumption) ?_
      rotate_left
      · intro w hSw
        try dsimp only at hSw
        go_simp
        try (rw [if_neg (by omega)])
        try with_reducible rfl
      try simp only [Act.put, List.setIfInBounds_toArray, List.set_cons_zero, List.set_cons_succ]
      refine wpAnyH_take (i := 8) (oi := { dst := some 23, op := Go.Op.fieldAddr 30 (Go.Operand.tmp 5) 1, type := 0, pos := "law.go:80", after := #[{ on := 7, ground := Go.Ground.guard }], guard := some (7, false) }) (v := ?_) rfl (by kernel_rfl) (by kernel_rfl) (by kernel_rfl) (fun _ _ _ h => h) (Or.inl ⟨by rfl, ?_⟩) (by assumption) ?_
      rotate_left
      · intro w hSw
        try dsimp only at hSw
        go_simp
        try (rw [if_neg (by omega)])
        try with_reducible rfl
      try simp only [Act.put, List.setIfInBounds_toArray, List.set_cons_zero, List.set_cons_succ]
      refine wpAnyH_take (i := 11) (oi := { dst := some 26, op := Go.Op.fieldAddr 30 (Go.Operand.tmp 5) 1, type := 0, pos := "law.go:80", after := #[{ on := 7, ground := Go.Ground.guard }], guard := some (7, false) }) (v := ?_) rfl (by kernel_rfl) (by kernel_rfl) (by kernel_rfl) (fun _ _ _ h => h) (Or.inl ⟨by rfl, ?_⟩) (by assumption) ?_
      rotate_left
      · intro w hSw
        try dsimp only at hSw
        go_simp
        try (rw [if_neg (by omega)])
        try with_reducible rfl
      try simp only [Act.put, List.setIfInBounds_toArray, List.set_cons_zero, List.set_cons_succ]
      refine wpAnyH_take (i := 9) (oi := { dst := some 24, op := Go.Op.load 28 (Go.Operand.tmp 23), type := 28, pos := "law.go:80", after := #[{ on := 8, ground := Go.Ground.data }, { on := 7, ground := Go.Ground.guard }], guard := some (7, false) }) (v := ?_) rfl (by kernel_rfl) (by kernel_rfl) (by kernel_rfl) (fun _ _ _ h => h) (Or.inl ⟨by rfl, ?_⟩) (by assumption) ?_
      rotate_left
      · intro w hSw
        try dsimp only at hSw
        go_simp
        try (rw [if_neg (by omega)])
        try with_reducible rfl
      try simp only [Act.put, List.setIfInBounds_toArray, List.set_cons_zero, List.set_cons_succ]
      refine wpAnyH_take (i := 12) (oi := { dst := some 27, op := Go.Op.load 28 (Go.Operand.tmp 26), type := 28, pos := "law.go:80", after := #[{ on := 11, ground := Go.Ground.data }, { on := 7, ground := Go.Ground.guard }], guard := some (7, false) }) (v := ?_) rfl (by kernel_rfl) (by kernel_rfl) (by kernel_rfl) (fun _ _ _ h => h) (Or.inl ⟨by rfl, ?_⟩) (by assumption) ?_
      rotate_left
      · intro w hSw
        try dsimp only at hSw
        go_simp
        try (rw [if_neg (by omega)])
        try with_reducible rfl
      try simp only [Act.put, List.setIfInBounds_toArray, List.set_cons_zero, List.set_cons_succ]
      refine wpAnyH_ready (rs := [10]) (by kernel_rfl) (by simp) ?_
      refine AllReadyH.cons (o := { dst := some 25, op := Go.Op.call { callee := Go.Callee.value (Go.Operand.func 12), args := #[Go.Operand.tmp 24], argTypes := #[28] }, type := 9, pos := "law.go:80", after := #[{ on := 9, ground := Go.Ground.data }, { on := 7, ground := Go.Ground.chain }, { on := 7, ground := Go.Ground.guard }], guard := some (7, false) }) rfl (fun K hK => ?_) AllReadyH.nil
      go_simp
      refine (TA.out _ (HT.out.below (bstep B hHeld.2.2.2.2.2.2))).mono ?_
      rintro e v3 ⟨rfl, hb3⟩
      have HBx := Lib.hid (bstep hHeld.2.2.2.2.2.2 hb3)
      clear hHeld hb3
      refine hK.out _ _ ?_ (fun hHeld => ?_)
      · exact keepN1 PM.out HBx.out
      clear hK K HBx
      try simp only [Act.put, List.setIfInBounds_toArray, List.set_cons_zero, List.set_cons_succ]
      refine wpAnyH_ready (rs := [13]) (by kernel_rfl) (by simp) ?_
      refine AllReadyH.cons (o := { dst := some 28, op := Go.Op.call { callee := Go.Callee.value (Go.Operand.func 13), args := #[Go.Operand.tmp 27], argTypes := #[28] }, type := 9, pos := "law.go:80", after := #[{ on := 12, ground := Go.Ground.data }, { on := 10, ground := Go.Ground.chain }, { on := 7, ground := Go.Ground.guard }], guard := some (7, false) }) rfl (fun K hK => ?_) AllReadyH.nil
      go_simp
      refine (TR.out _).mono ?_
      rintro e v4 ⟨rfl, hb4⟩
      have HBx := Lib.hid (bstep hHeld.2.2.2.2.2.2 hb4)
      clear hHeld hb4
      refine hK.out _ _ ?_ (fun hHeld => ?_)
      · exact keepN1 PM.out HBx.out
      clear hK K HBx
      try simp only [Act.put, List.setIfInBounds_toArray, List.set_cons_zero, List.set_cons_succ]
      refine wpAnyH_take (i := 14) (oi := { dst := some 29, op := Go.Op.binOp Go.BinOp.neq 9 (Go.Operand.tmp 25) (Go.Operand.tmp 28) 9, type := 4, pos := "law.go:80", after := #[{ on := 10, ground := Go.Ground.data }, { on := 13, ground := Go.Ground.data }, { on := 7, ground := Go.Ground.guard }], guard := some (7, false) }) (v := ?_) rfl (by kernel_rfl) (by kernel_rfl) (by kernel_rfl) (fun _ _ _ h => h) (Or.inl ⟨by rfl, ?_⟩) (by assumption) ?_
      rotate_left
      · intro w hSw
        try dsimp only at hSw
        go_simp
        try (rw [if_neg (by omega)])
        try with_reducible rfl
      try simp only [Act.put, List.setIfInBounds_toArray, List.set_cons_zero, List.set_cons_succ]
      refine wpAnyH_take (i := 15) (oi := { dst := some 30, op := Go.Op.pick (Go.Operand.tmp 22) (Go.Operand.const (Go.Value.bool true)) (Go.Operand.tmp 29), type := 4, pos := "law.go:80", after := #[{ on := 7, ground := Go.Ground.data }, { on := 14, ground := Go.Ground.data }], guard := none }) (v := ?_) rfl (by kernel_rfl) (by kernel_rfl) (by kernel_rfl) (fun _ _ _ h => h) (Or.inl ⟨by rfl, ?_⟩) (by assumption) ?_
      rotate_left
      · intro w hSw
        try dsimp only at hSw
        go_simp
        try (rw [if_neg (by omega)])
        try with_reducible rfl
      try simp only [Act.put, List.setIfInBounds_toArray, List.set_cons_zero, List.set_cons_succ]
      refine wpAnyH_take (i := 16) (oi := { dst := some 31, op := Go.Op.move (Go.Operand.tmp 30), type := 4, pos := "law.go:80", after := #[{ on := 15, ground := Go.Ground.data }, { on := 13, ground := Go.Ground.chain }], guard := none }) (v := ?_) rfl (by kernel_rfl) (by kernel_rfl) (by kernel_rfl) (fun _ _ _ h => h) (Or.inl ⟨by rfl, ?_⟩) (by assumption) ?_
      rotate_left
      · intro w hSw
        try dsimp only at hSw
        go_simp
        try (rw [if_neg (by omega)])
        try with_reducible rfl
      try simp only [Act.put, List.setIfInBounds_toArray, List.set_cons_zero, List.set_cons_succ]
      refine wpAnyH_take (i := 17) (oi := { dst := some 32, op := Go.Op.load 30 (Go.Operand.tmp 5), type := 30, pos := "law.go:80", after := #[{ on := 16, ground := Go.Ground.guard }], guard := some (16, false) }) (v := ?_) rfl (by kernel_rfl) (by kernel_rfl) (by kernel_rfl) (fun _ _ _ h => h) (Or.inl ⟨by rfl, ?_⟩) (by assumption) ?_
      rotate_left
      · intro w hSw
        try dsimp only at hSw
        go_simp
        try (rw [if_neg (by omega)])
        try with_reducible rfl
      try simp only [Act.put, List.setIfInBounds_toArray, List.set_cons_zero, List.set_cons_succ]
      refine wpAnyH_take (i := 19) (oi := { dst := some 34, op := Go.Op.fieldAddr 30 (Go.Operand.tmp 5) 0, type := 0, pos := "law.go:80", after := #[{ on := 16, ground := Go.Ground.guard }], guard := some (16, false) }) (v := ?_) rfl (by kernel_rfl) (by kernel_rfl) (by kernel_rfl) (fun _ _ _ h => h) (Or.inl ⟨by rfl, ?_⟩) (by assumption) ?_
      rotate_left
      · intro w hSw
        try dsimp only at hSw
        go_simp
        try (rw [if_neg (by omega)])
        try with_reducible rfl
      try simp only [Act.put, List.setIfInBounds_toArray, List.set_cons_zero, List.set_cons_succ]
      refine wpAnyH_take (i := 23) (oi := { dst := some 38, op := Go.Op.fieldAddr 30 (Go.Operand.tmp 5) 1, type := 0, pos := "law.go:80", after := #[{ on := 16, ground := Go.Ground.guard }], guard := some (16, false) }) (v := ?_) rfl (by kernel_rfl) (by kernel_rfl) (by kernel_rfl) (fun _ _ _ h => h) (Or.inl ⟨by rfl, ?_⟩) (by assumption) ?_
      rotate_left
      · intro w hSw
        try dsimp only at hSw
        go_simp
        try (rw [if_neg (by omega)])
        try with_reducible rfl
      try simp only [Act.put, List.setIfInBounds_toArray, List.set_cons_zero, List.set_cons_succ]
      refine wpAnyH_take (i := 20) (oi := { dst := some 35, op := Go.Op.load 26 (Go.Operand.tmp 34), type := 26, pos := "law.go:80", after := #[{ on := 19, ground := Go.Ground.data }, { on := 16, ground := Go.Ground.guard }], guard := some (16, false) }) (v := ?_) rfl (by kernel_rfl) (by kernel_rfl) (by kernel_rfl) (fun _ _ _ h => h) (Or.inl ⟨by rfl, ?_⟩) (by assumption) ?_
      rotate_left
      · intro w hSw
        try dsimp only at hSw
        go_simp
        try (rw [if_neg (by omega)])
        try with_reducible rfl
      try simp only [Act.put, List.setIfInBounds_toArray, List.set_cons_zero, List.set_cons_succ]
      refine wpAnyH_take (i := 24) (oi := { dst := some 39, op := Go.Op.load 28 (Go.Operand.tmp 38), type := 28, pos := "law.go:80", after := #[{ on := 23, ground := Go.Ground.data }, { on := 16, ground := Go.Ground.guard }], guard := some (16, false) }) (v := ?_) rfl (by kernel_rfl) (by kernel_rfl) (by kernel_rfl) (fun _ _ _ h => h) (Or.inl ⟨by rfl, ?_⟩) (by assumption) ?_
      rotate_left
      · intro w hSw
        try dsimp only at hSw
        go_simp
        try (rw [if_neg (by omega)])
        try with_reducible rfl
      try simp only [Act.put, List.setIfInBounds_toArray, List.set_cons_zero, List.set_cons_succ]
      refine wpAnyH_ready (rs := [18]) (by kernel_rfl) (by simp) ?_
      refine AllReadyH.cons (o := { dst := some 33, op := Go.Op.call { callee := Go.Callee.value (Go.Operand.func 14), args := #[Go.Operand.tmp 32], argTypes := #[30] }, type := 9, pos := "law.go:80", after := #[{ on := 17, ground := Go.Ground.data }, { on := 16, ground := Go.Ground.chain }, { on := 16, ground := Go.Ground.guard }], guard := some (16, false) }) rfl (fun K hK => ?_) AllReadyH.nil
      go_simp
      refine (NA.out _ (HT.out.below (bstep B hHeld.2.2.2.2.2.2))).mono ?_
      rintro e v5 ⟨rfl, hb5⟩
      have HBx := Lib.hid (bstep hHeld.2.2.2.2.2.2 hb5)
      clear hHeld hb5
      refine hK.out _ _ ?_ (fun hHeld => ?_)
      · exact keepN1 PM.out HBx.out
      clear hK K HBx
      try simp only [Act.put, List.setIfInBounds_toArray, List.set_cons_zero, List.set_cons_succ]
      refine wpAnyH_ready (rs := [21]) (by kernel_rfl) (by simp) ?_
      refine AllReadyH.cons (o := { dst := some 36, op := Go.Op.call { callee := Go.Callee.value (Go.Operand.func 11), args := #[Go.Operand.tmp 35], argTypes := #[26] }, type := 9, pos := "law.go:80", after := #[{ on := 20, ground := Go.Ground.data }, { on := 18, ground := Go.Ground.chain }, { on := 16, ground := Go.Ground.guard }], guard := some (16, false) }) rfl (fun K hK => ?_) AllReadyH.nil
      go_simp
      refine (DR.out _).mono ?_
      rintro e v6 ⟨rfl, hb6⟩
      have HBx := Lib.hid (bstep hHeld.2.2.2.2.2.2 hb6)
      clear hHeld hb6
      refine hK.out _ _ ?_ (fun hHeld => ?_)
      · exact keepN1 PM.out HBx.out
      clear hK K HBx
      try simp only [Act.put, List.setIfInBounds_toArray, List.set_cons_zero, List.set_cons_succ]
      refine wpAnyH_take (i := 22) (oi := { dst := some 37, op := Go.Op.binOp Go.BinOp.add 9 (Go.Operand.tmp 36) (Go.Operand.const (Go.Value.string { data := #[84] })) 9, type := 9, pos := "law.go:80", after := #[{ on := 21, ground := Go.Ground.data }, { on := 16, ground := Go.Ground.guard }], guard := some (16, false) }) (v := ?_) rfl (by kernel_rfl) (by kernel_rfl) (by kernel_rfl) (fun _ _ _ h => h) (Or.inl ⟨by rfl, ?_⟩) (by assumption) ?_
      rotate_left
      · intro w hSw
        try dsimp only at hSw
        go_simp
        try (rw [if_neg (by omega)])
        try with_reducible rfl
      try simp only [Act.put, List.setIfInBounds_toArray, List.set_cons_zero, List.set_cons_succ]
      refine wpAnyH_ready (rs := [25]) (by kernel_rfl) (by simp) ?_
      refine AllReadyH.cons (o := { dst := some 40, op := Go.Op.call { callee := Go.Callee.value (Go.Operand.func 13), args := #[Go.Operand.tmp 39], argTypes := #[28] }, type := 9, pos := "law.go:80", after := #[{ on := 24, ground := Go.Ground.data }, { on := 21, ground := Go.Ground.chain }, { on := 16, ground := Go.Ground.guard }], guard := some (16, false) }) rfl (fun K hK => ?_) AllReadyH.nil
      go_simp
      refine (TR.out _).mono ?_
      rintro e v7 ⟨rfl, hb7⟩
      have HBx := Lib.hid (bstep hHeld.2.2.2.2.2.2 hb7)
      clear hHeld hb7
      refine hK.out _ _ ?_ (fun hHeld => ?_)
      · exact keepN1 PM.out HBx.out
      clear hK K HBx
      try simp only [Act.put, List.setIfInBounds_toArray, List.set_cons_zero, List.set_cons_succ]
      refine wpAnyH_take (i := 26) (oi := { dst := some 41, op := Go.Op.binOp Go.BinOp.add 9 (Go.Operand.tmp 37) (Go.Operand.tmp 40) 9, type := 9, pos := "law.go:80", after := #[{ on := 22, ground := Go.Ground.data }, { on := 25, ground := Go.Ground.data }, { on := 16, ground := Go.Ground.guard }], guard := some (16, false) }) (v := ?_) rfl (by kernel_rfl) (by kernel_rfl) (by kernel_rfl) (fun _ _ _ h => h) (Or.inl ⟨by rfl, ?_⟩) (by assumption) ?_
      rotate_left
      · intro w hSw
        try dsimp only at hSw
        go_simp
        try (rw [if_neg (by omega)])
        try with_reducible rfl
      try simp only [Act.put, List.setIfInBounds_toArray, List.set_cons_zero, List.set_cons_succ]
      refine wpAnyH_take (i := 27) (oi := { dst := some 42, op := Go.Op.binOp Go.BinOp.neq 9 (Go.Operand.tmp 33) (Go.Operand.tmp 41) 9, type := 4, pos := "law.go:80", after := #[{ on := 18, ground := Go.Ground.data }, { on := 26, ground := Go.Ground.data }, { on := 16, ground := Go.Ground.guard }], guard := some (16, false) }) (v := ?_) rfl (by kernel_rfl) (by kernel_rfl) (by kernel_rfl) (fun _ _ _ h => h) (Or.inl ⟨by rfl, ?_⟩) (by assumption) ?_
      rotate_left
      · intro w hSw
        try dsimp only at hSw
        go_simp
        try (rw [if_neg (by omega)])
        try with_reducible rfl
      try simp only [Act.put, List.setIfInBounds_toArray, List.set_cons_zero, List.set_cons_succ]
      refine wpAnyH_take (i := 28) (oi := { dst := some 43, op := Go.Op.pick (Go.Operand.tmp 31) (Go.Operand.const (Go.Value.bool true)) (Go.Operand.tmp 42), type := 4, pos := "law.go:80", after := #[{ on := 16, ground := Go.Ground.data }, { on := 27, ground := Go.Ground.data }], guard := none }) (v := ?_) rfl (by kernel_rfl) (by kernel_rfl) (by kernel_rfl) (fun _ _ _ h => h) (Or.inl ⟨by rfl, ?_⟩) (by assumption) ?_
      rotate_left
      · intro w hSw
        try dsimp only at hSw
        go_simp
        try (rw [if_neg (by omega)])
        try with_reducible rfl
      try simp only [Act.put, List.setIfInBounds_toArray, List.set_cons_zero, List.set_cons_succ]
      refine wpAnyH_done (by kernel_rfl) ?_ _
      replace B := bstep B hHeld.2.2.2.2.2.2
      clear hHeld PM DA DR TA TR NA
      go_wp2_with fail
      refine (CD.out _ (HT.out.below B)).mono ?_
      rintro e w4 ⟨rfl, hb⟩
      replace B := bstep B hb
      clear hb CD
      go_wp2_with fail
      refine (CM.out _ (HT.out.below B)).mono ?_
      rintro e w5 ⟨rfl, hb⟩
      replace B := bstep B hb
      clear hb CM
      go_wp2
      go_ret
      exact ⟨rfl, B⟩
    · have t1 : decide (n < -9007199254740992) = false := decide_eq_false k1
      have t2 : decide (9007199254740992 < n) = false := decide_eq_false k2
      have ML : mayL n = true := mayL_of.2 ⟨by omega, by omega⟩
      have a0 := abs_nonneg n
      have a1 := abs_le (m := 9007199254740992) (x := n) (by omega) (by omega)
      have RF := rest_form a0
      obtain ⟨sg, hsg⟩ : ∃ q : ByteArray, q = sgS n ++ { data := #[80] } := ⟨_, rfl⟩
      have ssg : sg.size ≤ 2 := by rw [hsg]; exact size_le (a := 1) (b := 1) (sg_size n) (by decide) (by decide)
      have DZ : n = 0 → daysS n = { data := #[80, 84, 48, 83] } ∧ monthsS n = { data := #[80, 48, 77] } := by
        intro z
        subst z
        exact ⟨rfl, rfl⟩
      have DN : n ≠ 0 → daysS n = sg ++ partS (absI n / 86400) { data := #[68] } ++ restT (absI n % 86400) ∧ monthsS n = sg ++ partS (absI n / 12) { data := #[89] } ++ partS (absI n % 12) { data := #[77] } := by
        intro z
        rw [hsg]
        exact ⟨days_form ML z, months_form ML z⟩
      have SG : (decide (n < 0) = true ∧ wrap64 (-n) = absI n ∧ IntKind.i64.wrap (-n) = absI n ∧ sg = { data := #[45, 80] }) ∨ (decide (n < 0) = false ∧ n = absI n ∧ sg = { data := #[80] }) := by
        rw [hsg]
        unfold sgS absI
        by_cases k : n < 0
        · rw [if_pos k, if_pos k]; exact .inl ⟨decide_eq_true k, by unfold wrap64; omega, by rw [IntKind.wrap_i64]; omega, rfl⟩
        · rw [if_neg k, if_neg k]; exact .inr ⟨decide_eq_false k, rfl, rfl⟩
      have NZ : (n == 0) = true ∨ (n == 0) = false := by cases (n == 0) <;> simp
      have CD0 := days_any n
      have CM0 := months_any n
      clear hsg k1 k2 ML
      generalize daysS n = dd at *
      generalize monthsS n = mm at *
      generalize hx : absI n = x at *
      obtain ⟨P1, hP1⟩ : ∃ zz : ByteArray, zz = partS (x % 86400 / 3600) { data := #[72] } := ⟨_, rfl⟩
      have sP1 : P1.size ≤ 40 := by rw [hP1]; exact part_size (by unfold I64; omega) (by decide)
      have CP1 := Lib.hid (show ∀ w, Calls Tryd.prog 17 #[.int .i64 (x % 86400 / 3600), .string { data := #[72] }] w (Ret (.string P1) w) from fun w => by rw [hP1]; exact some_any (x % 86400 / 3600) (by omega) (by omega) { data := #[72] } (by decide) w)
      obtain ⟨P2, hP2⟩ : ∃ zz : ByteArray, zz = partS (x % 3600 / 60) { data := #[77] } := ⟨_, rfl⟩
      have sP2 : P2.size ≤ 40 := by rw [hP2]; exact part_size (by unfold I64; omega) (by decide)
      have CP2 := Lib.hid (show ∀ w, Calls Tryd.prog 17 #[.int .i64 (x % 3600 / 60), .string { data := #[77] }] w (Ret (.string P2) w) from fun w => by rw [hP2]; exact some_any (x % 3600 / 60) (by omega) (by omega) { data := #[77] } (by decide) w)
      obtain ⟨P3, hP3⟩ : ∃ zz : ByteArray, zz = partS (x % 60) { data := #[83] } := ⟨_, rfl⟩
      have sP3 : P3.size ≤ 40 := by rw [hP3]; exact part_size (by unfold I64; omega) (by decide)
      have CP3 := Lib.hid (show ∀ w, Calls Tryd.prog 17 #[.int .i64 (x % 60), .string { data := #[83] }] w (Ret (.string P3) w) from fun w => by rw [hP3]; exact some_any (x % 60) (by omega) (by omega) { data := #[83] } (by decide) w)
      obtain ⟨P4, hP4⟩ : ∃ zz : ByteArray, zz = partS (x / 86400) { data := #[68] } := ⟨_, rfl⟩
      have sP4 : P4.size ≤ 40 := by rw [hP4]; exact part_size (by unfold I64; omega) (by decide)
      have CP4 := Lib.hid (show ∀ w, Calls Tryd.prog 17 #[.int .i64 (x / 86400), .string { data := #[68] }] w (Ret (.string P4) w) from fun w => by rw [hP4]; exact some_any (x / 86400) (by omega) (by omega) { data := #[68] } (by decide) w)
      obtain ⟨P5, hP5⟩ : ∃ zz : ByteArray, zz = partS (x / 12) { data := #[89] } := ⟨_, rfl⟩
      have sP5 : P5.size ≤ 40 := by rw [hP5]; exact part_size (by unfold I64; omega) (by decide)
      have CP5 := Lib.hid (show ∀ w, Calls Tryd.prog 17 #[.int .i64 (x / 12), .string { data := #[89] }] w (Ret (.string P5) w) from fun w => by rw [hP5]; exact some_any (x / 12) (by omega) (by omega) { data := #[89] } (by decide) w)
      obtain ⟨P6, hP6⟩ : ∃ zz : ByteArray, zz = partS (x % 12) { data := #[77] } := ⟨_, rfl⟩
      have sP6 : P6.size ≤ 40 := by rw [hP6]; exact part_size (by unfold I64; omega) (by decide)
      have CP6 := Lib.hid (show ∀ w, Calls Tryd.prog 17 #[.int .i64 (x % 12), .string { data := #[77] }] w (Ret (.string P6) w) from fun w => by rw [hP6]; exact some_any (x % 12) (by omega) (by omega) { data := #[77] } (by decide) w)
      obtain ⟨w1, ew1⟩ : ∃ zz : ByteArray, P1 ++ P2 = zz := ⟨_, rfl⟩
      have sw1 : w1.size ≤ 80 := by rw [← ew1]; exact size_le (a := 40) (b := 40) sP1 sP2 (by decide)
      obtain ⟨w2, ew2⟩ : ∃ zz : ByteArray, w1 ++ P3 = zz := ⟨_, rfl⟩
      have sw2 : w2.size ≤ 120 := by rw [← ew2]; exact size_le (a := 80) (b := 40) sw1 sP3 (by decide)
      obtain ⟨w3, ew3⟩ : ∃ zz : ByteArray, ({ data := #[84] } : ByteArray) ++ w2 = zz := ⟨_, rfl⟩
      have sw3 : w3.size ≤ 121 := by rw [← ew3]; exact size_le (a := 1) (b := 120) (by decide) sw2 (by decide)
      obtain ⟨v1, ev1⟩ : ∃ zz : ByteArray, sg ++ P4 = zz := ⟨_, rfl⟩
      have sv1 : v1.size ≤ 42 := by rw [← ev1]; exact size_le (a := 2) (b := 40) ssg sP4 (by decide)
      obtain ⟨v2, ev2⟩ : ∃ zz : ByteArray, v1 ++ w3 = zz := ⟨_, rfl⟩
      have sv2 : v2.size ≤ 163 := by rw [← ev2]; exact size_le (a := 42) (b := 121) sv1 sw3 (by decide)
      obtain ⟨v3, ev3⟩ : ∃ zz : ByteArray, v1 ++ w2 = zz := ⟨_, rfl⟩
      have sv3 : v3.size ≤ 162 := by rw [← ev3]; exact size_le (a := 42) (b := 120) sv1 sw2 (by decide)
      obtain ⟨v4, ev4⟩ : ∃ zz : ByteArray, sg ++ P5 = zz := ⟨_, rfl⟩
      have sv4 : v4.size ≤ 42 := by rw [← ev4]; exact size_le (a := 2) (b := 40) ssg sP5 (by decide)
      obtain ⟨v5, ev5⟩ : ∃ zz : ByteArray, v4 ++ P6 = zz := ⟨_, rfl⟩
      have sv5 : v5.size ≤ 82 := by rw [← ev5]; exact size_le (a := 42) (b := 40) sv4 sP6 (by decide)
      rw [← hP4, ← hP5, ← hP6] at DN
      rw [← hP1, ← hP2, ← hP3, ew1, ew2] at RF
      have RT : (w2 = { data := #[] } → restT (x % 86400) = w2) ∧ (w2 ≠ { data := #[] } → restT (x % 86400) = w3) := by
        unfold restT
        rw [RF]
        exact ⟨fun k => by rw [if_pos k, k], fun k => by rw [if_neg k, ew3]⟩
      rw [ev1, ev4, ev5] at DN
      have d1 : x.tmod 86400 = x % 86400 := Int.tmod_eq_emod_of_nonneg a0
      have d2 : (x % 86400).tdiv 3600 = x % 86400 / 3600 := Int.tdiv_eq_ediv_of_nonneg (by omega)
      have d3 : x.tmod 3600 = x % 3600 := Int.tmod_eq_emod_of_nonneg a0
      have d4 : (x % 3600).tdiv 60 = x % 3600 / 60 := Int.tdiv_eq_ediv_of_nonneg (by omega)
      have d5 : x.tmod 60 = x % 60 := Int.tmod_eq_emod_of_nonneg a0
      have d6 : x.tdiv 86400 = x / 86400 := Int.tdiv_eq_ediv_of_nonneg a0
      have d7 : x.tdiv 12 = x / 12 := Int.tdiv_eq_ediv_of_nonneg a0
      have d8 : x.tmod 12 = x % 12 := Int.tmod_eq_emod_of_nonneg a0
      have q0 : I64 (x % 86400 / 3600) := by unfold I64; omega
      have p0 := q0.wrap'
      have r0 := q0.wrap
      have q1 : I64 (x % 3600 / 60) := by unfold I64; omega
      have p1 := q1.wrap'
      have r1 := q1.wrap
      have q2 : I64 (x / 86400) := by unfold I64; omega
      have p2 := q2.wrap'
      have r2 := q2.wrap
      have q3 : I64 (x / 12) := by unfold I64; omega
      have p3 := q3.wrap'
      have r3 := q3.wrap
      clear q0 q1 q2 q3 RF a0 a1 hP1 hP2 hP3 hP4 hP5 hP6
      have W2 : (w2 = { data := #[] } ∧ w2.toList.isEmpty = true) ∨ (w2 ≠ { data := #[] } ∧ w2.toList.isEmpty = false) := by
        by_cases k : w2 = { data := #[] }
        · exact .inl ⟨k, by rw [k]; exact str_empty⟩
        · exact .inr ⟨k, str_some k⟩
      have HRT := Lib.hid RT
      have HDN := Lib.hid DN
      have HDZ := Lib.hid DZ
      clear RT DN DZ
      rcases NZ with nz | nz
      · have n0 : n = 0 := by simpa using nz
        have ED := (HDZ.out n0).1
        have EM := (HDZ.out n0).2
        subst n0
        clear nz
        have nz : ((0 : Int) == 0) = true := rfl
        rcases SG with ⟨t3, f1, f2, rfl⟩ | ⟨t3, f1, rfl⟩
        · cases t3
        · subst f1
          rcases W2 with ⟨k, t4⟩ | ⟨k, t4⟩
          all_goals
            clear k hx
            have CD := Lib.hid (show ∀ w, Tab2 w → Calls Tryd.prog 15 #[.int .i64 0] w (Ret (.string { data := #[80, 84, 48, 83] }) w) from fun w a => by have e := CD0 w a; rw [ED] at e; exact e)
            have CM := Lib.hid (show ∀ w, Tab2 w → Calls Tryd.prog 16 #[.int .i64 0] w (Ret (.string { data := #[80, 48, 77] }) w) from fun w a => by have e := CM0 w a; rw [EM] at e; exact e)
            clear ED EM CD0 CM0 HRT HDN HDZ
            go_enter Tryd.func3, Tryd.ntmps3
            go_upto_region 1 with fail
            have PR := Lib.hid (HoldsR.new rfl : HoldsR (w.alloc (RwC y m d s o z)) w.heap.size y m d s o z)
            have B := ballD1 (Below.refl w.heap.size w) (RwC y m d s o z)
            change Code.wp _ _ _ _ (w.alloc (RwC y m d s o z))
            generalize (w.alloc (RwC y m d s o z)) = w0 at *
            obtain ⟨⟨c0_0, c0_1, c0_2, c0_3, c0_4, c0_5⟩, -, c0z⟩ := PR.out
            go_wp2_with fail
            refine (AW.out _ (HT.out.below B)).mono ?_
            rintro e w1 ⟨rfl, hb⟩
            replace PR := Lib.hid (PR.out.below hb)
            replace B := bstep B hb
            clear hb AW
            clear c0_0 c0_1 c0_2 c0_3 c0_4 c0_5 c0z
            obtain ⟨⟨c0_0, c0_1, c0_2, c0_3, c0_4, c0_5⟩, -, c0z⟩ := PR.out
            go_wp2_with fail
            refine (MK.out _).mono ?_
            rintro e w2 ⟨rfl, hb⟩
            replace PR := Lib.hid (PR.out.below hb)
            replace B := bstep B hb
            clear hb MK
            clear c0_0 c0_1 c0_2 c0_3 c0_4 c0_5 c0z
            replace PR := Lib.hid (PR.out.alloc (MoC Y M E A z O))
            have PM := Lib.hid (HoldsN.new rfl : HoldsN (w2.alloc (MoC Y M E A z O)) w2.heap.size Y M E A z O)
            replace B := ballD1 B (MoC Y M E A z O)
            go_upto_region 4 with fail
            change Code.wp _ _ _ _ (w2.alloc (MoC Y M E A z O))
            generalize w2.alloc (MoC Y M E A z O) = w3 at *
            obtain ⟨gPM, hg⟩ : ∃ g, g = w2.heap.size := ⟨_, rfl⟩
            rw [← hg] at PM ⊢
            clear hg
            clear PR
            go_upto_region 4 with fail
            generalize w3 = V at *
            refine wp_region_held_drew (S := fun w' => w'.cell? ⟨gPM, 0, none⟩ = some (.int .i64 Y) ∧ w'.cell? ⟨gPM, 1, none⟩ = some (.int .i64 M) ∧ w'.cell? ⟨gPM, 2, none⟩ = some (.int .i64 E) ∧ w'.cell? ⟨gPM, 3, none⟩ = some (.int .i64 A) ∧ w'.cell? ⟨gPM, 4, none⟩ = some (.bool z) ∧ w'.cell? ⟨gPM, 5, none⟩ = some (.int .i64 O) ∧ Below V.heap.size V w') (by kernel_rfl) ?_ (fun hHeld => ?_)
            · exact keepN1 PM.out (Below.refl _ _).drew
            refine wpAnyH_take (i := 0) (oi := { dst := some 15, op := Go.Op.fieldAddr 30 (Go.Operand.tmp 5) 0, type := 0, pos := "law.go:80", after := #[], guard := none }) (v := ?_) rfl (by kernel_rfl) (by kernel_rfl) (by kernel_rfl) (fun _ _ _ h => h) (Or.inl ⟨by rfl, ?_⟩) (by assumption) ?_
            rotate_left
            · intro w hSw
              try dsimp only at hSw
              go_simp
              try (rw [if_neg (by omega)])
              try with_reducible rfl
            try simp only [Act.put, List.setIfInBounds_toArray, List.set_cons_zero, List.set_cons_succ]
            refine wpAnyH_take (i := 3) (oi := { dst := some 18, op := Go.Op.fieldAddr 30 (Go.Operand.tmp 5) 0, type := 0, pos := "law.go:80", after := #[], guard := none }) (v := ?_) rfl (by kernel_rfl) (by kernel_rfl) (by kernel_rfl) (fun _ _ _ h => h) (Or.inl ⟨by rfl, ?_⟩) (by assumption) ?_
            rotate_left
            · intro w hSw
              try dsimp only at hSw
              go_simp
              try (rw [if_neg (by omega)])
              try with_reducible rfl
            try simp only [Act.put, List.setIfInBounds_toArray, List.set_cons_zero, List.set_cons_succ]
            refine wpAnyH_take (i := 1) (oi := { dst := some 16, op := Go.Op.load 26 (Go.Operand.tmp 15), type := 26, pos := "law.go:80", after := #[{ on := 0, ground := Go.Ground.data }], guard := none }) (v := ?_) rfl (by kernel_rfl) (by kernel_rfl) (by kernel_rfl) (fun _ _ _ h => h) (Or.inl ⟨by rfl, ?_⟩) (by assumption) ?_
            rotate_left
            · intro w hSw
              try dsimp only at hSw
              go_simp
              try (rw [if_neg (by omega)])
              try with_reducible rfl
            try simp only [Act.put, List.setIfInBounds_toArray, List.set_cons_zero, List.set_cons_succ]
            refine wpAnyH_take (i := 4) (oi := { dst := some 19, op := Go.Op.load 26 (Go.Operand.tmp 18), type := 26, pos := "law.go:80", after := #[{ on := 3, ground := Go.Ground.data }], guard := none }) (v := ?_) rfl (by kernel_rfl) (by kernel_rfl) (by kernel_rfl) (fun _ _ _ h => h) (Or.inl ⟨by rfl, ?_⟩) (by assumption) ?_
            rotate_left
            · intro w hSw
              try dsimp only at hSw
              go_simp
              try (rw [if_neg (by omega)])
              try with_reducible rfl
            try simp only [Act.put, List.setIfInBounds_toArray, List.set_cons_zero, List.set_cons_succ]
            refine wpAnyH_ready (rs := [2]) (by kernel_rfl) (by simp) ?_
            refine AllReadyH.cons (o := { dst := some 17, op := Go.Op.call { callee := Go.Callee.value (Go.Operand.func 10), args := #[Go.Operand.tmp 16], argTypes := #[26] }, type := 9, pos := "law.go:80", after := #[{ on := 1, ground := Go.Ground.data }], guard := none }) rfl (fun K hK => ?_) AllReadyH.nil
            go_simp
            refine (DA.out _ (HT.out.below (bstep B hHeld.2.2.2.2.2.2))).mono ?_
            rintro e v1 ⟨rfl, hb1⟩
            have HBx := Lib.hid (bstep hHeld.2.2.2.2.2.2 hb1)
            clear hHeld hb1
            refine hK.out _ _ ?_ (fun hHeld => ?_)
            · exact keepN1 PM.out HBx.out
            clear hK K HBx
            try simp only [Act.put, List.setIfInBounds_toArray, List.set_cons_zero, List.set_cons_succ]
            refine wpAnyH_ready (rs := [5]) (by kernel_rfl) (by simp) ?_
            refine AllReadyH.cons (o := { dst := some 20, op := Go.Op.call { callee := Go.Callee.value (Go.Operand.func 11), args := #[Go.Operand.tmp 19], argTypes := #[26] }, type := 9, pos := "law.go:80", after := #[{ on := 4, ground := Go.Ground.data }, { on := 2, ground := Go.Ground.chain }], guard := none }) rfl (fun K hK => ?_) AllReadyH.nil
            go_simp
            refine (DR.out _).mono ?_
            rintro e v2 ⟨rfl, hb2⟩
            have HBx := Lib.hid (bstep hHeld.2.2.2.2.2.2 hb2)
            clear hHeld hb2
            refine hK.out _ _ ?_ (fun hHeld => ?_)
            · exact keepN1 PM.out HBx.out
            clear hK K HBx
            try simp only [Act.put, List.setIfInBounds_toArray, List.set_cons_zero, List.set_cons_succ]
            refine wpAnyH_take (i := 6) (oi := { dst := some 21, op := Go.Op.binOp Go.BinOp.neq 9 (Go.Operand.tmp 17) (Go.Operand.tmp 20) 9, type := 4, pos := "law.go:80", after := #[{ on := 2, ground := Go.Ground.data }, { on := 5, ground := Go.Ground.data }], guard := none }) (v := ?_) rfl (by kernel_rfl) (by kernel_rfl) (by kernel_rfl) (fun _ _ _ h => h) (Or.inl ⟨by rfl, ?_⟩) (by assumption) ?_
            rotate_left
            · intro w hSw
              try dsimp only at hSw
              go_simp
              try (rw [if_neg (by omega)])
              try with_reducible rfl
            try simp only [Act.put, List.setIfInBounds_toArray, List.set_cons_zero, List.set_cons_succ]
            refine wpAnyH_take (i := 7) (oi := { dst := some 22, op := Go.Op.move (Go.Operand.tmp 21), type := 4, pos := "law.go:80", after := #[{ on := 6, ground := Go.Ground.data }, { on := 5, ground := Go.Ground.chain }], guard := none }) (v := ?_) rfl (by kernel_rfl) (by kernel_rfl) (by kernel_rfl) (fun _ _ _ h => h) (Or.inl ⟨by rfl, ?_⟩) (by assumption) ?_
            rotate_left
            · intro w hSw
              try dsimp only at hSw
              go_simp
              try (rw [if_neg (by omega)])
              try with_reducible rfl
            try simp only [Act.put, List.setIfInBounds_toArray, List.set_cons_zero, List.set_cons_succ]
            refine wpAnyH_take (i := 8) (oi := { dst := some 23, op := Go.Op.fieldAddr 30 (Go.Operand.tmp 5) 1, type := 0, pos := "law.go:80", after := #[{ on := 7, ground := Go.Ground.guard }], guard := some (7, false) }) (v := ?_) rfl (by kernel_rfl) (by kernel_rfl) (by kernel_rfl) (fun _ _ _ h => h) (Or.inl ⟨by rfl, ?_⟩) (by assumption) ?_
            rotate_left
            · intro w hSw
              try dsimp only at hSw
              go_simp
              try (rw [if_neg (by omega)])
              try with_reducible rfl
            try simp only [Act.put, List.setIfInBounds_toArray, List.set_cons_zero, List.set_cons_succ]
            refine wpAnyH_take (i := 11) (oi := { dst := some 26, op := Go.Op.fieldAddr 30 (Go.Operand.tmp 5) 1, type := 0, pos := "law.go:80", after := #[{ on := 7, ground := Go.Ground.guard }], guard := some (7, false) }) (v := ?_) rfl (by kernel_rfl) (by kernel_rfl) (by kernel_rfl) (fun _ _ _ h => h) (Or.inl ⟨by rfl, ?_⟩) (by assumption) ?_
            rotate_left
            · intro w hSw
              try dsimp only at hSw
              go_simp
              try (rw [if_neg (by omega)])
              try with_reducible rfl
            try simp only [Act.put, List.setIfInBounds_toArray, List.set_cons_zero, List.set_cons_succ]
            refine wpAnyH_take (i := 9) (oi := { dst := some 24, op := Go.Op.load 28 (Go.Operand.tmp 23), type := 28, pos := "law.go:80", after := #[{ on := 8, ground := Go.Ground.data }, { on := 7, ground := Go.Ground.guard }], guard := some (7, false) }) (v := ?_) rfl (by kernel_rfl) (by kernel_rfl) (by kernel_rfl) (fun _ _ _ h => h) (Or.inl ⟨by rfl, ?_⟩) (by assumption) ?_
            rotate_left
            · intro w hSw
              try dsimp only at hSw
              go_simp
              try (rw [if_neg (by omega)])
              try with_reducible rfl
            try simp only [Act.put, List.setIfInBounds_toArray, List.set_cons_zero, List.set_cons_succ]
            refine wpAnyH_take (i := 12) (oi := { dst := some 27, op := Go.Op.load 28 (Go.Operand.tmp 26), type := 28, pos := "law.go:80", after := #[{ on := 11, ground := Go.Ground.data }, { on := 7, ground := Go.Ground.guard }], guard := some (7, false) }) (v := ?_) rfl (by kernel_rfl) (by kernel_rfl) (by kernel_rfl) (fun _ _ _ h => h) (Or.inl ⟨by rfl, ?_⟩) (by assumption) ?_
            rotate_left
            · intro w hSw
              try dsimp only at hSw
              go_simp
              try (rw [if_neg (by omega)])
              try with_reducible rfl
            try simp only [Act.put, List.setIfInBounds_toArray, List.set_cons_zero, List.set_cons_succ]
            refine wpAnyH_ready (rs := [10]) (by kernel_rfl) (by simp) ?_
            refine AllReadyH.cons (o := { dst := some 25, op := Go.Op.call { callee := Go.Callee.value (Go.Operand.func 12), args := #[Go.Operand.tmp 24], argTypes := #[28] }, type := 9, pos := "law.go:80", after := #[{ on := 9, ground := Go.Ground.data }, { on := 7, ground := Go.Ground.chain }, { on := 7, ground := Go.Ground.guard }], guard := some (7, false) }) rfl (fun K hK => ?_) AllReadyH.nil
            go_simp
            refine (TA.out _ (HT.out.below (bstep B hHeld.2.2.2.2.2.2))).mono ?_
            rintro e v3 ⟨rfl, hb3⟩
            have HBx := Lib.hid (bstep hHeld.2.2.2.2.2.2 hb3)
            clear hHeld hb3
            refine hK.out _ _ ?_ (fun hHeld => ?_)
            · exact keepN1 PM.out HBx.out
            clear hK K HBx
            try simp only [Act.put, List.setIfInBounds_toArray, List.set_cons_zero, List.set_cons_succ]
            refine wpAnyH_ready (rs := [13]) (by kernel_rfl) (by simp) ?_
            refine AllReadyH.cons (o := { dst := some 28, op := Go.Op.call { callee := Go.Callee.value (Go.Operand.func 13), args := #[Go.Operand.tmp 27], argTypes := #[28] }, type := 9, pos := "law.go:80", after := #[{ on := 12, ground := Go.Ground.data }, { on := 10, ground := Go.Ground.chain }, { on := 7, ground := Go.Ground.guard }], guard := some (7, false) }) rfl (fun K hK => ?_) AllReadyH.nil
            go_simp
            refine (TR.out _).mono ?_
            rintro e v4 ⟨rfl, hb4⟩
            have HBx := Lib.hid (bstep hHeld.2.2.2.2.2.2 hb4)
            clear hHeld hb4
            refine hK.out _ _ ?_ (fun hHeld => ?_)
            · exact keepN1 PM.out HBx.out
            clear hK K HBx
            try simp only [Act.put, List.setIfInBounds_toArray, List.set_cons_zero, List.set_cons_succ]
            refine wpAnyH_take (i := 14) (oi := { dst := some 29, op := Go.Op.binOp Go.BinOp.neq 9 (Go.Operand.tmp 25) (Go.Operand.tmp 28) 9, type := 4, pos := "law.go:80", after := #[{ on := 10, ground := Go.Ground.data }, { on := 13, ground := Go.Ground.data }, { on := 7, ground := Go.Ground.guard }], guard := some (7, false) }) (v := ?_) rfl (by kernel_rfl) (by kernel_rfl) (by kernel_rfl) (fun _ _ _ h => h) (Or.inl ⟨by rfl, ?_⟩) (by assumption) ?_
            rotate_left
            · intro w hSw
              try dsimp only at hSw
              go_simp
              try (rw [if_neg (by omega)])
              try with_reducible rfl
            try simp only [Act.put, List.setIfInBounds_toArray, List.set_cons_zero, List.set_cons_succ]
            refine wpAnyH_take (i := 15) (oi := { dst := some 30, op := Go.Op.pick (Go.Operand.tmp 22) (Go.Operand.const (Go.Value.bool true)) (Go.Operand.tmp 29), type := 4, pos := "law.go:80", after := #[{ on := 7, ground := Go.Ground.data }, { on := 14, ground := Go.Ground.data }], guard := none }) (v := ?_) rfl (by kernel_rfl) (by kernel_rfl) (by kernel_rfl) (fun _ _ _ h => h) (Or.inl ⟨by rfl, ?_⟩) (by assumption) ?_
            rotate_left
            · intro w hSw
              try dsimp only at hSw
              go_simp
              try (rw [if_neg (by omega)])
              try with_reducible rfl
            try simp only [Act.put, List.setIfInBounds_toArray, List.set_cons_zero, List.set_cons_succ]
            refine wpAnyH_take (i := 16) (oi := { dst := some 31, op := Go.Op.move (Go.Operand.tmp 30), type := 4, pos := "law.go:80", after := #[{ on := 15, ground := Go.Ground.data }, { on := 13, ground := Go.Ground.chain }], guard := none }) (v := ?_) rfl (by kernel_rfl) (by kernel_rfl) (by kernel_rfl) (fun _ _ _ h => h) (Or.inl ⟨by rfl, ?_⟩) (by assumption) ?_
            rotate_left
            · intro w hSw
              try dsimp only at hSw
              go_simp
              try (rw [if_neg (by omega)])
              try with_reducible rfl
            try simp only [Act.put, List.setIfInBounds_toArray, List.set_cons_zero, List.set_cons_succ]
            refine wpAnyH_take (i := 17) (oi := { dst := some 32, op := Go.Op.load 30 (Go.Operand.tmp 5), type := 30, pos := "law.go:80", after := #[{ on := 16, ground := Go.Ground.guard }], guard := some (16, false) }) (v := ?_) rfl (by kernel_rfl) (by kernel_rfl) (by kernel_rfl) (fun _ _ _ h => h) (Or.inl ⟨by rfl, ?_⟩) (by assumption) ?_
            rotate_left
            · intro w hSw
              try dsimp only at hSw
              go_simp
              try (rw [if_neg (by omega)])
              try with_reducible rfl
            try simp only [Act.put, List.setIfInBounds_toArray, List.set_cons_zero, List.set_cons_succ]
            refine wpAnyH_take (i := 19) (oi := { dst := some 34, op := Go.Op.fieldAddr 30 (Go.Operand.tmp 5) 0, type := 0, pos := "law.go:80", after := #[{ on := 16, ground := Go.Ground.guard }], guard := some (16, false) }) (v := ?_) rfl (by kernel_rfl) (by kernel_rfl) (by kernel_rfl) (fun _ _ _ h => h) (Or.inl ⟨by rfl, ?_⟩) (by assumption) ?_
            rotate_left
            · intro w hSw
              try dsimp only at hSw
              go_simp
              try (rw [if_neg (by omega)])
              try with_reducible rfl
            try simp only [Act.put, List.setIfInBounds_toArray, List.set_cons_zero, List.set_cons_succ]
            refine wpAnyH_take (i := 23) (oi := { dst := some 38, op := Go.Op.fieldAddr 30 (Go.Operand.tmp 5) 1, type := 0, pos := "law.go:80", after := #[{ on := 16, ground := Go.Ground.guard }], guard := some (16, false) }) (v := ?_) rfl (by kernel_rfl) (by kernel_rfl) (by kernel_rfl) (fun _ _ _ h => h) (Or.inl ⟨by rfl, ?_⟩) (by assumption) ?_
            rotate_left
            · intro w hSw
              try dsimp only at hSw
              go_simp
              try (rw [if_neg (by omega)])
              try with_reducible rfl
            try simp only [Act.put, List.setIfInBounds_toArray, List.set_cons_zero, List.set_cons_succ]
            refine wpAnyH_take (i := 20) (oi := { dst := some 35, op := Go.Op.load 26 (Go.Operand.tmp 34), type := 26, pos := "law.go:80", after := #[{ on := 19, ground := Go.Ground.data }, { on := 16, ground := Go.Ground.guard }], guard := some (16, false) }) (v := ?_) rfl (by kernel_rfl) (by kernel_rfl) (by kernel_rfl) (fun _ _ _ h => h) (Or.inl ⟨by rfl, ?_⟩) (by assumption) ?_
            rotate_left
            · intro w hSw
              try dsimp only at hSw
              go_simp
              try (rw [if_neg (by omega)])
              try with_reducible rfl
            try simp only [Act.put, List.setIfInBounds_toArray, List.set_cons_zero, List.set_cons_succ]
            refine wpAnyH_take (i := 24) (oi := { dst := some 39, op := Go.Op.load 28 (Go.Operand.tmp 38), type := 28, pos := "law.go:80", after := #[{ on := 23, ground := Go.Ground.data }, { on := 16, ground := Go.Ground.guard }], guard := some (16, false) }) (v := ?_) rfl (by kernel_rfl) (by kernel_rfl) (by kernel_rfl) (fun _ _ _ h => h) (Or.inl ⟨by rfl, ?_⟩) (by assumption) ?_
            rotate_left
            · intro w hSw
              try dsimp only at hSw
              go_simp
              try (rw [if_neg (by omega)])
              try with_reducible rfl
            try simp only [Act.put, List.setIfInBounds_toArray, List.set_cons_zero, List.set_cons_succ]
            refine wpAnyH_ready (rs := [18]) (by kernel_rfl) (by simp) ?_
            refine AllReadyH.cons (o := { dst := some 33, op := Go.Op.call { callee := Go.Callee.value (Go.Operand.func 14), args := #[Go.Operand.tmp 32], argTypes := #[30] }, type := 9, pos := "law.go:80", after := #[{ on := 17, ground := Go.Ground.data }, { on := 16, ground := Go.Ground.chain }, { on := 16, ground := Go.Ground.guard }], guard := some (16, false) }) rfl (fun K hK => ?_) AllReadyH.nil
            go_simp
            refine (NA.out _ (HT.out.below (bstep B hHeld.2.2.2.2.2.2))).mono ?_
            rintro e v5 ⟨rfl, hb5⟩
            have HBx := Lib.hid (bstep hHeld.2.2.2.2.2.2 hb5)
            clear hHeld hb5
            refine hK.out _ _ ?_ (fun hHeld => ?_)
            · exact keepN1 PM.out HBx.out
            clear hK K HBx
            try simp only [Act.put, List.setIfInBounds_toArray, List.set_cons_zero, List.set_cons_succ]
            refine wpAnyH_ready (rs := [21]) (by kernel_rfl) (by simp) ?_
            refine AllReadyH.cons (o := { dst := some 36, op := Go.Op.call { callee := Go.Callee.value (Go.Operand.func 11), args := #[Go.Operand.tmp 35], argTypes := #[26] }, type := 9, pos := "law.go:80", after := #[{ on := 20, ground := Go.Ground.data }, { on := 18, ground := Go.Ground.chain }, { on := 16, ground := Go.Ground.guard }], guard := some (16, false) }) rfl (fun K hK => ?_) AllReadyH.nil
            go_simp
            refine (DR.out _).mono ?_
            rintro e v6 ⟨rfl, hb6⟩
            have HBx := Lib.hid (bstep hHeld.2.2.2.2.2.2 hb6)
            clear hHeld hb6
            refine hK.out _ _ ?_ (fun hHeld => ?_)
            · exact keepN1 PM.out HBx.out
            clear hK K HBx
            try simp only [Act.put, List.setIfInBounds_toArray, List.set_cons_zero, List.set_cons_succ]
            refine wpAnyH_take (i := 22) (oi := { dst := some 37, op := Go.Op.binOp Go.BinOp.add 9 (Go.Operand.tmp 36) (Go.Operand.const (Go.Value.string { data := #[84] })) 9, type := 9, pos := "law.go:80", after := #[{ on := 21, ground := Go.Ground.data }, { on := 16, ground := Go.Ground.guard }], guard := some (16, false) }) (v := ?_) rfl (by kernel_rfl) (by kernel_rfl) (by kernel_rfl) (fun _ _ _ h => h) (Or.inl ⟨by rfl, ?_⟩) (by assumption) ?_
            rotate_left
            · intro w hSw
              try dsimp only at hSw
              go_simp
              try (rw [if_neg (by omega)])
              try with_reducible rfl
            try simp only [Act.put, List.setIfInBounds_toArray, List.set_cons_zero, List.set_cons_succ]
            refine wpAnyH_ready (rs := [25]) (by kernel_rfl) (by simp) ?_
            refine AllReadyH.cons (o := { dst := some 40, op := Go.Op.call { callee := Go.Callee.value (Go.Operand.func 13), args := #[Go.Operand.tmp 39], argTypes := #[28] }, type := 9, pos := "law.go:80", after := #[{ on := 24, ground := Go.Ground.data }, { on := 21, ground := Go.Ground.chain }, { on := 16, ground := Go.Ground.guard }], guard := some (16, false) }) rfl (fun K hK => ?_) AllReadyH.nil
            go_simp
            refine (TR.out _).mono ?_
            rintro e v7 ⟨rfl, hb7⟩
            have HBx := Lib.hid (bstep hHeld.2.2.2.2.2.2 hb7)
            clear hHeld hb7
            refine hK.out _ _ ?_ (fun hHeld => ?_)
            · exact keepN1 PM.out HBx.out
            clear hK K HBx
            try simp only [Act.put, List.setIfInBounds_toArray, List.set_cons_zero, List.set_cons_succ]
            refine wpAnyH_take (i := 26) (oi := { dst := some 41, op := Go.Op.binOp Go.BinOp.add 9 (Go.Operand.tmp 37) (Go.Operand.tmp 40) 9, type := 9, pos := "law.go:80", after := #[{ on := 22, ground := Go.Ground.data }, { on := 25, ground := Go.Ground.data }, { on := 16, ground := Go.Ground.guard }], guard := some (16, false) }) (v := ?_) rfl (by kernel_rfl) (by kernel_rfl) (by kernel_rfl) (fun _ _ _ h => h) (Or.inl ⟨by rfl, ?_⟩) (by assumption) ?_
            rotate_left
            · intro w hSw
              try dsimp only at hSw
              go_simp
              try (rw [if_neg (by omega)])
              try with_reducible rfl
            try simp only [Act.put, List.setIfInBounds_toArray, List.set_cons_zero, List.set_cons_succ]
            refine wpAnyH_take (i := 27) (oi := { dst := some 42, op := Go.Op.binOp Go.BinOp.neq 9 (Go.Operand.tmp 33) (Go.Operand.tmp 41) 9, type := 4, pos := "law.go:80", after := #[{ on := 18, ground := Go.Ground.data }, { on := 26, ground := Go.Ground.data }, { on := 16, ground := Go.Ground.guard }], guard := some (16, false) }) (v := ?_) rfl (by kernel_rfl) (by kernel_rfl) (by kernel_rfl) (fun _ _ _ h => h) (Or.inl ⟨by rfl, ?_⟩) (by assumption) ?_
            rotate_left
            · intro w hSw
              try dsimp only at hSw
              go_simp
              try (rw [if_neg (by omega)])
              try with_reducible rfl
            try simp only [Act.put, List.setIfInBounds_toArray, List.set_cons_zero, List.set_cons_succ]
            refine wpAnyH_take (i := 28) (oi := { dst := some 43, op := Go.Op.pick (Go.Operand.tmp 31) (Go.Operand.const (Go.Value.bool true)) (Go.Operand.tmp 42), type := 4, pos := "law.go:80", after := #[{ on := 16, ground := Go.Ground.data }, { on := 27, ground := Go.Ground.data }], guard := none }) (v := ?_) rfl (by kernel_rfl) (by kernel_rfl) (by kernel_rfl) (fun _ _ _ h => h) (Or.inl ⟨by rfl, ?_⟩) (by assumption) ?_
            rotate_left
            · intro w hSw
              try dsimp only at hSw
              go_simp
              try (rw [if_neg (by omega)])
              try with_reducible rfl
            try simp only [Act.put, List.setIfInBounds_toArray, List.set_cons_zero, List.set_cons_succ]
            refine wpAnyH_done (by kernel_rfl) ?_ _
            replace B := bstep B hHeld.2.2.2.2.2.2
            clear hHeld PM DA DR TA TR NA
            go_wp2_with fail
            refine (CP1.out _).mono ?_
            rintro e w4 ⟨rfl, hb⟩
            replace B := bstep B hb
            clear hb CP1
            go_wp2_with fail
            refine (CP2.out _).mono ?_
            rintro e w5 ⟨rfl, hb⟩
            replace B := bstep B hb
            clear hb CP2
            go_wp2_with fail
            refine (CP3.out _).mono ?_
            rintro e w6 ⟨rfl, hb⟩
            replace B := bstep B hb
            clear hb CP3
            go_wp2_with fail
            refine (CP4.out _).mono ?_
            rintro e w7 ⟨rfl, hb⟩
            replace B := bstep B hb
            clear hb CP4
            go_wp2_with fail
            refine (CP5.out _).mono ?_
            rintro e w8 ⟨rfl, hb⟩
            replace B := bstep B hb
            clear hb CP5
            go_wp2_with fail
            refine (CP6.out _).mono ?_
            rintro e w9 ⟨rfl, hb⟩
            replace B := bstep B hb
            clear hb CP6
            go_wp2_with fail
            refine (CD.out _ (HT.out.below B)).mono ?_
            rintro e w10 ⟨rfl, hb⟩
            replace B := bstep B hb
            clear hb CD
            go_wp2_with fail
            refine (CM.out _ (HT.out.below B)).mono ?_
            rintro e w11 ⟨rfl, hb⟩
            replace B := bstep B hb
            clear hb CM
            go_wp2
            go_ret
            exact ⟨rfl, B⟩
      · have nn : n ≠ 0 := by simpa using nz
        have EN := HDN.out nn
        clear nn
        rcases SG with ⟨t3, f1, f2, rfl⟩ | ⟨t3, rfl, rfl⟩
        · rcases W2 with ⟨k, t4⟩ | ⟨k, t4⟩
          · have ED : dd = v3 := by rw [EN.1, HRT.out.1 k, ev3]
            have EM : mm = v5 := EN.2
            clear k EN
            clear hx
            have CD := Lib.hid (show ∀ w, Tab2 w → Calls Tryd.prog 15 #[.int .i64 n] w (Ret (.string v3) w) from fun w a => by have e := CD0 w a; rw [ED] at e; exact e)
            have CM := Lib.hid (show ∀ w, Tab2 w → Calls Tryd.prog 16 #[.int .i64 n] w (Ret (.string v5) w) from fun w a => by have e := CM0 w a; rw [EM] at e; exact e)
            clear ED EM CD0 CM0 HRT HDN HDZ
            go_enter Tryd.func3, Tryd.ntmps3
            go_upto_region 1 with fail
            have PR := Lib.hid (HoldsR.new rfl : HoldsR (w.alloc (RwC y m d s o z)) w.heap.size y m d s o z)
            have B := ballD1 (Below.refl w.heap.size w) (RwC y m d s o z)
            change Code.wp _ _ _ _ (w.alloc (RwC y m d s o z))
            generalize (w.alloc (RwC y m d s o z)) = w0 at *
            obtain ⟨⟨c0_0, c0_1, c0_2, c0_3, c0_4, c0_5⟩, -, c0z⟩ := PR.out
            go_wp2_with fail
            refine (AW.out _ (HT.out.below B)).mono ?_
            rintro e w1 ⟨rfl, hb⟩
            replace PR := Lib.hid (PR.out.below hb)
            replace B := bstep B hb
            clear hb AW
            clear c0_0 c0_1 c0_2 c0_3 c0_4 c0_5 c0z
            obtain ⟨⟨c0_0, c0_1, c0_2, c0_3, c0_4, c0_5⟩, -, c0z⟩ := PR.out
            go_wp2_with fail
            refine (MK.out _).mono ?_
            rintro e w2 ⟨rfl, hb⟩
            replace PR := Lib.hid (PR.out.below hb)
            replace B := bstep B hb
            clear hb MK
            clear c0_0 c0_1 c0_2 c0_3 c0_4 c0_5 c0z
            replace PR := Lib.hid (PR.out.alloc (MoC Y M E A z O))
            have PM := Lib.hid (HoldsN.new rfl : HoldsN (w2.alloc (MoC Y M E A z O)) w2.heap.size Y M E A z O)
            replace B := ballD1 B (MoC Y M E A z O)
            go_upto_region 4 with fail
            change Code.wp _ _ _ _ (w2.alloc (MoC Y M E A z O))
            generalize w2.alloc (MoC Y M E A z O) = w3 at *
            obtain ⟨gPM, hg⟩ : ∃ g, g = w2.heap.size := ⟨_, rfl⟩
            rw [← hg] at PM ⊢
            clear hg
            clear PR
            go_upto_region 4 with fail
            generalize w3 = V at *
            refine wp_region_held_drew (S := fun w' => w'.cell? ⟨gPM, 0, none⟩ = some (.int .i64 Y) ∧ w'.cell? ⟨gPM, 1, none⟩ = some (.int .i64 M) ∧ w'.cell? ⟨gPM, 2, none⟩ = some (.int .i64 E) ∧ w'.cell? ⟨gPM, 3, none⟩ = some (.int .i64 A) ∧ w'.cell? ⟨gPM, 4, none⟩ = some (.bool z) ∧ w'.cell? ⟨gPM, 5, none⟩ = some (.int .i64 O) ∧ Below V.heap.size V w') (by kernel_rfl) ?_ (fun hHeld => ?_)
            · exact keepN1 PM.out (Below.refl _ _).drew
            refine wpAnyH_take (i := 0) (oi := { dst := some 15, op := Go.Op.fieldAddr 30 (Go.Operand.tmp 5) 0, type := 0, pos := "law.go:80", after := #[], guard := none }) (v := ?_) rfl (by kernel_rfl) (by kernel_rfl) (by kernel_rfl) (fun _ _ _ h => h) (Or.inl ⟨by rfl, ?_⟩) (by assumption) ?_
            rotate_left
            · intro w hSw
              try dsimp only at hSw
              go_simp
              try (rw [if_neg (by omega)])
              try with_reducible rfl
            try simp only [Act.put, List.setIfInBounds_toArray, List.set_cons_zero, List.set_cons_succ]
            refine wpAnyH_take (i := 3) (oi := { dst := some 18, op := Go.Op.fieldAddr 30 (Go.Operand.tmp 5) 0, type := 0, pos := "law.go:80", after := #[], guard := none }) (v := ?_) rfl (by kernel_rfl) (by kernel_rfl) (by kernel_rfl) (fun _ _ _ h => h) (Or.inl ⟨by rfl, ?_⟩) (by assumption) ?_
            rotate_left
            · intro w hSw
              try dsimp only at hSw
              go_simp
              try (rw [if_neg (by omega)])
              try with_reducible rfl
            try simp only [Act.put, List.setIfInBounds_toArray, List.set_cons_zero, List.set_cons_succ]
            refine wpAnyH_take (i := 1) (oi := { dst := some 16, op := Go.Op.load 26 (Go.Operand.tmp 15), type := 26, pos := "law.go:80", after := #[{ on := 0, ground := Go.Ground.data }], guard := none }) (v := ?_) rfl (by kernel_rfl) (by kernel_rfl) (by kernel_rfl) (fun _ _ _ h => h) (Or.inl ⟨by rfl, ?_⟩) (by assumption) ?_
            rotate_left
            · intro w hSw
              try dsimp only at hSw
              go_simp
              try (rw [if_neg (by omega)])
              try with_reducible rfl
            try simp only [Act.put, List.setIfInBounds_toArray, List.set_cons_zero, List.set_cons_succ]
            refine wpAnyH_take (i := 4) (oi := { dst := some 19, op := Go.Op.load 26 (Go.Operand.tmp 18), type := 26, pos := "law.go:80", after := #[{ on := 3, ground := Go.Ground.data }], guard := none }) (v := ?_) rfl (by kernel_rfl) (by kernel_rfl) (by kernel_rfl) (fun _ _ _ h => h) (Or.inl ⟨by rfl, ?_⟩) (by assumption) ?_
            rotate_left
            · intro w hSw
              try dsimp only at hSw
              go_simp
              try (rw [if_neg (by omega)])
              try with_reducible rfl
            try simp only [Act.put, List.setIfInBounds_toArray, List.set_cons_zero, List.set_cons_succ]
            refine wpAnyH_ready (rs := [2]) (by kernel_rfl) (by simp) ?_
            refine AllReadyH.cons (o := { dst := some 17, op := Go.Op.call { callee := Go.Callee.value (Go.Operand.func 10), args := #[Go.Operand.tmp 16], argTypes := #[26] }, type := 9, pos := "law.go:80", after := #[{ on := 1, ground := Go.Ground.data }], guard := none }) rfl (fun K hK => ?_) AllReadyH.nil
            go_simp
            refine (DA.out _ (HT.out.below (bstep B hHeld.2.2.2.2.2.2))).mono ?_
            rintro e v1 ⟨rfl, hb1⟩
            have HBx := Lib.hid (bstep hHeld.2.2.2.2.2.2 hb1)
            clear hHeld hb1
            refine hK.out _ _ ?_ (fun hHeld => ?_)
            · exact keepN1 PM.out HBx.out
            clear hK K HBx
            try simp only [Act.put, List.setIfInBounds_toArray, List.set_cons_zero, List.set_cons_succ]
            refine wpAnyH_ready (rs := [5]) (by kernel_rfl) (by simp) ?_
            refine AllReadyH.cons (o := { dst := some 20, op := Go.Op.call { callee := Go.Callee.value (Go.Operand.func 11), args := #[Go.Operand.tmp 19], argTypes := #[26] }, type := 9, pos := "law.go:80", after := #[{ on := 4, ground := Go.Ground.data }, { on := 2, ground := Go.Ground.chain }], guard := none }) rfl (fun K hK => ?_) AllReadyH.nil
            go_simp
            refine (DR.out _).mono ?_
            rintro e v2 ⟨rfl, hb2⟩
            have HBx := Lib.hid (bstep hHeld.2.2.2.2.2.2 hb2)
            clear hHeld hb2
            refine hK.out _ _ ?_ (fun hHeld => ?_)
            · exact keepN1 PM.out HBx.out
            clear hK K HBx
            try simp only [Act.put, List.setIfInBounds_toArray, List.set_cons_zero, List.set_cons_succ]
            refine wpAnyH_take (i := 6) (oi := { dst := some 21, op := Go.Op.binOp Go.BinOp.neq 9 (Go.Operand.tmp 17) (Go.Operand.tmp 20) 9, type := 4, pos := "law.go:80", after := #[{ on := 2, ground := Go.Ground.data }, { on := 5, ground := Go.Ground.data }], guard := none }) (v := ?_) rfl (by kernel_rfl) (by kernel_rfl) (by kernel_rfl) (fun _ _ _ h => h) (Or.inl ⟨by rfl, ?_⟩) (by assumption) ?_
            rotate_left
            · intro w hSw
              try dsimp only at hSw
              go_simp
              try (rw [if_neg (by omega)])
              try with_reducible rfl
            try simp only [Act.put, List.setIfInBounds_toArray, List.set_cons_zero, List.set_cons_succ]
            refine wpAnyH_take (i := 7) (oi := { dst := some 22, op := Go.Op.move (Go.Operand.tmp 21), type := 4, pos := "law.go:80", after := #[{ on := 6, ground := Go.Ground.data }, { on := 5, ground := Go.Ground.chain }], guard := none }) (v := ?_) rfl (by kernel_rfl) (by kernel_rfl) (by kernel_rfl) (fun _ _ _ h => h) (Or.inl ⟨by rfl, ?_⟩) (by assumption) ?_
            rotate_left
            · intro w hSw
              try dsimp only at hSw
              go_simp
              try (rw [if_neg (by omega)])
              try with_reducible rfl
            try simp only [Act.put, List.setIfInBounds_toArray, List.set_cons_zero, List.set_cons_succ]
            refine wpAnyH_take (i := 8) (oi := { dst := some 23, op := Go.Op.fieldAddr 30 (Go.Operand.tmp 5) 1, type := 0, pos := "law.go:80", after := #[{ on := 7, ground := Go.Ground.guard }], guard := some (7, false) }) (v := ?_) rfl (by kernel_rfl) (by kernel_rfl) (by kernel_rfl) (fun _ _ _ h => h) (Or.inl ⟨by rfl, ?_⟩) (by assumption) ?_
            rotate_left
            · intro w hSw
              try dsimp only at hSw
              go_simp
              try (rw [if_neg (by omega)])
              try with_reducible rfl
            try simp only [Act.put, List.setIfInBounds_toArray, List.set_cons_zero, List.set_cons_succ]
            refine wpAnyH_take (i := 11) (oi := { dst := some 26, op := Go.Op.fieldAddr 30 (Go.Operand.tmp 5) 1, type := 0, pos := "law.go:80", after := #[{ on := 7, ground := Go.Ground.guard }], guard := some (7, false) }) (v := ?_) rfl (by kernel_rfl) (by kernel_rfl) (by kernel_rfl) (fun _ _ _ h => h) (Or.inl ⟨by rfl, ?_⟩) (by assumption) ?_
            rotate_left
            · intro w hSw
              try dsimp only at hSw
              go_simp
              try (rw [if_neg (by omega)])
              try with_reducible rfl
            try simp only [Act.put, List.setIfInBounds_toArray, List.set_cons_zero, List.set_cons_succ]
            refine wpAnyH_take (i := 9) (oi := { dst := some 24, op := Go.Op.load 28 (Go.Operand.tmp 23), type := 28, pos := "law.go:80", after := #[{ on := 8, ground := Go.Ground.data }, { on := 7, ground := Go.Ground.guard }], guard := some (7, false) }) (v := ?_) rfl (by kernel_rfl) (by kernel_rfl) (by kernel_rfl) (fun _ _ _ h => h) (Or.inl ⟨by rfl, ?_⟩) (by assumption) ?_
            rotate_left
            · intro w hSw
              try dsimp only at hSw
              go_simp
              try (rw [if_neg (by omega)])
              try with_reducible rfl
            try simp only [Act.put, List.setIfInBounds_toArray, List.set_cons_zero, List.set_cons_succ]
            refine wpAnyH_take (i := 12) (oi := { dst := some 27, op := Go.Op.load 28 (Go.Operand.tmp 26), type := 28, pos := "law.go:80", after := #[{ on := 11, ground := Go.Ground.data }, { on := 7, ground := Go.Ground.guard }], guard := some (7, false) }) (v := ?_) rfl (by kernel_rfl) (by kernel_rfl) (by kernel_rfl) (fun _ _ _ h => h) (Or.inl ⟨by rfl, ?_⟩) (by assumption) ?_
            rotate_left
            · intro w hSw
              try dsimp only at hSw
              go_simp
              try (rw [if_neg (by omega)])
              try with_reducible rfl
            try simp only [Act.put, List.setIfInBounds_toArray, List.set_cons_zero, List.set_cons_succ]
            refine wpAnyH_ready (rs := [10]) (by kernel_rfl) (by simp) ?_
            refine AllReadyH.cons (o := { dst := some 25, op := Go.Op.call { callee := Go.Callee.value (Go.Operand.func 12), args := #[Go.Operand.tmp 24], argTypes := #[28] }, type := 9, pos := "law.go:80", after := #[{ on := 9, ground := Go.Ground.data }, { on := 7, ground := Go.Ground.chain }, { on := 7, ground := Go.Ground.guard }], guard := some (7, false) }) rfl (fun K hK => ?_) AllReadyH.nil
            go_simp
            refine (TA.out _ (HT.out.below (bstep B hHeld.2.2.2.2.2.2))).mono ?_
            rintro e v3 ⟨rfl, hb3⟩
            have HBx := Lib.hid (bstep hHeld.2.2.2.2.2.2 hb3)
            clear hHeld hb3
            refine hK.out _ _ ?_ (fun hHeld => ?_)
            · exact keepN1 PM.out HBx.out
            clear hK K HBx
            try simp only [Act.put, List.setIfInBounds_toArray, List.set_cons_zero, List.set_cons_succ]
            refine wpAnyH_ready (rs := [13]) (by kernel_rfl) (by simp) ?_
            refine AllReadyH.cons (o := { dst := some 28, op := Go.Op.call { callee := Go.Callee.value (Go.Operand.func 13), args := #[Go.Operand.tmp 27], argTypes := #[28] }, type := 9, pos := "law.go:80", after := #[{ on := 12, ground := Go.Ground.data }, { on := 10, ground := Go.Ground.chain }, { on := 7, ground := Go.Ground.guard }], guard := some (7, false) }) rfl (fun K hK => ?_) AllReadyH.nil
            go_simp
            refine (TR.out _).mono ?_
            rintro e v4 ⟨rfl, hb4⟩
            have HBx := Lib.hid (bstep hHeld.2.2.2.2.2.2 hb4)
            clear hHeld hb4
            refine hK.out _ _ ?_ (fun hHeld => ?_)
            · exact keepN1 PM.out HBx.out
            clear hK K HBx
            try simp only [Act.put, List.setIfInBounds_toArray, List.set_cons_zero, List.set_cons_succ]
            refine wpAnyH_take (i := 14) (oi := { dst := some 29, op := Go.Op.binOp Go.BinOp.neq 9 (Go.Operand.tmp 25) (Go.Operand.tmp 28) 9, type := 4, pos := "law.go:80", after := #[{ on := 10, ground := Go.Ground.data }, { on := 13, ground := Go.Ground.data }, { on := 7, ground := Go.Ground.guard }], guard := some (7, false) }) (v := ?_) rfl (by kernel_rfl) (by kernel_rfl) (by kernel_rfl) (fun _ _ _ h => h) (Or.inl ⟨by rfl, ?_⟩) (by assumption) ?_
            rotate_left
            · intro w hSw
              try dsimp only at hSw
              go_simp
              try (rw [if_neg (by omega)])
              try with_reducible rfl
            try simp only [Act.put, List.setIfInBounds_toArray, List.set_cons_zero, List.set_cons_succ]
            refine wpAnyH_take (i := 15) (oi := { dst := some 30, op := Go.Op.pick (Go.Operand.tmp 22) (Go.Operand.const (Go.Value.bool true)) (Go.Operand.tmp 29), type := 4, pos := "law.go:80", after := #[{ on := 7, ground := Go.Ground.data }, { on := 14, ground := Go.Ground.data }], guard := none }) (v := ?_) rfl (by kernel_rfl) (by kernel_rfl) (by kernel_rfl) (fun _ _ _ h => h) (Or.inl ⟨by rfl, ?_⟩) (by assumption) ?_
            rotate_left
            · intro w hSw
              try dsimp only at hSw
              go_simp
              try (rw [if_neg (by omega)])
              try with_reducible rfl
            try simp only [Act.put, List.setIfInBounds_toArray, List.set_cons_zero, List.set_cons_succ]
            refine wpAnyH_take (i := 16) (oi := { dst := some 31, op := Go.Op.move (Go.Operand.tmp 30), type := 4, pos := "law.go:80", after := #[{ on := 15, ground := Go.Ground.data }, { on := 13, ground := Go.Ground.chain }], guard := none }) (v := ?_) rfl (by kernel_rfl) (by kernel_rfl) (by kernel_rfl) (fun _ _ _ h => h) (Or.inl ⟨by rfl, ?_⟩) (by assumption) ?_
            rotate_left
            · intro w hSw
              try dsimp only at hSw
              go_simp
              try (rw [if_neg (by omega)])
              try with_reducible rfl
            try simp only [Act.put, List.setIfInBounds_toArray, List.set_cons_zero, List.set_cons_succ]
            refine wpAnyH_take (i := 17) (oi := { dst := some 32, op := Go.Op.load 30 (Go.Operand.tmp 5), type := 30, pos := "law.go:80", after := #[{ on := 16, ground := Go.Ground.guard }], guard := some (16, false) }) (v := ?_) rfl (by kernel_rfl) (by kernel_rfl) (by kernel_rfl) (fun _ _ _ h => h) (Or.inl ⟨by rfl, ?_⟩) (by assumption) ?_
            rotate_left
            · intro w hSw
              try dsimp only at hSw
              go_simp
              try (rw [if_neg (by omega)])
              try with_reducible rfl
            try simp only [Act.put, List.setIfInBounds_toArray, List.set_cons_zero, List.set_cons_succ]
            refine wpAnyH_take (i := 19) (oi := { dst := some 34, op := Go.Op.fieldAddr 30 (Go.Operand.tmp 5) 0, type := 0, pos := "law.go:80", after := #[{ on := 16, ground := Go.Ground.guard }], guard := some (16, false) }) (v := ?_) rfl (by kernel_rfl) (by kernel_rfl) (by kernel_rfl) (fun _ _ _ h => h) (Or.inl ⟨by rfl, ?_⟩) (by assumption) ?_
            rotate_left
            · intro w hSw
              try dsimp only at hSw
              go_simp
              try (rw [if_neg (by omega)])
              try with_reducible rfl
            try simp only [Act.put, List.setIfInBounds_toArray, List.set_cons_zero, List.set_cons_succ]
            refine wpAnyH_take (i := 23) (oi := { dst := some 38, op := Go.Op.fieldAddr 30 (Go.Operand.tmp 5) 1, type := 0, pos := "law.go:80", after := #[{ on := 16, ground := Go.Ground.guard }], guard := some (16, false) }) (v := ?_) rfl (by kernel_rfl) (by kernel_rfl) (by kernel_rfl) (fun _ _ _ h => h) (Or.inl ⟨by rfl, ?_⟩) (by assumption) ?_
            rotate_left
            · intro w hSw
              try dsimp only at hSw
              go_simp
              try (rw [if_neg (by omega)])
              try with_reducible rfl
            try simp only [Act.put, List.setIfInBounds_toArray, List.set_cons_zero, List.set_cons_succ]
            refine wpAnyH_take (i := 20) (oi := { dst := some 35, op := Go.Op.load 26 (Go.Operand.tmp 34), type := 26, pos := "law.go:80", after := #[{ on := 19, ground := Go.Ground.data }, { on := 16, ground := Go.Ground.guard }], guard := some (16, false) }) (v := ?_) rfl (by kernel_rfl) (by kernel_rfl) (by kernel_rfl) (fun _ _ _ h => h) (Or.inl ⟨by rfl, ?_⟩) (by assumption) ?_
            rotate_left
            · intro w hSw
              try dsimp only at hSw
              go_simp
              try (rw [if_neg (by omega)])
              try with_reducible rfl
            try simp only [Act.put, List.setIfInBounds_toArray, List.set_cons_zero, List.set_cons_succ]
            refine wpAnyH_take (i := 24) (oi := { dst := some 39, op := Go.Op.load 28 (Go.Operand.tmp 38), type := 28, pos := "law.go:80", after := #[{ on := 23, ground := Go.Ground.data }, { on := 16, ground := Go.Ground.guard }], guard := some (16, false) }) (v := ?_) rfl (by kernel_rfl) (by kernel_rfl) (by kernel_rfl) (fun _ _ _ h => h) (Or.inl ⟨by rfl, ?_⟩) (by assumption) ?_
            rotate_left
            · intro w hSw
              try dsimp only at hSw
              go_simp
              try (rw [if_neg (by omega)])
              try with_reducible rfl
            try simp only [Act.put, List.setIfInBounds_toArray, List.set_cons_zero, List.set_cons_succ]
            refine wpAnyH_ready (rs := [18]) (by kernel_rfl) (by simp) ?_
            refine AllReadyH.cons (o := { dst := some 33, op := Go.Op.call { callee := Go.Callee.value (Go.Operand.func 14), args := #[Go.Operand.tmp 32], argTypes := #[30] }, type := 9, pos := "law.go:80", after := #[{ on := 17, ground := Go.Ground.data }, { on := 16, ground := Go.Ground.chain }, { on := 16, ground := Go.Ground.guard }], guard := some (16, false) }) rfl (fun K hK => ?_) AllReadyH.nil
            go_simp
            refine (NA.out _ (HT.out.below (bstep B hHeld.2.2.2.2.2.2))).mono ?_
            rintro e v5 ⟨rfl, hb5⟩
            have HBx := Lib.hid (bstep hHeld.2.2.2.2.2.2 hb5)
            clear hHeld hb5
            refine hK.out _ _ ?_ (fun hHeld => ?_)
            · exact keepN1 PM.out HBx.out
            clear hK K HBx
            try simp only [Act.put, List.setIfInBounds_toArray, List.set_cons_zero, List.set_cons_succ]
            refine wpAnyH_ready (rs := [21]) (by kernel_rfl) (by simp) ?_
            refine AllReadyH.cons (o := { dst := some 36, op := Go.Op.call { callee := Go.Callee.value (Go.Operand.func 11), args := #[Go.Operand.tmp 35], argTypes := #[26] }, type := 9, pos := "law.go:80", after := #[{ on := 20, ground := Go.Ground.data }, { on := 18, ground := Go.Ground.chain }, { on := 16, ground := Go.Ground.guard }], guard := some (16, false) }) rfl (fun K hK => ?_) AllReadyH.nil
            go_simp
            refine (DR.out _).mono ?_
            rintro e v6 ⟨rfl, hb6⟩
            have HBx := Lib.hid (bstep hHeld.2.2.2.2.2.2 hb6)
            clear hHeld hb6
            refine hK.out _ _ ?_ (fun hHeld => ?_)
            · exact keepN1 PM.out HBx.out
            clear hK K HBx
            try simp only [Act.put, List.setIfInBounds_toArray, List.set_cons_zero, List.set_cons_succ]
            refine wpAnyH_take (i := 22) (oi := { dst := some 37, op := Go.Op.binOp Go.BinOp.add 9 (Go.Operand.tmp 36) (Go.Operand.const (Go.Value.string { data := #[84] })) 9, type := 9, pos := "law.go:80", after := #[{ on := 21, ground := Go.Ground.data }, { on := 16, ground := Go.Ground.guard }], guard := some (16, false) }) (v := ?_) rfl (by kernel_rfl) (by kernel_rfl) (by kernel_rfl) (fun _ _ _ h => h) (Or.inl ⟨by rfl, ?_⟩) (by assumption) ?_
            rotate_left
            · intro w hSw
              try dsimp only at hSw
              go_simp
              try (rw [if_neg (by omega)])
              try with_reducible rfl
            try simp only [Act.put, List.setIfInBounds_toArray, List.set_cons_zero, List.set_cons_succ]
            refine wpAnyH_ready (rs := [25]) (by kernel_rfl) (by simp) ?_
            refine AllReadyH.cons (o := { dst := some 40, op := Go.Op.call { callee := Go.Callee.value (Go.Operand.func 13), args := #[Go.Operand.tmp 39], argTypes := #[28] }, type := 9, pos := "law.go:80", after := #[{ on := 24, ground := Go.Ground.data }, { on := 21, ground := Go.Ground.chain }, { on := 16, ground := Go.Ground.guard }], guard := some (16, false) }) rfl (fun K hK => ?_) AllReadyH.nil
            go_simp
            refine (TR.out _).mono ?_
            rintro e v7 ⟨rfl, hb7⟩
            have HBx := Lib.hid (bstep hHeld.2.2.2.2.2.2 hb7)
            clear hHeld hb7
            refine hK.out _ _ ?_ (fun hHeld => ?_)
            · exact keepN1 PM.out HBx.out
            clear hK K HBx
            try simp only [Act.put, List.setIfInBounds_toArray, List.set_cons_zero, List.set_cons_succ]
            refine wpAnyH_take (i := 26) (oi := { dst := some 41, op := Go.Op.binOp Go.BinOp.add 9 (Go.Operand.tmp 37) (Go.Operand.tmp 40) 9, type := 9, pos := "law.go:80", after := #[{ on := 22, ground := Go.Ground.data }, { on := 25, ground := Go.Ground.data }, { on := 16, ground := Go.Ground.guard }], guard := some (16, false) }) (v := ?_) rfl (by kernel_rfl) (by kernel_rfl) (by kernel_rfl) (fun _ _ _ h => h) (Or.inl ⟨by rfl, ?_⟩) (by assumption) ?_
            rotate_left
            · intro w hSw
              try dsimp only at hSw
              go_simp
              try (rw [if_neg (by omega)])
              try with_reducible rfl
            try simp only [Act.put, List.setIfInBounds_toArray, List.set_cons_zero, List.set_cons_succ]
            refine wpAnyH_take (i := 27) (oi := { dst := some 42, op := Go.Op.binOp Go.BinOp.neq 9 (Go.Operand.tmp 33) (Go.Operand.tmp 41) 9, type := 4, pos := "law.go:80", after := #[{ on := 18, ground := Go.Ground.data }, { on := 26, ground := Go.Ground.data }, { on := 16, ground := Go.Ground.guard }], guard := some (16, false) }) (v := ?_) rfl (by kernel_rfl) (by kernel_rfl) (by kernel_rfl) (fun _ _ _ h => h) (Or.inl ⟨by rfl, ?_⟩) (by assumption) ?_
            rotate_left
            · intro w hSw
              try dsimp only at hSw
              go_simp
              try (rw [if_neg (by omega)])
              try with_reducible rfl
            try simp only [Act.put, List.setIfInBounds_toArray, List.set_cons_zero, List.set_cons_succ]
            refine wpAnyH_take (i := 28) (oi := { dst := some 43, op := Go.Op.pick (Go.Operand.tmp 31) (Go.Operand.const (Go.Value.bool true)) (Go.Operand.tmp 42), type := 4, pos := "law.go:80", after := #[{ on := 16, ground := Go.Ground.data }, { on := 27, ground := Go.Ground.data }], guard := none }) (v := ?_) rfl (by kernel_rfl) (by kernel_rfl) (by kernel_rfl) (fun _ _ _ h => h) (Or.inl ⟨by rfl, ?_⟩) (by assumption) ?_
            rotate_left
            · intro w hSw
              try dsimp only at hSw
              go_simp
              try (rw [if_neg (by omega)])
              try with_reducible rfl
            try simp only [Act.put, List.setIfInBounds_toArray, List.set_cons_zero, List.set_cons_succ]
            refine wpAnyH_done (by kernel_rfl) ?_ _
            replace B := bstep B hHeld.2.2.2.2.2.2
            clear hHeld PM DA DR TA TR NA
            go_wp2_with fail
            refine (CP1.out _).mono ?_
            rintro e w4 ⟨rfl, hb⟩
            replace B := bstep B hb
            clear hb CP1
            go_wp2_with fail
            refine (CP2.out _).mono ?_
            rintro e w5 ⟨rfl, hb⟩
            replace B := bstep B hb
            clear hb CP2
            go_wp2_with fail
            refine (CP3.out _).mono ?_
            rintro e w6 ⟨rfl, hb⟩
            replace B := bstep B hb
            clear hb CP3
            go_wp2_with fail
            refine (CP4.out _).mono ?_
            rintro e w7 ⟨rfl, hb⟩
            replace B := bstep B hb
            clear hb CP4
            go_wp2_with fail
            refine (CP5.out _).mono ?_
            rintro e w8 ⟨rfl, hb⟩
            replace B := bstep B hb
            clear hb CP5
            go_wp2_with fail
            refine (CP6.out _).mono ?_
            rintro e w9 ⟨rfl, hb⟩
            replace B := bstep B hb
            clear hb CP6
            go_wp2_with fail
            refine (CD.out _ (HT.out.below B)).mono ?_
            rintro e w10 ⟨rfl, hb⟩
            replace B := bstep B hb
            clear hb CD
            go_wp2_with fail
            refine (CM.out _ (HT.out.below B)).mono ?_
            rintro e w11 ⟨rfl, hb⟩
            replace B := bstep B hb
            clear hb CM
            go_wp2
            go_ret
            exact ⟨rfl, B⟩
          · have ED : dd = v2 := by rw [EN.1, HRT.out.2 k, ev2]
            have EM : mm = v5 := EN.2
            clear k EN
            clear hx
            have CD := Lib.hid (show ∀ w, Tab2 w → Calls Tryd.prog 15 #[.int .i64 n] w (Ret (.string v2) w) from fun w a => by have e := CD0 w a; rw [ED] at e; exact e)
            have CM := Lib.hid (show ∀ w, Tab2 w → Calls Tryd.prog 16 #[.int .i64 n] w (Ret (.string v5) w) from fun w a => by have e := CM0 w a; rw [EM] at e; exact e)
            clear ED EM CD0 CM0 HRT HDN HDZ
            go_enter Tryd.func3, Tryd.ntmps3
            go_upto_region 1 with fail
            have PR := Lib.hid (HoldsR.new rfl : HoldsR (w.alloc (RwC y m d s o z)) w.heap.size y m d s o z)
            have B := ballD1 (Below.refl w.heap.size w) (RwC y m d s o z)
            change Code.wp _ _ _ _ (w.alloc (RwC y m d s o z))
            generalize (w.alloc (RwC y m d s o z)) = w0 at *
            obtain ⟨⟨c0_0, c0_1, c0_2, c0_3, c0_4, c0_5⟩, -, c0z⟩ := PR.out
            go_wp2_with fail
            refine (AW.out _ (HT.out.below B)).mono ?_
            rintro e w1 ⟨rfl, hb⟩
            replace PR := Lib.hid (PR.out.below hb)
            replace B := bstep B hb
            clear hb AW
            clear c0_0 c0_1 c0_2 c0_3 c0_4 c0_5 c0z
            obtain ⟨⟨c0_0, c0_1, c0_2, c0_3, c0_4, c0_5⟩, -, c0z⟩ := PR.out
            go_wp2_with fail
            refine (MK.out _).mono ?_
            rintro e w2 ⟨rfl, hb⟩
            replace PR := Lib.hid (PR.out.below hb)
            replace B := bstep B hb
            clear hb MK
            clear c0_0 c0_1 c0_2 c0_3 c0_4 c0_5 c0z
            replace PR := Lib.hid (PR.out.alloc (MoC Y M E A z O))
            have PM := Lib.hid (HoldsN.new rfl : HoldsN (w2.alloc (MoC Y M E A z O)) w2.heap.size Y M E A z O)
            replace B := ballD1 B (MoC Y M E A z O)
            go_upto_region 4 with fail
            change Code.wp _ _ _ _ (w2.alloc (MoC Y M E A z O))
            generalize w2.alloc (MoC Y M E A z O) = w3 at *
            obtain ⟨gPM, hg⟩ : ∃ g, g = w2.heap.size := ⟨_, rfl⟩
            rw [← hg] at PM ⊢
            clear hg
            clear PR
            go_upto_region 4 with fail
            generalize w3 = V at *
            refine wp_region_held_drew (S := fun w' => w'.cell? ⟨gPM, 0, none⟩ = some (.int .i64 Y) ∧ w'.cell? ⟨gPM, 1, none⟩ = some (.int .i64 M) ∧ w'.cell? ⟨gPM, 2, none⟩ = some (.int .i64 E) ∧ w'.cell? ⟨gPM, 3, none⟩ = some (.int .i64 A) ∧ w'.cell? ⟨gPM, 4, none⟩ = some (.bool z) ∧ w'.cell? ⟨gPM, 5, none⟩ = some (.int .i64 O) ∧ Below V.heap.size V w') (by kernel_rfl) ?_ (fun hHeld => ?_)
            · exact keepN1 PM.out (Below.refl _ _).drew
            refine wpAnyH_take (i := 0) (oi := { dst := some 15, op := Go.Op.fieldAddr 30 (Go.Operand.tmp 5) 0, type := 0, pos := "law.go:80", after := #[], guard := none }) (v := ?_) rfl (by kernel_rfl) (by kernel_rfl) (by kernel_rfl) (fun _ _ _ h => h) (Or.inl ⟨by rfl, ?_⟩) (by assumption) ?_
            rotate_left
            · intro w hSw
              try dsimp only at hSw
              go_simp
              try (rw [if_neg (by omega)])
              try with_reducible rfl
            try simp only [Act.put, List.setIfInBounds_toArray, List.set_cons_zero, List.set_cons_succ]
            refine wpAnyH_take (i := 3) (oi := { dst := some 18, op := Go.Op.fieldAddr 30 (Go.Operand.tmp 5) 0, type := 0, pos := "law.go:80", after := #[], guard := none }) (v := ?_) rfl (by kernel_rfl) (by kernel_rfl) (by kernel_rfl) (fun _ _ _ h => h) (Or.inl ⟨by rfl, ?_⟩) (by assumption) ?_
            rotate_left
            · intro w hSw
              try dsimp only at hSw
              go_simp
              try (rw [if_neg (by omega)])
              try with_reducible rfl
            try simp only [Act.put, List.setIfInBounds_toArray, List.set_cons_zero, List.set_cons_succ]
            refine wpAnyH_take (i := 1) (oi := { dst := some 16, op := Go.Op.load 26 (Go.Operand.tmp 15), type := 26, pos := "law.go:80", after := #[{ on := 0, ground := Go.Ground.data }], guard := none }) (v := ?_) rfl (by kernel_rfl) (by kernel_rfl) (by kernel_rfl) (fun _ _ _ h => h) (Or.inl ⟨by rfl, ?_⟩) (by assumption) ?_
            rotate_left
            · intro w hSw
              try dsimp only at hSw
              go_simp
              try (rw [if_neg (by omega)])
              try with_reducible rfl
            try simp only [Act.put, List.setIfInBounds_toArray, List.set_cons_zero, List.set_cons_succ]
            refine wpAnyH_take (i := 4) (oi := { dst := some 19, op := Go.Op.load 26 (Go.Operand.tmp 18), type := 26, pos := "law.go:80", after := #[{ on := 3, ground := Go.Ground.data }], guard := none }) (v := ?_) rfl (by kernel_rfl) (by kernel_rfl) (by kernel_rfl) (fun _ _ _ h => h) (Or.inl ⟨by rfl, ?_⟩) (by assumption) ?_
            rotate_left
            · intro w hSw
              try dsimp only at hSw
              go_simp
              try (rw [if_neg (by omega)])
              try with_reducible rfl
            try simp only [Act.put, List.setIfInBounds_toArray, List.set_cons_zero, List.set_cons_succ]
            refine wpAnyH_ready (rs := [2]) (by kernel_rfl) (by simp) ?_
            refine AllReadyH.cons (o := { dst := some 17, op := Go.Op.call { callee := Go.Callee.value (Go.Operand.func 10), args := #[Go.Operand.tmp 16], argTypes := #[26] }, type := 9, pos := "law.go:80", after := #[{ on := 1, ground := Go.Ground.data }], guard := none }) rfl (fun K hK => ?_) AllReadyH.nil
            go_simp
            refine (DA.out _ (HT.out.below (bstep B hHeld.2.2.2.2.2.2))).mono ?_
            rintro e v1 ⟨rfl, hb1⟩
            have HBx := Lib.hid (bstep hHeld.2.2.2.2.2.2 hb1)
            clear hHeld hb1
            refine hK.out _ _ ?_ (fun hHeld => ?_)
            · exact keepN1 PM.out HBx.out
            clear hK K HBx
            try simp only [Act.put, List.setIfInBounds_toArray, List.set_cons_zero, List.set_cons_succ]
            refine wpAnyH_ready (rs := [5]) (by kernel_rfl) (by simp) ?_
            refine AllReadyH.cons (o := { dst := some 20, op := Go.Op.call { callee := Go.Callee.value (Go.Operand.func 11), args := #[Go.Operand.tmp 19], argTypes := #[26] }, type := 9, pos := "law.go:80", after := #[{ on := 4, ground := Go.Ground.data }, { on := 2, ground := Go.Ground.chain }], guard := none }) rfl (fun K hK => ?_) AllReadyH.nil
            go_simp
            refine (DR.out _).mono ?_
            rintro e v2 ⟨rfl, hb2⟩
            have HBx := Lib.hid (bstep hHeld.2.2.2.2.2.2 hb2)
            clear hHeld hb2
            refine hK.out _ _ ?_ (fun hHeld => ?_)
            · exact keepN1 PM.out HBx.out
            clear hK K HBx
            try simp only [Act.put, List.setIfInBounds_toArray, List.set_cons_zero, List.set_cons_succ]
            refine wpAnyH_take (i := 6) (oi := { dst := some 21, op := Go.Op.binOp Go.BinOp.neq 9 (Go.Operand.tmp 17) (Go.Operand.tmp 20) 9, type := 4, pos := "law.go:80", after := #[{ on := 2, ground := Go.Ground.data }, { on := 5, ground := Go.Ground.data }], guard := none }) (v := ?_) rfl (by kernel_rfl) (by kernel_rfl) (by kernel_rfl) (fun _ _ _ h => h) (Or.inl ⟨by rfl, ?_⟩) (by assumption) ?_
            rotate_left
            · intro w hSw
              try dsimp only at hSw
              go_simp
              try (rw [if_neg (by omega)])
              try with_reducible rfl
            try simp only [Act.put, List.setIfInBounds_toArray, List.set_cons_zero, List.set_cons_succ]
            refine wpAnyH_take (i := 7) (oi := { dst := some 22, op := Go.Op.move (Go.Operand.tmp 21), type := 4, pos := "law.go:80", after := #[{ on := 6, ground := Go.Ground.data }, { on := 5, ground := Go.Ground.chain }], guard := none }) (v := ?_) rfl (by kernel_rfl) (by kernel_rfl) (by kernel_rfl) (fun _ _ _ h => h) (Or.inl ⟨by rfl, ?_⟩) (by assumption) ?_
            rotate_left
            · intro w hSw
              try dsimp only at hSw
              go_simp
              try (rw [if_neg (by omega)])
              try with_reducible rfl
            try simp only [Act.put, List.setIfInBounds_toArray, List.set_cons_zero, List.set_cons_succ]
            refine wpAnyH_take (i := 8) (oi := { dst := some 23, op := Go.Op.fieldAddr 30 (Go.Operand.tmp 5) 1, type := 0, pos := "law.go:80", after := #[{ on := 7, ground := Go.Ground.guard }], guard := some (7, false) }) (v := ?_) rfl (by kernel_rfl) (by kernel_rfl) (by kernel_rfl) (fun _ _ _ h => h) (Or.inl ⟨by rfl, ?_⟩) (by assumption) ?_
            rotate_left
            · intro w hSw
              try dsimp only at hSw
              go_simp
              try (rw [if_neg (by omega)])
              try with_reducible rfl
            try simp only [Act.put, List.setIfInBounds_toArray, List.set_cons_zero, List.set_cons_succ]
            refine wpAnyH_take (i := 11) (oi := { dst := some 26, op := Go.Op.fieldAddr 30 (Go.Operand.tmp 5) 1, type := 0, pos := "law.go:80", after := #[{ on := 7, ground := Go.Ground.guard }], guard := some (7, false) }) (v := ?_) rfl (by kernel_rfl) (by kernel_rfl) (by kernel_rfl) (fun _ _ _ h => h) (Or.inl ⟨by rfl, ?_⟩) (by assumption) ?_
            rotate_left
            · intro w hSw
              try dsimp only at hSw
              go_simp
              try (rw [if_neg (by omega)])
              try with_reducible rfl
            try simp only [Act.put, List.setIfInBounds_toArray, List.set_cons_zero, List.set_cons_succ]
            refine wpAnyH_take (i := 9) (oi := { dst := some 24, op := Go.Op.load 28 (Go.Operand.tmp 23), type := 28, pos := "law.go:80", after := #[{ on := 8, ground := Go.Ground.data }, { on := 7, ground := Go.Ground.guard }], guard := some (7, false) }) (v := ?_) rfl (by kernel_rfl) (by kernel_rfl) (by kernel_rfl) (fun _ _ _ h => h) (Or.inl ⟨by rfl, ?_⟩) (by assumption) ?_
            rotate_left
            · intro w hSw
              try dsimp only at hSw
              go_simp
              try (rw [if_neg (by omega)])
              try with_reducible rfl
            try simp only [Act.put, List.setIfInBounds_toArray, List.set_cons_zero, List.set_cons_succ]
            refine wpAnyH_take (i := 12) (oi := { dst := some 27, op := Go.Op.load 28 (Go.Operand.tmp 26), type := 28, pos := "law.go:80", after := #[{ on := 11, ground := Go.Ground.data }, { on := 7, ground := Go.Ground.guard }], guard := some (7, false) }) (v := ?_) rfl (by kernel_rfl) (by kernel_rfl) (by kernel_rfl) (fun _ _ _ h => h) (Or.inl ⟨by rfl, ?_⟩) (by assumption) ?_
            rotate_left
            · intro w hSw
              try dsimp only at hSw
              go_simp
              try (rw [if_neg (by omega)])
              try with_reducible rfl
            try simp only [Act.put, List.setIfInBounds_toArray, List.set_cons_zero, List.set_cons_succ]
            refine wpAnyH_ready (rs := [10]) (by kernel_rfl) (by simp) ?_
            refine AllReadyH.cons (o := { dst := some 25, op := Go.Op.call { callee := Go.Callee.value (Go.Operand.func 12), args := #[Go.Operand.tmp 24], argTypes := #[28] }, type := 9, pos := "law.go:80", after := #[{ on := 9, ground := Go.Ground.data }, { on := 7, ground := Go.Ground.chain }, { on := 7, ground := Go.Ground.guard }], guard := some (7, false) }) rfl (fun K hK => ?_) AllReadyH.nil
            go_simp
            refine (TA.out _ (HT.out.below (bstep B hHeld.2.2.2.2.2.2))).mono ?_
            rintro e v3 ⟨rfl, hb3⟩
            have HBx := Lib.hid (bstep hHeld.2.2.2.2.2.2 hb3)
            clear hHeld hb3
            refine hK.out _ _ ?_ (fun hHeld => ?_)
            · exact keepN1 PM.out HBx.out
            clear hK K HBx
            try simp only [Act.put, List.setIfInBounds_toArray, List.set_cons_zero, List.set_cons_succ]
            refine wpAnyH_ready (rs := [13]) (by kernel_rfl) (by simp) ?_
            refine AllReadyH.cons (o := { dst := some 28, op := Go.Op.call { callee := Go.Callee.value (Go.Operand.func 13), args := #[Go.Operand.tmp 27], argTypes := #[28] }, type := 9, pos := "law.go:80", after := #[{ on := 12, ground := Go.Ground.data }, { on := 10, ground := Go.Ground.chain }, { on := 7, ground := Go.Ground.guard }], guard := some (7, false) }) rfl (fun K hK => ?_) AllReadyH.nil
            go_simp
            refine (TR.out _).mono ?_
            rintro e v4 ⟨rfl, hb4⟩
            have HBx := Lib.hid (bstep hHeld.2.2.2.2.2.2 hb4)
            clear hHeld hb4
            refine hK.out _ _ ?_ (fun hHeld => ?_)
            · exact keepN1 PM.out HBx.out
            clear hK K HBx
            try simp only [Act.put, List.setIfInBounds_toArray, List.set_cons_zero, List.set_cons_succ]
            refine wpAnyH_take (i := 14) (oi := { dst := some 29, op := Go.Op.binOp Go.BinOp.neq 9 (Go.Operand.tmp 25) (Go.Operand.tmp 28) 9, type := 4, pos := "law.go:80", after := #[{ on := 10, ground := Go.Ground.data }, { on := 13, ground := Go.Ground.data }, { on := 7, ground := Go.Ground.guard }], guard := some (7, false) }) (v := ?_) rfl (by kernel_rfl) (by kernel_rfl) (by kernel_rfl) (fun _ _ _ h => h) (Or.inl ⟨by rfl, ?_⟩) (by assumption) ?_
            rotate_left
            · intro w hSw
              try dsimp only at hSw
              go_simp
              try (rw [if_neg (by omega)])
              try with_reducible rfl
            try simp only [Act.put, List.setIfInBounds_toArray, List.set_cons_zero, List.set_cons_succ]
            refine wpAnyH_take (i := 15) (oi := { dst := some 30, op := Go.Op.pick (Go.Operand.tmp 22) (Go.Operand.const (Go.Value.bool true)) (Go.Operand.tmp 29), type := 4, pos := "law.go:80", after := #[{ on := 7, ground := Go.Ground.data }, { on := 14, ground := Go.Ground.data }], guard := none }) (v := ?_) rfl (by kernel_rfl) (by kernel_rfl) (by kernel_rfl) (fun _ _ _ h => h) (Or.inl ⟨by rfl, ?_⟩) (by assumption) ?_
            rotate_left
            · intro w hSw
              try dsimp only at hSw
              go_simp
              try (rw [if_neg (by omega)])
              try with_reducible rfl
            try simp only [Act.put, List.setIfInBounds_toArray, List.set_cons_zero, List.set_cons_succ]
            refine wpAnyH_take (i := 16) (oi := { dst := some 31, op := Go.Op.move (Go.Operand.tmp 30), type := 4, pos := "law.go:80", after := #[{ on := 15, ground := Go.Ground.data }, { on := 13, ground := Go.Ground.chain }], guard := none }) (v := ?_) rfl (by kernel_rfl) (by kernel_rfl) (by kernel_rfl) (fun _ _ _ h => h) (Or.inl ⟨by rfl, ?_⟩) (by assumption) ?_
            rotate_left
            · intro w hSw
              try dsimp only at hSw
              go_simp
              try (rw [if_neg (by omega)])
              try with_reducible rfl
            try simp only [Act.put, List.setIfInBounds_toArray, List.set_cons_zero, List.set_cons_succ]
            refine wpAnyH_take (i := 17) (oi := { dst := some 32, op := Go.Op.load 30 (Go.Operand.tmp 5), type := 30, pos := "law.go:80", after := #[{ on := 16, ground := Go.Ground.guard }], guard := some (16, false) }) (v := ?_) rfl (by kernel_rfl) (by kernel_rfl) (by kernel_rfl) (fun _ _ _ h => h) (Or.inl ⟨by rfl, ?_⟩) (by assumption) ?_
            rotate_left
            · intro w hSw
              try dsimp only at hSw
              go_simp
              try (rw [if_neg (by omega)])
              try with_reducible rfl
            try simp only [Act.put, List.setIfInBounds_toArray, List.set_cons_zero, List.set_cons_succ]
            refine wpAnyH_take (i := 19) (oi := { dst := some 34, op := Go.Op.fieldAddr 30 (Go.Operand.tmp 5) 0, type := 0, pos := "law.go:80", after := #[{ on := 16, ground := Go.Ground.guard }], guard := some (16, false) }) (v := ?_) rfl (by kernel_rfl) (by kernel_rfl) (by kernel_rfl) (fun _ _ _ h => h) (Or.inl ⟨by rfl, ?_⟩) (by assumption) ?_
            rotate_left
            · intro w hSw
              try dsimp only at hSw
              go_simp
              try (rw [if_neg (by omega)])
              try with_reducible rfl
            try simp only [Act.put, List.setIfInBounds_toArray, List.set_cons_zero, List.set_cons_succ]
            refine wpAnyH_take (i := 23) (oi := { dst := some 38, op := Go.Op.fieldAddr 30 (Go.Operand.tmp 5) 1, type := 0, pos := "law.go:80", after := #[{ on := 16, ground := Go.Ground.guard }], guard := some (16, false) }) (v := ?_) rfl (by kernel_rfl) (by kernel_rfl) (by kernel_rfl) (fun _ _ _ h => h) (Or.inl ⟨by rfl, ?_⟩) (by assumption) ?_
            rotate_left
            · intro w hSw
              try dsimp only at hSw
              go_simp
              try (rw [if_neg (by omega)])
              try with_reducible rfl
            try simp only [Act.put, List.setIfInBounds_toArray, List.set_cons_zero, List.set_cons_succ]
            refine wpAnyH_take (i := 20) (oi := { dst := some 35, op := Go.Op.load 26 (Go.Operand.tmp 34), type := 26, pos := "law.go:80", after := #[{ on := 19, ground := Go.Ground.data }, { on := 16, ground := Go.Ground.guard }], guard := some (16, false) }) (v := ?_) rfl (by kernel_rfl) (by kernel_rfl) (by kernel_rfl) (fun _ _ _ h => h) (Or.inl ⟨by rfl, ?_⟩) (by assumption) ?_
            rotate_left
            · intro w hSw
              try dsimp only at hSw
              go_simp
              try (rw [if_neg (by omega)])
              try with_reducible rfl
            try simp only [Act.put, List.setIfInBounds_toArray, List.set_cons_zero, List.set_cons_succ]
            refine wpAnyH_take (i := 24) (oi := { dst := some 39, op := Go.Op.load 28 (Go.Operand.tmp 38), type := 28, pos := "law.go:80", after := #[{ on := 23, ground := Go.Ground.data }, { on := 16, ground := Go.Ground.guard }], guard := some (16, false) }) (v := ?_) rfl (by kernel_rfl) (by kernel_rfl) (by kernel_rfl) (fun _ _ _ h => h) (Or.inl ⟨by rfl, ?_⟩) (by assumption) ?_
            rotate_left
            · intro w hSw
              try dsimp only at hSw
              go_simp
              try (rw [if_neg (by omega)])
              try with_reducible rfl
            try simp only [Act.put, List.setIfInBounds_toArray, List.set_cons_zero, List.set_cons_succ]
            refine wpAnyH_ready (rs := [18]) (by kernel_rfl) (by simp) ?_
            refine AllReadyH.cons (o := { dst := some 33, op := Go.Op.call { callee := Go.Callee.value (Go.Operand.func 14), args := #[Go.Operand.tmp 32], argTypes := #[30] }, type := 9, pos := "law.go:80", after := #[{ on := 17, ground := Go.Ground.data }, { on := 16, ground := Go.Ground.chain }, { on := 16, ground := Go.Ground.guard }], guard := some (16, false) }) rfl (fun K hK => ?_) AllReadyH.nil
            go_simp
            refine (NA.out _ (HT.out.below (bstep B hHeld.2.2.2.2.2.2))).mono ?_
            rintro e v5 ⟨rfl, hb5⟩
            have HBx := Lib.hid (bstep hHeld.2.2.2.2.2.2 hb5)
            clear hHeld hb5
            refine hK.out _ _ ?_ (fun hHeld => ?_)
            · exact keepN1 PM.out HBx.out
            clear hK K HBx
            try simp only [Act.put, List.setIfInBounds_toArray, List.set_cons_zero, List.set_cons_succ]
            refine wpAnyH_ready (rs := [21]) (by kernel_rfl) (by simp) ?_
            refine AllReadyH.cons (o := { dst := some 36, op := Go.Op.call { callee := Go.Callee.value (Go.Operand.func 11), args := #[Go.Operand.tmp 35], argTypes := #[26] }, type := 9, pos := "law.go:80", after := #[{ on := 20, ground := Go.Ground.data }, { on := 18, ground := Go.Ground.chain }, { on := 16, ground := Go.Ground.guard }], guard := some (16, false) }) rfl (fun K hK => ?_) AllReadyH.nil
            go_simp
            refine (DR.out _).mono ?_
            rintro e v6 ⟨rfl, hb6⟩
            have HBx := Lib.hid (bstep hHeld.2.2.2.2.2.2 hb6)
            clear hHeld hb6
            refine hK.out _ _ ?_ (fun hHeld => ?_)
            · exact keepN1 PM.out HBx.out
            clear hK K HBx
            try simp only [Act.put, List.setIfInBounds_toArray, List.set_cons_zero, List.set_cons_succ]
            refine wpAnyH_take (i := 22) (oi := { dst := some 37, op := Go.Op.binOp Go.BinOp.add 9 (Go.Operand.tmp 36) (Go.Operand.const (Go.Value.string { data := #[84] })) 9, type := 9, pos := "law.go:80", after := #[{ on := 21, ground := Go.Ground.data }, { on := 16, ground := Go.Ground.guard }], guard := some (16, false) }) (v := ?_) rfl (by kernel_rfl) (by kernel_rfl) (by kernel_rfl) (fun _ _ _ h => h) (Or.inl ⟨by rfl, ?_⟩) (by assumption) ?_
            rotate_left
            · intro w hSw
              try dsimp only at hSw
              go_simp
              try (rw [if_neg (by omega)])
              try with_reducible rfl
            try simp only [Act.put, List.setIfInBounds_toArray, List.set_cons_zero, List.set_cons_succ]
            refine wpAnyH_ready (rs := [25]) (by kernel_rfl) (by simp) ?_
            refine AllReadyH.cons (o := { dst := some 40, op := Go.Op.call { callee := Go.Callee.value (Go.Operand.func 13), args := #[Go.Operand.tmp 39], argTypes := #[28] }, type := 9, pos := "law.go:80", after := #[{ on := 24, ground := Go.Ground.data }, { on := 21, ground := Go.Ground.chain }, { on := 16, ground := Go.Ground.guard }], guard := some (16, false) }) rfl (fun K hK => ?_) AllReadyH.nil
            go_simp
            refine (TR.out _).mono ?_
            rintro e v7 ⟨rfl, hb7⟩
            have HBx := Lib.hid (bstep hHeld.2.2.2.2.2.2 hb7)
            clear hHeld hb7
            refine hK.out _ _ ?_ (fun hHeld => ?_)
            · exact keepN1 PM.out HBx.out
            clear hK K HBx
            try simp only [Act.put, List.setIfInBounds_toArray, List.set_cons_zero, List.set_cons_succ]
            refine wpAnyH_take (i := 26) (oi := { dst := some 41, op := Go.Op.binOp Go.BinOp.add 9 (Go.Operand.tmp 37) (Go.Operand.tmp 40) 9, type := 9, pos := "law.go:80", after := #[{ on := 22, ground := Go.Ground.data }, { on := 25, ground := Go.Ground.data }, { on := 16, ground := Go.Ground.guard }], guard := some (16, false) }) (v := ?_) rfl (by kernel_rfl) (by kernel_rfl) (by kernel_rfl) (fun _ _ _ h => h) (Or.inl ⟨by rfl, ?_⟩) (by assumption) ?_
            rotate_left
            · intro w hSw
              try dsimp only at hSw
              go_simp
              try (rw [if_neg (by omega)])
              try with_reducible rfl
            try simp only [Act.put, List.setIfInBounds_toArray, List.set_cons_zero, List.set_cons_succ]
            refine wpAnyH_take (i := 27) (oi := { dst := some 42, op := Go.Op.binOp Go.BinOp.neq 9 (Go.Operand.tmp 33) (Go.Operand.tmp 41) 9, type := 4, pos := "law.go:80", after := #[{ on := 18, ground := Go.Ground.data }, { on := 26, ground := Go.Ground.data }, { on := 16, ground := Go.Ground.guard }], guard := some (16, false) }) (v := ?_) rfl (by kernel_rfl) (by kernel_rfl) (by kernel_rfl) (fun _ _ _ h => h) (Or.inl ⟨by rfl, ?_⟩) (by assumption) ?_
            rotate_left
            · intro w hSw
              try dsimp only at hSw
              go_simp
              try (rw [if_neg (by omega)])
              try with_reducible rfl
            try simp only [Act.put, List.setIfInBounds_toArray, List.set_cons_zero, List.set_cons_succ]
            refine wpAnyH_take (i := 28) (oi := { dst := some 43, op := Go.Op.pick (Go.Operand.tmp 31) (Go.Operand.const (Go.Value.bool true)) (Go.Operand.tmp 42), type := 4, pos := "law.go:80", after := #[{ on := 16, ground := Go.Ground.data }, { on := 27, ground := Go.Ground.data }], guard := none }) (v := ?_) rfl (by kernel_rfl) (by kernel_rfl) (by kernel_rfl) (fun _ _ _ h => h) (Or.inl ⟨by rfl, ?_⟩) (by assumption) ?_
            rotate_left
            · intro w hSw
              try dsimp only at hSw
              go_simp
              try (rw [if_neg (by omega)])
              try with_reducible rfl
            try simp only [Act.put, List.setIfInBounds_toArray, List.set_cons_zero, List.set_cons_succ]
            refine wpAnyH_done (by kernel_rfl) ?_ _
            replace B := bstep B hHeld.2.2.2.2.2.2
            clear hHeld PM DA DR TA TR NA
            go_wp2_with fail
            refine (CP1.out _).mono ?_
            rintro e w4 ⟨rfl, hb⟩
            replace B := bstep B hb
            clear hb CP1
            go_wp2_with fail
            refine (CP2.out _).mono ?_
            rintro e w5 ⟨rfl, hb⟩
            replace B := bstep B hb
            clear hb CP2
            go_wp2_with fail
            refine (CP3.out _).mono ?_
            rintro e w6 ⟨rfl, hb⟩
            replace B := bstep B hb
            clear hb CP3
            go_wp2_with fail
            refine (CP4.out _).mono ?_
            rintro e w7 ⟨rfl, hb⟩
            replace B := bstep B hb
            clear hb CP4
            go_wp2_with fail
            refine (CP5.out _).mono ?_
            rintro e w8 ⟨rfl, hb⟩
            replace B := bstep B hb
            clear hb CP5
            go_wp2_with fail
            refine (CP6.out _).mono ?_
            rintro e w9 ⟨rfl, hb⟩
            replace B := bstep B hb
            clear hb CP6
            go_wp2_with fail
            refine (CD.out _ (HT.out.below B)).mono ?_
            rintro e w10 ⟨rfl, hb⟩
            replace B := bstep B hb
            clear hb CD
            go_wp2_with fail
            refine (CM.out _ (HT.out.below B)).mono ?_
            rintro e w11 ⟨rfl, hb⟩
            replace B := bstep B hb
            clear hb CM
            go_wp2
            go_ret
            exact ⟨rfl, B⟩
        · rcases W2 with ⟨k, t4⟩ | ⟨k, t4⟩
          · have ED : dd = v3 := by rw [EN.1, HRT.out.1 k, ev3]
            have EM : mm = v5 := EN.2
            clear k EN
            clear hx
            have CD := Lib.hid (show ∀ w, Tab2 w → Calls Tryd.prog 15 #[.int .i64 n] w (Ret (.string v3) w) from fun w a => by have e := CD0 w a; rw [ED] at e; exact e)
            have CM := Lib.hid (show ∀ w, Tab2 w → Calls Tryd.prog 16 #[.int .i64 n] w (Ret (.string v5) w) from fun w a => by have e := CM0 w a; rw [EM] at e; exact e)
            clear ED EM CD0 CM0 HRT HDN HDZ
            go_enter Tryd.func3, Tryd.ntmps3
            go_upto_region 1 with fail
            have PR := Lib.hid (HoldsR.new rfl : HoldsR (w.alloc (RwC y m d s o z)) w.heap.size y m d s o z)
            have B := ballD1 (Below.refl w.heap.size w) (RwC y m d s o z)
            change Code.wp _ _ _ _ (w.alloc (RwC y m d s o z))
            generalize (w.alloc (RwC y m d s o z)) = w0 at *
            obtain ⟨⟨c0_0, c0_1, c0_2, c0_3, c0_4, c0_5⟩, -, c0z⟩ := PR.out
            go_wp2_with fail
            refine (AW.out _ (HT.out.below B)).mono ?_
            rintro e w1 ⟨rfl, hb⟩
            replace PR := Lib.hid (PR.out.below hb)
            replace B := bstep B hb
            clear hb AW
            clear c0_0 c0_1 c0_2 c0_3 c0_4 c0_5 c0z
            obtain ⟨⟨c0_0, c0_1, c0_2, c0_3, c0_4, c0_5⟩, -, c0z⟩ := PR.out
            go_wp2_with fail
            refine (MK.out _).mono ?_
            rintro e w2 ⟨rfl, hb⟩
            replace PR := Lib.hid (PR.out.below hb)
            replace B := bstep B hb
            clear hb MK
            clear c0_0 c0_1 c0_2 c0_3 c0_4 c0_5 c0z
            replace PR := Lib.hid (PR.out.alloc (MoC Y M E A z O))
            have PM := Lib.hid (HoldsN.new rfl : HoldsN (w2.alloc (MoC Y M E A z O)) w2.heap.size Y M E A z O)
            replace B := ballD1 B (MoC Y M E A z O)
            go_upto_region 4 with fail
            change Code.wp _ _ _ _ (w2.alloc (MoC Y M E A z O))
            generalize w2.alloc (MoC Y M E A z O) = w3 at *
            obtain ⟨gPM, hg⟩ : ∃ g, g = w2.heap.size := ⟨_, rfl⟩
            rw [← hg] at PM ⊢
            clear hg
            clear PR
            go_upto_region 4 with fail
            generalize w3 = V at *
            refine wp_region_held_drew (S := fun w' => w'.cell? ⟨gPM, 0, none⟩ = some (.int .i64 Y) ∧ w'.cell? ⟨gPM, 1, none⟩ = some (.int .i64 M) ∧ w'.cell? ⟨gPM, 2, none⟩ = some (.int .i64 E) ∧ w'.cell? ⟨gPM, 3, none⟩ = some (.int .i64 A) ∧ w'.cell? ⟨gPM, 4, none⟩ = some (.bool z) ∧ w'.cell? ⟨gPM, 5, none⟩ = some (.int .i64 O) ∧ Below V.heap.size V w') (by kernel_rfl) ?_ (fun hHeld => ?_)
            · exact keepN1 PM.out (Below.refl _ _).drew
            refine wpAnyH_take (i := 0) (oi := { dst := some 15, op := Go.Op.fieldAddr 30 (Go.Operand.tmp 5) 0, type := 0, pos := "law.go:80", after := #[], guard := none }) (v := ?_) rfl (by kernel_rfl) (by kernel_rfl) (by kernel_rfl) (fun _ _ _ h => h) (Or.inl ⟨by rfl, ?_⟩) (by assumption) ?_
            rotate_left
            · intro w hSw
              try dsimp only at hSw
              go_simp
              try (rw [if_neg (by omega)])
              try with_reducible rfl
            try simp only [Act.put, List.setIfInBounds_toArray, List.set_cons_zero, List.set_cons_succ]
            refine wpAnyH_take (i := 3) (oi := { dst := some 18, op := Go.Op.fieldAddr 30 (Go.Operand.tmp 5) 0, type := 0, pos := "law.go:80", after := #[], guard := none }) (v := ?_) rfl (by kernel_rfl) (by kernel_rfl) (by kernel_rfl) (fun _ _ _ h => h) (Or.inl ⟨by rfl, ?_⟩) (by assumption) ?_
            rotate_left
            · intro w hSw
              try dsimp only at hSw
              go_simp
              try (rw [if_neg (by omega)])
              try with_reducible rfl
            try simp only [Act.put, List.setIfInBounds_toArray, List.set_cons_zero, List.set_cons_succ]
            refine wpAnyH_take (i := 1) (oi := { dst := some 16, op := Go.Op.load 26 (Go.Operand.tmp 15), type := 26, pos := "law.go:80", after := #[{ on := 0, ground := Go.Ground.data }], guard := none }) (v := ?_) rfl (by kernel_rfl) (by kernel_rfl) (by kernel_rfl) (fun _ _ _ h => h) (Or.inl ⟨by rfl, ?_⟩) (by assumption) ?_
            rotate_left
            · intro w hSw
              try dsimp only at hSw
              go_simp
              try (rw [if_neg (by omega)])
              try with_reducible rfl
            try simp only [Act.put, List.setIfInBounds_toArray, List.set_cons_zero, List.set_cons_succ]
            refine wpAnyH_take (i := 4) (oi := { dst := some 19, op := Go.Op.load 26 (Go.Operand.tmp 18), type := 26, pos := "law.go:80", after := #[{ on := 3, ground := Go.Ground.data }], guard := none }) (v := ?_) rfl (by kernel_rfl) (by kernel_rfl) (by kernel_rfl) (fun _ _ _ h => h) (Or.inl ⟨by rfl, ?_⟩) (by assumption) ?_
            rotate_left
            · intro w hSw
              try dsimp only at hSw
              go_simp
              try (rw [if_neg (by omega)])
              try with_reducible rfl
            try simp only [Act.put, List.setIfInBounds_toArray, List.set_cons_zero, List.set_cons_succ]
            refine wpAnyH_ready (rs := [2]) (by kernel_rfl) (by simp) ?_
            refine AllReadyH.cons (o := { dst := some 17, op := Go.Op.call { callee := Go.Callee.value (Go.Operand.func 10), args := #[Go.Operand.tmp 16], argTypes := #[26] }, type := 9, pos := "law.go:80", after := #[{ on := 1, ground := Go.Ground.data }], guard := none }) rfl (fun K hK => ?_) AllReadyH.nil
            go_simp
            refine (DA.out _ (HT.out.below (bstep B hHeld.2.2.2.2.2.2))).mono ?_
            rintro e v1 ⟨rfl, hb1⟩
            have HBx := Lib.hid (bstep hHeld.2.2.2.2.2.2 hb1)
            clear hHeld hb1
            refine hK.out _ _ ?_ (fun hHeld => ?_)
            · exact keepN1 PM.out HBx.out
            clear hK K HBx
            try simp only [Act.put, List.setIfInBounds_toArray, List.set_cons_zero, List.set_cons_succ]
            refine wpAnyH_ready (rs := [5]) (by kernel_rfl) (by simp) ?_
            refine AllReadyH.cons (o := { dst := some 20, op := Go.Op.call { callee := Go.Callee.value (Go.Operand.func 11), args := #[Go.Operand.tmp 19], argTypes := #[26] }, type := 9, pos := "law.go:80", after := #[{ on := 4, ground := Go.Ground.data }, { on := 2, ground := Go.Ground.chain }], guard := none }) rfl (fun K hK => ?_) AllReadyH.nil
            go_simp
            refine (DR.out _).mono ?_
            rintro e v2 ⟨rfl, hb2⟩
            have HBx := Lib.hid (bstep hHeld.2.2.2.2.2.2 hb2)
            clear hHeld hb2
            refine hK.out _ _ ?_ (fun hHeld => ?_)
            · exact keepN1 PM.out HBx.out
            clear hK K HBx
            try simp only [Act.put, List.setIfInBounds_toArray, List.set_cons_zero, List.set_cons_succ]
            refine wpAnyH_take (i := 6) (oi := { dst := some 21, op := Go.Op.binOp Go.BinOp.neq 9 (Go.Operand.tmp 17) (Go.Operand.tmp 20) 9, type := 4, pos := "law.go:80", after := #[{ on := 2, ground := Go.Ground.data }, { on := 5, ground := Go.Ground.data }], guard := none }) (v := ?_) rfl (by kernel_rfl) (by kernel_rfl) (by kernel_rfl) (fun _ _ _ h => h) (Or.inl ⟨by rfl, ?_⟩) (by assumption) ?_
            rotate_left
            · intro w hSw
              try dsimp only at hSw
              go_simp
              try (rw [if_neg (by omega)])
              try with_reducible rfl
            try simp only [Act.put, List.setIfInBounds_toArray, List.set_cons_zero, List.set_cons_succ]
            refine wpAnyH_take (i := 7) (oi := { dst := some 22, op := Go.Op.move (Go.Operand.tmp 21), type := 4, pos := "law.go:80", after := #[{ on := 6, ground := Go.Ground.data }, { on := 5, ground := Go.Ground.chain }], guard := none }) (v := ?_) rfl (by kernel_rfl) (by kernel_rfl) (by kernel_rfl) (fun _ _ _ h => h) (Or.inl ⟨by rfl, ?_⟩) (by assumption) ?_
            rotate_left
            · intro w hSw
              try dsimp only at hSw
              go_simp
              try (rw [if_neg (by omega)])
              try with_reducible rfl
            try simp only [Act.put, List.setIfInBounds_toArray, List.set_cons_zero, List.set_cons_succ]
            refine wpAnyH_take (i := 8) (oi := { dst := some 23, op := Go.Op.fieldAddr 30 (Go.Operand.tmp 5) 1, type := 0, pos := "law.go:80", after := #[{ on := 7, ground := Go.Ground.guard }], guard := some (7, false) }) (v := ?_) rfl (by kernel_rfl) (by kernel_rfl) (by kernel_rfl) (fun _ _ _ h => h) (Or.inl ⟨by rfl, ?_⟩) (by assumption) ?_
            rotate_left
            · intro w hSw
              try dsimp only at hSw
              go_simp
              try (rw [if_neg (by omega)])
              try with_reducible rfl
            try simp only [Act.put, List.setIfInBounds_toArray, List.set_cons_zero, List.set_cons_succ]
            refine wpAnyH_take (i := 11) (oi := { dst := some 26, op := Go.Op.fieldAddr 30 (Go.Operand.tmp 5) 1, type := 0, pos := "law.go:80", after := #[{ on := 7, ground := Go.Ground.guard }], guard := some (7, false) }) (v := ?_) rfl (by kernel_rfl) (by kernel_rfl) (by kernel_rfl) (fun _ _ _ h => h) (Or.inl ⟨by rfl, ?_⟩) (by assumption) ?_
            rotate_left
            · intro w hSw
              try dsimp only at hSw
              go_simp
              try (rw [if_neg (by omega)])
              try with_reducible rfl
            try simp only [Act.put, List.setIfInBounds_toArray, List.set_cons_zero, List.set_cons_succ]
            refine wpAnyH_take (i := 9) (oi := { dst := some 24, op := Go.Op.load 28 (Go.Operand.tmp 23), type := 28, pos := "law.go:80", after := #[{ on := 8, ground := Go.Ground.data }, { on := 7, ground := Go.Ground.guard }], guard := some (7, false) }) (v := ?_) rfl (by kernel_rfl) (by kernel_rfl) (by kernel_rfl) (fun _ _ _ h => h) (Or.inl ⟨by rfl, ?_⟩) (by assumption) ?_
            rotate_left
            · intro w hSw
              try dsimp only at hSw
              go_simp
              try (rw [if_neg (by omega)])
              try with_reducible rfl
            try simp only [Act.put, List.setIfInBounds_toArray, List.set_cons_zero, List.set_cons_succ]
            refine wpAnyH_take (i := 12) (oi := { dst := some 27, op := Go.Op.load 28 (Go.Operand.tmp 26), type := 28, pos := "law.go:80", after := #[{ on := 11, ground := Go.Ground.data }, { on := 7, ground := Go.Ground.guard }], guard := some (7, false) }) (v := ?_) rfl (by kernel_rfl) (by kernel_rfl) (by kernel_rfl) (fun _ _ _ h => h) (Or.inl ⟨by rfl, ?_⟩) (by assumption) ?_
            rotate_left
            · intro w hSw
              try dsimp only at hSw
              go_simp
              try (rw [if_neg (by omega)])
              try with_reducible rfl
            try simp only [Act.put, List.setIfInBounds_toArray, List.set_cons_zero, List.set_cons_succ]
            refine wpAnyH_ready (rs := [10]) (by kernel_rfl) (by simp) ?_
            refine AllReadyH.cons (o := { dst := some 25, op := Go.Op.call { callee := Go.Callee.value (Go.Operand.func 12), args := #[Go.Operand.tmp 24], argTypes := #[28] }, type := 9, pos := "law.go:80", after := #[{ on := 9, ground := Go.Ground.data }, { on := 7, ground := Go.Ground.chain }, { on := 7, ground := Go.Ground.guard }], guard := some (7, false) }) rfl (fun K hK => ?_) AllReadyH.nil
            go_simp
            refine (TA.out _ (HT.out.below (bstep B hHeld.2.2.2.2.2.2))).mono ?_
            rintro e v3 ⟨rfl, hb3⟩
            have HBx := Lib.hid (bstep hHeld.2.2.2.2.2.2 hb3)
            clear hHeld hb3
            refine hK.out _ _ ?_ (fun hHeld => ?_)
            · exact keepN1 PM.out HBx.out
            clear hK K HBx
            try simp only [Act.put, List.setIfInBounds_toArray, List.set_cons_zero, List.set_cons_succ]
            refine wpAnyH_ready (rs := [13]) (by kernel_rfl) (by simp) ?_
            refine AllReadyH.cons (o := { dst := some 28, op := Go.Op.call { callee := Go.Callee.value (Go.Operand.func 13), args := #[Go.Operand.tmp 27], argTypes := #[28] }, type := 9, pos := "law.go:80", after := #[{ on := 12, ground := Go.Ground.data }, { on := 10, ground := Go.Ground.chain }, { on := 7, ground := Go.Ground.guard }], guard := some (7, false) }) rfl (fun K hK => ?_) AllReadyH.nil
            go_simp
            refine (TR.out _).mono ?_
            rintro e v4 ⟨rfl, hb4⟩
            have HBx := Lib.hid (bstep hHeld.2.2.2.2.2.2 hb4)
            clear hHeld hb4
            refine hK.out _ _ ?_ (fun hHeld => ?_)
            · exact keepN1 PM.out HBx.out
            clear hK K HBx
            try simp only [Act.put, List.setIfInBounds_toArray, List.set_cons_zero, List.set_cons_succ]
            refine wpAnyH_take (i := 14) (oi := { dst := some 29, op := Go.Op.binOp Go.BinOp.neq 9 (Go.Operand.tmp 25) (Go.Operand.tmp 28) 9, type := 4, pos := "law.go:80", after := #[{ on := 10, ground := Go.Ground.data }, { on := 13, ground := Go.Ground.data }, { on := 7, ground := Go.Ground.guard }], guard := some (7, false) }) (v := ?_) rfl (by kernel_rfl) (by kernel_rfl) (by kernel_rfl) (fun _ _ _ h => h) (Or.inl ⟨by rfl, ?_⟩) (by assumption) ?_
            rotate_left
            · intro w hSw
              try dsimp only at hSw
              go_simp
              try (rw [if_neg (by omega)])
              try with_reducible rfl
            try simp only [Act.put, List.setIfInBounds_toArray, List.set_cons_zero, List.set_cons_succ]
            refine wpAnyH_take (i := 15) (oi := { dst := some 30, op := Go.Op.pick (Go.Operand.tmp 22) (Go.Operand.const (Go.Value.bool true)) (Go.Operand.tmp 29), type := 4, pos := "law.go:80", after := #[{ on := 7, ground := Go.Ground.data }, { on := 14, ground := Go.Ground.data }], guard := none }) (v := ?_) rfl (by kernel_rfl) (by kernel_rfl) (by kernel_rfl) (fun _ _ _ h => h) (Or.inl ⟨by rfl, ?_⟩) (by assumption) ?_
            rotate_left
            · intro w hSw
              try dsimp only at hSw
              go_simp
              try (rw [if_neg (by omega)])
              try with_reducible rfl
            try simp only [Act.put, List.setIfInBounds_toArray, List.set_cons_zero, List.set_cons_succ]
            refine wpAnyH_take (i := 16) (oi := { dst := some 31, op := Go.Op.move (Go.Operand.tmp 30), type := 4, pos := "law.go:80", after := #[{ on := 15, ground := Go.Ground.data }, { on := 13, ground := Go.Ground.chain }], guard := none }) (v := ?_) rfl (by kernel_rfl) (by kernel_rfl) (by kernel_rfl) (fun _ _ _ h => h) (Or.inl ⟨by rfl, ?_⟩) (by assumption) ?_
            rotate_left
            · intro w hSw
              try dsimp only at hSw
              go_simp
              try (rw [if_neg (by omega)])
              try with_reducible rfl
            try simp only [Act.put, List.setIfInBounds_toArray, List.set_cons_zero, List.set_cons_succ]
            refine wpAnyH_take (i := 17) (oi := { dst := some 32, op := Go.Op.load 30 (Go.Operand.tmp 5), type := 30, pos := "law.go:80", after := #[{ on := 16, ground := Go.Ground.guard }], guard := some (16, false) }) (v := ?_) rfl (by kernel_rfl) (by kernel_rfl) (by kernel_rfl) (fun _ _ _ h => h) (Or.inl ⟨by rfl, ?_⟩) (by assumption) ?_
            rotate_left
            · intro w hSw
              try dsimp only at hSw
              go_simp
              try (rw [if_neg (by omega)])
              try with_reducible rfl
            try simp only [Act.put, List.setIfInBounds_toArray, List.set_cons_zero, List.set_cons_succ]
            refine wpAnyH_take (i := 19) (oi := { dst := some 34, op := Go.Op.fieldAddr 30 (Go.Operand.tmp 5) 0, type := 0, pos := "law.go:80", after := #[{ on := 16, ground := Go.Ground.guard }], guard := some (16, false) }) (v := ?_) rfl (by kernel_rfl) (by kernel_rfl) (by kernel_rfl) (fun _ _ _ h => h) (Or.inl ⟨by rfl, ?_⟩) (by assumption) ?_
            rotate_left
            · intro w hSw
              try dsimp only at hSw
              go_simp
              try (rw [if_neg (by omega)])
              try with_reducible rfl
            try simp only [Act.put, List.setIfInBounds_toArray, List.set_cons_zero, List.set_cons_succ]
            refine wpAnyH_take (i := 23) (oi := { dst := some 38, op := Go.Op.fieldAddr 30 (Go.Operand.tmp 5) 1, type := 0, pos := "law.go:80", after := #[{ on := 16, ground := Go.Ground.guard }], guard := some (16, false) }) (v := ?_) rfl (by kernel_rfl) (by kernel_rfl) (by kernel_rfl) (fun _ _ _ h => h) (Or.inl ⟨by rfl, ?_⟩) (by assumption) ?_
            rotate_left
            · intro w hSw
              try dsimp only at hSw
              go_simp
              try (rw [if_neg (by omega)])
              try with_reducible rfl
            try simp only [Act.put, List.setIfInBounds_toArray, List.set_cons_zero, List.set_cons_succ]
            refine wpAnyH_take (i := 20) (oi := { dst := some 35, op := Go.Op.load 26 (Go.Operand.tmp 34), type := 26, pos := "law.go:80", after := #[{ on := 19, ground := Go.Ground.data }, { on := 16, ground := Go.Ground.guard }], guard := some (16, false) }) (v := ?_) rfl (by kernel_rfl) (by kernel_rfl) (by kernel_rfl) (fun _ _ _ h => h) (Or.inl ⟨by rfl, ?_⟩) (by assumption) ?_
            rotate_left
            · intro w hSw
              try dsimp only at hSw
              go_simp
              try (rw [if_neg (by omega)])
              try with_reducible rfl
            try simp only [Act.put, List.setIfInBounds_toArray, List.set_cons_zero, List.set_cons_succ]
            refine wpAnyH_take (i := 24) (oi := { dst := some 39, op := Go.Op.load 28 (Go.Operand.tmp 38), type := 28, pos := "law.go:80", after := #[{ on := 23, ground := Go.Ground.data }, { on := 16, ground := Go.Ground.guard }], guard := some (16, false) }) (v := ?_) rfl (by kernel_rfl) (by kernel_rfl) (by kernel_rfl) (fun _ _ _ h => h) (Or.inl ⟨by rfl, ?_⟩) (by assumption) ?_
            rotate_left
            · intro w hSw
              try dsimp only at hSw
              go_simp
              try (rw [if_neg (by omega)])
              try with_reducible rfl
            try simp only [Act.put, List.setIfInBounds_toArray, List.set_cons_zero, List.set_cons_succ]
            refine wpAnyH_ready (rs := [18]) (by kernel_rfl) (by simp) ?_
            refine AllReadyH.cons (o := { dst := some 33, op := Go.Op.call { callee := Go.Callee.value (Go.Operand.func 14), args := #[Go.Operand.tmp 32], argTypes := #[30] }, type := 9, pos := "law.go:80", after := #[{ on := 17, ground := Go.Ground.data }, { on := 16, ground := Go.Ground.chain }, { on := 16, ground := Go.Ground.guard }], guard := some (16, false) }) rfl (fun K hK => ?_) AllReadyH.nil
            go_simp
            refine (NA.out _ (HT.out.below (bstep B hHeld.2.2.2.2.2.2))).mono ?_
            rintro e v5 ⟨rfl, hb5⟩
            have HBx := Lib.hid (bstep hHeld.2.2.2.2.2.2 hb5)
            clear hHeld hb5
            refine hK.out _ _ ?_ (fun hHeld => ?_)
            · exact keepN1 PM.out HBx.out
            clear hK K HBx
            try simp only [Act.put, List.setIfInBounds_toArray, List.set_cons_zero, List.set_cons_succ]
            refine wpAnyH_ready (rs := [21]) (by kernel_rfl) (by simp) ?_
            refine AllReadyH.cons (o := { dst := some 36, op := Go.Op.call { callee := Go.Callee.value (Go.Operand.func 11), args := #[Go.Operand.tmp 35], argTypes := #[26] }, type := 9, pos := "law.go:80", after := #[{ on := 20, ground := Go.Ground.data }, { on := 18, ground := Go.Ground.chain }, { on := 16, ground := Go.Ground.guard }], guard := some (16, false) }) rfl (fun K hK => ?_) AllReadyH.nil
            go_simp
            refine (DR.out _).mono ?_
            rintro e v6 ⟨rfl, hb6⟩
            have HBx := Lib.hid (bstep hHeld.2.2.2.2.2.2 hb6)
            clear hHeld hb6
            refine hK.out _ _ ?_ (fun hHeld => ?_)
            · exact keepN1 PM.out HBx.out
            clear hK K HBx
            try simp only [Act.put, List.setIfInBounds_toArray, List.set_cons_zero, List.set_cons_succ]
            refine wpAnyH_take (i := 22) (oi := { dst := some 37, op := Go.Op.binOp Go.BinOp.add 9 (Go.Operand.tmp 36) (Go.Operand.const (Go.Value.string { data := #[84] })) 9, type := 9, pos := "law.go:80", after := #[{ on := 21, ground := Go.Ground.data }, { on := 16, ground := Go.Ground.guard }], guard := some (16, false) }) (v := ?_) rfl (by kernel_rfl) (by kernel_rfl) (by kernel_rfl) (fun _ _ _ h => h) (Or.inl ⟨by rfl, ?_⟩) (by assumption) ?_
            rotate_left
            · intro w hSw
              try dsimp only at hSw
              go_simp
              try (rw [if_neg (by omega)])
              try with_reducible rfl
            try simp only [Act.put, List.setIfInBounds_toArray, List.set_cons_zero, List.set_cons_succ]
            refine wpAnyH_ready (rs := [25]) (by kernel_rfl) (by simp) ?_
            refine AllReadyH.cons (o := { dst := some 40, op := Go.Op.call { callee := Go.Callee.value (Go.Operand.func 13), args := #[Go.Operand.tmp 39], argTypes := #[28] }, type := 9, pos := "law.go:80", after := #[{ on := 24, ground := Go.Ground.data }, { on := 21, ground := Go.Ground.chain }, { on := 16, ground := Go.Ground.guard }], guard := some (16, false) }) rfl (fun K hK => ?_) AllReadyH.nil
            go_simp
            refine (TR.out _).mono ?_
            rintro e v7 ⟨rfl, hb7⟩
            have HBx := Lib.hid (bstep hHeld.2.2.2.2.2.2 hb7)
            clear hHeld hb7
            refine hK.out _ _ ?_ (fun hHeld => ?_)
            · exact keepN1 PM.out HBx.out
            clear hK K HBx
            try simp only [Act.put, List.setIfInBounds_toArray, List.set_cons_zero, List.set_cons_succ]
            refine wpAnyH_take (i := 26) (oi := { dst := some 41, op := Go.Op.binOp Go.BinOp.add 9 (Go.Operand.tmp 37) (Go.Operand.tmp 40) 9, type := 9, pos := "law.go:80", after := #[{ on := 22, ground := Go.Ground.data }, { on := 25, ground := Go.Ground.data }, { on := 16, ground := Go.Ground.guard }], guard := some (16, false) }) (v := ?_) rfl (by kernel_rfl) (by kernel_rfl) (by kernel_rfl) (fun _ _ _ h => h) (Or.inl ⟨by rfl, ?_⟩) (by assumption) ?_
            rotate_left
            · intro w hSw
              try dsimp only at hSw
              go_simp
              try (rw [if_neg (by omega)])
              try with_reducible rfl
            try simp only [Act.put, List.setIfInBounds_toArray, List.set_cons_zero, List.set_cons_succ]
            refine wpAnyH_take (i := 27) (oi := { dst := some 42, op := Go.Op.binOp Go.BinOp.neq 9 (Go.Operand.tmp 33) (Go.Operand.tmp 41) 9, type := 4, pos := "law.go:80", after := #[{ on := 18, ground := Go.Ground.data }, { on := 26, ground := Go.Ground.data }, { on := 16, ground := Go.Ground.guard }], guard := some (16, false) }) (v := ?_) rfl (by kernel_rfl) (by kernel_rfl) (by kernel_rfl) (fun _ _ _ h => h) (Or.inl ⟨by rfl, ?_⟩) (by assumption) ?_
            rotate_left
            · intro w hSw
              try dsimp only at hSw
              go_simp
              try (rw [if_neg (by omega)])
              try with_reducible rfl
            try simp only [Act.put, List.setIfInBounds_toArray, List.set_cons_zero, List.set_cons_succ]
            refine wpAnyH_take (i := 28) (oi := { dst := some 43, op := Go.Op.pick (Go.Operand.tmp 31) (Go.Operand.const (Go.Value.bool true)) (Go.Operand.tmp 42), type := 4, pos := "law.go:80", after := #[{ on := 16, ground := Go.Ground.data }, { on := 27, ground := Go.Ground.data }], guard := none }) (v := ?_) rfl (by kernel_rfl) (by kernel_rfl) (by kernel_rfl) (fun _ _ _ h => h) (Or.inl ⟨by rfl, ?_⟩) (by assumption) ?_
            rotate_left
            · intro w hSw
              try dsimp only at hSw
              go_simp
              try (rw [if_neg (by omega)])
              try with_reducible rfl
            try simp only [Act.put, List.setIfInBounds_toArray, List.set_cons_zero, List.set_cons_succ]
            refine wpAnyH_done (by kernel_rfl) ?_ _
            replace B := bstep B hHeld.2.2.2.2.2.2
            clear hHeld PM DA DR TA TR NA
            go_wp2_with fail
            refine (CP1.out _).mono ?_
            rintro e w4 ⟨rfl, hb⟩
            replace B := bstep B hb
            clear hb CP1
            go_wp2_with fail
            refine (CP2.out _).mono ?_
            rintro e w5 ⟨rfl, hb⟩
            replace B := bstep B hb
            clear hb CP2
            go_wp2_with fail
            refine (CP3.out _).mono ?_
            rintro e w6 ⟨rfl, hb⟩
            replace B := bstep B hb
            clear hb CP3
            go_wp2_with fail
            refine (CP4.out _).mono ?_
            rintro e w7 ⟨rfl, hb⟩
            replace B := bstep B hb
            clear hb CP4
            go_wp2_with fail
            refine (CP5.out _).mono ?_
            rintro e w8 ⟨rfl, hb⟩
            replace B := bstep B hb
            clear hb CP5
            go_wp2_with fail
            refine (CP6.out _).mono ?_
            rintro e w9 ⟨rfl, hb⟩
            replace B := bstep B hb
            clear hb CP6
            go_wp2_with fail
            refine (CD.out _ (HT.out.below B)).mono ?_
            rintro e w10 ⟨rfl, hb⟩
            replace B := bstep B hb
            clear hb CD
            go_wp2_with fail
            refine (CM.out _ (HT.out.below B)).mono ?_
            rintro e w11 ⟨rfl, hb⟩
            replace B := bstep B hb
            clear hb CM
            go_wp2
            go_ret
            exact ⟨rfl, B⟩
          · have ED : dd = v2 := by rw [EN.1, HRT.out.2 k, ev2]
            have EM : mm = v5 := EN.2
            clear k EN
            clear hx
            have CD := Lib.hid (show ∀ w, Tab2 w → Calls Tryd.prog 15 #[.int .i64 n] w (Ret (.string v2) w) from fun w a => by have e := CD0 w a; rw [ED] at e; exact e)
            have CM := Lib.hid (show ∀ w, Tab2 w → Calls Tryd.prog 16 #[.int .i64 n] w (Ret (.string v5) w) from fun w a => by have e := CM0 w a; rw [EM] at e; exact e)
            clear ED EM CD0 CM0 HRT HDN HDZ
            go_enter Tryd.func3, Tryd.ntmps3
            go_upto_region 1 with fail
            have PR := Lib.hid (HoldsR.new rfl : HoldsR (w.alloc (RwC y m d s o z)) w.heap.size y m d s o z)
            have B := ballD1 (Below.refl w.heap.size w) (RwC y m d s o z)
            change Code.wp _ _ _ _ (w.alloc (RwC y m d s o z))
            generalize (w.alloc (RwC y m d s o z)) = w0 at *
            obtain ⟨⟨c0_0, c0_1, c0_2, c0_3, c0_4, c0_5⟩, -, c0z⟩ := PR.out
            go_wp2_with fail
            refine (AW.out _ (HT.out.below B)).mono ?_
            rintro e w1 ⟨rfl, hb⟩
            replace PR := Lib.hid (PR.out.below hb)
            replace B := bstep B hb
            clear hb AW
            clear c0_0 c0_1 c0_2 c0_3 c0_4 c0_5 c0z
            obtain ⟨⟨c0_0, c0_1, c0_2, c0_3, c0_4, c0_5⟩, -, c0z⟩ := PR.out
            go_wp2_with fail
            refine (MK.out _).mono ?_
            rintro e w2 ⟨rfl, hb⟩
            replace PR := Lib.hid (PR.out.below hb)
            replace B := bstep B hb
            clear hb MK
            clear c0_0 c0_1 c0_2 c0_3 c0_4 c0_5 c0z
            replace PR := Lib.hid (PR.out.alloc (MoC Y M E A z O))
            have PM := Lib.hid (HoldsN.new rfl : HoldsN (w2.alloc (MoC Y M E A z O)) w2.heap.size Y M E A z O)
            replace B := ballD1 B (MoC Y M E A z O)
            go_upto_region 4 with fail
            change Code.wp _ _ _ _ (w2.alloc (MoC Y M E A z O))
            generalize w2.alloc (MoC Y M E A z O) = w3 at *
            obtain ⟨gPM, hg⟩ : ∃ g, g = w2.heap.size := ⟨_, rfl⟩
            rw [← hg] at PM ⊢
            clear hg
            clear PR
            go_upto_region 4 with fail
            generalize w3 = V at *
            refine wp_region_held_drew (S := fun w' => w'.cell? ⟨gPM, 0, none⟩ = some (.int .i64 Y) ∧ w'.cell? ⟨gPM, 1, none⟩ = some (.int .i64 M) ∧ w'.cell? ⟨gPM, 2, none⟩ = some (.int .i64 E) ∧ w'.cell? ⟨gPM, 3, none⟩ = some (.int .i64 A) ∧ w'.cell? ⟨gPM, 4, none⟩ = some (.bool z) ∧ w'.cell? ⟨gPM, 5, none⟩ = some (.int .i64 O) ∧ Below V.heap.size V w') (by kernel_rfl) ?_ (fun hHeld => ?_)
            · exact keepN1 PM.out (Below.refl _ _).drew
            refine wpAnyH_take (i := 0) (oi := { dst := some 15, op := Go.Op.fieldAddr 30 (Go.Operand.tmp 5) 0, type := 0, pos := "law.go:80", after := #[], guard := none }) (v := ?_) rfl (by kernel_rfl) (by kernel_rfl) (by kernel_rfl) (fun _ _ _ h => h) (Or.inl ⟨by rfl, ?_⟩) (by assumption) ?_
            rotate_left
            · intro w hSw
              try dsimp only at hSw
              go_simp
              try (rw [if_neg (by omega)])
              try with_reducible rfl
            try simp only [Act.put, List.setIfInBounds_toArray, List.set_cons_zero, List.set_cons_succ]
            refine wpAnyH_take (i := 3) (oi := { dst := some 18, op := Go.Op.fieldAddr 30 (Go.Operand.tmp 5) 0, type := 0, pos := "law.go:80", after := #[], guard := none }) (v := ?_) rfl (by kernel_rfl) (by kernel_rfl) (by kernel_rfl) (fun _ _ _ h => h) (Or.inl ⟨by rfl, ?_⟩) (by assumption) ?_
            rotate_left
            · intro w hSw
              try dsimp only at hSw
              go_simp
              try (rw [if_neg (by omega)])
              try with_reducible rfl
            try simp only [Act.put, List.setIfInBounds_toArray, List.set_cons_zero, List.set_cons_succ]
            refine wpAnyH_take (i := 1) (oi := { dst := some 16, op := Go.Op.load 26 (Go.Operand.tmp 15), type := 26, pos := "law.go:80", after := #[{ on := 0, ground := Go.Ground.data }], guard := none }) (v := ?_) rfl (by kernel_rfl) (by kernel_rfl) (by kernel_rfl) (fun _ _ _ h => h) (Or.inl ⟨by rfl, ?_⟩) (by assumption) ?_
            rotate_left
            · intro w hSw
              try dsimp only at hSw
              go_simp
              try (rw [if_neg (by omega)])
              try with_reducible rfl
            try simp only [Act.put, List.setIfInBounds_toArray, List.set_cons_zero, List.set_cons_succ]
            refine wpAnyH_take (i := 4) (oi := { dst := some 19, op := Go.Op.load 26 (Go.Operand.tmp 18), type := 26, pos := "law.go:80", after := #[{ on := 3, ground := Go.Ground.data }], guard := none }) (v := ?_) rfl (by kernel_rfl) (by kernel_rfl) (by kernel_rfl) (fun _ _ _ h => h) (Or.inl ⟨by rfl, ?_⟩) (by assumption) ?_
            rotate_left
            · intro w hSw
              try dsimp only at hSw
              go_simp
              try (rw [if_neg (by omega)])
              try with_reducible rfl
            try simp only [Act.put, List.setIfInBounds_toArray, List.set_cons_zero, List.set_cons_succ]
            refine wpAnyH_ready (rs := [2]) (by kernel_rfl) (by simp) ?_
            refine AllReadyH.cons (o := { dst := some 17, op := Go.Op.call { callee := Go.Callee.value (Go.Operand.func 10), args := #[Go.Operand.tmp 16], argTypes := #[26] }, type := 9, pos := "law.go:80", after := #[{ on := 1, ground := Go.Ground.data }], guard := none }) rfl (fun K hK => ?_) AllReadyH.nil
            go_simp
            refine (DA.out _ (HT.out.below (bstep B hHeld.2.2.2.2.2.2))).mono ?_
            rintro e v1 ⟨rfl, hb1⟩
            have HBx := Lib.hid (bstep hHeld.2.2.2.2.2.2 hb1)
            clear hHeld hb1
            refine hK.out _ _ ?_ (fun hHeld => ?_)
            · exact keepN1 PM.out HBx.out
            clear hK K HBx
            try simp only [Act.put, List.setIfInBounds_toArray, List.set_cons_zero, List.set_cons_succ]
            refine wpAnyH_ready (rs := [5]) (by kernel_rfl) (by simp) ?_
            refine AllReadyH.cons (o := { dst := some 20, op := Go.Op.call { callee := Go.Callee.value (Go.Operand.func 11), args := #[Go.Operand.tmp 19], argTypes := #[26] }, type := 9, pos := "law.go:80", after := #[{ on := 4, ground := Go.Ground.data }, { on := 2, ground := Go.Ground.chain }], guard := none }) rfl (fun K hK => ?_) AllReadyH.nil
            go_simp
            refine (DR.out _).mono ?_
            rintro e v2 ⟨rfl, hb2⟩
            have HBx := Lib.hid (bstep hHeld.2.2.2.2.2.2 hb2)
            clear hHeld hb2
            refine hK.out _ _ ?_ (fun hHeld => ?_)
            · exact keepN1 PM.out HBx.out
            clear hK K HBx
            try simp only [Act.put, List.setIfInBounds_toArray, List.set_cons_zero, List.set_cons_succ]
            refine wpAnyH_take (i := 6) (oi := { dst := some 21, op := Go.Op.binOp Go.BinOp.neq 9 (Go.Operand.tmp 17) (Go.Operand.tmp 20) 9, type := 4, pos := "law.go:80", after := #[{ on := 2, ground := Go.Ground.data }, { on := 5, ground := Go.Ground.data }], guard := none }) (v := ?_) rfl (by kernel_rfl) (by kernel_rfl) (by kernel_rfl) (fun _ _ _ h => h) (Or.inl ⟨by rfl, ?_⟩) (by assumption) ?_
            rotate_left
            · intro w hSw
              try dsimp only at hSw
              go_simp
              try (rw [if_neg (by omega)])
              try with_reducible rfl
            try simp only [Act.put, List.setIfInBounds_toArray, List.set_cons_zero, List.set_cons_succ]
            refine wpAnyH_take (i := 7) (oi := { dst := some 22, op := Go.Op.move (Go.Operand.tmp 21), type := 4, pos := "law.go:80", after := #[{ on := 6, ground := Go.Ground.data }, { on := 5, ground := Go.Ground.chain }], guard := none }) (v := ?_) rfl (by kernel_rfl) (by kernel_rfl) (by kernel_rfl) (fun _ _ _ h => h) (Or.inl ⟨by rfl, ?_⟩) (by assumption) ?_
            rotate_left
            · intro w hSw
              try dsimp only at hSw
              go_simp
              try (rw [if_neg (by omega)])
              try with_reducible rfl
            try simp only [Act.put, List.setIfInBounds_toArray, List.set_cons_zero, List.set_cons_succ]
            refine wpAnyH_take (i := 8) (oi := { dst := some 23, op := Go.Op.fieldAddr 30 (Go.Operand.tmp 5) 1, type := 0, pos := "law.go:80", after := #[{ on := 7, ground := Go.Ground.guard }], guard := some (7, false) }) (v := ?_) rfl (by kernel_rfl) (by kernel_rfl) (by kernel_rfl) (fun _ _ _ h => h) (Or.inl ⟨by rfl, ?_⟩) (by assumption) ?_
            rotate_left
            · intro w hSw
              try dsimp only at hSw
              go_simp
              try (rw [if_neg (by omega)])
              try with_reducible rfl
            try simp only [Act.put, List.setIfInBounds_toArray, List.set_cons_zero, List.set_cons_succ]
            refine wpAnyH_take (i := 11) (oi := { dst := some 26, op := Go.Op.fieldAddr 30 (Go.Operand.tmp 5) 1, type := 0, pos := "law.go:80", after := #[{ on := 7, ground := Go.Ground.guard }], guard := some (7, false) }) (v := ?_) rfl (by kernel_rfl) (by kernel_rfl) (by kernel_rfl) (fun _ _ _ h => h) (Or.inl ⟨by rfl, ?_⟩) (by assumption) ?_
            rotate_left
            · intro w hSw
              try dsimp only at hSw
              go_simp
              try (rw [if_neg (by omega)])
              try with_reducible rfl
            try simp only [Act.put, List.setIfInBounds_toArray, List.set_cons_zero, List.set_cons_succ]
            refine wpAnyH_take (i := 9) (oi := { dst := some 24, op := Go.Op.load 28 (Go.Operand.tmp 23), type := 28, pos := "law.go:80", after := #[{ on := 8, ground := Go.Ground.data }, { on := 7, ground := Go.Ground.guard }], guard := some (7, false) }) (v := ?_) rfl (by kernel_rfl) (by kernel_rfl) (by kernel_rfl) (fun _ _ _ h => h) (Or.inl ⟨by rfl, ?_⟩) (by assumption) ?_
            rotate_left
            · intro w hSw
              try dsimp only at hSw
              go_simp
              try (rw [if_neg (by omega)])
              try with_reducible rfl
            try simp only [Act.put, List.setIfInBounds_toArray, List.set_cons_zero, List.set_cons_succ]
            refine wpAnyH_take (i := 12) (oi := { dst := some 27, op := Go.Op.load 28 (Go.Operand.tmp 26), type := 28, pos := "law.go:80", after := #[{ on := 11, ground := Go.Ground.data }, { on := 7, ground := Go.Ground.guard }], guard := some (7, false) }) (v := ?_) rfl (by kernel_rfl) (by kernel_rfl) (by kernel_rfl) (fun _ _ _ h => h) (Or.inl ⟨by rfl, ?_⟩) (by assumption) ?_
            rotate_left
            · intro w hSw
              try dsimp only at hSw
              go_simp
              try (rw [if_neg (by omega)])
              try with_reducible rfl
            try simp only [Act.put, List.setIfInBounds_toArray, List.set_cons_zero, List.set_cons_succ]
            refine wpAnyH_ready (rs := [10]) (by kernel_rfl) (by simp) ?_
            refine AllReadyH.cons (o := { dst := some 25, op := Go.Op.call { callee := Go.Callee.value (Go.Operand.func 12), args := #[Go.Operand.tmp 24], argTypes := #[28] }, type := 9, pos := "law.go:80", after := #[{ on := 9, ground := Go.Ground.data }, { on := 7, ground := Go.Ground.chain }, { on := 7, ground := Go.Ground.guard }], guard := some (7, false) }) rfl (fun K hK => ?_) AllReadyH.nil
            go_simp
            refine (TA.out _ (HT.out.below (bstep B hHeld.2.2.2.2.2.2))).mono ?_
            rintro e v3 ⟨rfl, hb3⟩
            have HBx := Lib.hid (bstep hHeld.2.2.2.2.2.2 hb3)
            clear hHeld hb3
            refine hK.out _ _ ?_ (fun hHeld => ?_)
            · exact keepN1 PM.out HBx.out
            clear hK K HBx
            try simp only [Act.put, List.setIfInBounds_toArray, List.set_cons_zero, List.set_cons_succ]
            refine wpAnyH_ready (rs := [13]) (by kernel_rfl) (by simp) ?_
            refine AllReadyH.cons (o := { dst := some 28, op := Go.Op.call { callee := Go.Callee.value (Go.Operand.func 13), args := #[Go.Operand.tmp 27], argTypes := #[28] }, type := 9, pos := "law.go:80", after := #[{ on := 12, ground := Go.Ground.data }, { on := 10, ground := Go.Ground.chain }, { on := 7, ground := Go.Ground.guard }], guard := some (7, false) }) rfl (fun K hK => ?_) AllReadyH.nil
            go_simp
            refine (TR.out _).mono ?_
            rintro e v4 ⟨rfl, hb4⟩
            have HBx := Lib.hid (bstep hHeld.2.2.2.2.2.2 hb4)
            clear hHeld hb4
            refine hK.out _ _ ?_ (fun hHeld => ?_)
            · exact keepN1 PM.out HBx.out
            clear hK K HBx
            try simp only [Act.put, List.setIfInBounds_toArray, List.set_cons_zero, List.set_cons_succ]
            refine wpAnyH_take (i := 14) (oi := { dst := some 29, op := Go.Op.binOp Go.BinOp.neq 9 (Go.Operand.tmp 25) (Go.Operand.tmp 28) 9, type := 4, pos := "law.go:80", after := #[{ on := 10, ground := Go.Ground.data }, { on := 13, ground := Go.Ground.data }, { on := 7, ground := Go.Ground.guard }], guard := some (7, false) }) (v := ?_) rfl (by kernel_rfl) (by kernel_rfl) (by kernel_rfl) (fun _ _ _ h => h) (Or.inl ⟨by rfl, ?_⟩) (by assumption) ?_
            rotate_left
            · intro w hSw
              try dsimp only at hSw
              go_simp
              try (rw [if_neg (by omega)])
              try with_reducible rfl
            try simp only [Act.put, List.setIfInBounds_toArray, List.set_cons_zero, List.set_cons_succ]
            refine wpAnyH_take (i := 15) (oi := { dst := some 30, op := Go.Op.pick (Go.Operand.tmp 22) (Go.Operand.const (Go.Value.bool true)) (Go.Operand.tmp 29), type := 4, pos := "law.go:80", after := #[{ on := 7, ground := Go.Ground.data }, { on := 14, ground := Go.Ground.data }], guard := none }) (v := ?_) rfl (by kernel_rfl) (by kernel_rfl) (by kernel_rfl) (fun _ _ _ h => h) (Or.inl ⟨by rfl, ?_⟩) (by assumption) ?_
            rotate_left
            · intro w hSw
              try dsimp only at hSw
              go_simp
              try (rw [if_neg (by omega)])
              try with_reducible rfl
            try simp only [Act.put, List.setIfInBounds_toArray, List.set_cons_zero, List.set_cons_succ]
            refine wpAnyH_take (i := 16) (oi := { dst := some 31, op := Go.Op.move (Go.Operand.tmp 30), type := 4, pos := "law.go:80", after := #[{ on := 15, ground := Go.Ground.data }, { on := 13, ground := Go.Ground.chain }], guard := none }) (v := ?_) rfl (by kernel_rfl) (by kernel_rfl) (by kernel_rfl) (fun _ _ _ h => h) (Or.inl ⟨by rfl, ?_⟩) (by assumption) ?_
            rotate_left
            · intro w hSw
              try dsimp only at hSw
              go_simp
              try (rw [if_neg (by omega)])
              try with_reducible rfl
            try simp only [Act.put, List.setIfInBounds_toArray, List.set_cons_zero, List.set_cons_succ]
            refine wpAnyH_take (i := 17) (oi := { dst := some 32, op := Go.Op.load 30 (Go.Operand.tmp 5), type := 30, pos := "law.go:80", after := #[{ on := 16, ground := Go.Ground.guard }], guard := some (16, false) }) (v := ?_) rfl (by kernel_rfl) (by kernel_rfl) (by kernel_rfl) (fun _ _ _ h => h) (Or.inl ⟨by rfl, ?_⟩) (by assumption) ?_
            rotate_left
            · intro w hSw
              try dsimp only at hSw
              go_simp
              try (rw [if_neg (by omega)])
              try with_reducible rfl
            try simp only [Act.put, List.setIfInBounds_toArray, List.set_cons_zero, List.set_cons_succ]
            refine wpAnyH_take (i := 19) (oi := { dst := some 34, op := Go.Op.fieldAddr 30 (Go.Operand.tmp 5) 0, type := 0, pos := "law.go:80", after := #[{ on := 16, ground := Go.Ground.guard }], guard := some (16, false) }) (v := ?_) rfl (by kernel_rfl) (by kernel_rfl) (by kernel_rfl) (fun _ _ _ h => h) (Or.inl ⟨by rfl, ?_⟩) (by assumption) ?_
            rotate_left
            · intro w hSw
              try dsimp only at hSw
              go_simp
              try (rw [if_neg (by omega)])
              try with_reducible rfl
            try simp only [Act.put, List.setIfInBounds_toArray, List.set_cons_zero, List.set_cons_succ]
            refine wpAnyH_take (i := 23) (oi := { dst := some 38, op := Go.Op.fieldAddr 30 (Go.Operand.tmp 5) 1, type := 0, pos := "law.go:80", after := #[{ on := 16, ground := Go.Ground.guard }], guard := some (16, false) }) (v := ?_) rfl (by kernel_rfl) (by kernel_rfl) (by kernel_rfl) (fun _ _ _ h => h) (Or.inl ⟨by rfl, ?_⟩) (by assumption) ?_
            rotate_left
            · intro w hSw
              try dsimp only at hSw
              go_simp
              try (rw [if_neg (by omega)])
              try with_reducible rfl
            try simp only [Act.put, List.setIfInBounds_toArray, List.set_cons_zero, List.set_cons_succ]
            refine wpAnyH_take (i := 20) (oi := { dst := some 35, op := Go.Op.load 26 (Go.Operand.tmp 34), type := 26, pos := "law.go:80", after := #[{ on := 19, ground := Go.Ground.data }, { on := 16, ground := Go.Ground.guard }], guard := some (16, false) }) (v := ?_) rfl (by kernel_rfl) (by kernel_rfl) (by kernel_rfl) (fun _ _ _ h => h) (Or.inl ⟨by rfl, ?_⟩) (by assumption) ?_
            rotate_left
            · intro w hSw
              try dsimp only at hSw
              go_simp
              try (rw [if_neg (by omega)])
              try with_reducible rfl
            try simp only [Act.put, List.setIfInBounds_toArray, List.set_cons_zero, List.set_cons_succ]
            refine wpAnyH_take (i := 24) (oi := { dst := some 39, op := Go.Op.load 28 (Go.Operand.tmp 38), type := 28, pos := "law.go:80", after := #[{ on := 23, ground := Go.Ground.data }, { on := 16, ground := Go.Ground.guard }], guard := some (16, false) }) (v := ?_) rfl (by kernel_rfl) (by kernel_rfl) (by kernel_rfl) (fun _ _ _ h => h) (Or.inl ⟨by rfl, ?_⟩) (by assumption) ?_
            rotate_left
            · intro w hSw
              try dsimp only at hSw
              go_simp
              try (rw [if_neg (by omega)])
              try with_reducible rfl
            try simp only [Act.put, List.setIfInBounds_toArray, List.set_cons_zero, List.set_cons_succ]
            refine wpAnyH_ready (rs := [18]) (by kernel_rfl) (by simp) ?_
            refine AllReadyH.cons (o := { dst := some 33, op := Go.Op.call { callee := Go.Callee.value (Go.Operand.func 14), args := #[Go.Operand.tmp 32], argTypes := #[30] }, type := 9, pos := "law.go:80", after := #[{ on := 17, ground := Go.Ground.data }, { on := 16, ground := Go.Ground.chain }, { on := 16, ground := Go.Ground.guard }], guard := some (16, false) }) rfl (fun K hK => ?_) AllReadyH.nil
            go_simp
            refine (NA.out _ (HT.out.below (bstep B hHeld.2.2.2.2.2.2))).mono ?_
            rintro e v5 ⟨rfl, hb5⟩
            have HBx := Lib.hid (bstep hHeld.2.2.2.2.2.2 hb5)
            clear hHeld hb5
            refine hK.out _ _ ?_ (fun hHeld => ?_)
            · exact keepN1 PM.out HBx.out
            clear hK K HBx
            try simp only [Act.put, List.setIfInBounds_toArray, List.set_cons_zero, List.set_cons_succ]
            refine wpAnyH_ready (rs := [21]) (by kernel_rfl) (by simp) ?_
            refine AllReadyH.cons (o := { dst := some 36, op := Go.Op.call { callee := Go.Callee.value (Go.Operand.func 11), args := #[Go.Operand.tmp 35], argTypes := #[26] }, type := 9, pos := "law.go:80", after := #[{ on := 20, ground := Go.Ground.data }, { on := 18, ground := Go.Ground.chain }, { on := 16, ground := Go.Ground.guard }], guard := some (16, false) }) rfl (fun K hK => ?_) AllReadyH.nil
            go_simp
            refine (DR.out _).mono ?_
            rintro e v6 ⟨rfl, hb6⟩
            have HBx := Lib.hid (bstep hHeld.2.2.2.2.2.2 hb6)
            clear hHeld hb6
            refine hK.out _ _ ?_ (fun hHeld => ?_)
            · exact keepN1 PM.out HBx.out
            clear hK K HBx
            try simp only [Act.put, List.setIfInBounds_toArray, List.set_cons_zero, List.set_cons_succ]
            refine wpAnyH_take (i := 22) (oi := { dst := some 37, op := Go.Op.binOp Go.BinOp.add 9 (Go.Operand.tmp 36) (Go.Operand.const (Go.Value.string { data := #[84] })) 9, type := 9, pos := "law.go:80", after := #[{ on := 21, ground := Go.Ground.data }, { on := 16, ground := Go.Ground.guard }], guard := some (16, false) }) (v := ?_) rfl (by kernel_rfl) (by kernel_rfl) (by kernel_rfl) (fun _ _ _ h => h) (Or.inl ⟨by rfl, ?_⟩) (by assumption) ?_
            rotate_left
            · intro w hSw
              try dsimp only at hSw
              go_simp
              try (rw [if_neg (by omega)])
              try with_reducible rfl
            try simp only [Act.put, List.setIfInBounds_toArray, List.set_cons_zero, List.set_cons_succ]
            refine wpAnyH_ready (rs := [25]) (by kernel_rfl) (by simp) ?_
            refine AllReadyH.cons (o := { dst := some 40, op := Go.Op.call { callee := Go.Callee.value (Go.Operand.func 13), args := #[Go.Operand.tmp 39], argTypes := #[28] }, type := 9, pos := "law.go:80", after := #[{ on := 24, ground := Go.Ground.data }, { on := 21, ground := Go.Ground.chain }, { on := 16, ground := Go.Ground.guard }], guard := some (16, false) }) rfl (fun K hK => ?_) AllReadyH.nil
            go_simp
            refine (TR.out _).mono ?_
            rintro e v7 ⟨rfl, hb7⟩
            have HBx := Lib.hid (bstep hHeld.2.2.2.2.2.2 hb7)
            clear hHeld hb7
            refine hK.out _ _ ?_ (fun hHeld => ?_)
            · exact keepN1 PM.out HBx.out
            clear hK K HBx
            try simp only [Act.put, List.setIfInBounds_toArray, List.set_cons_zero, List.set_cons_succ]
            refine wpAnyH_take (i := 26) (oi := { dst := some 41, op := Go.Op.binOp Go.BinOp.add 9 (Go.Operand.tmp 37) (Go.Operand.tmp 40) 9, type := 9, pos := "law.go:80", after := #[{ on := 22, ground := Go.Ground.data }, { on := 25, ground := Go.Ground.data }, { on := 16, ground := Go.Ground.guard }], guard := some (16, false) }) (v := ?_) rfl (by kernel_rfl) (by kernel_rfl) (by kernel_rfl) (fun _ _ _ h => h) (Or.inl ⟨by rfl, ?_⟩) (by assumption) ?_
            rotate_left
            · intro w hSw
              try dsimp only at hSw
              go_simp
              try (rw [if_neg (by omega)])
              try with_reducible rfl
            try simp only [Act.put, List.setIfInBounds_toArray, List.set_cons_zero, List.set_cons_succ]
            refine wpAnyH_take (i := 27) (oi := { dst := some 42, op := Go.Op.binOp Go.BinOp.neq 9 (Go.Operand.tmp 33) (Go.Operand.tmp 41) 9, type := 4, pos := "law.go:80", after := #[{ on := 18, ground := Go.Ground.data }, { on := 26, ground := Go.Ground.data }, { on := 16, ground := Go.Ground.guard }], guard := some (16, false) }) (v := ?_) rfl (by kernel_rfl) (by kernel_rfl) (by kernel_rfl) (fun _ _ _ h => h) (Or.inl ⟨by rfl, ?_⟩) (by assumption) ?_
            rotate_left
            · intro w hSw
              try dsimp only at hSw
              go_simp
              try (rw [if_neg (by omega)])
              try with_reducible rfl
            try simp only [Act.put, List.setIfInBounds_toArray, List.set_cons_zero, List.set_cons_succ]
            refine wpAnyH_take (i := 28) (oi := { dst := some 43, op := Go.Op.pick (Go.Operand.tmp 31) (Go.Operand.const (Go.Value.bool true)) (Go.Operand.tmp 42), type := 4, pos := "law.go:80", after := #[{ on := 16, ground := Go.Ground.data }, { on := 27, ground := Go.Ground.data }], guard := none }) (v := ?_) rfl (by kernel_rfl) (by kernel_rfl) (by kernel_rfl) (fun _ _ _ h => h) (Or.inl ⟨by rfl, ?_⟩) (by assumption) ?_
            rotate_left
            · intro w hSw
              try dsimp only at hSw
              go_simp
              try (rw [if_neg (by omega)])
              try with_reducible rfl
            try simp only [Act.put, List.setIfInBounds_toArray, List.set_cons_zero, List.set_cons_succ]
            refine wpAnyH_done (by kernel_rfl) ?_ _
            replace B := bstep B hHeld.2.2.2.2.2.2
            clear hHeld PM DA DR TA TR NA
            go_wp2_with fail
            refine (CP1.out _).mono ?_
            rintro e w4 ⟨rfl, hb⟩
            replace B := bstep B hb
            clear hb CP1
            go_wp2_with fail
            refine (CP2.out _).mono ?_
            rintro e w5 ⟨rfl, hb⟩
            replace B := bstep B hb
            clear hb CP2
            go_wp2_with fail
            refine (CP3.out _).mono ?_
            rintro e w6 ⟨rfl, hb⟩
            replace B := bstep B hb
            clear hb CP3
            go_wp2_with fail
            refine (CP4.out _).mono ?_
            rintro e w7 ⟨rfl, hb⟩
            replace B := bstep B hb
            clear hb CP4
            go_wp2_with fail
            refine (CP5.out _).mono ?_
            rintro e w8 ⟨rfl, hb⟩
            replace B := bstep B hb
            clear hb CP5
            go_wp2_with fail
            refine (CP6.out _).mono ?_
            rintro e w9 ⟨rfl, hb⟩
            replace B := bstep B hb
            clear hb CP6
            go_wp2_with fail
            refine (CD.out _ (HT.out.below B)).mono ?_
            rintro e w10 ⟨rfl, hb⟩
            replace B := bstep B hb
            clear hb CD
            go_wp2_with fail
            refine (CM.out _ (HT.out.below B)).mono ?_
            rintro e w11 ⟨rfl, hb⟩
            replace B := bstep B hb
            clear hb CM
            go_wp2
            go_ret
            exact ⟨rfl, B⟩
end Go.Proofs.YthgondbiddncpaaDoor

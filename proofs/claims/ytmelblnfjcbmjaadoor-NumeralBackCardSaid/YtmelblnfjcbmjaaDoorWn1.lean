/-
  The statement NumeralOne, walked: it answers true, where the document's examples do.
-/
import Derived.Test.YtmelblnfjcbmjaaDoorNall
import Derived.Test.YtmelblnfjcbmjaaDoorEm
import Derived.Deep.RegionHeld3
namespace Go.Proofs.YtmelblnfjcbmjaaDoor
open Go.RowKit

theorem keep8B {W w' : World} {g k : Nat} {v0 v1 v2 v3 u0 u1 u2 u3 : Value} (h : W.cell? ⟨g, 0, none⟩ = some v0 ∧ W.cell? ⟨g, 1, none⟩ = some v1 ∧ W.cell? ⟨g, 2, none⟩ = some v2 ∧ W.cell? ⟨g, 3, none⟩ = some v3) (h' : W.cell? ⟨k, 0, none⟩ = some u0 ∧ W.cell? ⟨k, 1, none⟩ = some u1 ∧ W.cell? ⟨k, 2, none⟩ = some u2 ∧ W.cell? ⟨k, 3, none⟩ = some u3) (hb : Below W.heap.size W w') :
    w'.cell? ⟨g, 0, none⟩ = some v0 ∧ w'.cell? ⟨g, 1, none⟩ = some v1 ∧ w'.cell? ⟨g, 2, none⟩ = some v2 ∧ w'.cell? ⟨g, 3, none⟩ = some v3 ∧ w'.cell? ⟨k, 0, none⟩ = some u0 ∧ w'.cell? ⟨k, 1, none⟩ = some u1 ∧ w'.cell? ⟨k, 2, none⟩ = some u2 ∧ w'.cell? ⟨k, 3, none⟩ = some u3 ∧ Below W.heap.size W w' :=
  ⟨keepCell2 h.1 hb, keepCell2 h.2.1 hb, keepCell2 h.2.2.1 hb, keepCell2 h.2.2.2 hb, keepCell2 h'.1 hb, keepCell2 h'.2.1 hb, keepCell2 h'.2.2.1 hb, keepCell2 h'.2.2.2 hb, hb⟩
/-- What is asked of the document's examples. -/
def Aw5C : Prop := ∀ w : World, Tab w → Tab2 w → Calls Tryd.prog 25 #[] w (RetB true w)

set_option linter.unusedSimpArgs false in
set_option maxRecDepth 100000 in
set_option maxHeartbeats 8000000 in
theorem numeralOne_walk (AW : Aw5C) (n : Bool) (h l : Nat) (x : Int) (n' : Bool) (h' l' : Nat) (x' : Int) (h0 : WW h l) (x1 : -9223372036854775808 ≤ x) (x2 : x ≤ 9223372036854775807) (h0' : WW h' l') (x1' : -9223372036854775808 ≤ x') (x2' : x' ≤ 9223372036854775807) (w : World) (ht : Tab w) (ht2 : Tab2 w) :
    Calls Tryd.prog 7 #[Dv n h l x, Dv n' h' l' x'] w (RetB true w) := by
  have HT := Lib.hid (And.intro ht ht2)
  have AWH := Lib.hid AW
  have M1 := Lib.hid (make_any n h l x h0 x1 x2)
  have M2 := Lib.hid (make_any n' h' l' x' h0' x1' x2')
  clear ht ht2 AW h0 h0' x1 x2 x1' x2'
  go_enter Tryd.func7, Tryd.ntmps7
  go_wp2_with fail
  refine (AWH.out _ (HT.out.1.below (by go_grown)) (HT.out.2.below (by go_grown))).mono ?_
  rintro e w1 ⟨rfl, hb1⟩
  have A0 := Lib.hid (HoldsD.below (by simp [HoldsD, go_sem]) hb1 : HoldsD w1 w.heap.size n h l x)
  have A1 := Lib.hid (HoldsD.below (by simp [HoldsD, go_sem]) hb1 : HoldsD w1 (w.heap.size + 1) n' h' l' x')
  have B1 : Below w.heap.size w w1 := bstep (by go_grown) hb1
  clear hb1 AWH
  go_upto_region 3 with fail
  obtain ⟨⟨a1, a2, a3, a4⟩, -, a9⟩ := A0.out
  obtain ⟨⟨b1, b2, b3, b4⟩, -, b9⟩ := A1.out
  go_cut [5, 6] (fun p q W => ∃ (g k : Nat) (na : Bool) (ah al : Nat) (ea : Int) (nb : Bool) (bh bl : Nat) (eb : Int), p = .pointer (some ⟨g, 0, none⟩) ∧ q = .pointer (some ⟨k, 0, none⟩) ∧ NumOk na ah al ea ∧ NumOk nb bh bl eb ∧ HoldsD W g na ah al ea ∧ HoldsD W k nb bh bl eb ∧ Below w.heap.size w W)
  case first =>
    go_region_held3 (fun w' => w'.cell? ⟨w.heap.size, 0, none⟩ = some (.bool n) ∧ w'.cell? ⟨w.heap.size, 1, none⟩ = some (.int .u64 (h : Int)) ∧ w'.cell? ⟨w.heap.size, 2, none⟩ = some (.int .u64 (l : Int)) ∧ w'.cell? ⟨w.heap.size, 3, none⟩ = some (.int .i64 x) ∧ w'.cell? ⟨w.heap.size + 1, 0, none⟩ = some (.bool n') ∧ w'.cell? ⟨w.heap.size + 1, 1, none⟩ = some (.int .u64 (h' : Int)) ∧ w'.cell? ⟨w.heap.size + 1, 2, none⟩ = some (.int .u64 (l' : Int)) ∧ w'.cell? ⟨w.heap.size + 1, 3, none⟩ = some (.int .i64 x'))
      (repeat' (first | (with_reducible assumption) | (with_reducible refine keep44a ?_) | (with_reducible refine keep44d ?_) | (with_reducible refine keep44s ?_ ?_ ?_) | (with_reducible exact ⟨a1, a2, a3, a4, b1, b2, b3, b4⟩) | (with_reducible refine keep44 (by with_reducible assumption) ?_) | (show _ ≠ _; (try dsimp only); omega)))
      (first
        | (go_at_call 11; (with_reducible refine (M1.out _ ?_).mono ?_); (exact HT.out.1.below (by repeat' (first | (with_reducible exact B1) | (with_reducible refine Below.drew ?_) | (with_reducible refine ballD1 ?_ _) | (with_reducible refine bstep ?_ (by with_reducible assumption))))); rintro e wM1 ⟨nM1, hM1, lM1, xM1, NM1, rfl, hbM1⟩; obtain ⟨hcM1, hfM1⟩ := bcell hbM1; have szM1 := hbM1.size; (try simp only [World.size_alloc, World.size_drew] at szM1); (try (have : w1.heap.size < wM1.heap.size := (by omega))); (try (have : w1.heap.size + 1 < wM1.heap.size := (by omega))); (try (have : w1.heap.size < wM1.heap.size + 1 := (by omega))))
        | (go_at_call 11; (with_reducible refine (M2.out _ ?_).mono ?_); (exact HT.out.1.below (by repeat' (first | (with_reducible exact B1) | (with_reducible refine Below.drew ?_) | (with_reducible refine ballD1 ?_ _) | (with_reducible refine bstep ?_ (by with_reducible assumption))))); rintro e wM2 ⟨nM2, hM2, lM2, xM2, NM2, rfl, hbM2⟩; obtain ⟨hcM2, hfM2⟩ := bcell hbM2; have szM2 := hbM2.size; (try simp only [World.size_alloc] at szM2); (try (have : w1.heap.size < wM2.heap.size := (by omega))); (try (have : w1.heap.size + 1 < wM2.heap.size := (by omega))); (try (have : wM1.heap.size < wM2.heap.size := (by omega))); (try (have : wM1.heap.size + 1 < wM2.heap.size := (by omega))); (try (have : w1.heap.size < wM2.heap.size + 1 := (by omega))); (try (have : wM1.heap.size < wM2.heap.size + 1 := (by omega)))))
    all_goals
      go_wp2
      go_meet
      case rel =>
        refine ⟨_, _, nM1, hM1, lM1, xM1, nM2, hM2, lM2, xM2, rfl, rfl, NM1, NM2, ?_, ?_, ?_⟩
        · clear a1 a2 a3 a4 b1 b2 b3 b4 A0 A1 hcM1 hfM1 hcM2 hfM2
          repeat' (first | (with_reducible refine HoldsD.put4 (a := false) (b := 0) (c := 0) (d := 0) ?_) | (with_reducible refine HoldsD.far ?_ ?_ _) | ((with_reducible refine HoldsD.new4 ?_); (first | rfl | (simp; done))) | ((with_reducible refine HoldsD.zero4 ?_); (first | rfl | (simp; done))) | (with_reducible refine HoldsD.alloc ?_ _) | (with_reducible refine HoldsD.drew2 ?_) | (with_reducible refine HoldsD.below ?_ (by with_reducible assumption)) | (show _ ≠ _; (try dsimp only); omega))
        · clear a1 a2 a3 a4 b1 b2 b3 b4 A0 A1 hcM1 hfM1 hcM2 hfM2
          repeat' (first | (with_reducible refine HoldsD.put4 (a := false) (b := 0) (c := 0) (d := 0) ?_) | (with_reducible refine HoldsD.far ?_ ?_ _) | ((with_reducible refine HoldsD.new4 ?_); (first | rfl | (simp; done))) | ((with_reducible refine HoldsD.zero4 ?_); (first | rfl | (simp; done))) | (with_reducible refine HoldsD.alloc ?_ _) | (with_reducible refine HoldsD.drew2 ?_) | (with_reducible refine HoldsD.below ?_ (by with_reducible assumption)) | (show _ ≠ _; (try dsimp only); omega))
        · clear hcM1 hfM1 hcM2 hfM2
          repeat' (first | (with_reducible exact B1) | (with_reducible refine Below.drew ?_) | (with_reducible refine ballD1 ?_ _) | (with_reducible refine Below.set1' ?_ _ _ ?_ _) | (with_reducible refine bstep ?_ (by with_reducible assumption)) | omega)
  case rest =>
  obtain ⟨g, k, na, ah, al, ea, nb, bh, bl, eb, rfl, rfl, N1, N2, P5, P6, B2⟩ := hcut
  clear a1 a2 a3 a4 a9 b1 b2 b3 b4 b9 A0 A1 B1 M1 M2
  replace P5 := Lib.hid P5
  replace P6 := Lib.hid P6
  obtain ⟨T, hT⟩ : ∃ T : ByteArray, T = ⟨(textL na (nv ah al) ea).toArray⟩ := ⟨_, rfl⟩
  obtain ⟨T', hT'⟩ : ∃ T : ByteArray, T = ⟨(textL nb (nv bh bl) eb).toArray⟩ := ⟨_, rfl⟩
  have X1 := Lib.hid (show ∀ w : World, Tab w → Tab2 w → Calls Tryd.prog 26 #[Dv na ah al ea] w (fun e w' => e = .returned (.string T) ∧ Below w.heap.size w w') from fun w a b => by rw [hT]; exact textN_any na ah al ea N1.1 N1.2.1 w a b)
  have X2 := Lib.hid (show ∀ w : World, Tab w → Tab2 w → Calls Tryd.prog 26 #[Dv nb bh bl eb] w (fun e w' => e = .returned (.string T') ∧ Below w.heap.size w w') from fun w a b => by rw [hT']; exact textN_any nb bh bl eb N2.1 N2.2.1 w a b)
  have ONE : T = T' → na = nb ∧ ah = bh ∧ al = bl ∧ ea = eb := by
    intro q
    rw [hT, hT'] at q
    have q2 := (bytes_eq _ _).1 q
    simp only [List.toList_toArray] at q2
    obtain ⟨e1, e2, e3⟩ := text_one N1.2.1 N1.2.2 N2.2.1 N2.2.2 q2
    obtain ⟨e4, e5⟩ := nv_inj N1.1 N2.1 e2
    exact ⟨e1, e4, e5, e3⟩
  have SAME : na = nb ∧ ah = bh ∧ al = bl ∧ ea = eb → T = T' := by
    rintro ⟨rfl, rfl, rfl, rfl⟩
    rw [hT, hT']
  clear hT hT' N1 N2
  generalize wc = V at *
  go_upto_region 4 with fail
  by_cases q : na = nb ∧ ah = bh ∧ al = bl ∧ ea = eb
  · obtain rfl := SAME q
    obtain ⟨rfl, rfl, rfl, rfl⟩ := q
    clear ONE SAME
    refine wp_region_held_drew (S := fun w' => w'.cell? ⟨g, 0, none⟩ = some (.bool na) ∧ w'.cell? ⟨g, 1, none⟩ = some (.int .u64 (ah : Int)) ∧ w'.cell? ⟨g, 2, none⟩ = some (.int .u64 (al : Int)) ∧ w'.cell? ⟨g, 3, none⟩ = some (.int .i64 ea) ∧ w'.cell? ⟨k, 0, none⟩ = some (.bool na) ∧ w'.cell? ⟨k, 1, none⟩ = some (.int .u64 (ah : Int)) ∧ w'.cell? ⟨k, 2, none⟩ = some (.int .u64 (al : Int)) ∧ w'.cell? ⟨k, 3, none⟩ = some (.int .i64 ea) ∧ Below V.heap.size V w') (by kernel_rfl) ?_ (fun hHeld => ?_)
    · exact keep8B P5.out.1 P6.out.1 (Below.refl _ _).drew
    refine wpAnyH_take (i := 0) (oi := { dst := some 13, op := Go.Op.load 28 (Go.Operand.tmp 5), type := 28, pos := "law.go:65", after := #[], guard := none }) (v := ?_) rfl (by kernel_rfl) (by kernel_rfl) (by kernel_rfl) (fun _ _ _ h => h) (Or.inl ⟨by rfl, ?_⟩) (by assumption) ?_
    rotate_left
    · intro w hSw
      try dsimp only at hSw
      go_simp
      try with_reducible rfl
    try simp only [Act.put, List.setIfInBounds_toArray, List.set_cons_zero, List.set_cons_succ]
    refine wpAnyH_take (i := 2) (oi := { dst := some 15, op := Go.Op.load 28 (Go.Operand.tmp 6), type := 28, pos := "law.go:65", after := #[], guard := none }) (v := ?_) rfl (by kernel_rfl) (by kernel_rfl) (by kernel_rfl) (fun _ _ _ h => h) (Or.inl ⟨by rfl, ?_⟩) (by assumption) ?_
    rotate_left
    · intro w hSw
      try dsimp only at hSw
      go_simp
      try with_reducible rfl
    try simp only [Act.put, List.setIfInBounds_toArray, List.set_cons_zero, List.set_cons_succ]
    refine wpAnyH_take (i := 5) (oi := { dst := some 18, op := Go.Op.load 28 (Go.Operand.tmp 5), type := 28, pos := "law.go:65", after := #[], guard := none }) (v := ?_) rfl (by kernel_rfl) (by kernel_rfl) (by kernel_rfl) (fun _ _ _ h => h) (Or.inl ⟨by rfl, ?_⟩) (by assumption) ?_
    rotate_left
    · intro w hSw
      try dsimp only at hSw
      go_simp
      try with_reducible rfl
    try simp only [Act.put, List.setIfInBounds_toArray, List.set_cons_zero, List.set_cons_succ]
    refine wpAnyH_take (i := 6) (oi := { dst := some 19, op := Go.Op.load 28 (Go.Operand.tmp 6), type := 28, pos := "law.go:65", after := #[], guard := none }) (v := ?_) rfl (by kernel_rfl) (by kernel_rfl) (by kernel_rfl) (fun _ _ _ h => h) (Or.inl ⟨by rfl, ?_⟩) (by assumption) ?_
    rotate_left
    · intro w hSw
      try dsimp only at hSw
      go_simp
      try with_reducible rfl
    try simp only [Act.put, List.setIfInBounds_toArray, List.set_cons_zero, List.set_cons_succ]
    refine wpAnyH_take (i := 7) (oi := { dst := some 20, op := Go.Op.binOp Go.BinOp.eql 28 (Go.Operand.tmp 18) (Go.Operand.tmp 19) 28, type := 4, pos := "law.go:65", after := #[{ on := 5, ground := Go.Ground.data }, { on := 6, ground := Go.Ground.data }], guard := none }) (v := ?_) rfl (by kernel_rfl) (by kernel_rfl) (by kernel_rfl) (fun _ _ _ h => h) (Or.inl ⟨by rfl, ?_⟩) (by assumption) ?_
    rotate_left
    · intro w hSw
      try dsimp only at hSw
      go_simp
      try with_reducible rfl
    try simp only [Act.put, List.setIfInBounds_toArray, List.set_cons_zero, List.set_cons_succ]
    refine wpAnyH_ready (rs := [1]) (by kernel_rfl) (by simp) ?_
    refine AllReadyH.cons (o := { dst := some 14, op := Go.Op.call { callee := Go.Callee.value (Go.Operand.func 26), args := #[Go.Operand.tmp 13], argTypes := #[28] }, type := 9, pos := "law.go:65", after := #[{ on := 0, ground := Go.Ground.data }], guard := none }) rfl (fun K hK => ?_) AllReadyH.nil
    go_simp
    refine (X1.out _ (HT.out.1.below (bstep B2 hHeld.2.2.2.2.2.2.2.2)) (HT.out.2.below (bstep B2 hHeld.2.2.2.2.2.2.2.2))).mono ?_
    rintro e v0 ⟨rfl, hbv0⟩
    have HBx := Lib.hid (bstep hHeld.2.2.2.2.2.2.2.2 hbv0)
    clear hHeld hbv0
    refine hK.out _ _ ?_ (fun hHeld => ?_)
    · exact keep8B P5.out.1 P6.out.1 HBx.out
    clear hK K HBx
    try simp only [Act.put, List.setIfInBounds_toArray, List.set_cons_zero, List.set_cons_succ]
    refine wpAnyH_ready (rs := [3]) (by kernel_rfl) (by simp) ?_
    refine AllReadyH.cons (o := { dst := some 16, op := Go.Op.call { callee := Go.Callee.value (Go.Operand.func 26), args := #[Go.Operand.tmp 15], argTypes := #[28] }, type := 9, pos := "law.go:65", after := #[{ on := 2, ground := Go.Ground.data }, { on := 1, ground := Go.Ground.chain }], guard := none }) rfl (fun K hK => ?_) AllReadyH.nil
    go_simp
    refine (X2.out _ (HT.out.1.below (bstep B2 hHeld.2.2.2.2.2.2.2.2)) (HT.out.2.below (bstep B2 hHeld.2.2.2.2.2.2.2.2))).mono ?_
    rintro e v1 ⟨rfl, hbv1⟩
    have HBx := Lib.hid (bstep hHeld.2.2.2.2.2.2.2.2 hbv1)
    clear hHeld hbv1
    refine hK.out _ _ ?_ (fun hHeld => ?_)
    · exact keep8B P5.out.1 P6.out.1 HBx.out
    clear hK K HBx
    try simp only [Act.put, List.setIfInBounds_toArray, List.set_cons_zero, List.set_cons_succ]
    refine wpAnyH_take (i := 4) (oi := { dst := some 17, op := Go.Op.binOp Go.BinOp.eql 9 (Go.Operand.tmp 14) (Go.Operand.tmp 16) 9, type := 4, pos := "law.go:65", after := #[{ on := 1, ground := Go.Ground.data }, { on := 3, ground := Go.Ground.data }], guard := none }) (v := ?_) rfl (by kernel_rfl) (by kernel_rfl) (by kernel_rfl) (fun _ _ _ h => h) (Or.inl ⟨by rfl, ?_⟩) (by assumption) ?_
    rotate_left
    · intro w hSw
      try dsimp only at hSw
      go_simp
      try with_reducible rfl
    try simp only [Act.put, List.setIfInBounds_toArray, List.set_cons_zero, List.set_cons_succ]
    refine wpAnyH_take (i := 8) (oi := { dst := some 21, op := Go.Op.binOp Go.BinOp.eql 4 (Go.Operand.tmp 17) (Go.Operand.tmp 20) 4, type := 4, pos := "law.go:65", after := #[{ on := 4, ground := Go.Ground.data }, { on := 7, ground := Go.Ground.data }], guard := none }) (v := ?_) rfl (by kernel_rfl) (by kernel_rfl) (by kernel_rfl) (fun _ _ _ h => h) (Or.inl ⟨by rfl, ?_⟩) (by assumption) ?_
    rotate_left
    · intro w hSw
      try dsimp only at hSw
      go_simp
      try with_reducible rfl
    try simp only [Act.put, List.setIfInBounds_toArray, List.set_cons_zero, List.set_cons_succ]
    refine wpAnyH_take (i := 9) (oi := { dst := some 4, op := Go.Op.assign (Go.Operand.tmp 21), type := 4, pos := "law.go:65", after := #[{ on := 8, ground := Go.Ground.data }, { on := 3, ground := Go.Ground.chain }, { on := 0, ground := Go.Ground.phase }, { on := 1, ground := Go.Ground.phase }, { on := 2, ground := Go.Ground.phase }, { on := 3, ground := Go.Ground.phase }, { on := 4, ground := Go.Ground.phase }, { on := 5, ground := Go.Ground.phase }, { on := 6, ground := Go.Ground.phase }, { on := 7, ground := Go.Ground.phase }, { on := 8, ground := Go.Ground.phase }], guard := none }) (v := ?_) rfl (by kernel_rfl) (by kernel_rfl) (by kernel_rfl) (fun _ _ _ h => h) (Or.inl ⟨by rfl, ?_⟩) (by assumption) ?_
    rotate_left
    · intro w hSw
      try dsimp only at hSw
      go_simp
      try with_reducible rfl
    try simp only [Act.put, List.setIfInBounds_toArray, List.set_cons_zero, List.set_cons_succ]
    refine wpAnyH_done (by kernel_rfl) ?_ _
    go_wp2
    go_ret
    exact ⟨rfl, bstep B2 hHeld.2.2.2.2.2.2.2.2⟩
  · have tn := str_ne (fun e => q (ONE e))
    have d : (na ≠ nb) ∨ (na = nb ∧ ah ≠ bh) ∨ (na = nb ∧ ah = bh ∧ al ≠ bl) ∨ (na = nb ∧ ah = bh ∧ al = bl ∧ ea ≠ eb) := by
      by_cases c1 : na = nb
      · by_cases c2 : ah = bh
        · by_cases c3 : al = bl
          · exact .inr (.inr (.inr ⟨c1, c2, c3, fun c4 => q ⟨c1, c2, c3, c4⟩⟩))
          · exact .inr (.inr (.inl ⟨c1, c2, c3⟩))
        · exact .inr (.inl ⟨c1, c2⟩)
      · exact .inl c1
    clear ONE SAME q
    rcases d with d | ⟨rfl, d⟩ | ⟨rfl, rfl, d⟩ | ⟨rfl, rfl, rfl, d⟩
    · have d2 : (na = nb) = False := eq_false d
      clear d
      refine wp_region_held_drew (S := fun w' => w'.cell? ⟨g, 0, none⟩ = some (.bool na) ∧ w'.cell? ⟨g, 1, none⟩ = some (.int .u64 (ah : Int)) ∧ w'.cell? ⟨g, 2, none⟩ = some (.int .u64 (al : Int)) ∧ w'.cell? ⟨g, 3, none⟩ = some (.int .i64 ea) ∧ w'.cell? ⟨k, 0, none⟩ = some (.bool nb) ∧ w'.cell? ⟨k, 1, none⟩ = some (.int .u64 (bh : Int)) ∧ w'.cell? ⟨k, 2, none⟩ = some (.int .u64 (bl : Int)) ∧ w'.cell? ⟨k, 3, none⟩ = some (.int .i64 eb) ∧ Below V.heap.size V w') (by kernel_rfl) ?_ (fun hHeld => ?_)
      · exact keep8B P5.out.1 P6.out.1 (Below.refl _ _).drew
      refine wpAnyH_take (i := 0) (oi := { dst := some 13, op := Go.Op.load 28 (Go.Operand.tmp 5), type := 28, pos := "law.go:65", after := #[], guard := none }) (v := ?_) rfl (by kernel_rfl) (by kernel_rfl) (by kernel_rfl) (fun _ _ _ h => h) (Or.inl ⟨by rfl, ?_⟩) (by assumption) ?_
      rotate_left
      · intro w hSw
        try dsimp only at hSw
        go_simp
        try with_reducible rfl
      try simp only [Act.put, List.setIfInBounds_toArray, List.set_cons_zero, List.set_cons_succ]
      refine wpAnyH_take (i := 2) (oi := { dst := some 15, op := Go.Op.load 28 (Go.Operand.tmp 6), type := 28, pos := "law.go:65", after := #[], guard := none }) (v := ?_) rfl (by kernel_rfl) (by kernel_rfl) (by kernel_rfl) (fun _ _ _ h => h) (Or.inl ⟨by rfl, ?_⟩) (by assumption) ?_
      rotate_left
      · intro w hSw
        try dsimp only at hSw
        go_simp
        try with_reducible rfl
      try simp only [Act.put, List.setIfInBounds_toArray, List.set_cons_zero, List.set_cons_succ]
      refine wpAnyH_take (i := 5) (oi := { dst := some 18, op := Go.Op.load 28 (Go.Operand.tmp 5), type := 28, pos := "law.go:65", after := #[], guard := none }) (v := ?_) rfl (by kernel_rfl) (by kernel_rfl) (by kernel_rfl) (fun _ _ _ h => h) (Or.inl ⟨by rfl, ?_⟩) (by assumption) ?_
      rotate_left
      · intro w hSw
        try dsimp only at hSw
        go_simp
        try with_reducible rfl
      try simp only [Act.put, List.setIfInBounds_toArray, List.set_cons_zero, List.set_cons_succ]
      refine wpAnyH_take (i := 6) (oi := { dst := some 19, op := Go.Op.load 28 (Go.Operand.tmp 6), type := 28, pos := "law.go:65", after := #[], guard := none }) (v := ?_) rfl (by kernel_rfl) (by kernel_rfl) (by kernel_rfl) (fun _ _ _ h => h) (Or.inl ⟨by rfl, ?_⟩) (by assumption) ?_
      rotate_left
      · intro w hSw
        try dsimp only at hSw
        go_simp
        try with_reducible rfl
      try simp only [Act.put, List.setIfInBounds_toArray, List.set_cons_zero, List.set_cons_succ]
      refine wpAnyH_take (i := 7) (oi := { dst := some 20, op := Go.Op.binOp Go.BinOp.eql 28 (Go.Operand.tmp 18) (Go.Operand.tmp 19) 28, type := 4, pos := "law.go:65", after := #[{ on := 5, ground := Go.Ground.data }, { on := 6, ground := Go.Ground.data }], guard := none }) (v := ?_) rfl (by kernel_rfl) (by kernel_rfl) (by kernel_rfl) (fun _ _ _ h => h) (Or.inl ⟨by rfl, ?_⟩) (by assumption) ?_
      rotate_left
      · intro w hSw
        try dsimp only at hSw
        go_simp
        try with_reducible rfl
      try simp only [Act.put, List.setIfInBounds_toArray, List.set_cons_zero, List.set_cons_succ]
      refine wpAnyH_ready (rs := [1]) (by kernel_rfl) (by simp) ?_
      refine AllReadyH.cons (o := { dst := some 14, op := Go.Op.call { callee := Go.Callee.value (Go.Operand.func 26), args := #[Go.Operand.tmp 13], argTypes := #[28] }, type := 9, pos := "law.go:65", after := #[{ on := 0, ground := Go.Ground.data }], guard := none }) rfl (fun K hK => ?_) AllReadyH.nil
      go_simp
      refine (X1.out _ (HT.out.1.below (bstep B2 hHeld.2.2.2.2.2.2.2.2)) (HT.out.2.below (bstep B2 hHeld.2.2.2.2.2.2.2.2))).mono ?_
      rintro e v0 ⟨rfl, hbv0⟩
      have HBx := Lib.hid (bstep hHeld.2.2.2.2.2.2.2.2 hbv0)
      clear hHeld hbv0
      refine hK.out _ _ ?_ (fun hHeld => ?_)
      · exact keep8B P5.out.1 P6.out.1 HBx.out
      clear hK K HBx
      try simp only [Act.put, List.setIfInBounds_toArray, List.set_cons_zero, List.set_cons_succ]
      refine wpAnyH_ready (rs := [3]) (by kernel_rfl) (by simp) ?_
      refine AllReadyH.cons (o := { dst := some 16, op := Go.Op.call { callee := Go.Callee.value (Go.Operand.func 26), args := #[Go.Operand.tmp 15], argTypes := #[28] }, type := 9, pos := "law.go:65", after := #[{ on := 2, ground := Go.Ground.data }, { on := 1, ground := Go.Ground.chain }], guard := none }) rfl (fun K hK => ?_) AllReadyH.nil
      go_simp
      refine (X2.out _ (HT.out.1.below (bstep B2 hHeld.2.2.2.2.2.2.2.2)) (HT.out.2.below (bstep B2 hHeld.2.2.2.2.2.2.2.2))).mono ?_
      rintro e v1 ⟨rfl, hbv1⟩
      have HBx := Lib.hid (bstep hHeld.2.2.2.2.2.2.2.2 hbv1)
      clear hHeld hbv1
      refine hK.out _ _ ?_ (fun hHeld => ?_)
      · exact keep8B P5.out.1 P6.out.1 HBx.out
      clear hK K HBx
      try simp only [Act.put, List.setIfInBounds_toArray, List.set_cons_zero, List.set_cons_succ]
      refine wpAnyH_take (i := 4) (oi := { dst := some 17, op := Go.Op.binOp Go.BinOp.eql 9 (Go.Operand.tmp 14) (Go.Operand.tmp 16) 9, type := 4, pos := "law.go:65", after := #[{ on := 1, ground := Go.Ground.data }, { on := 3, ground := Go.Ground.data }], guard := none }) (v := ?_) rfl (by kernel_rfl) (by kernel_rfl) (by kernel_rfl) (fun _ _ _ h => h) (Or.inl ⟨by rfl, ?_⟩) (by assumption) ?_
      rotate_left
      · intro w hSw
        try dsimp only at hSw
        go_simp
        try with_reducible rfl
      try simp only [Act.put, List.setIfInBounds_toArray, List.set_cons_zero, List.set_cons_succ]
      refine wpAnyH_take (i := 8) (oi := { dst := some 21, op := Go.Op.binOp Go.BinOp.eql 4 (Go.Operand.tmp 17) (Go.Operand.tmp 20) 4, type := 4, pos := "law.go:65", after := #[{ on := 4, ground := Go.Ground.data }, { on := 7, ground := Go.Ground.data }], guard := none }) (v := ?_) rfl (by kernel_rfl) (by kernel_rfl) (by kernel_rfl) (fun _ _ _ h => h) (Or.inl ⟨by rfl, ?_⟩) (by assumption) ?_
      rotate_left
      · intro w hSw
        try dsimp only at hSw
        go_simp
        try with_reducible rfl
      try simp only [Act.put, List.setIfInBounds_toArray, List.set_cons_zero, List.set_cons_succ]
      refine wpAnyH_take (i := 9) (oi := { dst := some 4, op := Go.Op.assign (Go.Operand.tmp 21), type := 4, pos := "law.go:65", after := #[{ on := 8, ground := Go.Ground.data }, { on := 3, ground := Go.Ground.chain }, { on := 0, ground := Go.Ground.phase }, { on := 1, ground := Go.Ground.phase }, { on := 2, ground := Go.Ground.phase }, { on := 3, ground := Go.Ground.phase }, { on := 4, ground := Go.Ground.phase }, { on := 5, ground := Go.Ground.phase }, { on := 6, ground := Go.Ground.phase }, { on := 7, ground := Go.Ground.phase }, { on := 8, ground := Go.Ground.phase }], guard := none }) (v := ?_) rfl (by kernel_rfl) (by kernel_rfl) (by kernel_rfl) (fun _ _ _ h => h) (Or.inl ⟨by rfl, ?_⟩) (by assumption) ?_
      rotate_left
      · intro w hSw
        try dsimp only at hSw
        go_simp
        try with_reducible rfl
      try simp only [Act.put, List.setIfInBounds_toArray, List.set_cons_zero, List.set_cons_succ]
      refine wpAnyH_done (by kernel_rfl) ?_ _
      go_wp2
      go_ret
      exact ⟨rfl, bstep B2 hHeld.2.2.2.2.2.2.2.2⟩
    · have d2 : ((ah : Int) = (bh : Int)) = False := eq_false (by omega)
      have d3 : (ah = bh) = False := eq_false d
      clear d
      refine wp_region_held_drew (S := fun w' => w'.cell? ⟨g, 0, none⟩ = some (.bool na) ∧ w'.cell? ⟨g, 1, none⟩ = some (.int .u64 (ah : Int)) ∧ w'.cell? ⟨g, 2, none⟩ = some (.int .u64 (al : Int)) ∧ w'.cell? ⟨g, 3, none⟩ = some (.int .i64 ea) ∧ w'.cell? ⟨k, 0, none⟩ = some (.bool na) ∧ w'.cell? ⟨k, 1, none⟩ = some (.int .u64 (bh : Int)) ∧ w'.cell? ⟨k, 2, none⟩ = some (.int .u64 (bl : Int)) ∧ w'.cell? ⟨k, 3, none⟩ = some (.int .i64 eb) ∧ Below V.heap.size V w') (by kernel_rfl) ?_ (fun hHeld => ?_)
      · exact keep8B P5.out.1 P6.out.1 (Below.refl _ _).drew
      refine wpAnyH_take (i := 0) (oi := { dst := some 13, op := Go.Op.load 28 (Go.Operand.tmp 5), type := 28, pos := "law.go:65", after := #[], guard := none }) (v := ?_) rfl (by kernel_rfl) (by kernel_rfl) (by kernel_rfl) (fun _ _ _ h => h) (Or.inl ⟨by rfl, ?_⟩) (by assumption) ?_
      rotate_left
      · intro w hSw
        try dsimp only at hSw
        go_simp
        try with_reducible rfl
      try simp only [Act.put, List.setIfInBounds_toArray, List.set_cons_zero, List.set_cons_succ]
      refine wpAnyH_take (i := 2) (oi := { dst := some 15, op := Go.Op.load 28 (Go.Operand.tmp 6), type := 28, pos := "law.go:65", after := #[], guard := none }) (v := ?_) rfl (by kernel_rfl) (by kernel_rfl) (by kernel_rfl) (fun _ _ _ h => h) (Or.inl ⟨by rfl, ?_⟩) (by assumption) ?_
      rotate_left
      · intro w hSw
        try dsimp only at hSw
        go_simp
        try with_reducible rfl
      try simp only [Act.put, List.setIfInBounds_toArray, List.set_cons_zero, List.set_cons_succ]
      refine wpAnyH_take (i := 5) (oi := { dst := some 18, op := Go.Op.load 28 (Go.Operand.tmp 5), type := 28, pos := "law.go:65", after := #[], guard := none }) (v := ?_) rfl (by kernel_rfl) (by kernel_rfl) (by kernel_rfl) (fun _ _ _ h => h) (Or.inl ⟨by rfl, ?_⟩) (by assumption) ?_
      rotate_left
      · intro w hSw
        try dsimp only at hSw
        go_simp
        try with_reducible rfl
      try simp only [Act.put, List.setIfInBounds_toArray, List.set_cons_zero, List.set_cons_succ]
      refine wpAnyH_take (i := 6) (oi := { dst := some 19, op := Go.Op.load 28 (Go.Operand.tmp 6), type := 28, pos := "law.go:65", after := #[], guard := none }) (v := ?_) rfl (by kernel_rfl) (by kernel_rfl) (by kernel_rfl) (fun _ _ _ h => h) (Or.inl ⟨by rfl, ?_⟩) (by assumption) ?_
      rotate_left
      · intro w hSw
        try dsimp only at hSw
        go_simp
        try with_reducible rfl
      try simp only [Act.put, List.setIfInBounds_toArray, List.set_cons_zero, List.set_cons_succ]
      refine wpAnyH_take (i := 7) (oi := { dst := some 20, op := Go.Op.binOp Go.BinOp.eql 28 (Go.Operand.tmp 18) (Go.Operand.tmp 19) 28, type := 4, pos := "law.go:65", after := #[{ on := 5, ground := Go.Ground.data }, { on := 6, ground := Go.Ground.data }], guard := none }) (v := ?_) rfl (by kernel_rfl) (by kernel_rfl) (by kernel_rfl) (fun _ _ _ h => h) (Or.inl ⟨by rfl, ?_⟩) (by assumption) ?_
      rotate_left
      · intro w hSw
        try dsimp only at hSw
        go_simp
        try with_reducible rfl
      try simp only [Act.put, List.setIfInBounds_toArray, List.set_cons_zero, List.set_cons_succ]
      refine wpAnyH_ready (rs := [1]) (by kernel_rfl) (by simp) ?_
      refine AllReadyH.cons (o := { dst := some 14, op := Go.Op.call { callee := Go.Callee.value (Go.Operand.func 26), args := #[Go.Operand.tmp 13], argTypes := #[28] }, type := 9, pos := "law.go:65", after := #[{ on := 0, ground := Go.Ground.data }], guard := none }) rfl (fun K hK => ?_) AllReadyH.nil
      go_simp
      refine (X1.out _ (HT.out.1.below (bstep B2 hHeld.2.2.2.2.2.2.2.2)) (HT.out.2.below (bstep B2 hHeld.2.2.2.2.2.2.2.2))).mono ?_
      rintro e v0 ⟨rfl, hbv0⟩
      have HBx := Lib.hid (bstep hHeld.2.2.2.2.2.2.2.2 hbv0)
      clear hHeld hbv0
      refine hK.out _ _ ?_ (fun hHeld => ?_)
      · exact keep8B P5.out.1 P6.out.1 HBx.out
      clear hK K HBx
      try simp only [Act.put, List.setIfInBounds_toArray, List.set_cons_zero, List.set_cons_succ]
      refine wpAnyH_ready (rs := [3]) (by kernel_rfl) (by simp) ?_
      refine AllReadyH.cons (o := { dst := some 16, op := Go.Op.call { callee := Go.Callee.value (Go.Operand.func 26), args := #[Go.Operand.tmp 15], argTypes := #[28] }, type := 9, pos := "law.go:65", after := #[{ on := 2, ground := Go.Ground.data }, { on := 1, ground := Go.Ground.chain }], guard := none }) rfl (fun K hK => ?_) AllReadyH.nil
      go_simp
      refine (X2.out _ (HT.out.1.below (bstep B2 hHeld.2.2.2.2.2.2.2.2)) (HT.out.2.below (bstep B2 hHeld.2.2.2.2.2.2.2.2))).mono ?_
      rintro e v1 ⟨rfl, hbv1⟩
      have HBx := Lib.hid (bstep hHeld.2.2.2.2.2.2.2.2 hbv1)
      clear hHeld hbv1
      refine hK.out _ _ ?_ (fun hHeld => ?_)
      · exact keep8B P5.out.1 P6.out.1 HBx.out
      clear hK K HBx
      try simp only [Act.put, List.setIfInBounds_toArray, List.set_cons_zero, List.set_cons_succ]
      refine wpAnyH_take (i := 4) (oi := { dst := some 17, op := Go.Op.binOp Go.BinOp.eql 9 (Go.Operand.tmp 14) (Go.Operand.tmp 16) 9, type := 4, pos := "law.go:65", after := #[{ on := 1, ground := Go.Ground.data }, { on := 3, ground := Go.Ground.data }], guard := none }) (v := ?_) rfl (by kernel_rfl) (by kernel_rfl) (by kernel_rfl) (fun _ _ _ h => h) (Or.inl ⟨by rfl, ?_⟩) (by assumption) ?_
      rotate_left
      · intro w hSw
        try dsimp only at hSw
        go_simp
        try with_reducible rfl
      try simp only [Act.put, List.setIfInBounds_toArray, List.set_cons_zero, List.set_cons_succ]
      refine wpAnyH_take (i := 8) (oi := { dst := some 21, op := Go.Op.binOp Go.BinOp.eql 4 (Go.Operand.tmp 17) (Go.Operand.tmp 20) 4, type := 4, pos := "law.go:65", after := #[{ on := 4, ground := Go.Ground.data }, { on := 7, ground := Go.Ground.data }], guard := none }) (v := ?_) rfl (by kernel_rfl) (by kernel_rfl) (by kernel_rfl) (fun _ _ _ h => h) (Or.inl ⟨by rfl, ?_⟩) (by assumption) ?_
      rotate_left
      · intro w hSw
        try dsimp only at hSw
        go_simp
        try with_reducible rfl
      try simp only [Act.put, List.setIfInBounds_toArray, List.set_cons_zero, List.set_cons_succ]
      refine wpAnyH_take (i := 9) (oi := { dst := some 4, op := Go.Op.assign (Go.Operand.tmp 21), type := 4, pos := "law.go:65", after := #[{ on := 8, ground := Go.Ground.data }, { on := 3, ground := Go.Ground.chain }, { on := 0, ground := Go.Ground.phase }, { on := 1, ground := Go.Ground.phase }, { on := 2, ground := Go.Ground.phase }, { on := 3, ground := Go.Ground.phase }, { on := 4, ground := Go.Ground.phase }, { on := 5, ground := Go.Ground.phase }, { on := 6, ground := Go.Ground.phase }, { on := 7, ground := Go.Ground.phase }, { on := 8, ground := Go.Ground.phase }], guard := none }) (v := ?_) rfl (by kernel_rfl) (by kernel_rfl) (by kernel_rfl) (fun _ _ _ h => h) (Or.inl ⟨by rfl, ?_⟩) (by assumption) ?_
      rotate_left
      · intro w hSw
        try dsimp only at hSw
        go_simp
        try with_reducible rfl
      try simp only [Act.put, List.setIfInBounds_toArray, List.set_cons_zero, List.set_cons_succ]
      refine wpAnyH_done (by kernel_rfl) ?_ _
      go_wp2
      go_ret
      exact ⟨rfl, bstep B2 hHeld.2.2.2.2.2.2.2.2⟩
    · have d2 : ((al : Int) = (bl : Int)) = False := eq_false (by omega)
      have d3 : (al = bl) = False := eq_false d
      clear d
      refine wp_region_held_drew (S := fun w' => w'.cell? ⟨g, 0, none⟩ = some (.bool na) ∧ w'.cell? ⟨g, 1, none⟩ = some (.int .u64 (ah : Int)) ∧ w'.cell? ⟨g, 2, none⟩ = some (.int .u64 (al : Int)) ∧ w'.cell? ⟨g, 3, none⟩ = some (.int .i64 ea) ∧ w'.cell? ⟨k, 0, none⟩ = some (.bool na) ∧ w'.cell? ⟨k, 1, none⟩ = some (.int .u64 (ah : Int)) ∧ w'.cell? ⟨k, 2, none⟩ = some (.int .u64 (bl : Int)) ∧ w'.cell? ⟨k, 3, none⟩ = some (.int .i64 eb) ∧ Below V.heap.size V w') (by kernel_rfl) ?_ (fun hHeld => ?_)
      · exact keep8B P5.out.1 P6.out.1 (Below.refl _ _).drew
      refine wpAnyH_take (i := 0) (oi := { dst := some 13, op := Go.Op.load 28 (Go.Operand.tmp 5), type := 28, pos := "law.go:65", after := #[], guard := none }) (v := ?_) rfl (by kernel_rfl) (by kernel_rfl) (by kernel_rfl) (fun _ _ _ h => h) (Or.inl ⟨by rfl, ?_⟩) (by assumption) ?_
      rotate_left
      · intro w hSw
        try dsimp only at hSw
        go_simp
        try with_reducible rfl
      try simp only [Act.put, List.setIfInBounds_toArray, List.set_cons_zero, List.set_cons_succ]
      refine wpAnyH_take (i := 2) (oi := { dst := some 15, op := Go.Op.load 28 (Go.Operand.tmp 6), type := 28, pos := "law.go:65", after := #[], guard := none }) (v := ?_) rfl (by kernel_rfl) (by kernel_rfl) (by kernel_rfl) (fun _ _ _ h => h) (Or.inl ⟨by rfl, ?_⟩) (by assumption) ?_
      rotate_left
      · intro w hSw
        try dsimp only at hSw
        go_simp
        try with_reducible rfl
      try simp only [Act.put, List.setIfInBounds_toArray, List.set_cons_zero, List.set_cons_succ]
      refine wpAnyH_take (i := 5) (oi := { dst := some 18, op := Go.Op.load 28 (Go.Operand.tmp 5), type := 28, pos := "law.go:65", after := #[], guard := none }) (v := ?_) rfl (by kernel_rfl) (by kernel_rfl) (by kernel_rfl) (fun _ _ _ h => h) (Or.inl ⟨by rfl, ?_⟩) (by assumption) ?_
      rotate_left
      · intro w hSw
        try dsimp only at hSw
        go_simp
        try with_reducible rfl
      try simp only [Act.put, List.setIfInBounds_toArray, List.set_cons_zero, List.set_cons_succ]
      refine wpAnyH_take (i := 6) (oi := { dst := some 19, op := Go.Op.load 28 (Go.Operand.tmp 6), type := 28, pos := "law.go:65", after := #[], guard := none }) (v := ?_) rfl (by kernel_rfl) (by kernel_rfl) (by kernel_rfl) (fun _ _ _ h => h) (Or.inl ⟨by rfl, ?_⟩) (by assumption) ?_
      rotate_left
      · intro w hSw
        try dsimp only at hSw
        go_simp
        try with_reducible rfl
      try simp only [Act.put, List.setIfInBounds_toArray, List.set_cons_zero, List.set_cons_succ]
      refine wpAnyH_take (i := 7) (oi := { dst := some 20, op := Go.Op.binOp Go.BinOp.eql 28 (Go.Operand.tmp 18) (Go.Operand.tmp 19) 28, type := 4, pos := "law.go:65", after := #[{ on := 5, ground := Go.Ground.data }, { on := 6, ground := Go.Ground.data }], guard := none }) (v := ?_) rfl (by kernel_rfl) (by kernel_rfl) (by kernel_rfl) (fun _ _ _ h => h) (Or.inl ⟨by rfl, ?_⟩) (by assumption) ?_
      rotate_left
      · intro w hSw
        try dsimp only at hSw
        go_simp
        try with_reducible rfl
      try simp only [Act.put, List.setIfInBounds_toArray, List.set_cons_zero, List.set_cons_succ]
      refine wpAnyH_ready (rs := [1]) (by kernel_rfl) (by simp) ?_
      refine AllReadyH.cons (o := { dst := some 14, op := Go.Op.call { callee := Go.Callee.value (Go.Operand.func 26), args := #[Go.Operand.tmp 13], argTypes := #[28] }, type := 9, pos := "law.go:65", after := #[{ on := 0, ground := Go.Ground.data }], guard := none }) rfl (fun K hK => ?_) AllReadyH.nil
      go_simp
      refine (X1.out _ (HT.out.1.below (bstep B2 hHeld.2.2.2.2.2.2.2.2)) (HT.out.2.below (bstep B2 hHeld.2.2.2.2.2.2.2.2))).mono ?_
      rintro e v0 ⟨rfl, hbv0⟩
      have HBx := Lib.hid (bstep hHeld.2.2.2.2.2.2.2.2 hbv0)
      clear hHeld hbv0
      refine hK.out _ _ ?_ (fun hHeld => ?_)
      · exact keep8B P5.out.1 P6.out.1 HBx.out
      clear hK K HBx
      try simp only [Act.put, List.setIfInBounds_toArray, List.set_cons_zero, List.set_cons_succ]
      refine wpAnyH_ready (rs := [3]) (by kernel_rfl) (by simp) ?_
      refine AllReadyH.cons (o := { dst := some 16, op := Go.Op.call { callee := Go.Callee.value (Go.Operand.func 26), args := #[Go.Operand.tmp 15], argTypes := #[28] }, type := 9, pos := "law.go:65", after := #[{ on := 2, ground := Go.Ground.data }, { on := 1, ground := Go.Ground.chain }], guard := none }) rfl (fun K hK => ?_) AllReadyH.nil
      go_simp
      refine (X2.out _ (HT.out.1.below (bstep B2 hHeld.2.2.2.2.2.2.2.2)) (HT.out.2.below (bstep B2 hHeld.2.2.2.2.2.2.2.2))).mono ?_
      rintro e v1 ⟨rfl, hbv1⟩
      have HBx := Lib.hid (bstep hHeld.2.2.2.2.2.2.2.2 hbv1)
      clear hHeld hbv1
      refine hK.out _ _ ?_ (fun hHeld => ?_)
      · exact keep8B P5.out.1 P6.out.1 HBx.out
      clear hK K HBx
      try simp only [Act.put, List.setIfInBounds_toArray, List.set_cons_zero, List.set_cons_succ]
      refine wpAnyH_take (i := 4) (oi := { dst := some 17, op := Go.Op.binOp Go.BinOp.eql 9 (Go.Operand.tmp 14) (Go.Operand.tmp 16) 9, type := 4, pos := "law.go:65", after := #[{ on := 1, ground := Go.Ground.data }, { on := 3, ground := Go.Ground.data }], guard := none }) (v := ?_) rfl (by kernel_rfl) (by kernel_rfl) (by kernel_rfl) (fun _ _ _ h => h) (Or.inl ⟨by rfl, ?_⟩) (by assumption) ?_
      rotate_left
      · intro w hSw
        try dsimp only at hSw
        go_simp
        try with_reducible rfl
      try simp only [Act.put, List.setIfInBounds_toArray, List.set_cons_zero, List.set_cons_succ]
      refine wpAnyH_take (i := 8) (oi := { dst := some 21, op := Go.Op.binOp Go.BinOp.eql 4 (Go.Operand.tmp 17) (Go.Operand.tmp 20) 4, type := 4, pos := "law.go:65", after := #[{ on := 4, ground := Go.Ground.data }, { on := 7, ground := Go.Ground.data }], guard := none }) (v := ?_) rfl (by kernel_rfl) (by kernel_rfl) (by kernel_rfl) (fun _ _ _ h => h) (Or.inl ⟨by rfl, ?_⟩) (by assumption) ?_
      rotate_left
      · intro w hSw
        try dsimp only at hSw
        go_simp
        try with_reducible rfl
      try simp only [Act.put, List.setIfInBounds_toArray, List.set_cons_zero, List.set_cons_succ]
      refine wpAnyH_take (i := 9) (oi := { dst := some 4, op := Go.Op.assign (Go.Operand.tmp 21), type := 4, pos := "law.go:65", after := #[{ on := 8, ground := Go.Ground.data }, { on := 3, ground := Go.Ground.chain }, { on := 0, ground := Go.Ground.phase }, { on := 1, ground := Go.Ground.phase }, { on := 2, ground := Go.Ground.phase }, { on := 3, ground := Go.Ground.phase }, { on := 4, ground := Go.Ground.phase }, { on := 5, ground := Go.Ground.phase }, { on := 6, ground := Go.Ground.phase }, { on := 7, ground := Go.Ground.phase }, { on := 8, ground := Go.Ground.phase }], guard := none }) (v := ?_) rfl (by kernel_rfl) (by kernel_rfl) (by kernel_rfl) (fun _ _ _ h => h) (Or.inl ⟨by rfl, ?_⟩) (by assumption) ?_
      rotate_left
      · intro w hSw
        try dsimp only at hSw
        go_simp
        try with_reducible rfl
      try simp only [Act.put, List.setIfInBounds_toArray, List.set_cons_zero, List.set_cons_succ]
      refine wpAnyH_done (by kernel_rfl) ?_ _
      go_wp2
      go_ret
      exact ⟨rfl, bstep B2 hHeld.2.2.2.2.2.2.2.2⟩
    · have d2 : (ea = eb) = False := eq_false d
      clear d
      refine wp_region_held_drew (S := fun w' => w'.cell? ⟨g, 0, none⟩ = some (.bool na) ∧ w'.cell? ⟨g, 1, none⟩ = some (.int .u64 (ah : Int)) ∧ w'.cell? ⟨g, 2, none⟩ = some (.int .u64 (al : Int)) ∧ w'.cell? ⟨g, 3, none⟩ = some (.int .i64 ea) ∧ w'.cell? ⟨k, 0, none⟩ = some (.bool na) ∧ w'.cell? ⟨k, 1, none⟩ = some (.int .u64 (ah : Int)) ∧ w'.cell? ⟨k, 2, none⟩ = some (.int .u64 (al : Int)) ∧ w'.cell? ⟨k, 3, none⟩ = some (.int .i64 eb) ∧ Below V.heap.size V w') (by kernel_rfl) ?_ (fun hHeld => ?_)
      · exact keep8B P5.out.1 P6.out.1 (Below.refl _ _).drew
      refine wpAnyH_take (i := 0) (oi := { dst := some 13, op := Go.Op.load 28 (Go.Operand.tmp 5), type := 28, pos := "law.go:65", after := #[], guard := none }) (v := ?_) rfl (by kernel_rfl) (by kernel_rfl) (by kernel_rfl) (fun _ _ _ h => h) (Or.inl ⟨by rfl, ?_⟩) (by assumption) ?_
      rotate_left
      · intro w hSw
        try dsimp only at hSw
        go_simp
        try with_reducible rfl
      try simp only [Act.put, List.setIfInBounds_toArray, List.set_cons_zero, List.set_cons_succ]
      refine wpAnyH_take (i := 2) (oi := { dst := some 15, op := Go.Op.load 28 (Go.Operand.tmp 6), type := 28, pos := "law.go:65", after := #[], guard := none }) (v := ?_) rfl (by kernel_rfl) (by kernel_rfl) (by kernel_rfl) (fun _ _ _ h => h) (Or.inl ⟨by rfl, ?_⟩) (by assumption) ?_
      rotate_left
      · intro w hSw
        try dsimp only at hSw
        go_simp
        try with_reducible rfl
      try simp only [Act.put, List.setIfInBounds_toArray, List.set_cons_zero, List.set_cons_succ]
      refine wpAnyH_take (i := 5) (oi := { dst := some 18, op := Go.Op.load 28 (Go.Operand.tmp 5), type := 28, pos := "law.go:65", after := #[], guard := none }) (v := ?_) rfl (by kernel_rfl) (by kernel_rfl) (by kernel_rfl) (fun _ _ _ h => h) (Or.inl ⟨by rfl, ?_⟩) (by assumption) ?_
      rotate_left
      · intro w hSw
        try dsimp only at hSw
        go_simp
        try with_reducible rfl
      try simp only [Act.put, List.setIfInBounds_toArray, List.set_cons_zero, List.set_cons_succ]
      refine wpAnyH_take (i := 6) (oi := { dst := some 19, op := Go.Op.load 28 (Go.Operand.tmp 6), type := 28, pos := "law.go:65", after := #[], guard := none }) (v := ?_) rfl (by kernel_rfl) (by kernel_rfl) (by kernel_rfl) (fun _ _ _ h => h) (Or.inl ⟨by rfl, ?_⟩) (by assumption) ?_
      rotate_left
      · intro w hSw
        try dsimp only at hSw
        go_simp
        try with_reducible rfl
      try simp only [Act.put, List.setIfInBounds_toArray, List.set_cons_zero, List.set_cons_succ]
      refine wpAnyH_take (i := 7) (oi := { dst := some 20, op := Go.Op.binOp Go.BinOp.eql 28 (Go.Operand.tmp 18) (Go.Operand.tmp 19) 28, type := 4, pos := "law.go:65", after := #[{ on := 5, ground := Go.Ground.data }, { on := 6, ground := Go.Ground.data }], guard := none }) (v := ?_) rfl (by kernel_rfl) (by kernel_rfl) (by kernel_rfl) (fun _ _ _ h => h) (Or.inl ⟨by rfl, ?_⟩) (by assumption) ?_
      rotate_left
      · intro w hSw
        try dsimp only at hSw
        go_simp
        try with_reducible rfl
      try simp only [Act.put, List.setIfInBounds_toArray, List.set_cons_zero, List.set_cons_succ]
      refine wpAnyH_ready (rs := [1]) (by kernel_rfl) (by simp) ?_
      refine AllReadyH.cons (o := { dst := some 14, op := Go.Op.call { callee := Go.Callee.value (Go.Operand.func 26), args := #[Go.Operand.tmp 13], argTypes := #[28] }, type := 9, pos := "law.go:65", after := #[{ on := 0, ground := Go.Ground.data }], guard := none }) rfl (fun K hK => ?_) AllReadyH.nil
      go_simp
      refine (X1.out _ (HT.out.1.below (bstep B2 hHeld.2.2.2.2.2.2.2.2)) (HT.out.2.below (bstep B2 hHeld.2.2.2.2.2.2.2.2))).mono ?_
      rintro e v0 ⟨rfl, hbv0⟩
      have HBx := Lib.hid (bstep hHeld.2.2.2.2.2.2.2.2 hbv0)
      clear hHeld hbv0
      refine hK.out _ _ ?_ (fun hHeld => ?_)
      · exact keep8B P5.out.1 P6.out.1 HBx.out
      clear hK K HBx
      try simp only [Act.put, List.setIfInBounds_toArray, List.set_cons_zero, List.set_cons_succ]
      refine wpAnyH_ready (rs := [3]) (by kernel_rfl) (by simp) ?_
      refine AllReadyH.cons (o := { dst := some 16, op := Go.Op.call { callee := Go.Callee.value (Go.Operand.func 26), args := #[Go.Operand.tmp 15], argTypes := #[28] }, type := 9, pos := "law.go:65", after := #[{ on := 2, ground := Go.Ground.data }, { on := 1, ground := Go.Ground.chain }], guard := none }) rfl (fun K hK => ?_) AllReadyH.nil
      go_simp
      refine (X2.out _ (HT.out.1.below (bstep B2 hHeld.2.2.2.2.2.2.2.2)) (HT.out.2.below (bstep B2 hHeld.2.2.2.2.2.2.2.2))).mono ?_
      rintro e v1 ⟨rfl, hbv1⟩
      have HBx := Lib.hid (bstep hHeld.2.2.2.2.2.2.2.2 hbv1)
      clear hHeld hbv1
      refine hK.out _ _ ?_ (fun hHeld => ?_)
      · exact keep8B P5.out.1 P6.out.1 HBx.out
      clear hK K HBx
      try simp only [Act.put, List.setIfInBounds_toArray, List.set_cons_zero, List.set_cons_succ]
      refine wpAnyH_take (i := 4) (oi := { dst := some 17, op := Go.Op.binOp Go.BinOp.eql 9 (Go.Operand.tmp 14) (Go.Operand.tmp 16) 9, type := 4, pos := "law.go:65", after := #[{ on := 1, ground := Go.Ground.data }, { on := 3, ground := Go.Ground.data }], guard := none }) (v := ?_) rfl (by kernel_rfl) (by kernel_rfl) (by kernel_rfl) (fun _ _ _ h => h) (Or.inl ⟨by rfl, ?_⟩) (by assumption) ?_
      rotate_left
      · intro w hSw
        try dsimp only at hSw
        go_simp
        try with_reducible rfl
      try simp only [Act.put, List.setIfInBounds_toArray, List.set_cons_zero, List.set_cons_succ]
      refine wpAnyH_take (i := 8) (oi := { dst := some 21, op := Go.Op.binOp Go.BinOp.eql 4 (Go.Operand.tmp 17) (Go.Operand.tmp 20) 4, type := 4, pos := "law.go:65", after := #[{ on := 4, ground := Go.Ground.data }, { on := 7, ground := Go.Ground.data }], guard := none }) (v := ?_) rfl (by kernel_rfl) (by kernel_rfl) (by kernel_rfl) (fun _ _ _ h => h) (Or.inl ⟨by rfl, ?_⟩) (by assumption) ?_
      rotate_left
      · intro w hSw
        try dsimp only at hSw
        go_simp
        try with_reducible rfl
      try simp only [Act.put, List.setIfInBounds_toArray, List.set_cons_zero, List.set_cons_succ]
      refine wpAnyH_take (i := 9) (oi := { dst := some 4, op := Go.Op.assign (Go.Operand.tmp 21), type := 4, pos := "law.go:65", after := #[{ on := 8, ground := Go.Ground.data }, { on := 3, ground := Go.Ground.chain }, { on := 0, ground := Go.Ground.phase }, { on := 1, ground := Go.Ground.phase }, { on := 2, ground := Go.Ground.phase }, { on := 3, ground := Go.Ground.phase }, { on := 4, ground := Go.Ground.phase }, { on := 5, ground := Go.Ground.phase }, { on := 6, ground := Go.Ground.phase }, { on := 7, ground := Go.Ground.phase }, { on := 8, ground := Go.Ground.phase }], guard := none }) (v := ?_) rfl (by kernel_rfl) (by kernel_rfl) (by kernel_rfl) (fun _ _ _ h => h) (Or.inl ⟨by rfl, ?_⟩) (by assumption) ?_
      rotate_left
      · intro w hSw
        try dsimp only at hSw
        go_simp
        try with_reducible rfl
      try simp only [Act.put, List.setIfInBounds_toArray, List.set_cons_zero, List.set_cons_succ]
      refine wpAnyH_done (by kernel_rfl) ?_ _
      go_wp2
      go_ret
      exact ⟨rfl, bstep B2 hHeld.2.2.2.2.2.2.2.2⟩
end Go.Proofs.YtmelblnfjcbmjaaDoor

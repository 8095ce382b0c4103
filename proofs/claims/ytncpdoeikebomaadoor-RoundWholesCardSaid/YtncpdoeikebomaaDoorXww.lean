/-
  Several texts in one: each one's own remark stands ahead of it.
-/
import Derived.Test.YtncpdoeikebomaaDoorXsc
/-
  Whole numbers by plain words: what is cut off to the whole, whether that is nothing, and which one is odd; no program is spoken of.
-/
namespace Go.Proofs.YtncpdoeikebomaaDoor

theorem whole_plain (m : Nat) (na : Bool) (c : Nat) (x : Int) (h : NumD c x) (hz : c = 0 → na = false) (hx : x < 0) :
    rwF m na c x = (na && !decide (cutN m na c (min (-x) 90).toNat false = 0), cutN m na c (min (-x) 90).toNat false, 0) ∧ cutN m na c (min (-x) 90).toNat false ≤ 10 ^ 33 + 1 := by
  have e : (min (-x) 90).toNat = min (-x).toNat 90 := by omega
  obtain ⟨s, N, k, b⟩ := scF_whole (m := m) (n := na) h hx
  obtain ⟨p1, p2⟩ := scale_plain m na c x 0 (-x) hz (by omega) (cutN m na c (min (-x).toNat 90) false) (.inl ⟨by omega, rfl⟩)
  rw [e]
  unfold rwF
  rw [if_neg (by omega)]
  rcases Nat.lt_or_ge 34 (nd (cutN m na c (min (-x).toNat 90) false)) with d | d
  · rw [p1 d] at k; cases k
  · have k2 := p2 d
    rw [k2]
    rw [k2] at k
    simp only [Option.some.injEq, Prod.mk.injEq] at k
    obtain ⟨-, k3, -⟩ := k
    exact ⟨rfl, by rw [k3]; exact b⟩
theorem cut_same (m : Nat) (na : Bool) (c : Nat) (x : Int) : cutN m na c (min (-x) 90).toNat false = cutN m na c (-x).toNat false := by
  rw [show (min (-x) 90).toNat = min (-x).toNat 90 by omega, cutN_min]
theorem sz_whole (T c : Nat) (x : Int) (h1 : -6176 ≤ x) (hx : x < 0) : szN T 0 = szN c x ↔ T * 10 ^ (-x).toNat = c := by
  unfold szN
  rw [show ((0 : Int) + 6176).toNat = (-x).toNat + (x + 6176).toNat by omega, Nat.pow_add, ← Nat.mul_assoc]
  have : 0 < 10 ^ (x + 6176).toNat := Nat.pos_of_ne_zero (by simp)
  constructor
  · intro h; exact Nat.eq_of_mul_eq_mul_right this h
  · intro h; rw [h]
/-- Whether nothing is cut off, and which of the whole ones is odd. -/
theorem wh_cut (na : Bool) (c : Nat) (x : Int) (h : NumD c x) (hz : c = 0 → na = false) (hx : x < 0) :
    (sgR (sumR na (cutN 6 na c (min (-x) 90).toNat false * 10 ^ (0 - min 0 x).toNat) (!na && !decide (c = 0)) (c * 10 ^ (x - min 0 x).toNat)) = 0 ↔ exB na c x = true) ∧
    (exB na c x = true → oddT (rwF 5 na c x) = decide (cutN 6 na c (min (-x) 90).toNat false % 2 = 1)) := by
  obtain ⟨w5, -⟩ := whole_plain 5 na c x h hz hx
  rw [cut_same] at w5
  rw [cut_same]
  have hm : min 0 x = x := by omega
  rw [hm, show (0 - x).toNat = (-x).toNat by omega, show (x - x).toNat = 0 by omega, Nat.pow_zero, Nat.mul_one]
  have d5 : cutN 5 na c (-x).toNat false = c / 10 ^ min (-x).toNat 78 := by unfold cutN; rw [up_down]; simp
  rw [d5] at w5
  have ex : exB na c x = true ↔ c / 10 ^ min (-x).toNat 78 * 10 ^ (-x).toNat = c := by
    unfold exB
    rw [w5]
    simp only [decide_eq_true_eq]
    rw [vlZ_sign, ← sz_whole _ c x h.2.1 hx]
    unfold vlZ
    cases na
    · simp only [Bool.false_eq_true, if_false]
      exact ⟨fun k => by omega, fun k => by omega⟩
    · simp only [if_true]
      exact ⟨fun k => by omega, fun k => by omega⟩
  have u6 := upN_le 6 na c (-x).toNat false
  have bt := cut_between (c := c) (k := (-x).toNat) h.1
  have hu : c % 10 ^ min (-x).toNat 78 = 0 → cutN 6 na c (-x).toNat false = c / 10 ^ min (-x).toNat 78 := by
    intro z; unfold cutN; rw [up_of z]; simp
  generalize c / 10 ^ min (-x).toNat 78 = q at *
  generalize c % 10 ^ min (-x).toNat 78 = r at *
  generalize cutN 6 na c (-x).toNat false = F at *
  generalize 10 ^ (-x).toNat = p at *
  have eqv : F * p = c ↔ q * p = c := by
    rcases bt with ⟨z, e⟩ | ⟨z, e1, e2⟩
    · rw [hu z]
    · refine ⟨fun k => ?_, fun k => by omega⟩
      rcases (show F = q ∨ F = q + 1 by omega) with f | f
      · rw [f] at k; exact k
      · rw [f] at k; omega
  constructor
  · rw [ex, ← eqv]
    unfold sgR sumR
    by_cases z : c = 0
    · have := hz z
      subst this
      subst z
      simp
    · cases na <;> simp [z]
      all_goals
        by_cases le : c ≤ F * p
        · simp [le]
          by_cases y : F * p = c
          · simp [y]
          · have : ¬ (F * p - c = 0) := by omega
            simp [this, y]
        · simp [le]
          have y : ¬ F * p = c := by omega
          have : ¬ (c - F * p = 0) := by omega
          simp [this, y]
  · intro k
    have e := ex.1 k
    have z : r = 0 := by
      rcases bt with ⟨z, _⟩ | ⟨_, e1, _⟩
      · exact z
      · omega
    rw [w5, hu z]
    unfold oddT
    simp
theorem wh_stay (na : Bool) (c : Nat) (x : Int) (hx : 0 ≤ x) :
    sgR (sumR na (c * 10 ^ (x - min x x).toNat) (!na && !decide (c = 0)) (c * 10 ^ (x - min x x).toNat)) = 0 ∧ exB na c x = true ∧ oddT (rwF 5 na c x) = (decide (x = 0) && decide (c % 2 = 1)) := by
  have w5 : rwF 5 na c x = (na, c, x) := by unfold rwF; rw [if_pos hx]
  refine ⟨?_, by unfold exB; rw [w5]; simp, by rw [w5]; rfl⟩
  rw [show (x - min x x).toNat = 0 by omega, Nat.pow_zero, Nat.mul_one]
  unfold sgR sumR
  by_cases z : c = 0
  · subst z; cases na <;> simp
  · cases na <;> simp [z]
end Go.Proofs.YtncpdoeikebomaaDoor

/-
  The statement RoundWholes, walked: it answers true, where the document's examples do.
-/
namespace Go.Proofs.YtncpdoeikebomaaDoor
open Go.RowKit

theorem HoldsF.far {W : World} {g : Nat} {n : Bool} {v : Value} {x : Int} (H : HoldsF W g n v x) {p : Addr} (hp : g ≠ p.block) (u : Value) : HoldsF (W.setCell p u) g n v x := by
  obtain ⟨⟨a, b, c⟩, ⟨a', b', c'⟩, s⟩ := H
  have k := Below.heap_setCell W p u g hp
  exact ⟨⟨(World.cell?_of_block (a := ⟨g, 0, none⟩) k).trans a, (World.cell?_of_block (a := ⟨g, 1, none⟩) k).trans b, (World.cell?_of_block (a := ⟨g, 2, none⟩) k).trans c⟩, ⟨(World.frozen?_of_block (a := ⟨g, 0, none⟩) k).trans a', (World.frozen?_of_block (a := ⟨g, 1, none⟩) k).trans b', (World.frozen?_of_block (a := ⟨g, 2, none⟩) k).trans c'⟩, by simpa using s⟩
theorem keepW {W w' : World} {g k : Nat} {v0 v1 v2 v3 u0 u1 u2 : Value} (h : W.cell? ⟨g, 0, none⟩ = some v0 ∧ W.cell? ⟨g, 1, none⟩ = some v1 ∧ W.cell? ⟨g, 2, none⟩ = some v2 ∧ W.cell? ⟨g, 3, none⟩ = some v3) (h' : W.cell? ⟨k, 0, none⟩ = some u0 ∧ W.cell? ⟨k, 1, none⟩ = some u1 ∧ W.cell? ⟨k, 2, none⟩ = some u2) (hb : Below W.heap.size W w') :
    w'.cell? ⟨g, 0, none⟩ = some v0 ∧ w'.cell? ⟨g, 1, none⟩ = some v1 ∧ w'.cell? ⟨g, 2, none⟩ = some v2 ∧ w'.cell? ⟨g, 3, none⟩ = some v3 ∧ w'.cell? ⟨k, 0, none⟩ = some u0 ∧ w'.cell? ⟨k, 1, none⟩ = some u1 ∧ w'.cell? ⟨k, 2, none⟩ = some u2 ∧ Below W.heap.size W w' :=
  ⟨keepCell2 h.1 hb, keepCell2 h.2.1 hb, keepCell2 h.2.2.1 hb, keepCell2 h.2.2.2 hb, keepCell2 h'.1 hb, keepCell2 h'.2.1 hb, keepCell2 h'.2.2 hb, hb⟩
theorem mode_of' (r : Int) (h1 : 0 ≤ r) (h2 : r ≤ 6) : ∃ m : Nat, (m = 1 ∨ m = 2 ∨ m = 3 ∨ m = 4 ∨ m = 5 ∨ m = 6 ∨ m = 7) ∧ (m : Int) = 1 + r := ⟨(1 + r).toNat, by omega, by omega⟩
/-- How the lowest digit of a row stands to 2. -/
theorem row_parity {W : World} {A : Option Addr} {L c Q : Nat} (h : Row W (.slice A L c) (Dg.dg Q)) (hL : (Dg.dg Q).length = L) :
    (L = 0 ∧ Q = 0) ∨ (∃ g, A = some ⟨g, 0, none⟩ ∧ 0 < L ∧ L ≤ c ∧ g < W.heap.size ∧ ∃ d : Int, W.cell? ⟨g, 0, none⟩ = some (.int .i64 d) ∧ (d.tmod 2 == 0) = decide (Q % 2 = 0)) := by
  by_cases z : Q = 0
  · subst z; exact .inl ⟨by rw [← hL, Dg.dg_zero]; rfl, rfl⟩
  · obtain ⟨g, cap, e, l, lc, hc, hg⟩ := row_first h z
    cases e
    rw [hL] at l lc
    refine .inr ⟨g, rfl, l, lc, hg, _, hc, ?_⟩
    rw [Int.tmod_eq_emod_of_nonneg (by omega), Bool.eq_iff_iff]
    simp
    omega

abbrev o17_24 : Oper := { dst := some 4, op := Go.Op.assign (Go.Operand.tmp 98), type := 4, pos := "law.go:75", after := #[{ on := 23, ground := Go.Ground.data }, { on := 18, ground := Go.Ground.chain }, { on := 0, ground := Go.Ground.phase }, { on := 1, ground := Go.Ground.phase }, { on := 2, ground := Go.Ground.phase }, { on := 3, ground := Go.Ground.phase }, { on := 4, ground := Go.Ground.phase }, { on := 5, ground := Go.Ground.phase }, { on := 6, ground := Go.Ground.phase }, { on := 7, ground := Go.Ground.phase }, { on := 8, ground := Go.Ground.phase }, { on := 9, ground := Go.Ground.phase }, { on := 10, ground := Go.Ground.phase }, { on := 11, ground := Go.Ground.phase }, { on := 12, ground := Go.Ground.phase }, { on := 13, ground := Go.Ground.phase }, { on := 14, ground := Go.Ground.phase }, { on := 15, ground := Go.Ground.phase }, { on := 16, ground := Go.Ground.phase }, { on := 17, ground := Go.Ground.phase }, { on := 18, ground := Go.Ground.phase }, { on := 19, ground := Go.Ground.phase }, { on := 20, ground := Go.Ground.phase }, { on := 21, ground := Go.Ground.phase }, { on := 22, ground := Go.Ground.phase }, { on := 23, ground := Go.Ground.phase }], guard := none }
abbrev o17_4 : Oper := { dst := some 79, op := Go.Op.call { callee := Go.Callee.value (Go.Operand.func 13), args := #[Go.Operand.tmp 77, Go.Operand.tmp 78], argTypes := #[28, 36] }, type := 4, pos := "law.go:75", after := #[{ on := 2, ground := Go.Ground.data }, { on := 3, ground := Go.Ground.data }, { on := 2, ground := Go.Ground.chain }], guard := none }
abbrev o17_16 : Oper := { dst := some 91, op := Go.Op.call { callee := Go.Callee.value (Go.Operand.func 21), args := #[Go.Operand.tmp 90], argTypes := #[28] }, type := 4, pos := "law.go:75", after := #[{ on := 15, ground := Go.Ground.data }, { on := 14, ground := Go.Ground.chain }, { on := 14, ground := Go.Ground.guard }], guard := some (14, true) }
abbrev o17_7 : Oper := { dst := some 82, op := Go.Op.call { callee := Go.Callee.value (Go.Operand.func 20), args := #[Go.Operand.tmp 81], argTypes := #[28] }, type := 4, pos := "law.go:75", after := #[{ on := 6, ground := Go.Ground.data }, { on := 5, ground := Go.Ground.chain }, { on := 5, ground := Go.Ground.guard }], guard := some (5, true) }
abbrev o17_21 : Oper := { dst := some 96, op := Go.Op.pick (Go.Operand.tmp 93) (Go.Operand.tmp 95) (Go.Operand.const (Go.Value.bool false)), type := 4, pos := "law.go:75", after := #[{ on := 18, ground := Go.Ground.data }, { on := 20, ground := Go.Ground.data }, { on := 14, ground := Go.Ground.guard }], guard := some (14, true) }
abbrev o17_11 : Oper := { dst := some 86, op := Go.Op.pick (Go.Operand.tmp 84) (Go.Operand.tmp 85) (Go.Operand.const (Go.Value.bool false)), type := 4, pos := "law.go:75", after := #[{ on := 9, ground := Go.Ground.data }, { on := 10, ground := Go.Ground.data }, { on := 5, ground := Go.Ground.guard }], guard := some (5, true) }
abbrev o17_2 : Oper := { dst := some 77, op := Go.Op.call { callee := Go.Callee.value (Go.Operand.func 19), args := #[Go.Operand.tmp 75, Go.Operand.tmp 76], argTypes := #[28, 43] }, type := 28, pos := "law.go:75", after := #[{ on := 0, ground := Go.Ground.data }, { on := 1, ground := Go.Ground.data }], guard := none }
abbrev o17_22 : Oper := { dst := some 97, op := Go.Op.binOp Go.BinOp.eql 4 (Go.Operand.tmp 91) (Go.Operand.tmp 96) 4, type := 4, pos := "law.go:75", after := #[{ on := 16, ground := Go.Ground.data }, { on := 21, ground := Go.Ground.data }, { on := 14, ground := Go.Ground.guard }], guard := some (14, true) }
abbrev o17_12 : Oper := { dst := some 87, op := Go.Op.binOp Go.BinOp.eql 4 (Go.Operand.tmp 82) (Go.Operand.tmp 86) 4, type := 4, pos := "law.go:75", after := #[{ on := 7, ground := Go.Ground.data }, { on := 11, ground := Go.Ground.data }, { on := 5, ground := Go.Ground.guard }], guard := some (5, true) }
abbrev o17_23 : Oper := { dst := some 98, op := Go.Op.pick (Go.Operand.tmp 89) (Go.Operand.tmp 97) (Go.Operand.const (Go.Value.bool false)), type := 4, pos := "law.go:75", after := #[{ on := 14, ground := Go.Ground.data }, { on := 22, ground := Go.Ground.data }], guard := none }
abbrev o17_13 : Oper := { dst := some 88, op := Go.Op.pick (Go.Operand.tmp 80) (Go.Operand.tmp 87) (Go.Operand.const (Go.Value.bool false)), type := 4, pos := "law.go:75", after := #[{ on := 5, ground := Go.Ground.data }, { on := 12, ground := Go.Ground.data }], guard := none }
abbrev o17_18 : Oper := { dst := some 93, op := Go.Op.move (Go.Operand.tmp 92), type := 4, pos := "law.go:75", after := #[{ on := 17, ground := Go.Ground.data }, { on := 16, ground := Go.Ground.chain }, { on := 14, ground := Go.Ground.guard }], guard := some (14, true) }
abbrev o17_9 : Oper := { dst := some 84, op := Go.Op.move (Go.Operand.tmp 83), type := 4, pos := "law.go:75", after := #[{ on := 8, ground := Go.Ground.data }, { on := 7, ground := Go.Ground.chain }, { on := 5, ground := Go.Ground.guard }], guard := some (5, true) }
abbrev o17_20 : Oper := { dst := some 95, op := Go.Op.unOp Go.UnOp.not 4 (Go.Operand.tmp 94), type := 4, pos := "law.go:75", after := #[{ on := 19, ground := Go.Ground.data }, { on := 18, ground := Go.Ground.guard }], guard := some (18, true) }
abbrev o17_14 : Oper := { dst := some 89, op := Go.Op.move (Go.Operand.tmp 88), type := 4, pos := "law.go:75", after := #[{ on := 13, ground := Go.Ground.data }, { on := 9, ground := Go.Ground.chain }], guard := none }
abbrev o17_5 : Oper := { dst := some 80, op := Go.Op.move (Go.Operand.tmp 79), type := 4, pos := "law.go:75", after := #[{ on := 4, ground := Go.Ground.data }, { on := 4, ground := Go.Ground.chain }], guard := none }
abbrev o17_15 : Oper := { dst := some 90, op := Go.Op.load 28 (Go.Operand.tmp 5), type := 28, pos := "law.go:75", after := #[{ on := 14, ground := Go.Ground.guard }], guard := some (14, true) }
abbrev o17_6 : Oper := { dst := some 81, op := Go.Op.load 28 (Go.Operand.tmp 5), type := 28, pos := "law.go:75", after := #[{ on := 5, ground := Go.Ground.guard }], guard := some (5, true) }
abbrev o17_17 : Oper := { dst := some 92, op := Go.Op.move (Go.Operand.tmp 10), type := 4, pos := "law.go:75", after := #[{ on := 14, ground := Go.Ground.guard }], guard := some (14, true) }
abbrev o17_19 : Oper := { dst := some 94, op := Go.Op.move (Go.Operand.tmp 11), type := 4, pos := "law.go:75", after := #[{ on := 18, ground := Go.Ground.guard }], guard := some (18, true) }
abbrev o17_8 : Oper := { dst := some 83, op := Go.Op.move (Go.Operand.tmp 10), type := 4, pos := "law.go:75", after := #[{ on := 5, ground := Go.Ground.guard }], guard := some (5, true) }
abbrev o17_10 : Oper := { dst := some 85, op := Go.Op.move (Go.Operand.tmp 11), type := 4, pos := "law.go:75", after := #[{ on := 9, ground := Go.Ground.guard }], guard := some (9, true) }
abbrev o17_0 : Oper := { dst := some 75, op := Go.Op.load 28 (Go.Operand.tmp 5), type := 28, pos := "law.go:75", after := #[], guard := none }
abbrev o17_3 : Oper := { dst := some 78, op := Go.Op.load 36 (Go.Operand.tmp 8), type := 36, pos := "law.go:75", after := #[], guard := none }
abbrev o17_1 : Oper := { dst := some 76, op := Go.Op.move (Go.Operand.tmp 6), type := 43, pos := "law.go:75", after := #[], guard := none }
set_option linter.unusedSimpArgs false in
set_option maxRecDepth 100000 in
set_option maxHeartbeats 400000000 in
theorem roundWholes_walk (AW : ∀ w : World, Tab w → Calls Tryd.prog 14 #[] w (RetB true w)) (n : Bool) (h l : Nat) (x : Int) (m : Int) (h0 : WW h l) (x1 : -9223372036854775808 ≤ x) (x2 : x ≤ 9223372036854775807) (m1 : 0 ≤ m) (_m2 : m ≤ 255) (w : World) (ht : Tab w) :
    Calls Tryd.prog 5 #[Dv n h l x, .int .u8 m] w (RetB true w) := by
  have HT := Lib.hid ht
  have AWH := Lib.hid AW
  have M1 := Lib.hid (make_any n h l x h0 x1 x2)
  obtain ⟨r, hr⟩ : ∃ r : Int, r = m % 7 := ⟨_, rfl⟩
  obtain ⟨mo, hmo, emo⟩ := mode_of' r (by omega) (by omega)
  obtain ⟨mi, hmi⟩ : ∃ i : Int, i = (mo : Int) := ⟨_, rfl⟩
  have a1 : m % 7 = r := hr.symm
  have a4 : 1 + r = mi := by omega
  have a6 : IntKind.u8.wrap mi = mi := by show mi % 256 = mi; omega
  have a8 : IntKind.i64.wrap mi = mi := by rw [IntKind.wrap_i64]; omega
  have b1 : IntKind.u8.wrap r = r := by show r % 256 = r; omega
  have b4 : m.tmod 7 = r := by rw [Int.tmod_eq_emod_of_nonneg m1, hr]
  have HMM := Lib.hid (And.intro hmo hmi)
  clear ht AW h0 x1 x2 m1 _m2 hr emo hmo hmi
  go_enter Tryd.func5, Tryd.ntmps5
  go_wp2_with fail
  refine (AWH.out _ (HT.out.below (by go_grown))).mono ?_
  rintro e' w1 ⟨rfl, hb1⟩
  have A0 := Lib.hid (HoldsD.below (by simp [HoldsD, go_sem]) hb1 : HoldsD w1 w.heap.size n h l x)
  have B : Below w.heap.size w w1 := bstep (by go_grown) hb1
  clear hb1 AWH
  obtain ⟨⟨c1_1, c1_2, c1_3, c1_4⟩, -, c1_9⟩ := A0.out
  go_wp2_with fail
  refine (M1.out _ (HT.out.below B)).mono ?_
  rintro e y1 ⟨na, ah, al, ea, NA, rfl, hb⟩
  clear c1_1 c1_2 c1_3 c1_4 c1_9
  replace A0 := Lib.hid (A0.out.below hb)
  replace B := bstep B hb
  clear hb
  clear M1
  clear A0
  replace B := ballD1 B (.cells #[.bool na, .int .u64 (ah : Int), .int .u64 (al : Int), .int .i64 ea] 28)
  have P5 := Lib.hid (show HoldsD (y1.alloc (.cells #[.bool na, .int .u64 (ah : Int), .int .u64 (al : Int), .int .i64 ea] 28)) y1.heap.size na ah al ea from by simp [HoldsD, go_sem])
  go_upto_region 4 with fail
  obtain ⟨gP5, hg⟩ : ∃ g, g = y1.heap.size := ⟨_, rfl⟩
  rw [← hg] at P5
  rw [← hg]
  generalize y1.alloc (.cells #[.bool na, .int .u64 (ah : Int), .int .u64 (al : Int), .int .i64 ea] 28) = V1 at *
  clear hg
  have HN := Lib.hid NA
  obtain ⟨c, hc⟩ : ∃ c, c = nv ah al := ⟨_, rfl⟩
  have NM := NA.2.1
  have NZ := NA.2.2
  rw [← hc] at NM NZ
  have RF0 := ref_any na ah al ea NA.1
  rw [← hc] at RF0
  have RF := Lib.hid RF0
  have WH0 := whole_r mo HMM.out.1 na ah al ea NA.1 NA.2.1
  have EV0 := even_r na ah al ea NA.1 NA.2.1 NA.2.2
  have OD0 := odd_r na ah al ea NA.1 NA.2.1 NA.2.2
  rw [← hc] at WH0 EV0 OD0
  rw [← HMM.out.2] at WH0
  have WH := Lib.hid WH0
  have EV := Lib.hid EV0
  have OD := Lib.hid OD0
  have c77 : c < 10 ^ 77 := Nat.lt_of_lt_of_le NM.1 (by decide)
  have CU0 : ∀ (mm : Int) (mn : Nat) (ni : Int) (v : Value) (W : World), mm = (mn : Int) → (mn = 1 ∨ mn = 2 ∨ mn = 3 ∨ mn = 4 ∨ mn = 5 ∨ mn = 6 ∨ mn = 7) → ni ≤ 90 → Row W v (Dg.dg c) → Calls Tryd.prog 16 #[Fv na v ea, .bool false, .int .i64 ni, .int .i64 mm] W (RetF (fun n' v' x' W' => n' = na ∧ x' = ea + (ni.toNat : Int) ∧ Row W' v' (Dg.dg (cutN mn na c ni.toNat false))) W) := by
    intro mm mn ni v W e hm hni hr
    rw [e]
    exact rcut_any mn hm na v c ea ni _ false rfl (by omega) c77 (by have := NM.2; omega) (.inl rfl) W hr
  have CU := Lib.hid CU0
  have c40 : c < 10 ^ 40 := Nat.lt_of_lt_of_le NM.1 (by decide)
  have CM := Lib.hid (fun (va vb : Value) (Fq : Nat) (xe : Int) (W : World) (hF : Fq < 10 ^ 40) (e1 : -6176 ≤ xe) (e2 : xe ≤ 6111) (ra : Row W va (Dg.dg Fq)) (rb : Row W vb (Dg.dg c)) => rcmpF_any na va Fq xe na vb c ea hF c40 e1 e2 NM.2.1 NM.2.2 W ra rb)
  have NMH := Lib.hid NM
  have NZH := Lib.hid NZ
  clear NA hc RF0 WH0 EV0 OD0 CU0 c77 c40 NM NZ
  obtain ⟨⟨c2_1, c2_2, c2_3, c2_4⟩, -, c2_9⟩ := P5.out
  go_wp2_with fail
  refine (RF.out _).mono ?_
  rintro e y2 ⟨na', v, ea', ⟨rfl, rfl, RV⟩, rfl, hb⟩
  clear c2_1 c2_2 c2_3 c2_4 c2_9
  replace P5 := Lib.hid (P5.out.below hb)
  replace B := bstep B hb
  clear hb
  clear RF
  have RP := Lib.hid RV
  clear RV
  obtain ⟨VA, VC, rfl⟩ := slice_of RP.out
  generalize hLV : (Dg.dg c).length = LVn at *
  have lt_P5 := P5.out.2.2
  have lt_B := B.size
  replace P5 := Lib.hid (P5.out.alloc (.cells #[.bool na', (.slice VA LVn VC), .int .i64 ea'] 36))
  replace RP := Lib.hid (RP.out.alloc (.cells #[.bool na', (.slice VA LVn VC), .int .i64 ea'] 36))
  replace B := ballD1 B (.cells #[.bool na', (.slice VA LVn VC), .int .i64 ea'] 36)
  have PP := Lib.hid (HoldsF.newF rfl : HoldsF (y2.alloc (.cells #[.bool na', (.slice VA LVn VC), .int .i64 ea'] 36)) y2.heap.size na' (.slice VA LVn VC) ea')
  have BP := Lib.hid (BlkD.new rfl : BlkD (y2.alloc (.cells #[.bool na', (.slice VA LVn VC), .int .i64 ea'] 36)) y2.heap.size)
  go_upto_region 6 with fail
  obtain ⟨gPP, hg⟩ : ∃ g, g = y2.heap.size := ⟨_, rfl⟩
  rw [← hg] at PP BP lt_B lt_P5
  rw [← hg]
  change Code.wp _ _ _ _ (y2.alloc (.cells #[.bool na', (.slice VA LVn VC), .int .i64 ea'] 36))
  generalize y2.alloc (.cells #[.bool na', (.slice VA LVn VC), .int .i64 ea'] 36) = V3 at *
  clear hg
  have ne_P5_PP : gP5 ≠ gPP := Nat.ne_of_lt lt_P5
  have le_PP : w.heap.size ≤ gPP := lt_B
  clear lt_B lt_P5
  clear BP
  obtain ⟨⟨c3_1, c3_2, c3_3⟩, -, c3_9⟩ := PP.out
  have lt_P5 := P5.out.2.2
  have lt_PP := PP.out.2.2
  have lt_B := B.size
  replace P5 := Lib.hid (P5.out.alloc (.cells #[.bool na', (.slice VA LVn VC), .int .i64 ea'] 36))
  replace RP := Lib.hid (RP.out.alloc (.cells #[.bool na', (.slice VA LVn VC), .int .i64 ea'] 36))
  replace PP := Lib.hid (PP.out.alloc (.cells #[.bool na', (.slice VA LVn VC), .int .i64 ea'] 36))
  replace B := ballD1 B (.cells #[.bool na', (.slice VA LVn VC), .int .i64 ea'] 36)
  have PQ := Lib.hid (HoldsF.newF rfl : HoldsF (V3.alloc (.cells #[.bool na', (.slice VA LVn VC), .int .i64 ea'] 36)) V3.heap.size na' (.slice VA LVn VC) ea')
  have BKQ := Lib.hid (BlkD.new rfl : BlkD (V3.alloc (.cells #[.bool na', (.slice VA LVn VC), .int .i64 ea'] 36)) V3.heap.size)
  go_upto_region 7 with fail
  obtain ⟨gPQ, hg⟩ : ∃ g, g = V3.heap.size := ⟨_, rfl⟩
  rw [← hg] at PQ BKQ lt_B lt_P5 lt_PP
  rw [← hg]
  change Code.wp _ _ _ _ (V3.alloc (.cells #[.bool na', (.slice VA LVn VC), .int .i64 ea'] 36))
  generalize V3.alloc (.cells #[.bool na', (.slice VA LVn VC), .int .i64 ea'] 36) = V4 at *
  clear hg
  have ne_P5_PQ : gP5 ≠ gPQ := Nat.ne_of_lt lt_P5
  have ne_PP_PQ : gPP ≠ gPQ := Nat.ne_of_lt lt_PP
  have le_PQ : w.heap.size ≤ gPQ := lt_B
  clear lt_B lt_P5 lt_PP
  clear c3_1 c3_2 c3_3 c3_9
  have OPQ := Lib.hid (off_of (by rw [← hLV]; rw [hLV]; exact RP.out) BKQ.out : Off (.slice VA LVn VC) (Dg.dg c) gPQ)
  by_cases neg : ea' < 0
  case' pos =>
    have tn : decide (ea' < 0) = true := decide_eq_true neg
    obtain ⟨pn, hpn⟩ : ∃ p, p = -ea' := ⟨_, rfl⟩
    have pn1 : wrap64 (-ea') = pn := by have := NMH.out.2; unfold wrap64; omega
    have pn2 : IntKind.i64.wrap (-ea') = pn := by have := NMH.out.2; rw [IntKind.wrap_i64]; omega
    have WP := Lib.hid (whole_plain mo na' c ea' NMH.out NZH.out neg)
    have W6 := Lib.hid (whole_plain 6 na' c ea' NMH.out NZH.out neg)
    have WC := Lib.hid (wh_cut na' c ea' NMH.out NZH.out neg)
    rw [← hpn] at WP W6 WC
    have C1 := Lib.hid (fun v W r => CU.out mi mo (min pn 90) v W HMM.out.2 HMM.out.1 (by omega) r)
    have C2 := Lib.hid (fun v W r => CU.out 6 6 (min pn 90) v W rfl (by decide) (by omega) r)
    have XB := Lib.hid NMH.out.2
    clear CU hpn neg
    obtain ⟨⟨c4_1, c4_2, c4_3⟩, -, c4_9⟩ := PP.out
    go_wp2_with fail
    refine (C1.out _ _ RP.out).mono ?_
    rintro e y5 ⟨nq, vq, xq, ⟨eq1, -, RQ0⟩, rfl, hb⟩
    clear c4_1 c4_2 c4_3 c4_9
    replace P5 := Lib.hid (P5.out.below hb)
    replace RP := Lib.hid (RP.out.below hb)
    replace PP := Lib.hid (PP.out.below hb)
    replace PQ := Lib.hid (PQ.out.below hb)
    replace BKQ := Lib.hid (BKQ.out.below hb)
    replace B := bstep B hb
    clear hb
    clear C1
    replace eq1 := eq1.symm
    subst eq1
    obtain ⟨Q, hQ⟩ : ∃ Q, Q = cutN mo na' c (min pn 90).toNat false := ⟨_, rfl⟩
    rw [← hQ] at RQ0 WP
    clear hQ
    obtain ⟨QA, QC, rfl⟩ := slice_of RQ0
    have OQQ := Lib.hid (off_of RQ0 BKQ.out)
    have RQ := Lib.hid RQ0
    clear RQ0
    generalize hLQ : (Dg.dg Q).length = LQn at *
    have zq : decide ((0 : Int) < (LQn : Int)) = !decide (Q = 0) := by have := nd_zero_iff Q; rw [← len_nd, hLQ] at this; exact this
    have zq' : decide (0 < LQn) = !decide (Q = 0) := by rw [← zq]; exact decide_eq_decide.2 (by omega)
    obtain ⟨dz, hdz⟩ : ∃ b, b = decide (Q = 0) := ⟨_, rfl⟩
    rw [← hdz] at zq zq' WP
    clear hdz
    clear BKQ
    obtain ⟨⟨c5_1, c5_2, c5_3⟩, ⟨c5_4, c5_5, c5_6⟩, c5_9⟩ := PQ.out
    go_upto_region 9 with fail
    clear c5_1 c5_2 c5_3 c5_4 c5_5 c5_6 c5_9
    replace P5 := Lib.hid ((((P5.out).far (p := ⟨gPQ, 0, none⟩) ne_P5_PQ (.bool na')).far (p := ⟨gPQ, 1, none⟩) ne_P5_PQ (.slice QA LQn QC)).far (p := ⟨gPQ, 2, none⟩) ne_P5_PQ (.int .i64 xq))
    replace RP := Lib.hid (Row.set (Row.set (Row.set (RP.out) OPQ.out 0 (.bool na')) OPQ.out 1 (.slice QA LQn QC)) OPQ.out 2 (.int .i64 xq))
    replace PP := Lib.hid ((((PP.out).far (p := ⟨gPQ, 0, none⟩) ne_PP_PQ (.bool na')).far (p := ⟨gPQ, 1, none⟩) ne_PP_PQ (.slice QA LQn QC)).far (p := ⟨gPQ, 2, none⟩) ne_PP_PQ (.int .i64 xq))
    replace PQ := Lib.hid ((PQ.out).put3 (n' := na') (v' := (.slice QA LQn QC)) (y := xq))
    replace RQ := Lib.hid (Row.set (Row.set (Row.set (RQ.out) OQQ.out 0 (.bool na')) OQQ.out 1 (.slice QA LQn QC)) OQQ.out 2 (.int .i64 xq))
    replace B := Below.setCell (p := ⟨gPQ, 2, none⟩) (Below.setCell (p := ⟨gPQ, 1, none⟩) (Below.setCell (p := ⟨gPQ, 0, none⟩) (B) le_PQ (.bool na')) le_PQ (.slice QA LQn QC)) le_PQ (.int .i64 xq)
    change Code.wp _ _ _ _ (((y5.setCell ⟨gPQ, 0, none⟩ (.bool na')).setCell ⟨gPQ, 1, none⟩ (.slice QA LQn QC)).setCell ⟨gPQ, 2, none⟩ (.int .i64 xq))
    generalize (((y5.setCell ⟨gPQ, 0, none⟩ (.bool na')).setCell ⟨gPQ, 1, none⟩ (.slice QA LQn QC)).setCell ⟨gPQ, 2, none⟩ (.int .i64 xq)) = S6 at *
    obtain ⟨⟨c6_1, c6_2, c6_3⟩, ⟨c6_4, c6_5, c6_6⟩, c6_9⟩ := PQ.out
    go_upto_region 10 with fail
    clear c6_1 c6_2 c6_3 c6_4 c6_5 c6_6 c6_9
    replace P5 := Lib.hid ((P5.out).far (p := ⟨gPQ, 2, none⟩) ne_P5_PQ (.int .i64 0))
    replace RP := Lib.hid (Row.set (RP.out) OPQ.out 2 (.int .i64 0))
    replace PP := Lib.hid ((PP.out).far (p := ⟨gPQ, 2, none⟩) ne_PP_PQ (.int .i64 0))
    replace PQ := Lib.hid ((PQ.out).put2 (y := 0))
    replace RQ := Lib.hid (Row.set (RQ.out) OQQ.out 2 (.int .i64 0))
    replace B := Below.setCell (p := ⟨gPQ, 2, none⟩) (B) le_PQ (.int .i64 0)
    change Code.wp _ _ _ _ (S6.setCell ⟨gPQ, 2, none⟩ (.int .i64 0))
    generalize (S6.setCell ⟨gPQ, 2, none⟩ (.int .i64 0)) = S7 at *
    cases na'
    · have WP1 := WP.out
      clear WP
      simp only [Bool.false_and] at WP1
      have WP := Lib.hid WP1
      clear WP1
      obtain ⟨⟨c7_1, c7_2, c7_3⟩, ⟨c7_4, c7_5, c7_6⟩, c7_9⟩ := PQ.out
      go_upto_region 11 with fail
      clear c7_1 c7_2 c7_3 c7_4 c7_5 c7_6 c7_9
      replace P5 := Lib.hid ((P5.out).far (p := ⟨gPQ, 0, none⟩) ne_P5_PQ (.bool false))
      replace RP := Lib.hid (Row.set (RP.out) OPQ.out 0 (.bool false))
      replace PP := Lib.hid ((PP.out).far (p := ⟨gPQ, 0, none⟩) ne_PP_PQ (.bool false))
      replace PQ := Lib.hid ((PQ.out).put0 (n' := false))
      replace RQ := Lib.hid (Row.set (RQ.out) OQQ.out 0 (.bool false))
      replace B := Below.setCell (p := ⟨gPQ, 0, none⟩) (B) le_PQ (.bool false)
      change Code.wp _ _ _ _ (S7.setCell ⟨gPQ, 0, none⟩ (.bool false))
      generalize (S7.setCell ⟨gPQ, 0, none⟩ (.bool false)) = S8 at *
      obtain ⟨⟨c8_1, c8_2, c8_3⟩, -, c8_9⟩ := PP.out
      have lt_P5 := P5.out.2.2
      have lt_PP := PP.out.2.2
      have lt_PQ := PQ.out.2.2
      have lt_B := B.size
      replace P5 := Lib.hid (P5.out.alloc (.cells #[.bool false, (.slice VA LVn VC), .int .i64 ea'] 36))
      replace RP := Lib.hid (RP.out.alloc (.cells #[.bool false, (.slice VA LVn VC), .int .i64 ea'] 36))
      replace PP := Lib.hid (PP.out.alloc (.cells #[.bool false, (.slice VA LVn VC), .int .i64 ea'] 36))
      replace PQ := Lib.hid (PQ.out.alloc (.cells #[.bool false, (.slice VA LVn VC), .int .i64 ea'] 36))
      replace RQ := Lib.hid (RQ.out.alloc (.cells #[.bool false, (.slice VA LVn VC), .int .i64 ea'] 36))
      replace B := ballD1 B (.cells #[.bool false, (.slice VA LVn VC), .int .i64 ea'] 36)
      have PF := Lib.hid (HoldsF.newF rfl : HoldsF (S8.alloc (.cells #[.bool false, (.slice VA LVn VC), .int .i64 ea'] 36)) S8.heap.size false (.slice VA LVn VC) ea')
      have BKF := Lib.hid (BlkD.new rfl : BlkD (S8.alloc (.cells #[.bool false, (.slice VA LVn VC), .int .i64 ea'] 36)) S8.heap.size)
      go_upto_region 12 with fail
      obtain ⟨gPF, hg⟩ : ∃ g, g = S8.heap.size := ⟨_, rfl⟩
      rw [← hg] at PF BKF lt_B lt_P5 lt_PP lt_PQ
      rw [← hg]
      change Code.wp _ _ _ _ (S8.alloc (.cells #[.bool false, (.slice VA LVn VC), .int .i64 ea'] 36))
      generalize S8.alloc (.cells #[.bool false, (.slice VA LVn VC), .int .i64 ea'] 36) = V9 at *
      clear hg
      have ne_P5_PF : gP5 ≠ gPF := Nat.ne_of_lt lt_P5
      have ne_PP_PF : gPP ≠ gPF := Nat.ne_of_lt lt_PP
      have ne_PQ_PF : gPQ ≠ gPF := Nat.ne_of_lt lt_PQ
      have le_PF : w.heap.size ≤ gPF := lt_B
      clear lt_B lt_P5 lt_PP lt_PQ
      clear c8_1 c8_2 c8_3 c8_9
      have OPF := Lib.hid (off_of (by rw [← hLV]; rw [hLV]; exact RP.out) BKF.out : Off (.slice VA LVn VC) (Dg.dg c) gPF)
      have OQF := Lib.hid (off_of RQ.out BKF.out : Off (.slice QA LQn QC) (Dg.dg Q) gPF)
      obtain ⟨⟨c9_1, c9_2, c9_3⟩, -, c9_9⟩ := PP.out
      go_wp2_with fail
      refine (C2.out _ _ RP.out).mono ?_
      rintro e y10 ⟨nf, vf, xf, ⟨eq2, -, RF0⟩, rfl, hb⟩
      clear c9_1 c9_2 c9_3 c9_9
      replace P5 := Lib.hid (P5.out.below hb)
      replace RP := Lib.hid (RP.out.below hb)
      replace PP := Lib.hid (PP.out.below hb)
      replace PQ := Lib.hid (PQ.out.below hb)
      replace RQ := Lib.hid (RQ.out.below hb)
      replace PF := Lib.hid (PF.out.below hb)
      replace BKF := Lib.hid (BKF.out.below hb)
      replace B := bstep B hb
      clear hb
      clear C2
      subst eq2
      obtain ⟨Fq, hF⟩ : ∃ Fq, Fq = cutN 6 false c (min pn 90).toNat false := ⟨_, rfl⟩
      rw [← hF] at RF0 W6 WC
      clear hF
      obtain ⟨FA, FC, rfl⟩ := slice_of RF0
      have OFF := Lib.hid (off_of RF0 BKF.out)
      have RFw := Lib.hid RF0
      clear RF0
      generalize hLF : (Dg.dg Fq).length = LFn at *
      clear BKF
      obtain ⟨⟨c10_1, c10_2, c10_3⟩, ⟨c10_4, c10_5, c10_6⟩, c10_9⟩ := PF.out
      go_upto_region 14 with fail
      clear c10_1 c10_2 c10_3 c10_4 c10_5 c10_6 c10_9
      replace P5 := Lib.hid ((((P5.out).far (p := ⟨gPF, 0, none⟩) ne_P5_PF (.bool false)).far (p := ⟨gPF, 1, none⟩) ne_P5_PF (.slice FA LFn FC)).far (p := ⟨gPF, 2, none⟩) ne_P5_PF (.int .i64 xf))
      replace RP := Lib.hid (Row.set (Row.set (Row.set (RP.out) OPF.out 0 (.bool false)) OPF.out 1 (.slice FA LFn FC)) OPF.out 2 (.int .i64 xf))
      replace PP := Lib.hid ((((PP.out).far (p := ⟨gPF, 0, none⟩) ne_PP_PF (.bool false)).far (p := ⟨gPF, 1, none⟩) ne_PP_PF (.slice FA LFn FC)).far (p := ⟨gPF, 2, none⟩) ne_PP_PF (.int .i64 xf))
      replace PQ := Lib.hid ((((PQ.out).far (p := ⟨gPF, 0, none⟩) ne_PQ_PF (.bool false)).far (p := ⟨gPF, 1, none⟩) ne_PQ_PF (.slice FA LFn FC)).far (p := ⟨gPF, 2, none⟩) ne_PQ_PF (.int .i64 xf))
      replace RQ := Lib.hid (Row.set (Row.set (Row.set (RQ.out) OQF.out 0 (.bool false)) OQF.out 1 (.slice FA LFn FC)) OQF.out 2 (.int .i64 xf))
      replace PF := Lib.hid ((PF.out).put3 (n' := false) (v' := (.slice FA LFn FC)) (y := xf))
      replace RFw := Lib.hid (Row.set (Row.set (Row.set (RFw.out) OFF.out 0 (.bool false)) OFF.out 1 (.slice FA LFn FC)) OFF.out 2 (.int .i64 xf))
      replace B := Below.setCell (p := ⟨gPF, 2, none⟩) (Below.setCell (p := ⟨gPF, 1, none⟩) (Below.setCell (p := ⟨gPF, 0, none⟩) (B) le_PF (.bool false)) le_PF (.slice FA LFn FC)) le_PF (.int .i64 xf)
      change Code.wp _ _ _ _ (((y10.setCell ⟨gPF, 0, none⟩ (.bool false)).setCell ⟨gPF, 1, none⟩ (.slice FA LFn FC)).setCell ⟨gPF, 2, none⟩ (.int .i64 xf))
      generalize (((y10.setCell ⟨gPF, 0, none⟩ (.bool false)).setCell ⟨gPF, 1, none⟩ (.slice FA LFn FC)).setCell ⟨gPF, 2, none⟩ (.int .i64 xf)) = S11 at *
      obtain ⟨⟨c11_1, c11_2, c11_3⟩, ⟨c11_4, c11_5, c11_6⟩, c11_9⟩ := PF.out
      go_upto_region 15 with fail
      clear c11_1 c11_2 c11_3 c11_4 c11_5 c11_6 c11_9
      replace P5 := Lib.hid ((P5.out).far (p := ⟨gPF, 2, none⟩) ne_P5_PF (.int .i64 0))
      replace RP := Lib.hid (Row.set (RP.out) OPF.out 2 (.int .i64 0))
      replace PP := Lib.hid ((PP.out).far (p := ⟨gPF, 2, none⟩) ne_PP_PF (.int .i64 0))
      replace PQ := Lib.hid ((PQ.out).far (p := ⟨gPF, 2, none⟩) ne_PQ_PF (.int .i64 0))
      replace RQ := Lib.hid (Row.set (RQ.out) OQF.out 2 (.int .i64 0))
      replace PF := Lib.hid ((PF.out).put2 (y := 0))
      replace RFw := Lib.hid (Row.set (RFw.out) OFF.out 2 (.int .i64 0))
      replace B := Below.setCell (p := ⟨gPF, 2, none⟩) (B) le_PF (.int .i64 0)
      change Code.wp _ _ _ _ (S11.setCell ⟨gPF, 2, none⟩ (.int .i64 0))
      generalize (S11.setCell ⟨gPF, 2, none⟩ (.int .i64 0)) = S12 at *
      have FB : Fq < 10 ^ 40 := Nat.lt_of_le_of_lt W6.out.2 (by decide)
      have CMX0 := fun W ra rb => CM.out (.slice FA LFn FC) (.slice VA LVn VC) Fq 0 W FB (by decide) (by decide) ra rb
      have WC0 := WC.out
      generalize sgR (sumR _ _ _ _) = z at CMX0 WC0
      have CMX := Lib.hid CMX0
      obtain ⟨wc1, wc2⟩ := WC0
      have WPX := Lib.hid WP.out.1
      clear CM CMX0 FB W6 WC WP OPF OQF OFF OPQ OQQ
      generalize exB false c ea' = E at *
      generalize oddT (rwF 5 false c ea') = od at *
      have ze : (z == 0) = E := by
        rw [Bool.eq_iff_iff, ← wc1]
        simp
      have HOD := Lib.hid wc2
      clear wc1 wc2
      obtain ⟨⟨c12_1, c12_2, c12_3⟩, -, c12_9⟩ := PF.out
      obtain ⟨⟨c13_1, c13_2, c13_3⟩, -, c13_9⟩ := PP.out
      go_wp2_with fail
      refine (CMX.out _ RFw.out RP.out).mono ?_
      rintro e y13 ⟨rfl, hb⟩
      clear c12_1 c12_2 c12_3 c12_9 c13_1 c13_2 c13_3 c13_9
      replace P5 := Lib.hid (P5.out.below hb)
      replace RP := Lib.hid (RP.out.below hb)
      replace PP := Lib.hid (PP.out.below hb)
      replace PQ := Lib.hid (PQ.out.below hb)
      replace RQ := Lib.hid (RQ.out.below hb)
      replace PF := Lib.hid (PF.out.below hb)
      replace RFw := Lib.hid (RFw.out.below hb)
      replace B := bstep B hb
      clear hb
      clear CMX
      rcases row_parity RFw.out hLF with ⟨L0, F0⟩ | ⟨gd, eA, l0, lc, hgd, dd, hd, hp⟩
      · have tl : ((LFn : Int) == 0) = true := by rw [L0]; rfl
        have HEV := Lib.hid (show E = true → true = !od by intro t; rw [HOD.out t]; simp [F0])
        clear HOD F0 L0
        obtain ⟨⟨c14_1, c14_2, c14_3⟩, -, c14_9⟩ := PF.out
        go_upto_region 17 with fail
        clear c14_1 c14_2 c14_3 c14_9
        clear tl ze
        cases E
        · clear HEV
          simp only [Bool.false_and] at EV OD
          refine wp_region_held_drew (S := fun w' => w'.cell? ⟨gP5, 0, none⟩ = some (.bool false) ∧ w'.cell? ⟨gP5, 1, none⟩ = some (.int .u64 (ah : Int)) ∧ w'.cell? ⟨gP5, 2, none⟩ = some (.int .u64 (al : Int)) ∧ w'.cell? ⟨gP5, 3, none⟩ = some (.int .i64 ea') ∧ w'.cell? ⟨gPQ, 0, none⟩ = some (.bool false) ∧ w'.cell? ⟨gPQ, 1, none⟩ = some (.slice QA LQn QC) ∧ w'.cell? ⟨gPQ, 2, none⟩ = some (.int .i64 0) ∧ Below y13.heap.size y13 w') (by kernel_rfl) ?_ (fun hHeld => ?_)
          · exact keepW P5.out.1 PQ.out.1 (Below.refl _ _).drew
          refine wpAnyH_take (i := 0) (oi := o17_0) (v := ?_) rfl (by kernel_rfl) (by kernel_rfl) (by kernel_rfl) (fun _ _ _ h => h) (Or.inl ⟨by rfl, ?_⟩) (by assumption) ?_
          rotate_left
          · intro w hSw
            try dsimp only at hSw
            go_simp
            try with_reducible rfl
          try simp only [Act.put, List.setIfInBounds_toArray, List.set_cons_zero, List.set_cons_succ]
          refine wpAnyH_take (i := 1) (oi := o17_1) (v := ?_) rfl (by kernel_rfl) (by kernel_rfl) (by kernel_rfl) (fun _ _ _ h => h) (Or.inl ⟨by rfl, ?_⟩) (by assumption) ?_
          rotate_left
          · intro w hSw
            try dsimp only at hSw
            go_simp
            try with_reducible rfl
          try simp only [Act.put, List.setIfInBounds_toArray, List.set_cons_zero, List.set_cons_succ]
          refine wpAnyH_take (i := 3) (oi := o17_3) (v := ?_) rfl (by kernel_rfl) (by kernel_rfl) (by kernel_rfl) (fun _ _ _ h => h) (Or.inl ⟨by rfl, ?_⟩) (by assumption) ?_
          rotate_left
          · intro w hSw
            try dsimp only at hSw
            go_simp
            try with_reducible rfl
          try simp only [Act.put, List.setIfInBounds_toArray, List.set_cons_zero, List.set_cons_succ]
          refine wpAnyH_ready (rs := [2]) (by kernel_rfl) (by simp) ?_
          refine AllReadyH.cons (o := o17_2) rfl (fun K hK => ?_) AllReadyH.nil
          go_simp
          refine (WH.out _ (HT.out.below (bstep B hHeld.2.2.2.2.2.2.2))).mono ?_
          rintro e v1 ⟨wn, wh, wl, wx, hww, heq, rfl, hbv1⟩
          rw [WPX.out] at heq
          simp only [Prod.mk.injEq] at heq
          obtain ⟨e1, hq8, e3⟩ := heq
          replace e1 := e1.symm
          replace e3 := e3.symm
          subst e1 e3
          have LK := Lib.hid (fun v W (r : Row W v (Dg.dg (nv wh wl))) => like_yes false wh wl 0 v hww W r)
          rw [hq8] at LK
          have RQ1 := Lib.hid (RQ.out.below (bundrew hbv1))
          clear hq8 hww
          have HBx := Lib.hid (bstep hHeld.2.2.2.2.2.2.2 hbv1)
          clear hHeld hbv1
          refine hK.out _ _ ?_ (fun hHeld => ?_)
          · exact keepW P5.out.1 PQ.out.1 HBx.out
          clear hK K HBx
          try simp only [Act.put, List.setIfInBounds_toArray, List.set_cons_zero, List.set_cons_succ]
          refine wpAnyH_ready (rs := [4]) (by kernel_rfl) (by simp) ?_
          refine AllReadyH.cons (o := o17_4) rfl (fun K hK => ?_) AllReadyH.nil
          go_simp
          refine (LK.out _ _ RQ1.out).mono ?_
          rintro e v2 ⟨rfl, hbv2⟩
          clear RQ1
          have HBx := Lib.hid (bstep hHeld.2.2.2.2.2.2.2 hbv2)
          clear hHeld hbv2
          refine hK.out _ _ ?_ (fun hHeld => ?_)
          · exact keepW P5.out.1 PQ.out.1 HBx.out
          clear hK K HBx
          try simp only [Act.put, List.setIfInBounds_toArray, List.set_cons_zero, List.set_cons_succ]
          refine wpAnyH_take (i := 5) (oi := o17_5) (v := ?_) rfl (by kernel_rfl) (by kernel_rfl) (by kernel_rfl) (fun _ _ _ h => h) (Or.inl ⟨by rfl, ?_⟩) (by assumption) ?_
          rotate_left
          · intro w hSw
            try dsimp only at hSw
            go_simp
            try with_reducible rfl
          try simp only [Act.put, List.setIfInBounds_toArray, List.set_cons_zero, List.set_cons_succ]
          refine wpAnyH_take (i := 6) (oi := o17_6) (v := ?_) rfl (by kernel_rfl) (by kernel_rfl) (by kernel_rfl) (fun _ _ _ h => h) (Or.inl ⟨by rfl, ?_⟩) (by assumption) ?_
          rotate_left
          · intro w hSw
            try dsimp only at hSw
            go_simp
            try with_reducible rfl
          try simp only [Act.put, List.setIfInBounds_toArray, List.set_cons_zero, List.set_cons_succ]
          refine wpAnyH_take (i := 8) (oi := o17_8) (v := ?_) rfl (by kernel_rfl) (by kernel_rfl) (by kernel_rfl) (fun _ _ _ h => h) (Or.inl ⟨by rfl, ?_⟩) (by assumption) ?_
          rotate_left
          · intro w hSw
            try dsimp only at hSw
            go_simp
            try with_reducible rfl
          try simp only [Act.put, List.setIfInBounds_toArray, List.set_cons_zero, List.set_cons_succ]
          refine wpAnyH_ready (rs := [7]) (by kernel_rfl) (by simp) ?_
          refine AllReadyH.cons (o := o17_7) rfl (fun K hK => ?_) AllReadyH.nil
          go_simp
          refine (EV.out _ (HT.out.below (bstep B hHeld.2.2.2.2.2.2.2))).mono ?_
          rintro e v3 ⟨rfl, hbv3⟩
          have HBx := Lib.hid (bstep hHeld.2.2.2.2.2.2.2 hbv3)
          clear hHeld hbv3
          refine hK.out _ _ ?_ (fun hHeld => ?_)
          · exact keepW P5.out.1 PQ.out.1 HBx.out
          clear hK K HBx
          try simp only [Act.put, List.setIfInBounds_toArray, List.set_cons_zero, List.set_cons_succ]
          refine wpAnyH_take (i := 9) (oi := o17_9) (v := ?_) rfl (by kernel_rfl) (by kernel_rfl) (by kernel_rfl) (fun _ _ _ h => h) (Or.inl ⟨by rfl, ?_⟩) (by assumption) ?_
          rotate_left
          · intro w hSw
            try dsimp only at hSw
            go_simp
            try with_reducible rfl
          try simp only [Act.put, List.setIfInBounds_toArray, List.set_cons_zero, List.set_cons_succ]
          refine wpAnyH_take (i := 10) (oi := o17_10) (v := undef) rfl (by kernel_rfl) (by kernel_rfl) (by kernel_rfl) (fun _ _ _ h => h) (Or.inr ⟨by rfl, rfl⟩) (by assumption) ?_
          try simp only [Act.put, List.setIfInBounds_toArray, List.set_cons_zero, List.set_cons_succ]
          refine wpAnyH_take (i := 11) (oi := o17_11) (v := ?_) rfl (by kernel_rfl) (by kernel_rfl) (by kernel_rfl) (fun _ _ _ h => h) (Or.inl ⟨by rfl, ?_⟩) (by assumption) ?_
          rotate_left
          · intro w hSw
            try dsimp only at hSw
            go_simp
            try with_reducible rfl
          try simp only [Act.put, List.setIfInBounds_toArray, List.set_cons_zero, List.set_cons_succ]
          refine wpAnyH_take (i := 12) (oi := o17_12) (v := ?_) rfl (by kernel_rfl) (by kernel_rfl) (by kernel_rfl) (fun _ _ _ h => h) (Or.inl ⟨by rfl, ?_⟩) (by assumption) ?_
          rotate_left
          · intro w hSw
            try dsimp only at hSw
            go_simp
            try with_reducible rfl
          try simp only [Act.put, List.setIfInBounds_toArray, List.set_cons_zero, List.set_cons_succ]
          refine wpAnyH_take (i := 13) (oi := o17_13) (v := ?_) rfl (by kernel_rfl) (by kernel_rfl) (by kernel_rfl) (fun _ _ _ h => h) (Or.inl ⟨by rfl, ?_⟩) (by assumption) ?_
          rotate_left
          · intro w hSw
            try dsimp only at hSw
            go_simp
            try with_reducible rfl
          try simp only [Act.put, List.setIfInBounds_toArray, List.set_cons_zero, List.set_cons_succ]
          refine wpAnyH_take (i := 14) (oi := o17_14) (v := ?_) rfl (by kernel_rfl) (by kernel_rfl) (by kernel_rfl) (fun _ _ _ h => h) (Or.inl ⟨by rfl, ?_⟩) (by assumption) ?_
          rotate_left
          · intro w hSw
            try dsimp only at hSw
            go_simp
            try with_reducible rfl
          try simp only [Act.put, List.setIfInBounds_toArray, List.set_cons_zero, List.set_cons_succ]
          refine wpAnyH_take (i := 15) (oi := o17_15) (v := ?_) rfl (by kernel_rfl) (by kernel_rfl) (by kernel_rfl) (fun _ _ _ h => h) (Or.inl ⟨by rfl, ?_⟩) (by assumption) ?_
          rotate_left
          · intro w hSw
            try dsimp only at hSw
            go_simp
            try with_reducible rfl
          try simp only [Act.put, List.setIfInBounds_toArray, List.set_cons_zero, List.set_cons_succ]
          refine wpAnyH_take (i := 17) (oi := o17_17) (v := ?_) rfl (by kernel_rfl) (by kernel_rfl) (by kernel_rfl) (fun _ _ _ h => h) (Or.inl ⟨by rfl, ?_⟩) (by assumption) ?_
          rotate_left
          · intro w hSw
            try dsimp only at hSw
            go_simp
            try with_reducible rfl
          try simp only [Act.put, List.setIfInBounds_toArray, List.set_cons_zero, List.set_cons_succ]
          refine wpAnyH_ready (rs := [16]) (by kernel_rfl) (by simp) ?_
          refine AllReadyH.cons (o := o17_16) rfl (fun K hK => ?_) AllReadyH.nil
          go_simp
          refine (OD.out _ (HT.out.below (bstep B hHeld.2.2.2.2.2.2.2))).mono ?_
          rintro e v4 ⟨rfl, hbv4⟩
          have HBx := Lib.hid (bstep hHeld.2.2.2.2.2.2.2 hbv4)
          clear hHeld hbv4
          refine hK.out _ _ ?_ (fun hHeld => ?_)
          · exact keepW P5.out.1 PQ.out.1 HBx.out
          clear hK K HBx
          try simp only [Act.put, List.setIfInBounds_toArray, List.set_cons_zero, List.set_cons_succ]
          refine wpAnyH_take (i := 18) (oi := o17_18) (v := ?_) rfl (by kernel_rfl) (by kernel_rfl) (by kernel_rfl) (fun _ _ _ h => h) (Or.inl ⟨by rfl, ?_⟩) (by assumption) ?_
          rotate_left
          · intro w hSw
            try dsimp only at hSw
            go_simp
            try with_reducible rfl
          try simp only [Act.put, List.setIfInBounds_toArray, List.set_cons_zero, List.set_cons_succ]
          refine wpAnyH_take (i := 19) (oi := o17_19) (v := undef) rfl (by kernel_rfl) (by kernel_rfl) (by kernel_rfl) (fun _ _ _ h => h) (Or.inr ⟨by rfl, rfl⟩) (by assumption) ?_
          try simp only [Act.put, List.setIfInBounds_toArray, List.set_cons_zero, List.set_cons_succ]
          refine wpAnyH_take (i := 20) (oi := o17_20) (v := undef) rfl (by kernel_rfl) (by kernel_rfl) (by kernel_rfl) (fun _ _ _ h => h) (Or.inr ⟨by rfl, rfl⟩) (by assumption) ?_
          try simp only [Act.put, List.setIfInBounds_toArray, List.set_cons_zero, List.set_cons_succ]
          refine wpAnyH_take (i := 21) (oi := o17_21) (v := ?_) rfl (by kernel_rfl) (by kernel_rfl) (by kernel_rfl) (fun _ _ _ h => h) (Or.inl ⟨by rfl, ?_⟩) (by assumption) ?_
          rotate_left
          · intro w hSw
            try dsimp only at hSw
            go_simp
            try with_reducible rfl
          try simp only [Act.put, List.setIfInBounds_toArray, List.set_cons_zero, List.set_cons_succ]
          refine wpAnyH_take (i := 22) (oi := o17_22) (v := ?_) rfl (by kernel_rfl) (by kernel_rfl) (by kernel_rfl) (fun _ _ _ h => h) (Or.inl ⟨by rfl, ?_⟩) (by assumption) ?_
          rotate_left
          · intro w hSw
            try dsimp only at hSw
            go_simp
            try with_reducible rfl
          try simp only [Act.put, List.setIfInBounds_toArray, List.set_cons_zero, List.set_cons_succ]
          refine wpAnyH_take (i := 23) (oi := o17_23) (v := ?_) rfl (by kernel_rfl) (by kernel_rfl) (by kernel_rfl) (fun _ _ _ h => h) (Or.inl ⟨by rfl, ?_⟩) (by assumption) ?_
          rotate_left
          · intro w hSw
            try dsimp only at hSw
            go_simp
            try with_reducible rfl
          try simp only [Act.put, List.setIfInBounds_toArray, List.set_cons_zero, List.set_cons_succ]
          refine wpAnyH_take (i := 24) (oi := o17_24) (v := ?_) rfl (by kernel_rfl) (by kernel_rfl) (by kernel_rfl) (fun _ _ _ h => h) (Or.inl ⟨by rfl, ?_⟩) (by assumption) ?_
          rotate_left
          · intro w hSw
            try dsimp only at hSw
            go_simp
            try with_reducible rfl
          try simp only [Act.put, List.setIfInBounds_toArray, List.set_cons_zero, List.set_cons_succ]
          refine wpAnyH_done (by kernel_rfl) ?_ _
          go_wp2
          go_ret
          exact ⟨rfl, bstep B hHeld.2.2.2.2.2.2.2⟩
        · simp only [Bool.true_and] at EV OD
          have hev := HEV.out rfl
          clear HEV
          obtain rfl : od = false := by cases od; rfl; cases hev
          simp only [Bool.not_false] at EV
          clear hev
          refine wp_region_held_drew (S := fun w' => w'.cell? ⟨gP5, 0, none⟩ = some (.bool false) ∧ w'.cell? ⟨gP5, 1, none⟩ = some (.int .u64 (ah : Int)) ∧ w'.cell? ⟨gP5, 2, none⟩ = some (.int .u64 (al : Int)) ∧ w'.cell? ⟨gP5, 3, none⟩ = some (.int .i64 ea') ∧ w'.cell? ⟨gPQ, 0, none⟩ = some (.bool false) ∧ w'.cell? ⟨gPQ, 1, none⟩ = some (.slice QA LQn QC) ∧ w'.cell? ⟨gPQ, 2, none⟩ = some (.int .i64 0) ∧ Below y13.heap.size y13 w') (by kernel_rfl) ?_ (fun hHeld => ?_)
          · exact keepW P5.out.1 PQ.out.1 (Below.refl _ _).drew
          refine wpAnyH_take (i := 0) (oi := o17_0) (v := ?_) rfl (by kernel_rfl) (by kernel_rfl) (by kernel_rfl) (fun _ _ _ h => h) (Or.inl ⟨by rfl, ?_⟩) (by assumption) ?_
          rotate_left
          · intro w hSw
            try dsimp only at hSw
            go_simp
            try with_reducible rfl
          try simp only [Act.put, List.setIfInBounds_toArray, List.set_cons_zero, List.set_cons_succ]
          refine wpAnyH_take (i := 1) (oi := o17_1) (v := ?_) rfl (by kernel_rfl) (by kernel_rfl) (by kernel_rfl) (fun _ _ _ h => h) (Or.inl ⟨by rfl, ?_⟩) (by assumption) ?_
          rotate_left
          · intro w hSw
            try dsimp only at hSw
            go_simp
            try with_reducible rfl
          try simp only [Act.put, List.setIfInBounds_toArray, List.set_cons_zero, List.set_cons_succ]
          refine wpAnyH_take (i := 3) (oi := o17_3) (v := ?_) rfl (by kernel_rfl) (by kernel_rfl) (by kernel_rfl) (fun _ _ _ h => h) (Or.inl ⟨by rfl, ?_⟩) (by assumption) ?_
          rotate_left
          · intro w hSw
            try dsimp only at hSw
            go_simp
            try with_reducible rfl
          try simp only [Act.put, List.setIfInBounds_toArray, List.set_cons_zero, List.set_cons_succ]
          refine wpAnyH_ready (rs := [2]) (by kernel_rfl) (by simp) ?_
          refine AllReadyH.cons (o := o17_2) rfl (fun K hK => ?_) AllReadyH.nil
          go_simp
          refine (WH.out _ (HT.out.below (bstep B hHeld.2.2.2.2.2.2.2))).mono ?_
          rintro e v1 ⟨wn, wh, wl, wx, hww, heq, rfl, hbv1⟩
          rw [WPX.out] at heq
          simp only [Prod.mk.injEq] at heq
          obtain ⟨e1, hq8, e3⟩ := heq
          replace e1 := e1.symm
          replace e3 := e3.symm
          subst e1 e3
          have LK := Lib.hid (fun v W (r : Row W v (Dg.dg (nv wh wl))) => like_yes false wh wl 0 v hww W r)
          rw [hq8] at LK
          have RQ1 := Lib.hid (RQ.out.below (bundrew hbv1))
          clear hq8 hww
          have HBx := Lib.hid (bstep hHeld.2.2.2.2.2.2.2 hbv1)
          clear hHeld hbv1
          refine hK.out _ _ ?_ (fun hHeld => ?_)
          · exact keepW P5.out.1 PQ.out.1 HBx.out
          clear hK K HBx
          try simp only [Act.put, List.setIfInBounds_toArray, List.set_cons_zero, List.set_cons_succ]
          refine wpAnyH_ready (rs := [4]) (by kernel_rfl) (by simp) ?_
          refine AllReadyH.cons (o := o17_4) rfl (fun K hK => ?_) AllReadyH.nil
          go_simp
          refine (LK.out _ _ RQ1.out).mono ?_
          rintro e v2 ⟨rfl, hbv2⟩
          clear RQ1
          have HBx := Lib.hid (bstep hHeld.2.2.2.2.2.2.2 hbv2)
          clear hHeld hbv2
          refine hK.out _ _ ?_ (fun hHeld => ?_)
          · exact keepW P5.out.1 PQ.out.1 HBx.out
          clear hK K HBx
          try simp only [Act.put, List.setIfInBounds_toArray, List.set_cons_zero, List.set_cons_succ]
          refine wpAnyH_take (i := 5) (oi := o17_5) (v := ?_) rfl (by kernel_rfl) (by kernel_rfl) (by kernel_rfl) (fun _ _ _ h => h) (Or.inl ⟨by rfl, ?_⟩) (by assumption) ?_
          rotate_left
          · intro w hSw
            try dsimp only at hSw
            go_simp
            try with_reducible rfl
          try simp only [Act.put, List.setIfInBounds_toArray, List.set_cons_zero, List.set_cons_succ]
          refine wpAnyH_take (i := 6) (oi := o17_6) (v := ?_) rfl (by kernel_rfl) (by kernel_rfl) (by kernel_rfl) (fun _ _ _ h => h) (Or.inl ⟨by rfl, ?_⟩) (by assumption) ?_
          rotate_left
          · intro w hSw
            try dsimp only at hSw
            go_simp
            try with_reducible rfl
          try simp only [Act.put, List.setIfInBounds_toArray, List.set_cons_zero, List.set_cons_succ]
          refine wpAnyH_take (i := 8) (oi := o17_8) (v := ?_) rfl (by kernel_rfl) (by kernel_rfl) (by kernel_rfl) (fun _ _ _ h => h) (Or.inl ⟨by rfl, ?_⟩) (by assumption) ?_
          rotate_left
          · intro w hSw
            try dsimp only at hSw
            go_simp
            try with_reducible rfl
          try simp only [Act.put, List.setIfInBounds_toArray, List.set_cons_zero, List.set_cons_succ]
          refine wpAnyH_ready (rs := [7]) (by kernel_rfl) (by simp) ?_
          refine AllReadyH.cons (o := o17_7) rfl (fun K hK => ?_) AllReadyH.nil
          go_simp
          refine (EV.out _ (HT.out.below (bstep B hHeld.2.2.2.2.2.2.2))).mono ?_
          rintro e v3 ⟨rfl, hbv3⟩
          have HBx := Lib.hid (bstep hHeld.2.2.2.2.2.2.2 hbv3)
          clear hHeld hbv3
          refine hK.out _ _ ?_ (fun hHeld => ?_)
          · exact keepW P5.out.1 PQ.out.1 HBx.out
          clear hK K HBx
          try simp only [Act.put, List.setIfInBounds_toArray, List.set_cons_zero, List.set_cons_succ]
          refine wpAnyH_take (i := 9) (oi := o17_9) (v := ?_) rfl (by kernel_rfl) (by kernel_rfl) (by kernel_rfl) (fun _ _ _ h => h) (Or.inl ⟨by rfl, ?_⟩) (by assumption) ?_
          rotate_left
          · intro w hSw
            try dsimp only at hSw
            go_simp
            try with_reducible rfl
          try simp only [Act.put, List.setIfInBounds_toArray, List.set_cons_zero, List.set_cons_succ]
          refine wpAnyH_take (i := 10) (oi := o17_10) (v := ?_) rfl (by kernel_rfl) (by kernel_rfl) (by kernel_rfl) (fun _ _ _ h => h) (Or.inl ⟨by rfl, ?_⟩) (by assumption) ?_
          rotate_left
          · intro w hSw
            try dsimp only at hSw
            go_simp
            try with_reducible rfl
          try simp only [Act.put, List.setIfInBounds_toArray, List.set_cons_zero, List.set_cons_succ]
          refine wpAnyH_take (i := 11) (oi := o17_11) (v := ?_) rfl (by kernel_rfl) (by kernel_rfl) (by kernel_rfl) (fun _ _ _ h => h) (Or.inl ⟨by rfl, ?_⟩) (by assumption) ?_
          rotate_left
          · intro w hSw
            try dsimp only at hSw
            go_simp
            try with_reducible rfl
          try simp only [Act.put, List.setIfInBounds_toArray, List.set_cons_zero, List.set_cons_succ]
          refine wpAnyH_take (i := 12) (oi := o17_12) (v := ?_) rfl (by kernel_rfl) (by kernel_rfl) (by kernel_rfl) (fun _ _ _ h => h) (Or.inl ⟨by rfl, ?_⟩) (by assumption) ?_
          rotate_left
          · intro w hSw
            try dsimp only at hSw
            go_simp
            try with_reducible rfl
          try simp only [Act.put, List.setIfInBounds_toArray, List.set_cons_zero, List.set_cons_succ]
          refine wpAnyH_take (i := 13) (oi := o17_13) (v := ?_) rfl (by kernel_rfl) (by kernel_rfl) (by kernel_rfl) (fun _ _ _ h => h) (Or.inl ⟨by rfl, ?_⟩) (by assumption) ?_
          rotate_left
          · intro w hSw
            try dsimp only at hSw
            go_simp
            try with_reducible rfl
          try simp only [Act.put, List.setIfInBounds_toArray, List.set_cons_zero, List.set_cons_succ]
          refine wpAnyH_take (i := 14) (oi := o17_14) (v := ?_) rfl (by kernel_rfl) (by kernel_rfl) (by kernel_rfl) (fun _ _ _ h => h) (Or.inl ⟨by rfl, ?_⟩) (by assumption) ?_
          rotate_left
          · intro w hSw
            try dsimp only at hSw
            go_simp
            try with_reducible rfl
          try simp only [Act.put, List.setIfInBounds_toArray, List.set_cons_zero, List.set_cons_succ]
          refine wpAnyH_take (i := 15) (oi := o17_15) (v := ?_) rfl (by kernel_rfl) (by kernel_rfl) (by kernel_rfl) (fun _ _ _ h => h) (Or.inl ⟨by rfl, ?_⟩) (by assumption) ?_
          rotate_left
          · intro w hSw
            try dsimp only at hSw
            go_simp
            try with_reducible rfl
          try simp only [Act.put, List.setIfInBounds_toArray, List.set_cons_zero, List.set_cons_succ]
          refine wpAnyH_take (i := 17) (oi := o17_17) (v := ?_) rfl (by kernel_rfl) (by kernel_rfl) (by kernel_rfl) (fun _ _ _ h => h) (Or.inl ⟨by rfl, ?_⟩) (by assumption) ?_
          rotate_left
          · intro w hSw
            try dsimp only at hSw
            go_simp
            try with_reducible rfl
          try simp only [Act.put, List.setIfInBounds_toArray, List.set_cons_zero, List.set_cons_succ]
          refine wpAnyH_ready (rs := [16]) (by kernel_rfl) (by simp) ?_
          refine AllReadyH.cons (o := o17_16) rfl (fun K hK => ?_) AllReadyH.nil
          go_simp
          refine (OD.out _ (HT.out.below (bstep B hHeld.2.2.2.2.2.2.2))).mono ?_
          rintro e v4 ⟨rfl, hbv4⟩
          have HBx := Lib.hid (bstep hHeld.2.2.2.2.2.2.2 hbv4)
          clear hHeld hbv4
          refine hK.out _ _ ?_ (fun hHeld => ?_)
          · exact keepW P5.out.1 PQ.out.1 HBx.out
          clear hK K HBx
          try simp only [Act.put, List.setIfInBounds_toArray, List.set_cons_zero, List.set_cons_succ]
          refine wpAnyH_take (i := 18) (oi := o17_18) (v := ?_) rfl (by kernel_rfl) (by kernel_rfl) (by kernel_rfl) (fun _ _ _ h => h) (Or.inl ⟨by rfl, ?_⟩) (by assumption) ?_
          rotate_left
          · intro w hSw
            try dsimp only at hSw
            go_simp
            try with_reducible rfl
          try simp only [Act.put, List.setIfInBounds_toArray, List.set_cons_zero, List.set_cons_succ]
          refine wpAnyH_take (i := 19) (oi := o17_19) (v := ?_) rfl (by kernel_rfl) (by kernel_rfl) (by kernel_rfl) (fun _ _ _ h => h) (Or.inl ⟨by rfl, ?_⟩) (by assumption) ?_
          rotate_left
          · intro w hSw
            try dsimp only at hSw
            go_simp
            try with_reducible rfl
          try simp only [Act.put, List.setIfInBounds_toArray, List.set_cons_zero, List.set_cons_succ]
          refine wpAnyH_take (i := 20) (oi := o17_20) (v := ?_) rfl (by kernel_rfl) (by kernel_rfl) (by kernel_rfl) (fun _ _ _ h => h) (Or.inl ⟨by rfl, ?_⟩) (by assumption) ?_
          rotate_left
          · intro w hSw
            try dsimp only at hSw
            go_simp
            try with_reducible rfl
          try simp only [Act.put, List.setIfInBounds_toArray, List.set_cons_zero, List.set_cons_succ]
          refine wpAnyH_take (i := 21) (oi := o17_21) (v := ?_) rfl (by kernel_rfl) (by kernel_rfl) (by kernel_rfl) (fun _ _ _ h => h) (Or.inl ⟨by rfl, ?_⟩) (by assumption) ?_
          rotate_left
          · intro w hSw
            try dsimp only at hSw
            go_simp
            try with_reducible rfl
          try simp only [Act.put, List.setIfInBounds_toArray, List.set_cons_zero, List.set_cons_succ]
          refine wpAnyH_take (i := 22) (oi := o17_22) (v := ?_) rfl (by kernel_rfl) (by kernel_rfl) (by kernel_rfl) (fun _ _ _ h => h) (Or.inl ⟨by rfl, ?_⟩) (by assumption) ?_
          rotate_left
          · intro w hSw
            try dsimp only at hSw
            go_simp
            try with_reducible rfl
          try simp only [Act.put, List.setIfInBounds_toArray, List.set_cons_zero, List.set_cons_succ]
          refine wpAnyH_take (i := 23) (oi := o17_23) (v := ?_) rfl (by kernel_rfl) (by kernel_rfl) (by kernel_rfl) (fun _ _ _ h => h) (Or.inl ⟨by rfl, ?_⟩) (by assumption) ?_
          rotate_left
          · intro w hSw
            try dsimp only at hSw
            go_simp
            try with_reducible rfl
          try simp only [Act.put, List.setIfInBounds_toArray, List.set_cons_zero, List.set_cons_succ]
          refine wpAnyH_take (i := 24) (oi := o17_24) (v := ?_) rfl (by kernel_rfl) (by kernel_rfl) (by kernel_rfl) (fun _ _ _ h => h) (Or.inl ⟨by rfl, ?_⟩) (by assumption) ?_
          rotate_left
          · intro w hSw
            try dsimp only at hSw
            go_simp
            try with_reducible rfl
          try simp only [Act.put, List.setIfInBounds_toArray, List.set_cons_zero, List.set_cons_succ]
          refine wpAnyH_done (by kernel_rfl) ?_ _
          go_wp2
          go_ret
          exact ⟨rfl, bstep B hHeld.2.2.2.2.2.2.2⟩
      · subst eA
        have tl : ((LFn : Int) == 0) = false := by simp; omega
        obtain ⟨ev, hev0⟩ : ∃ b, b = decide (Fq % 2 = 0) := ⟨_, rfl⟩
        rw [← hev0] at hp
        have par : decide (Fq % 2 = 0) = !decide (Fq % 2 = 1) := by rcases Nat.mod_two_eq_zero_or_one (Fq) with y | y <;> rw [y] <;> rfl
        have HEV := Lib.hid (show E = true → ev = !od by intro t; rw [HOD.out t, hev0, par])
        clear par
        clear HOD hev0
        obtain ⟨⟨c14_1, c14_2, c14_3⟩, -, c14_9⟩ := PF.out
        go_upto_region 17 with fail
        clear c14_1 c14_2 c14_3 c14_9
        clear tl ze hp hd
        cases E
        · clear HEV
          simp only [Bool.false_and] at EV OD
          refine wp_region_held_drew (S := fun w' => w'.cell? ⟨gP5, 0, none⟩ = some (.bool false) ∧ w'.cell? ⟨gP5, 1, none⟩ = some (.int .u64 (ah : Int)) ∧ w'.cell? ⟨gP5, 2, none⟩ = some (.int .u64 (al : Int)) ∧ w'.cell? ⟨gP5, 3, none⟩ = some (.int .i64 ea') ∧ w'.cell? ⟨gPQ, 0, none⟩ = some (.bool false) ∧ w'.cell? ⟨gPQ, 1, none⟩ = some (.slice QA LQn QC) ∧ w'.cell? ⟨gPQ, 2, none⟩ = some (.int .i64 0) ∧ Below y13.heap.size y13 w') (by kernel_rfl) ?_ (fun hHeld => ?_)
          · exact keepW P5.out.1 PQ.out.1 (Below.refl _ _).drew
          refine wpAnyH_take (i := 0) (oi := o17_0) (v := ?_) rfl (by kernel_rfl) (by kernel_rfl) (by kernel_rfl) (fun _ _ _ h => h) (Or.inl ⟨by rfl, ?_⟩) (by assumption) ?_
          rotate_left
          · intro w hSw
            try dsimp only at hSw
            go_simp
            try with_reducible rfl
          try simp only [Act.put, List.setIfInBounds_toArray, List.set_cons_zero, List.set_cons_succ]
          refine wpAnyH_take (i := 1) (oi := o17_1) (v := ?_) rfl (by kernel_rfl) (by kernel_rfl) (by kernel_rfl) (fun _ _ _ h => h) (Or.inl ⟨by rfl, ?_⟩) (by assumption) ?_
          rotate_left
          · intro w hSw
            try dsimp only at hSw
            go_simp
            try with_reducible rfl
          try simp only [Act.put, List.setIfInBounds_toArray, List.set_cons_zero, List.set_cons_succ]
          refine wpAnyH_take (i := 3) (oi := o17_3) (v := ?_) rfl (by kernel_rfl) (by kernel_rfl) (by kernel_rfl) (fun _ _ _ h => h) (Or.inl ⟨by rfl, ?_⟩) (by assumption) ?_
          rotate_left
          · intro w hSw
            try dsimp only at hSw
            go_simp
            try with_reducible rfl
          try simp only [Act.put, List.setIfInBounds_toArray, List.set_cons_zero, List.set_cons_succ]
          refine wpAnyH_ready (rs := [2]) (by kernel_rfl) (by simp) ?_
          refine AllReadyH.cons (o := o17_2) rfl (fun K hK => ?_) AllReadyH.nil
          go_simp
          refine (WH.out _ (HT.out.below (bstep B hHeld.2.2.2.2.2.2.2))).mono ?_
          rintro e v1 ⟨wn, wh, wl, wx, hww, heq, rfl, hbv1⟩
          rw [WPX.out] at heq
          simp only [Prod.mk.injEq] at heq
          obtain ⟨e1, hq8, e3⟩ := heq
          replace e1 := e1.symm
          replace e3 := e3.symm
          subst e1 e3
          have LK := Lib.hid (fun v W (r : Row W v (Dg.dg (nv wh wl))) => like_yes false wh wl 0 v hww W r)
          rw [hq8] at LK
          have RQ1 := Lib.hid (RQ.out.below (bundrew hbv1))
          clear hq8 hww
          have HBx := Lib.hid (bstep hHeld.2.2.2.2.2.2.2 hbv1)
          clear hHeld hbv1
          refine hK.out _ _ ?_ (fun hHeld => ?_)
          · exact keepW P5.out.1 PQ.out.1 HBx.out
          clear hK K HBx
          try simp only [Act.put, List.setIfInBounds_toArray, List.set_cons_zero, List.set_cons_succ]
          refine wpAnyH_ready (rs := [4]) (by kernel_rfl) (by simp) ?_
          refine AllReadyH.cons (o := o17_4) rfl (fun K hK => ?_) AllReadyH.nil
          go_simp
          refine (LK.out _ _ RQ1.out).mono ?_
          rintro e v2 ⟨rfl, hbv2⟩
          clear RQ1
          have HBx := Lib.hid (bstep hHeld.2.2.2.2.2.2.2 hbv2)
          clear hHeld hbv2
          refine hK.out _ _ ?_ (fun hHeld => ?_)
          · exact keepW P5.out.1 PQ.out.1 HBx.out
          clear hK K HBx
          try simp only [Act.put, List.setIfInBounds_toArray, List.set_cons_zero, List.set_cons_succ]
          refine wpAnyH_take (i := 5) (oi := o17_5) (v := ?_) rfl (by kernel_rfl) (by kernel_rfl) (by kernel_rfl) (fun _ _ _ h => h) (Or.inl ⟨by rfl, ?_⟩) (by assumption) ?_
          rotate_left
          · intro w hSw
            try dsimp only at hSw
            go_simp
            try with_reducible rfl
          try simp only [Act.put, List.setIfInBounds_toArray, List.set_cons_zero, List.set_cons_succ]
          refine wpAnyH_take (i := 6) (oi := o17_6) (v := ?_) rfl (by kernel_rfl) (by kernel_rfl) (by kernel_rfl) (fun _ _ _ h => h) (Or.inl ⟨by rfl, ?_⟩) (by assumption) ?_
          rotate_left
          · intro w hSw
            try dsimp only at hSw
            go_simp
            try with_reducible rfl
          try simp only [Act.put, List.setIfInBounds_toArray, List.set_cons_zero, List.set_cons_succ]
          refine wpAnyH_take (i := 8) (oi := o17_8) (v := ?_) rfl (by kernel_rfl) (by kernel_rfl) (by kernel_rfl) (fun _ _ _ h => h) (Or.inl ⟨by rfl, ?_⟩) (by assumption) ?_
          rotate_left
          · intro w hSw
            try dsimp only at hSw
            go_simp
            try with_reducible rfl
          try simp only [Act.put, List.setIfInBounds_toArray, List.set_cons_zero, List.set_cons_succ]
          refine wpAnyH_ready (rs := [7]) (by kernel_rfl) (by simp) ?_
          refine AllReadyH.cons (o := o17_7) rfl (fun K hK => ?_) AllReadyH.nil
          go_simp
          refine (EV.out _ (HT.out.below (bstep B hHeld.2.2.2.2.2.2.2))).mono ?_
          rintro e v3 ⟨rfl, hbv3⟩
          have HBx := Lib.hid (bstep hHeld.2.2.2.2.2.2.2 hbv3)
          clear hHeld hbv3
          refine hK.out _ _ ?_ (fun hHeld => ?_)
          · exact keepW P5.out.1 PQ.out.1 HBx.out
          clear hK K HBx
          try simp only [Act.put, List.setIfInBounds_toArray, List.set_cons_zero, List.set_cons_succ]
          refine wpAnyH_take (i := 9) (oi := o17_9) (v := ?_) rfl (by kernel_rfl) (by kernel_rfl) (by kernel_rfl) (fun _ _ _ h => h) (Or.inl ⟨by rfl, ?_⟩) (by assumption) ?_
          rotate_left
          · intro w hSw
            try dsimp only at hSw
            go_simp
            try with_reducible rfl
          try simp only [Act.put, List.setIfInBounds_toArray, List.set_cons_zero, List.set_cons_succ]
          refine wpAnyH_take (i := 10) (oi := o17_10) (v := undef) rfl (by kernel_rfl) (by kernel_rfl) (by kernel_rfl) (fun _ _ _ h => h) (Or.inr ⟨by rfl, rfl⟩) (by assumption) ?_
          try simp only [Act.put, List.setIfInBounds_toArray, List.set_cons_zero, List.set_cons_succ]
          refine wpAnyH_take (i := 11) (oi := o17_11) (v := ?_) rfl (by kernel_rfl) (by kernel_rfl) (by kernel_rfl) (fun _ _ _ h => h) (Or.inl ⟨by rfl, ?_⟩) (by assumption) ?_
          rotate_left
          · intro w hSw
            try dsimp only at hSw
            go_simp
            try with_reducible rfl
          try simp only [Act.put, List.setIfInBounds_toArray, List.set_cons_zero, List.set_cons_succ]
          refine wpAnyH_take (i := 12) (oi := o17_12) (v := ?_) rfl (by kernel_rfl) (by kernel_rfl) (by kernel_rfl) (fun _ _ _ h => h) (Or.inl ⟨by rfl, ?_⟩) (by assumption) ?_
          rotate_left
          · intro w hSw
            try dsimp only at hSw
            go_simp
            try with_reducible rfl
          try simp only [Act.put, List.setIfInBounds_toArray, List.set_cons_zero, List.set_cons_succ]
          refine wpAnyH_take (i := 13) (oi := o17_13) (v := ?_) rfl (by kernel_rfl) (by kernel_rfl) (by kernel_rfl) (fun _ _ _ h => h) (Or.inl ⟨by rfl, ?_⟩) (by assumption) ?_
          rotate_left
          · intro w hSw
            try dsimp only at hSw
            go_simp
            try with_reducible rfl
          try simp only [Act.put, List.setIfInBounds_toArray, List.set_cons_zero, List.set_cons_succ]
          refine wpAnyH_take (i := 14) (oi := o17_14) (v := ?_) rfl (by kernel_rfl) (by kernel_rfl) (by kernel_rfl) (fun _ _ _ h => h) (Or.inl ⟨by rfl, ?_⟩) (by assumption) ?_
          rotate_left
          · intro w hSw
            try dsimp only at hSw
            go_simp
            try with_reducible rfl
          try simp only [Act.put, List.setIfInBounds_toArray, List.set_cons_zero, List.set_cons_succ]
          refine wpAnyH_take (i := 15) (oi := o17_15) (v := ?_) rfl (by kernel_rfl) (by kernel_rfl) (by kernel_rfl) (fun _ _ _ h => h) (Or.inl ⟨by rfl, ?_⟩) (by assumption) ?_
          rotate_left
          · intro w hSw
            try dsimp only at hSw
            go_simp
            try with_reducible rfl
          try simp only [Act.put, List.setIfInBounds_toArray, List.set_cons_zero, List.set_cons_succ]
          refine wpAnyH_take (i := 17) (oi := o17_17) (v := ?_) rfl (by kernel_rfl) (by kernel_rfl) (by kernel_rfl) (fun _ _ _ h => h) (Or.inl ⟨by rfl, ?_⟩) (by assumption) ?_
          rotate_left
          · intro w hSw
            try dsimp only at hSw
            go_simp
            try with_reducible rfl
          try simp only [Act.put, List.setIfInBounds_toArray, List.set_cons_zero, List.set_cons_succ]
          refine wpAnyH_ready (rs := [16]) (by kernel_rfl) (by simp) ?_
          refine AllReadyH.cons (o := o17_16) rfl (fun K hK => ?_) AllReadyH.nil
          go_simp
          refine (OD.out _ (HT.out.below (bstep B hHeld.2.2.2.2.2.2.2))).mono ?_
          rintro e v4 ⟨rfl, hbv4⟩
          have HBx := Lib.hid (bstep hHeld.2.2.2.2.2.2.2 hbv4)
          clear hHeld hbv4
          refine hK.out _ _ ?_ (fun hHeld => ?_)
          · exact keepW P5.out.1 PQ.out.1 HBx.out
          clear hK K HBx
          try simp only [Act.put, List.setIfInBounds_toArray, List.set_cons_zero, List.set_cons_succ]
          refine wpAnyH_take (i := 18) (oi := o17_18) (v := ?_) rfl (by kernel_rfl) (by kernel_rfl) (by kernel_rfl) (fun _ _ _ h => h) (Or.inl ⟨by rfl, ?_⟩) (by assumption) ?_
          rotate_left
          · intro w hSw
            try dsimp only at hSw
            go_simp
            try with_reducible rfl
          try simp only [Act.put, List.setIfInBounds_toArray, List.set_cons_zero, List.set_cons_succ]
          refine wpAnyH_take (i := 19) (oi := o17_19) (v := undef) rfl (by kernel_rfl) (by kernel_rfl) (by kernel_rfl) (fun _ _ _ h => h) (Or.inr ⟨by rfl, rfl⟩) (by assumption) ?_
          try simp only [Act.put, List.setIfInBounds_toArray, List.set_cons_zero, List.set_cons_succ]
          refine wpAnyH_take (i := 20) (oi := o17_20) (v := undef) rfl (by kernel_rfl) (by kernel_rfl) (by kernel_rfl) (fun _ _ _ h => h) (Or.inr ⟨by rfl, rfl⟩) (by assumption) ?_
          try simp only [Act.put, List.setIfInBounds_toArray, List.set_cons_zero, List.set_cons_succ]
          refine wpAnyH_take (i := 21) (oi := o17_21) (v := ?_) rfl (by kernel_rfl) (by kernel_rfl) (by kernel_rfl) (fun _ _ _ h => h) (Or.inl ⟨by rfl, ?_⟩) (by assumption) ?_
          rotate_left
          · intro w hSw
            try dsimp only at hSw
            go_simp
            try with_reducible rfl
          try simp only [Act.put, List.setIfInBounds_toArray, List.set_cons_zero, List.set_cons_succ]
          refine wpAnyH_take (i := 22) (oi := o17_22) (v := ?_) rfl (by kernel_rfl) (by kernel_rfl) (by kernel_rfl) (fun _ _ _ h => h) (Or.inl ⟨by rfl, ?_⟩) (by assumption) ?_
          rotate_left
          · intro w hSw
            try dsimp only at hSw
            go_simp
            try with_reducible rfl
          try simp only [Act.put, List.setIfInBounds_toArray, List.set_cons_zero, List.set_cons_succ]
          refine wpAnyH_take (i := 23) (oi := o17_23) (v := ?_) rfl (by kernel_rfl) (by kernel_rfl) (by kernel_rfl) (fun _ _ _ h => h) (Or.inl ⟨by rfl, ?_⟩) (by assumption) ?_
          rotate_left
          · intro w hSw
            try dsimp only at hSw
            go_simp
            try with_reducible rfl
          try simp only [Act.put, List.setIfInBounds_toArray, List.set_cons_zero, List.set_cons_succ]
          refine wpAnyH_take (i := 24) (oi := o17_24) (v := ?_) rfl (by kernel_rfl) (by kernel_rfl) (by kernel_rfl) (fun _ _ _ h => h) (Or.inl ⟨by rfl, ?_⟩) (by assumption) ?_
          rotate_left
          · intro w hSw
            try dsimp only at hSw
            go_simp
            try with_reducible rfl
          try simp only [Act.put, List.setIfInBounds_toArray, List.set_cons_zero, List.set_cons_succ]
          refine wpAnyH_done (by kernel_rfl) ?_ _
          go_wp2
          go_ret
          exact ⟨rfl, bstep B hHeld.2.2.2.2.2.2.2⟩
        · simp only [Bool.true_and] at EV OD
          have hev := HEV.out rfl
          clear HEV
          subst hev
          refine wp_region_held_drew (S := fun w' => w'.cell? ⟨gP5, 0, none⟩ = some (.bool false) ∧ w'.cell? ⟨gP5, 1, none⟩ = some (.int .u64 (ah : Int)) ∧ w'.cell? ⟨gP5, 2, none⟩ = some (.int .u64 (al : Int)) ∧ w'.cell? ⟨gP5, 3, none⟩ = some (.int .i64 ea') ∧ w'.cell? ⟨gPQ, 0, none⟩ = some (.bool false) ∧ w'.cell? ⟨gPQ, 1, none⟩ = some (.slice QA LQn QC) ∧ w'.cell? ⟨gPQ, 2, none⟩ = some (.int .i64 0) ∧ Below y13.heap.size y13 w') (by kernel_rfl) ?_ (fun hHeld => ?_)
          · exact keepW P5.out.1 PQ.out.1 (Below.refl _ _).drew
          refine wpAnyH_take (i := 0) (oi := o17_0) (v := ?_) rfl (by kernel_rfl) (by kernel_rfl) (by kernel_rfl) (fun _ _ _ h => h) (Or.inl ⟨by rfl, ?_⟩) (by assumption) ?_
          rotate_left
          · intro w hSw
            try dsimp only at hSw
            go_simp
            try with_reducible rfl
          try simp only [Act.put, List.setIfInBounds_toArray, List.set_cons_zero, List.set_cons_succ]
          refine wpAnyH_take (i := 1) (oi := o17_1) (v := ?_) rfl (by kernel_rfl) (by kernel_rfl) (by kernel_rfl) (fun _ _ _ h => h) (Or.inl ⟨by rfl, ?_⟩) (by assumption) ?_
          rotate_left
          · intro w hSw
            try dsimp only at hSw
            go_simp
            try with_reducible rfl
          try simp only [Act.put, List.setIfInBounds_toArray, List.set_cons_zero, List.set_cons_succ]
          refine wpAnyH_take (i := 3) (oi := o17_3) (v := ?_) rfl (by kernel_rfl) (by kernel_rfl) (by kernel_rfl) (fun _ _ _ h => h) (Or.inl ⟨by rfl, ?_⟩) (by assumption) ?_
          rotate_left
          · intro w hSw
            try dsimp only at hSw
            go_simp
            try with_reducible rfl
          try simp only [Act.put, List.setIfInBounds_toArray, List.set_cons_zero, List.set_cons_succ]
          refine wpAnyH_ready (rs := [2]) (by kernel_rfl) (by simp) ?_
          refine AllReadyH.cons (o := o17_2) rfl (fun K hK => ?_) AllReadyH.nil
          go_simp
          refine (WH.out _ (HT.out.below (bstep B hHeld.2.2.2.2.2.2.2))).mono ?_
          rintro e v1 ⟨wn, wh, wl, wx, hww, heq, rfl, hbv1⟩
          rw [WPX.out] at heq
          simp only [Prod.mk.injEq] at heq
          obtain ⟨e1, hq8, e3⟩ := heq
          replace e1 := e1.symm
          replace e3 := e3.symm
          subst e1 e3
          have LK := Lib.hid (fun v W (r : Row W v (Dg.dg (nv wh wl))) => like_yes false wh wl 0 v hww W r)
          rw [hq8] at LK
          have RQ1 := Lib.hid (RQ.out.below (bundrew hbv1))
          clear hq8 hww
          have HBx := Lib.hid (bstep hHeld.2.2.2.2.2.2.2 hbv1)
          clear hHeld hbv1
          refine hK.out _ _ ?_ (fun hHeld => ?_)
          · exact keepW P5.out.1 PQ.out.1 HBx.out
          clear hK K HBx
          try simp only [Act.put, List.setIfInBounds_toArray, List.set_cons_zero, List.set_cons_succ]
          refine wpAnyH_ready (rs := [4]) (by kernel_rfl) (by simp) ?_
          refine AllReadyH.cons (o := o17_4) rfl (fun K hK => ?_) AllReadyH.nil
          go_simp
          refine (LK.out _ _ RQ1.out).mono ?_
          rintro e v2 ⟨rfl, hbv2⟩
          clear RQ1
          have HBx := Lib.hid (bstep hHeld.2.2.2.2.2.2.2 hbv2)
          clear hHeld hbv2
          refine hK.out _ _ ?_ (fun hHeld => ?_)
          · exact keepW P5.out.1 PQ.out.1 HBx.out
          clear hK K HBx
          try simp only [Act.put, List.setIfInBounds_toArray, List.set_cons_zero, List.set_cons_succ]
          refine wpAnyH_take (i := 5) (oi := o17_5) (v := ?_) rfl (by kernel_rfl) (by kernel_rfl) (by kernel_rfl) (fun _ _ _ h => h) (Or.inl ⟨by rfl, ?_⟩) (by assumption) ?_
          rotate_left
          · intro w hSw
            try dsimp only at hSw
            go_simp
            try with_reducible rfl
          try simp only [Act.put, List.setIfInBounds_toArray, List.set_cons_zero, List.set_cons_succ]
          refine wpAnyH_take (i := 6) (oi := o17_6) (v := ?_) rfl (by kernel_rfl) (by kernel_rfl) (by kernel_rfl) (fun _ _ _ h => h) (Or.inl ⟨by rfl, ?_⟩) (by assumption) ?_
          rotate_left
          · intro w hSw
            try dsimp only at hSw
            go_simp
            try with_reducible rfl
          try simp only [Act.put, List.setIfInBounds_toArray, List.set_cons_zero, List.set_cons_succ]
          refine wpAnyH_take (i := 8) (oi := o17_8) (v := ?_) rfl (by kernel_rfl) (by kernel_rfl) (by kernel_rfl) (fun _ _ _ h => h) (Or.inl ⟨by rfl, ?_⟩) (by assumption) ?_
          rotate_left
          · intro w hSw
            try dsimp only at hSw
            go_simp
            try with_reducible rfl
          try simp only [Act.put, List.setIfInBounds_toArray, List.set_cons_zero, List.set_cons_succ]
          refine wpAnyH_ready (rs := [7]) (by kernel_rfl) (by simp) ?_
          refine AllReadyH.cons (o := o17_7) rfl (fun K hK => ?_) AllReadyH.nil
          go_simp
          refine (EV.out _ (HT.out.below (bstep B hHeld.2.2.2.2.2.2.2))).mono ?_
          rintro e v3 ⟨rfl, hbv3⟩
          have HBx := Lib.hid (bstep hHeld.2.2.2.2.2.2.2 hbv3)
          clear hHeld hbv3
          refine hK.out _ _ ?_ (fun hHeld => ?_)
          · exact keepW P5.out.1 PQ.out.1 HBx.out
          clear hK K HBx
          try simp only [Act.put, List.setIfInBounds_toArray, List.set_cons_zero, List.set_cons_succ]
          refine wpAnyH_take (i := 9) (oi := o17_9) (v := ?_) rfl (by kernel_rfl) (by kernel_rfl) (by kernel_rfl) (fun _ _ _ h => h) (Or.inl ⟨by rfl, ?_⟩) (by assumption) ?_
          rotate_left
          · intro w hSw
            try dsimp only at hSw
            go_simp
            try with_reducible rfl
          try simp only [Act.put, List.setIfInBounds_toArray, List.set_cons_zero, List.set_cons_succ]
          refine wpAnyH_take (i := 10) (oi := o17_10) (v := ?_) rfl (by kernel_rfl) (by kernel_rfl) (by kernel_rfl) (fun _ _ _ h => h) (Or.inl ⟨by rfl, ?_⟩) (by assumption) ?_
          rotate_left
          · intro w hSw
            try dsimp only at hSw
            go_simp
            try with_reducible rfl
          try simp only [Act.put, List.setIfInBounds_toArray, List.set_cons_zero, List.set_cons_succ]
          refine wpAnyH_take (i := 11) (oi := o17_11) (v := ?_) rfl (by kernel_rfl) (by kernel_rfl) (by kernel_rfl) (fun _ _ _ h => h) (Or.inl ⟨by rfl, ?_⟩) (by assumption) ?_
          rotate_left
          · intro w hSw
            try dsimp only at hSw
            go_simp
            try with_reducible rfl
          try simp only [Act.put, List.setIfInBounds_toArray, List.set_cons_zero, List.set_cons_succ]
          refine wpAnyH_take (i := 12) (oi := o17_12) (v := ?_) rfl (by kernel_rfl) (by kernel_rfl) (by kernel_rfl) (fun _ _ _ h => h) (Or.inl ⟨by rfl, ?_⟩) (by assumption) ?_
          rotate_left
          · intro w hSw
            try dsimp only at hSw
            go_simp
            try with_reducible rfl
          try simp only [Act.put, List.setIfInBounds_toArray, List.set_cons_zero, List.set_cons_succ]
          refine wpAnyH_take (i := 13) (oi := o17_13) (v := ?_) rfl (by kernel_rfl) (by kernel_rfl) (by kernel_rfl) (fun _ _ _ h => h) (Or.inl ⟨by rfl, ?_⟩) (by assumption) ?_
          rotate_left
          · intro w hSw
            try dsimp only at hSw
            go_simp
            try with_reducible rfl
          try simp only [Act.put, List.setIfInBounds_toArray, List.set_cons_zero, List.set_cons_succ]
          refine wpAnyH_take (i := 14) (oi := o17_14) (v := ?_) rfl (by kernel_rfl) (by kernel_rfl) (by kernel_rfl) (fun _ _ _ h => h) (Or.inl ⟨by rfl, ?_⟩) (by assumption) ?_
          rotate_left
          · intro w hSw
            try dsimp only at hSw
            go_simp
            try with_reducible rfl
          try simp only [Act.put, List.setIfInBounds_toArray, List.set_cons_zero, List.set_cons_succ]
          refine wpAnyH_take (i := 15) (oi := o17_15) (v := ?_) rfl (by kernel_rfl) (by kernel_rfl) (by kernel_rfl) (fun _ _ _ h => h) (Or.inl ⟨by rfl, ?_⟩) (by assumption) ?_
          rotate_left
          · intro w hSw
            try dsimp only at hSw
            go_simp
            try with_reducible rfl
          try simp only [Act.put, List.setIfInBounds_toArray, List.set_cons_zero, List.set_cons_succ]
          refine wpAnyH_take (i := 17) (oi := o17_17) (v := ?_) rfl (by kernel_rfl) (by kernel_rfl) (by kernel_rfl) (fun _ _ _ h => h) (Or.inl ⟨by rfl, ?_⟩) (by assumption) ?_
          rotate_left
          · intro w hSw
            try dsimp only at hSw
            go_simp
            try with_reducible rfl
          try simp only [Act.put, List.setIfInBounds_toArray, List.set_cons_zero, List.set_cons_succ]
          refine wpAnyH_ready (rs := [16]) (by kernel_rfl) (by simp) ?_
          refine AllReadyH.cons (o := o17_16) rfl (fun K hK => ?_) AllReadyH.nil
          go_simp
          refine (OD.out _ (HT.out.below (bstep B hHeld.2.2.2.2.2.2.2))).mono ?_
          rintro e v4 ⟨rfl, hbv4⟩
          have HBx := Lib.hid (bstep hHeld.2.2.2.2.2.2.2 hbv4)
          clear hHeld hbv4
          refine hK.out _ _ ?_ (fun hHeld => ?_)
          · exact keepW P5.out.1 PQ.out.1 HBx.out
          clear hK K HBx
          try simp only [Act.put, List.setIfInBounds_toArray, List.set_cons_zero, List.set_cons_succ]
          refine wpAnyH_take (i := 18) (oi := o17_18) (v := ?_) rfl (by kernel_rfl) (by kernel_rfl) (by kernel_rfl) (fun _ _ _ h => h) (Or.inl ⟨by rfl, ?_⟩) (by assumption) ?_
          rotate_left
          · intro w hSw
            try dsimp only at hSw
            go_simp
            try with_reducible rfl
          try simp only [Act.put, List.setIfInBounds_toArray, List.set_cons_zero, List.set_cons_succ]
          refine wpAnyH_take (i := 19) (oi := o17_19) (v := ?_) rfl (by kernel_rfl) (by kernel_rfl) (by kernel_rfl) (fun _ _ _ h => h) (Or.inl ⟨by rfl, ?_⟩) (by assumption) ?_
          rotate_left
          · intro w hSw
            try dsimp only at hSw
            go_simp
            try with_reducible rfl
          try simp only [Act.put, List.setIfInBounds_toArray, List.set_cons_zero, List.set_cons_succ]
          refine wpAnyH_take (i := 20) (oi := o17_20) (v := ?_) rfl (by kernel_rfl) (by kernel_rfl) (by kernel_rfl) (fun _ _ _ h => h) (Or.inl ⟨by rfl, ?_⟩) (by assumption) ?_
          rotate_left
          · intro w hSw
            try dsimp only at hSw
            go_simp
            try with_reducible rfl
          try simp only [Act.put, List.setIfInBounds_toArray, List.set_cons_zero, List.set_cons_succ]
          refine wpAnyH_take (i := 21) (oi := o17_21) (v := ?_) rfl (by kernel_rfl) (by kernel_rfl) (by kernel_rfl) (fun _ _ _ h => h) (Or.inl ⟨by rfl, ?_⟩) (by assumption) ?_
          rotate_left
          · intro w hSw
            try dsimp only at hSw
            go_simp
            try with_reducible rfl
          try simp only [Act.put, List.setIfInBounds_toArray, List.set_cons_zero, List.set_cons_succ]
          refine wpAnyH_take (i := 22) (oi := o17_22) (v := ?_) rfl (by kernel_rfl) (by kernel_rfl) (by kernel_rfl) (fun _ _ _ h => h) (Or.inl ⟨by rfl, ?_⟩) (by assumption) ?_
          rotate_left
          · intro w hSw
            try dsimp only at hSw
            go_simp
            try with_reducible rfl
          try simp only [Act.put, List.setIfInBounds_toArray, List.set_cons_zero, List.set_cons_succ]
          refine wpAnyH_take (i := 23) (oi := o17_23) (v := ?_) rfl (by kernel_rfl) (by kernel_rfl) (by kernel_rfl) (fun _ _ _ h => h) (Or.inl ⟨by rfl, ?_⟩) (by assumption) ?_
          rotate_left
          · intro w hSw
            try dsimp only at hSw
            go_simp
            try with_reducible rfl
          try simp only [Act.put, List.setIfInBounds_toArray, List.set_cons_zero, List.set_cons_succ]
          refine wpAnyH_take (i := 24) (oi := o17_24) (v := ?_) rfl (by kernel_rfl) (by kernel_rfl) (by kernel_rfl) (fun _ _ _ h => h) (Or.inl ⟨by rfl, ?_⟩) (by assumption) ?_
          rotate_left
          · intro w hSw
            try dsimp only at hSw
            go_simp
            try with_reducible rfl
          try simp only [Act.put, List.setIfInBounds_toArray, List.set_cons_zero, List.set_cons_succ]
          refine wpAnyH_done (by kernel_rfl) ?_ _
          go_wp2
          go_ret
          exact ⟨rfl, bstep B hHeld.2.2.2.2.2.2.2⟩
    · have WP1 := WP.out
      clear WP
      simp only [Bool.true_and] at WP1
      have WP := Lib.hid WP1
      clear WP1
      obtain ⟨⟨c7_1, c7_2, c7_3⟩, ⟨c7_4, c7_5, c7_6⟩, c7_9⟩ := PQ.out
      go_upto_region 11 with fail
      clear c7_1 c7_2 c7_3 c7_4 c7_5 c7_6 c7_9
      replace P5 := Lib.hid ((P5.out).far (p := ⟨gPQ, 0, none⟩) ne_P5_PQ (.bool (!dz)))
      replace RP := Lib.hid (Row.set (RP.out) OPQ.out 0 (.bool (!dz)))
      replace PP := Lib.hid ((PP.out).far (p := ⟨gPQ, 0, none⟩) ne_PP_PQ (.bool (!dz)))
      replace PQ := Lib.hid ((PQ.out).put0 (n' := (!dz)))
      replace RQ := Lib.hid (Row.set (RQ.out) OQQ.out 0 (.bool (!dz)))
      replace B := Below.setCell (p := ⟨gPQ, 0, none⟩) (B) le_PQ (.bool (!dz))
      change Code.wp _ _ _ _ (S7.setCell ⟨gPQ, 0, none⟩ (.bool (!dz)))
      generalize (S7.setCell ⟨gPQ, 0, none⟩ (.bool (!dz))) = S8 at *
      obtain ⟨⟨c8_1, c8_2, c8_3⟩, -, c8_9⟩ := PP.out
      have lt_P5 := P5.out.2.2
      have lt_PP := PP.out.2.2
      have lt_PQ := PQ.out.2.2
      have lt_B := B.size
      replace P5 := Lib.hid (P5.out.alloc (.cells #[.bool true, (.slice VA LVn VC), .int .i64 ea'] 36))
      replace RP := Lib.hid (RP.out.alloc (.cells #[.bool true, (.slice VA LVn VC), .int .i64 ea'] 36))
      replace PP := Lib.hid (PP.out.alloc (.cells #[.bool true, (.slice VA LVn VC), .int .i64 ea'] 36))
      replace PQ := Lib.hid (PQ.out.alloc (.cells #[.bool true, (.slice VA LVn VC), .int .i64 ea'] 36))
      replace RQ := Lib.hid (RQ.out.alloc (.cells #[.bool true, (.slice VA LVn VC), .int .i64 ea'] 36))
      replace B := ballD1 B (.cells #[.bool true, (.slice VA LVn VC), .int .i64 ea'] 36)
      have PF := Lib.hid (HoldsF.newF rfl : HoldsF (S8.alloc (.cells #[.bool true, (.slice VA LVn VC), .int .i64 ea'] 36)) S8.heap.size true (.slice VA LVn VC) ea')
      have BKF := Lib.hid (BlkD.new rfl : BlkD (S8.alloc (.cells #[.bool true, (.slice VA LVn VC), .int .i64 ea'] 36)) S8.heap.size)
      go_upto_region 12 with fail
      obtain ⟨gPF, hg⟩ : ∃ g, g = S8.heap.size := ⟨_, rfl⟩
      rw [← hg] at PF BKF lt_B lt_P5 lt_PP lt_PQ
      rw [← hg]
      change Code.wp _ _ _ _ (S8.alloc (.cells #[.bool true, (.slice VA LVn VC), .int .i64 ea'] 36))
      generalize S8.alloc (.cells #[.bool true, (.slice VA LVn VC), .int .i64 ea'] 36) = V9 at *
      clear hg
      have ne_P5_PF : gP5 ≠ gPF := Nat.ne_of_lt lt_P5
      have ne_PP_PF : gPP ≠ gPF := Nat.ne_of_lt lt_PP
      have ne_PQ_PF : gPQ ≠ gPF := Nat.ne_of_lt lt_PQ
      have le_PF : w.heap.size ≤ gPF := lt_B
      clear lt_B lt_P5 lt_PP lt_PQ
      clear c8_1 c8_2 c8_3 c8_9
      have OPF := Lib.hid (off_of (by rw [← hLV]; rw [hLV]; exact RP.out) BKF.out : Off (.slice VA LVn VC) (Dg.dg c) gPF)
      have OQF := Lib.hid (off_of RQ.out BKF.out : Off (.slice QA LQn QC) (Dg.dg Q) gPF)
      obtain ⟨⟨c9_1, c9_2, c9_3⟩, -, c9_9⟩ := PP.out
      go_wp2_with fail
      refine (C2.out _ _ RP.out).mono ?_
      rintro e y10 ⟨nf, vf, xf, ⟨eq2, -, RF0⟩, rfl, hb⟩
      clear c9_1 c9_2 c9_3 c9_9
      replace P5 := Lib.hid (P5.out.below hb)
      replace RP := Lib.hid (RP.out.below hb)
      replace PP := Lib.hid (PP.out.below hb)
      replace PQ := Lib.hid (PQ.out.below hb)
      replace RQ := Lib.hid (RQ.out.below hb)
      replace PF := Lib.hid (PF.out.below hb)
      replace BKF := Lib.hid (BKF.out.below hb)
      replace B := bstep B hb
      clear hb
      clear C2
      subst eq2
      obtain ⟨Fq, hF⟩ : ∃ Fq, Fq = cutN 6 true c (min pn 90).toNat false := ⟨_, rfl⟩
      rw [← hF] at RF0 W6 WC
      clear hF
      obtain ⟨FA, FC, rfl⟩ := slice_of RF0
      have OFF := Lib.hid (off_of RF0 BKF.out)
      have RFw := Lib.hid RF0
      clear RF0
      generalize hLF : (Dg.dg Fq).length = LFn at *
      clear BKF
      obtain ⟨⟨c10_1, c10_2, c10_3⟩, ⟨c10_4, c10_5, c10_6⟩, c10_9⟩ := PF.out
      go_upto_region 14 with fail
      clear c10_1 c10_2 c10_3 c10_4 c10_5 c10_6 c10_9
      replace P5 := Lib.hid ((((P5.out).far (p := ⟨gPF, 0, none⟩) ne_P5_PF (.bool true)).far (p := ⟨gPF, 1, none⟩) ne_P5_PF (.slice FA LFn FC)).far (p := ⟨gPF, 2, none⟩) ne_P5_PF (.int .i64 xf))
      replace RP := Lib.hid (Row.set (Row.set (Row.set (RP.out) OPF.out 0 (.bool true)) OPF.out 1 (.slice FA LFn FC)) OPF.out 2 (.int .i64 xf))
      replace PP := Lib.hid ((((PP.out).far (p := ⟨gPF, 0, none⟩) ne_PP_PF (.bool true)).far (p := ⟨gPF, 1, none⟩) ne_PP_PF (.slice FA LFn FC)).far (p := ⟨gPF, 2, none⟩) ne_PP_PF (.int .i64 xf))
      replace PQ := Lib.hid ((((PQ.out).far (p := ⟨gPF, 0, none⟩) ne_PQ_PF (.bool true)).far (p := ⟨gPF, 1, none⟩) ne_PQ_PF (.slice FA LFn FC)).far (p := ⟨gPF, 2, none⟩) ne_PQ_PF (.int .i64 xf))
      replace RQ := Lib.hid (Row.set (Row.set (Row.set (RQ.out) OQF.out 0 (.bool true)) OQF.out 1 (.slice FA LFn FC)) OQF.out 2 (.int .i64 xf))
      replace PF := Lib.hid ((PF.out).put3 (n' := true) (v' := (.slice FA LFn FC)) (y := xf))
      replace RFw := Lib.hid (Row.set (Row.set (Row.set (RFw.out) OFF.out 0 (.bool true)) OFF.out 1 (.slice FA LFn FC)) OFF.out 2 (.int .i64 xf))
      replace B := Below.setCell (p := ⟨gPF, 2, none⟩) (Below.setCell (p := ⟨gPF, 1, none⟩) (Below.setCell (p := ⟨gPF, 0, none⟩) (B) le_PF (.bool true)) le_PF (.slice FA LFn FC)) le_PF (.int .i64 xf)
      change Code.wp _ _ _ _ (((y10.setCell ⟨gPF, 0, none⟩ (.bool true)).setCell ⟨gPF, 1, none⟩ (.slice FA LFn FC)).setCell ⟨gPF, 2, none⟩ (.int .i64 xf))
      generalize (((y10.setCell ⟨gPF, 0, none⟩ (.bool true)).setCell ⟨gPF, 1, none⟩ (.slice FA LFn FC)).setCell ⟨gPF, 2, none⟩ (.int .i64 xf)) = S11 at *
      obtain ⟨⟨c11_1, c11_2, c11_3⟩, ⟨c11_4, c11_5, c11_6⟩, c11_9⟩ := PF.out
      go_upto_region 15 with fail
      clear c11_1 c11_2 c11_3 c11_4 c11_5 c11_6 c11_9
      replace P5 := Lib.hid ((P5.out).far (p := ⟨gPF, 2, none⟩) ne_P5_PF (.int .i64 0))
      replace RP := Lib.hid (Row.set (RP.out) OPF.out 2 (.int .i64 0))
      replace PP := Lib.hid ((PP.out).far (p := ⟨gPF, 2, none⟩) ne_PP_PF (.int .i64 0))
      replace PQ := Lib.hid ((PQ.out).far (p := ⟨gPF, 2, none⟩) ne_PQ_PF (.int .i64 0))
      replace RQ := Lib.hid (Row.set (RQ.out) OQF.out 2 (.int .i64 0))
      replace PF := Lib.hid ((PF.out).put2 (y := 0))
      replace RFw := Lib.hid (Row.set (RFw.out) OFF.out 2 (.int .i64 0))
      replace B := Below.setCell (p := ⟨gPF, 2, none⟩) (B) le_PF (.int .i64 0)
      change Code.wp _ _ _ _ (S11.setCell ⟨gPF, 2, none⟩ (.int .i64 0))
      generalize (S11.setCell ⟨gPF, 2, none⟩ (.int .i64 0)) = S12 at *
      have FB : Fq < 10 ^ 40 := Nat.lt_of_le_of_lt W6.out.2 (by decide)
      have CMX0 := fun W ra rb => CM.out (.slice FA LFn FC) (.slice VA LVn VC) Fq 0 W FB (by decide) (by decide) ra rb
      have WC0 := WC.out
      generalize sgR (sumR _ _ _ _) = z at CMX0 WC0
      have CMX := Lib.hid CMX0
      obtain ⟨wc1, wc2⟩ := WC0
      have WPX := Lib.hid WP.out.1
      clear CM CMX0 FB W6 WC WP OPF OQF OFF OPQ OQQ
      generalize exB true c ea' = E at *
      generalize oddT (rwF 5 true c ea') = od at *
      have ze : (z == 0) = E := by
        rw [Bool.eq_iff_iff, ← wc1]
        simp
      have HOD := Lib.hid wc2
      clear wc1 wc2
      obtain ⟨⟨c12_1, c12_2, c12_3⟩, -, c12_9⟩ := PF.out
      obtain ⟨⟨c13_1, c13_2, c13_3⟩, -, c13_9⟩ := PP.out
      go_wp2_with fail
      refine (CMX.out _ RFw.out RP.out).mono ?_
      rintro e y13 ⟨rfl, hb⟩
      clear c12_1 c12_2 c12_3 c12_9 c13_1 c13_2 c13_3 c13_9
      replace P5 := Lib.hid (P5.out.below hb)
      replace RP := Lib.hid (RP.out.below hb)
      replace PP := Lib.hid (PP.out.below hb)
      replace PQ := Lib.hid (PQ.out.below hb)
      replace RQ := Lib.hid (RQ.out.below hb)
      replace PF := Lib.hid (PF.out.below hb)
      replace RFw := Lib.hid (RFw.out.below hb)
      replace B := bstep B hb
      clear hb
      clear CMX
      rcases row_parity RFw.out hLF with ⟨L0, F0⟩ | ⟨gd, eA, l0, lc, hgd, dd, hd, hp⟩
      · have tl : ((LFn : Int) == 0) = true := by rw [L0]; rfl
        have HEV := Lib.hid (show E = true → true = !od by intro t; rw [HOD.out t]; simp [F0])
        clear HOD F0 L0
        obtain ⟨⟨c14_1, c14_2, c14_3⟩, -, c14_9⟩ := PF.out
        go_upto_region 17 with fail
        clear c14_1 c14_2 c14_3 c14_9
        clear tl ze
        cases E
        · clear HEV
          simp only [Bool.false_and] at EV OD
          refine wp_region_held_drew (S := fun w' => w'.cell? ⟨gP5, 0, none⟩ = some (.bool true) ∧ w'.cell? ⟨gP5, 1, none⟩ = some (.int .u64 (ah : Int)) ∧ w'.cell? ⟨gP5, 2, none⟩ = some (.int .u64 (al : Int)) ∧ w'.cell? ⟨gP5, 3, none⟩ = some (.int .i64 ea') ∧ w'.cell? ⟨gPQ, 0, none⟩ = some (.bool (!dz)) ∧ w'.cell? ⟨gPQ, 1, none⟩ = some (.slice QA LQn QC) ∧ w'.cell? ⟨gPQ, 2, none⟩ = some (.int .i64 0) ∧ Below y13.heap.size y13 w') (by kernel_rfl) ?_ (fun hHeld => ?_)
          · exact keepW P5.out.1 PQ.out.1 (Below.refl _ _).drew
          refine wpAnyH_take (i := 0) (oi := o17_0) (v := ?_) rfl (by kernel_rfl) (by kernel_rfl) (by kernel_rfl) (fun _ _ _ h => h) (Or.inl ⟨by rfl, ?_⟩) (by assumption) ?_
          rotate_left
          · intro w hSw
            try dsimp only at hSw
            go_simp
            try with_reducible rfl
          try simp only [Act.put, List.setIfInBounds_toArray, List.set_cons_zero, List.set_cons_succ]
          refine wpAnyH_take (i := 1) (oi := o17_1) (v := ?_) rfl (by kernel_rfl) (by kernel_rfl) (by kernel_rfl) (fun _ _ _ h => h) (Or.inl ⟨by rfl, ?_⟩) (by assumption) ?_
          rotate_left
          · intro w hSw
            try dsimp only at hSw
            go_simp
            try with_reducible rfl
          try simp only [Act.put, List.setIfInBounds_toArray, List.set_cons_zero, List.set_cons_succ]
          refine wpAnyH_take (i := 3) (oi := o17_3) (v := ?_) rfl (by kernel_rfl) (by kernel_rfl) (by kernel_rfl) (fun _ _ _ h => h) (Or.inl ⟨by rfl, ?_⟩) (by assumption) ?_
          rotate_left
          · intro w hSw
            try dsimp only at hSw
            go_simp
            try with_reducible rfl
          try simp only [Act.put, List.setIfInBounds_toArray, List.set_cons_zero, List.set_cons_succ]
          refine wpAnyH_ready (rs := [2]) (by kernel_rfl) (by simp) ?_
          refine AllReadyH.cons (o := o17_2) rfl (fun K hK => ?_) AllReadyH.nil
          go_simp
          refine (WH.out _ (HT.out.below (bstep B hHeld.2.2.2.2.2.2.2))).mono ?_
          rintro e v1 ⟨wn, wh, wl, wx, hww, heq, rfl, hbv1⟩
          rw [WPX.out] at heq
          simp only [Prod.mk.injEq] at heq
          obtain ⟨e1, hq8, e3⟩ := heq
          replace e1 := e1.symm
          replace e3 := e3.symm
          subst e1 e3
          have LK := Lib.hid (fun v W (r : Row W v (Dg.dg (nv wh wl))) => like_yes (!dz) wh wl 0 v hww W r)
          rw [hq8] at LK
          have RQ1 := Lib.hid (RQ.out.below (bundrew hbv1))
          clear hq8 hww
          have HBx := Lib.hid (bstep hHeld.2.2.2.2.2.2.2 hbv1)
          clear hHeld hbv1
          refine hK.out _ _ ?_ (fun hHeld => ?_)
          · exact keepW P5.out.1 PQ.out.1 HBx.out
          clear hK K HBx
          try simp only [Act.put, List.setIfInBounds_toArray, List.set_cons_zero, List.set_cons_succ]
          refine wpAnyH_ready (rs := [4]) (by kernel_rfl) (by simp) ?_
          refine AllReadyH.cons (o := o17_4) rfl (fun K hK => ?_) AllReadyH.nil
          go_simp
          refine (LK.out _ _ RQ1.out).mono ?_
          rintro e v2 ⟨rfl, hbv2⟩
          clear RQ1
          have HBx := Lib.hid (bstep hHeld.2.2.2.2.2.2.2 hbv2)
          clear hHeld hbv2
          refine hK.out _ _ ?_ (fun hHeld => ?_)
          · exact keepW P5.out.1 PQ.out.1 HBx.out
          clear hK K HBx
          try simp only [Act.put, List.setIfInBounds_toArray, List.set_cons_zero, List.set_cons_succ]
          refine wpAnyH_take (i := 5) (oi := o17_5) (v := ?_) rfl (by kernel_rfl) (by kernel_rfl) (by kernel_rfl) (fun _ _ _ h => h) (Or.inl ⟨by rfl, ?_⟩) (by assumption) ?_
          rotate_left
          · intro w hSw
            try dsimp only at hSw
            go_simp
            try with_reducible rfl
          try simp only [Act.put, List.setIfInBounds_toArray, List.set_cons_zero, List.set_cons_succ]
          refine wpAnyH_take (i := 6) (oi := o17_6) (v := ?_) rfl (by kernel_rfl) (by kernel_rfl) (by kernel_rfl) (fun _ _ _ h => h) (Or.inl ⟨by rfl, ?_⟩) (by assumption) ?_
          rotate_left
          · intro w hSw
            try dsimp only at hSw
            go_simp
            try with_reducible rfl
          try simp only [Act.put, List.setIfInBounds_toArray, List.set_cons_zero, List.set_cons_succ]
          refine wpAnyH_take (i := 8) (oi := o17_8) (v := ?_) rfl (by kernel_rfl) (by kernel_rfl) (by kernel_rfl) (fun _ _ _ h => h) (Or.inl ⟨by rfl, ?_⟩) (by assumption) ?_
          rotate_left
          · intro w hSw
            try dsimp only at hSw
            go_simp
            try with_reducible rfl
          try simp only [Act.put, List.setIfInBounds_toArray, List.set_cons_zero, List.set_cons_succ]
          refine wpAnyH_ready (rs := [7]) (by kernel_rfl) (by simp) ?_
          refine AllReadyH.cons (o := o17_7) rfl (fun K hK => ?_) AllReadyH.nil
          go_simp
          refine (EV.out _ (HT.out.below (bstep B hHeld.2.2.2.2.2.2.2))).mono ?_
          rintro e v3 ⟨rfl, hbv3⟩
          have HBx := Lib.hid (bstep hHeld.2.2.2.2.2.2.2 hbv3)
          clear hHeld hbv3
          refine hK.out _ _ ?_ (fun hHeld => ?_)
          · exact keepW P5.out.1 PQ.out.1 HBx.out
          clear hK K HBx
          try simp only [Act.put, List.setIfInBounds_toArray, List.set_cons_zero, List.set_cons_succ]
          refine wpAnyH_take (i := 9) (oi := o17_9) (v := ?_) rfl (by kernel_rfl) (by kernel_rfl) (by kernel_rfl) (fun _ _ _ h => h) (Or.inl ⟨by rfl, ?_⟩) (by assumption) ?_
          rotate_left
          · intro w hSw
            try dsimp only at hSw
            go_simp
            try with_reducible rfl
          try simp only [Act.put, List.setIfInBounds_toArray, List.set_cons_zero, List.set_cons_succ]
          refine wpAnyH_take (i := 10) (oi := o17_10) (v := undef) rfl (by kernel_rfl) (by kernel_rfl) (by kernel_rfl) (fun _ _ _ h => h) (Or.inr ⟨by rfl, rfl⟩) (by assumption) ?_
          try simp only [Act.put, List.setIfInBounds_toArray, List.set_cons_zero, List.set_cons_succ]
          refine wpAnyH_take (i := 11) (oi := o17_11) (v := ?_) rfl (by kernel_rfl) (by kernel_rfl) (by kernel_rfl) (fun _ _ _ h => h) (Or.inl ⟨by rfl, ?_⟩) (by assumption) ?_
          rotate_left
          · intro w hSw
            try dsimp only at hSw
            go_simp
            try with_reducible rfl
          try simp only [Act.put, List.setIfInBounds_toArray, List.set_cons_zero, List.set_cons_succ]
          refine wpAnyH_take (i := 12) (oi := o17_12) (v := ?_) rfl (by kernel_rfl) (by kernel_rfl) (by kernel_rfl) (fun _ _ _ h => h) (Or.inl ⟨by rfl, ?_⟩) (by assumption) ?_
          rotate_left
          · intro w hSw
            try dsimp only at hSw
            go_simp
            try with_reducible rfl
          try simp only [Act.put, List.setIfInBounds_toArray, List.set_cons_zero, List.set_cons_succ]
          refine wpAnyH_take (i := 13) (oi := o17_13) (v := ?_) rfl (by kernel_rfl) (by kernel_rfl) (by kernel_rfl) (fun _ _ _ h => h) (Or.inl ⟨by rfl, ?_⟩) (by assumption) ?_
          rotate_left
          · intro w hSw
            try dsimp only at hSw
            go_simp
            try with_reducible rfl
          try simp only [Act.put, List.setIfInBounds_toArray, List.set_cons_zero, List.set_cons_succ]
          refine wpAnyH_take (i := 14) (oi := o17_14) (v := ?_) rfl (by kernel_rfl) (by kernel_rfl) (by kernel_rfl) (fun _ _ _ h => h) (Or.inl ⟨by rfl, ?_⟩) (by assumption) ?_
          rotate_left
          · intro w hSw
            try dsimp only at hSw
            go_simp
            try with_reducible rfl
          try simp only [Act.put, List.setIfInBounds_toArray, List.set_cons_zero, List.set_cons_succ]
          refine wpAnyH_take (i := 15) (oi := o17_15) (v := ?_) rfl (by kernel_rfl) (by kernel_rfl) (by kernel_rfl) (fun _ _ _ h => h) (Or.inl ⟨by rfl, ?_⟩) (by assumption) ?_
          rotate_left
          · intro w hSw
            try dsimp only at hSw
            go_simp
            try with_reducible rfl
          try simp only [Act.put, List.setIfInBounds_toArray, List.set_cons_zero, List.set_cons_succ]
          refine wpAnyH_take (i := 17) (oi := o17_17) (v := ?_) rfl (by kernel_rfl) (by kernel_rfl) (by kernel_rfl) (fun _ _ _ h => h) (Or.inl ⟨by rfl, ?_⟩) (by assumption) ?_
          rotate_left
          · intro w hSw
            try dsimp only at hSw
            go_simp
            try with_reducible rfl
          try simp only [Act.put, List.setIfInBounds_toArray, List.set_cons_zero, List.set_cons_succ]
          refine wpAnyH_ready (rs := [16]) (by kernel_rfl) (by simp) ?_
          refine AllReadyH.cons (o := o17_16) rfl (fun K hK => ?_) AllReadyH.nil
          go_simp
          refine (OD.out _ (HT.out.below (bstep B hHeld.2.2.2.2.2.2.2))).mono ?_
          rintro e v4 ⟨rfl, hbv4⟩
          have HBx := Lib.hid (bstep hHeld.2.2.2.2.2.2.2 hbv4)
          clear hHeld hbv4
          refine hK.out _ _ ?_ (fun hHeld => ?_)
          · exact keepW P5.out.1 PQ.out.1 HBx.out
          clear hK K HBx
          try simp only [Act.put, List.setIfInBounds_toArray, List.set_cons_zero, List.set_cons_succ]
          refine wpAnyH_take (i := 18) (oi := o17_18) (v := ?_) rfl (by kernel_rfl) (by kernel_rfl) (by kernel_rfl) (fun _ _ _ h => h) (Or.inl ⟨by rfl, ?_⟩) (by assumption) ?_
          rotate_left
          · intro w hSw
            try dsimp only at hSw
            go_simp
            try with_reducible rfl
          try simp only [Act.put, List.setIfInBounds_toArray, List.set_cons_zero, List.set_cons_succ]
          refine wpAnyH_take (i := 19) (oi := o17_19) (v := undef) rfl (by kernel_rfl) (by kernel_rfl) (by kernel_rfl) (fun _ _ _ h => h) (Or.inr ⟨by rfl, rfl⟩) (by assumption) ?_
          try simp only [Act.put, List.setIfInBounds_toArray, List.set_cons_zero, List.set_cons_succ]
          refine wpAnyH_take (i := 20) (oi := o17_20) (v := undef) rfl (by kernel_rfl) (by kernel_rfl) (by kernel_rfl) (fun _ _ _ h => h) (Or.inr ⟨by rfl, rfl⟩) (by assumption) ?_
          try simp only [Act.put, List.setIfInBounds_toArray, List.set_cons_zero, List.set_cons_succ]
          refine wpAnyH_take (i := 21) (oi := o17_21) (v := ?_) rfl (by kernel_rfl) (by kernel_rfl) (by kernel_rfl) (fun _ _ _ h => h) (Or.inl ⟨by rfl, ?_⟩) (by assumption) ?_
          rotate_left
          · intro w hSw
            try dsimp only at hSw
            go_simp
            try with_reducible rfl
          try simp only [Act.put, List.setIfInBounds_toArray, List.set_cons_zero, List.set_cons_succ]
          refine wpAnyH_take (i := 22) (oi := o17_22) (v := ?_) rfl (by kernel_rfl) (by kernel_rfl) (by kernel_rfl) (fun _ _ _ h => h) (Or.inl ⟨by rfl, ?_⟩) (by assumption) ?_
          rotate_left
          · intro w hSw
            try dsimp only at hSw
            go_simp
            try with_reducible rfl
          try simp only [Act.put, List.setIfInBounds_toArray, List.set_cons_zero, List.set_cons_succ]
          refine wpAnyH_take (i := 23) (oi := o17_23) (v := ?_) rfl (by kernel_rfl) (by kernel_rfl) (by kernel_rfl) (fun _ _ _ h => h) (Or.inl ⟨by rfl, ?_⟩) (by assumption) ?_
          rotate_left
          · intro w hSw
            try dsimp only at hSw
            go_simp
            try with_reducible rfl
          try simp only [Act.put, List.setIfInBounds_toArray, List.set_cons_zero, List.set_cons_succ]
          refine wpAnyH_take (i := 24) (oi := o17_24) (v := ?_) rfl (by kernel_rfl) (by kernel_rfl) (by kernel_rfl) (fun _ _ _ h => h) (Or.inl ⟨by rfl, ?_⟩) (by assumption) ?_
          rotate_left
          · intro w hSw
            try dsimp only at hSw
            go_simp
            try with_reducible rfl
          try simp only [Act.put, List.setIfInBounds_toArray, List.set_cons_zero, List.set_cons_succ]
          refine wpAnyH_done (by kernel_rfl) ?_ _
          go_wp2
          go_ret
          exact ⟨rfl, bstep B hHeld.2.2.2.2.2.2.2⟩
        · simp only [Bool.true_and] at EV OD
          have hev := HEV.out rfl
          clear HEV
          obtain rfl : od = false := by cases od; rfl; cases hev
          simp only [Bool.not_false] at EV
          clear hev
          refine wp_region_held_drew (S := fun w' => w'.cell? ⟨gP5, 0, none⟩ = some (.bool true) ∧ w'.cell? ⟨gP5, 1, none⟩ = some (.int .u64 (ah : Int)) ∧ w'.cell? ⟨gP5, 2, none⟩ = some (.int .u64 (al : Int)) ∧ w'.cell? ⟨gP5, 3, none⟩ = some (.int .i64 ea') ∧ w'.cell? ⟨gPQ, 0, none⟩ = some (.bool (!dz)) ∧ w'.cell? ⟨gPQ, 1, none⟩ = some (.slice QA LQn QC) ∧ w'.cell? ⟨gPQ, 2, none⟩ = some (.int .i64 0) ∧ Below y13.heap.size y13 w') (by kernel_rfl) ?_ (fun hHeld => ?_)
          · exact keepW P5.out.1 PQ.out.1 (Below.refl _ _).drew
          refine wpAnyH_take (i := 0) (oi := o17_0) (v := ?_) rfl (by kernel_rfl) (by kernel_rfl) (by kernel_rfl) (fun _ _ _ h => h) (Or.inl ⟨by rfl, ?_⟩) (by assumption) ?_
          rotate_left
          · intro w hSw
            try dsimp only at hSw
            go_simp
            try with_reducible rfl
          try simp only [Act.put, List.setIfInBounds_toArray, List.set_cons_zero, List.set_cons_succ]
          refine wpAnyH_take (i := 1) (oi := o17_1) (v := ?_) rfl (by kernel_rfl) (by kernel_rfl) (by kernel_rfl) (fun _ _ _ h => h) (Or.inl ⟨by rfl, ?_⟩) (by assumption) ?_
          rotate_left
          · intro w hSw
            try dsimp only at hSw
            go_simp
            try with_reducible rfl
          try simp only [Act.put, List.setIfInBounds_toArray, List.set_cons_zero, List.set_cons_succ]
          refine wpAnyH_take (i := 3) (oi := o17_3) (v := ?_) rfl (by kernel_rfl) (by kernel_rfl) (by kernel_rfl) (fun _ _ _ h => h) (Or.inl ⟨by rfl, ?_⟩) (by assumption) ?_
          rotate_left
          · intro w hSw
            try dsimp only at hSw
            go_simp
            try with_reducible rfl
          try simp only [Act.put, List.setIfInBounds_toArray, List.set_cons_zero, List.set_cons_succ]
          refine wpAnyH_ready (rs := [2]) (by kernel_rfl) (by simp) ?_
          refine AllReadyH.cons (o := o17_2) rfl (fun K hK => ?_) AllReadyH.nil
          go_simp
          refine (WH.out _ (HT.out.below (bstep B hHeld.2.2.2.2.2.2.2))).mono ?_
          rintro e v1 ⟨wn, wh, wl, wx, hww, heq, rfl, hbv1⟩
          rw [WPX.out] at heq
          simp only [Prod.mk.injEq] at heq
          obtain ⟨e1, hq8, e3⟩ := heq
          replace e1 := e1.symm
          replace e3 := e3.symm
          subst e1 e3
          have LK := Lib.hid (fun v W (r : Row W v (Dg.dg (nv wh wl))) => like_yes (!dz) wh wl 0 v hww W r)
          rw [hq8] at LK
          have RQ1 := Lib.hid (RQ.out.below (bundrew hbv1))
          clear hq8 hww
          have HBx := Lib.hid (bstep hHeld.2.2.2.2.2.2.2 hbv1)
          clear hHeld hbv1
          refine hK.out _ _ ?_ (fun hHeld => ?_)
          · exact keepW P5.out.1 PQ.out.1 HBx.out
          clear hK K HBx
          try simp only [Act.put, List.setIfInBounds_toArray, List.set_cons_zero, List.set_cons_succ]
          refine wpAnyH_ready (rs := [4]) (by kernel_rfl) (by simp) ?_
          refine AllReadyH.cons (o := o17_4) rfl (fun K hK => ?_) AllReadyH.nil
          go_simp
          refine (LK.out _ _ RQ1.out).mono ?_
          rintro e v2 ⟨rfl, hbv2⟩
          clear RQ1
          have HBx := Lib.hid (bstep hHeld.2.2.2.2.2.2.2 hbv2)
          clear hHeld hbv2
          refine hK.out _ _ ?_ (fun hHeld => ?_)
          · exact keepW P5.out.1 PQ.out.1 HBx.out
          clear hK K HBx
          try simp only [Act.put, List.setIfInBounds_toArray, List.set_cons_zero, List.set_cons_succ]
          refine wpAnyH_take (i := 5) (oi := o17_5) (v := ?_) rfl (by kernel_rfl) (by kernel_rfl) (by kernel_rfl) (fun _ _ _ h => h) (Or.inl ⟨by rfl, ?_⟩) (by assumption) ?_
          rotate_left
          · intro w hSw
            try dsimp only at hSw
            go_simp
            try with_reducible rfl
          try simp only [Act.put, List.setIfInBounds_toArray, List.set_cons_zero, List.set_cons_succ]
          refine wpAnyH_take (i := 6) (oi := o17_6) (v := ?_) rfl (by kernel_rfl) (by kernel_rfl) (by kernel_rfl) (fun _ _ _ h => h) (Or.inl ⟨by rfl, ?_⟩) (by assumption) ?_
          rotate_left
          · intro w hSw
            try dsimp only at hSw
            go_simp
            try with_reducible rfl
          try simp only [Act.put, List.setIfInBounds_toArray, List.set_cons_zero, List.set_cons_succ]
          refine wpAnyH_take (i := 8) (oi := o17_8) (v := ?_) rfl (by kernel_rfl) (by kernel_rfl) (by kernel_rfl) (fun _ _ _ h => h) (Or.inl ⟨by rfl, ?_⟩) (by assumption) ?_
          rotate_left
          · intro w hSw
            try dsimp only at hSw
            go_simp
            try with_reducible rfl
          try simp only [Act.put, List.setIfInBounds_toArray, List.set_cons_zero, List.set_cons_succ]
          refine wpAnyH_ready (rs := [7]) (by kernel_rfl) (by simp) ?_
          refine AllReadyH.cons (o := o17_7) rfl (fun K hK => ?_) AllReadyH.nil
          go_simp
          refine (EV.out _ (HT.out.below (bstep B hHeld.2.2.2.2.2.2.2))).mono ?_
          rintro e v3 ⟨rfl, hbv3⟩
          have HBx := Lib.hid (bstep hHeld.2.2.2.2.2.2.2 hbv3)
          clear hHeld hbv3
          refine hK.out _ _ ?_ (fun hHeld => ?_)
          · exact keepW P5.out.1 PQ.out.1 HBx.out
          clear hK K HBx
          try simp only [Act.put, List.setIfInBounds_toArray, List.set_cons_zero, List.set_cons_succ]
          refine wpAnyH_take (i := 9) (oi := o17_9) (v := ?_) rfl (by kernel_rfl) (by kernel_rfl) (by kernel_rfl) (fun _ _ _ h => h) (Or.inl ⟨by rfl, ?_⟩) (by assumption) ?_
          rotate_left
          · intro w hSw
            try dsimp only at hSw
            go_simp
            try with_reducible rfl
          try simp only [Act.put, List.setIfInBounds_toArray, List.set_cons_zero, List.set_cons_succ]
          refine wpAnyH_take (i := 10) (oi := o17_10) (v := ?_) rfl (by kernel_rfl) (by kernel_rfl) (by kernel_rfl) (fun _ _ _ h => h) (Or.inl ⟨by rfl, ?_⟩) (by assumption) ?_
          rotate_left
          · intro w hSw
            try dsimp only at hSw
            go_simp
            try with_reducible rfl
          try simp only [Act.put, List.setIfInBounds_toArray, List.set_cons_zero, List.set_cons_succ]
          refine wpAnyH_take (i := 11) (oi := o17_11) (v := ?_) rfl (by kernel_rfl) (by kernel_rfl) (by kernel_rfl) (fun _ _ _ h => h) (Or.inl ⟨by rfl, ?_⟩) (by assumption) ?_
          rotate_left
          · intro w hSw
            try dsimp only at hSw
            go_simp
            try with_reducible rfl
          try simp only [Act.put, List.setIfInBounds_toArray, List.set_cons_zero, List.set_cons_succ]
          refine wpAnyH_take (i := 12) (oi := o17_12) (v := ?_) rfl (by kernel_rfl) (by kernel_rfl) (by kernel_rfl) (fun _ _ _ h => h) (Or.inl ⟨by rfl, ?_⟩) (by assumption) ?_
          rotate_left
          · intro w hSw
            try dsimp only at hSw
            go_simp
            try with_reducible rfl
          try simp only [Act.put, List.setIfInBounds_toArray, List.set_cons_zero, List.set_cons_succ]
          refine wpAnyH_take (i := 13) (oi := o17_13) (v := ?_) rfl (by kernel_rfl) (by kernel_rfl) (by kernel_rfl) (fun _ _ _ h => h) (Or.inl ⟨by rfl, ?_⟩) (by assumption) ?_
          rotate_left
          · intro w hSw
            try dsimp only at hSw
            go_simp
            try with_reducible rfl
          try simp only [Act.put, List.setIfInBounds_toArray, List.set_cons_zero, List.set_cons_succ]
          refine wpAnyH_take (i := 14) (oi := o17_14) (v := ?_) rfl (by kernel_rfl) (by kernel_rfl) (by kernel_rfl) (fun _ _ _ h => h) (Or.inl ⟨by rfl, ?_⟩) (by assumption) ?_
          rotate_left
          · intro w hSw
            try dsimp only at hSw
            go_simp
            try with_reducible rfl
          try simp only [Act.put, List.setIfInBounds_toArray, List.set_cons_zero, List.set_cons_succ]
          refine wpAnyH_take (i := 15) (oi := o17_15) (v := ?_) rfl (by kernel_rfl) (by kernel_rfl) (by kernel_rfl) (fun _ _ _ h => h) (Or.inl ⟨by rfl, ?_⟩) (by assumption) ?_
          rotate_left
          · intro w hSw
            try dsimp only at hSw
            go_simp
            try with_reducible rfl
          try simp only [Act.put, List.setIfInBounds_toArray, List.set_cons_zero, List.set_cons_succ]
          refine wpAnyH_take (i := 17) (oi := o17_17) (v := ?_) rfl (by kernel_rfl) (by kernel_rfl) (by kernel_rfl) (fun _ _ _ h => h) (Or.inl ⟨by rfl, ?_⟩) (by assumption) ?_
          rotate_left
          · intro w hSw
            try dsimp only at hSw
            go_simp
            try with_reducible rfl
          try simp only [Act.put, List.setIfInBounds_toArray, List.set_cons_zero, List.set_cons_succ]
          refine wpAnyH_ready (rs := [16]) (by kernel_rfl) (by simp) ?_
          refine AllReadyH.cons (o := o17_16) rfl (fun K hK => ?_) AllReadyH.nil
          go_simp
          refine (OD.out _ (HT.out.below (bstep B hHeld.2.2.2.2.2.2.2))).mono ?_
          rintro e v4 ⟨rfl, hbv4⟩
          have HBx := Lib.hid (bstep hHeld.2.2.2.2.2.2.2 hbv4)
          clear hHeld hbv4
          refine hK.out _ _ ?_ (fun hHeld => ?_)
          · exact keepW P5.out.1 PQ.out.1 HBx.out
          clear hK K HBx
          try simp only [Act.put, List.setIfInBounds_toArray, List.set_cons_zero, List.set_cons_succ]
          refine wpAnyH_take (i := 18) (oi := o17_18) (v := ?_) rfl (by kernel_rfl) (by kernel_rfl) (by kernel_rfl) (fun _ _ _ h => h) (Or.inl ⟨by rfl, ?_⟩) (by assumption) ?_
          rotate_left
          · intro w hSw
            try dsimp only at hSw
            go_simp
            try with_reducible rfl
          try simp only [Act.put, List.setIfInBounds_toArray, List.set_cons_zero, List.set_cons_succ]
          refine wpAnyH_take (i := 19) (oi := o17_19) (v := ?_) rfl (by kernel_rfl) (by kernel_rfl) (by kernel_rfl) (fun _ _ _ h => h) (Or.inl ⟨by rfl, ?_⟩) (by assumption) ?_
          rotate_left
          · intro w hSw
            try dsimp only at hSw
            go_simp
            try with_reducible rfl
          try simp only [Act.put, List.setIfInBounds_toArray, List.set_cons_zero, List.set_cons_succ]
          refine wpAnyH_take (i := 20) (oi := o17_20) (v := ?_) rfl (by kernel_rfl) (by kernel_rfl) (by kernel_rfl) (fun _ _ _ h => h) (Or.inl ⟨by rfl, ?_⟩) (by assumption) ?_
          rotate_left
          · intro w hSw
            try dsimp only at hSw
            go_simp
            try with_reducible rfl
          try simp only [Act.put, List.setIfInBounds_toArray, List.set_cons_zero, List.set_cons_succ]
          refine wpAnyH_take (i := 21) (oi := o17_21) (v := ?_) rfl (by kernel_rfl) (by kernel_rfl) (by kernel_rfl) (fun _ _ _ h => h) (Or.inl ⟨by rfl, ?_⟩) (by assumption) ?_
          rotate_left
          · intro w hSw
            try dsimp only at hSw
            go_simp
            try with_reducible rfl
          try simp only [Act.put, List.setIfInBounds_toArray, List.set_cons_zero, List.set_cons_succ]
          refine wpAnyH_take (i := 22) (oi := o17_22) (v := ?_) rfl (by kernel_rfl) (by kernel_rfl) (by kernel_rfl) (fun _ _ _ h => h) (Or.inl ⟨by rfl, ?_⟩) (by assumption) ?_
          rotate_left
          · intro w hSw
            try dsimp only at hSw
            go_simp
            try with_reducible rfl
          try simp only [Act.put, List.setIfInBounds_toArray, List.set_cons_zero, List.set_cons_succ]
          refine wpAnyH_take (i := 23) (oi := o17_23) (v := ?_) rfl (by kernel_rfl) (by kernel_rfl) (by kernel_rfl) (fun _ _ _ h => h) (Or.inl ⟨by rfl, ?_⟩) (by assumption) ?_
          rotate_left
          · intro w hSw
            try dsimp only at hSw
            go_simp
            try with_reducible rfl
          try simp only [Act.put, List.setIfInBounds_toArray, List.set_cons_zero, List.set_cons_succ]
          refine wpAnyH_take (i := 24) (oi := o17_24) (v := ?_) rfl (by kernel_rfl) (by kernel_rfl) (by kernel_rfl) (fun _ _ _ h => h) (Or.inl ⟨by rfl, ?_⟩) (by assumption) ?_
          rotate_left
          · intro w hSw
            try dsimp only at hSw
            go_simp
            try with_reducible rfl
          try simp only [Act.put, List.setIfInBounds_toArray, List.set_cons_zero, List.set_cons_succ]
          refine wpAnyH_done (by kernel_rfl) ?_ _
          go_wp2
          go_ret
          exact ⟨rfl, bstep B hHeld.2.2.2.2.2.2.2⟩
      · subst eA
        have tl : ((LFn : Int) == 0) = false := by simp; omega
        obtain ⟨ev, hev0⟩ : ∃ b, b = decide (Fq % 2 = 0) := ⟨_, rfl⟩
        rw [← hev0] at hp
        have par : decide (Fq % 2 = 0) = !decide (Fq % 2 = 1) := by rcases Nat.mod_two_eq_zero_or_one (Fq) with y | y <;> rw [y] <;> rfl
        have HEV := Lib.hid (show E = true → ev = !od by intro t; rw [HOD.out t, hev0, par])
        clear par
        clear HOD hev0
        obtain ⟨⟨c14_1, c14_2, c14_3⟩, -, c14_9⟩ := PF.out
        go_upto_region 17 with fail
        clear c14_1 c14_2 c14_3 c14_9
        clear tl ze hp hd
        cases E
        · clear HEV
          simp only [Bool.false_and] at EV OD
          refine wp_region_held_drew (S := fun w' => w'.cell? ⟨gP5, 0, none⟩ = some (.bool true) ∧ w'.cell? ⟨gP5, 1, none⟩ = some (.int .u64 (ah : Int)) ∧ w'.cell? ⟨gP5, 2, none⟩ = some (.int .u64 (al : Int)) ∧ w'.cell? ⟨gP5, 3, none⟩ = some (.int .i64 ea') ∧ w'.cell? ⟨gPQ, 0, none⟩ = some (.bool (!dz)) ∧ w'.cell? ⟨gPQ, 1, none⟩ = some (.slice QA LQn QC) ∧ w'.cell? ⟨gPQ, 2, none⟩ = some (.int .i64 0) ∧ Below y13.heap.size y13 w') (by kernel_rfl) ?_ (fun hHeld => ?_)
          · exact keepW P5.out.1 PQ.out.1 (Below.refl _ _).drew
          refine wpAnyH_take (i := 0) (oi := o17_0) (v := ?_) rfl (by kernel_rfl) (by kernel_rfl) (by kernel_rfl) (fun _ _ _ h => h) (Or.inl ⟨by rfl, ?_⟩) (by assumption) ?_
          rotate_left
          · intro w hSw
            try dsimp only at hSw
            go_simp
            try with_reducible rfl
          try simp only [Act.put, List.setIfInBounds_toArray, List.set_cons_zero, List.set_cons_succ]
          refine wpAnyH_take (i := 1) (oi := o17_1) (v := ?_) rfl (by kernel_rfl) (by kernel_rfl) (by kernel_rfl) (fun _ _ _ h => h) (Or.inl ⟨by rfl, ?_⟩) (by assumption) ?_
          rotate_left
          · intro w hSw
            try dsimp only at hSw
            go_simp
            try with_reducible rfl
          try simp only [Act.put, List.setIfInBounds_toArray, List.set_cons_zero, List.set_cons_succ]
          refine wpAnyH_take (i := 3) (oi := o17_3) (v := ?_) rfl (by kernel_rfl) (by kernel_rfl) (by kernel_rfl) (fun _ _ _ h => h) (Or.inl ⟨by rfl, ?_⟩) (by assumption) ?_
          rotate_left
          · intro w hSw
            try dsimp only at hSw
            go_simp
            try with_reducible rfl
          try simp only [Act.put, List.setIfInBounds_toArray, List.set_cons_zero, List.set_cons_succ]
          refine wpAnyH_ready (rs := [2]) (by kernel_rfl) (by simp) ?_
          refine AllReadyH.cons (o := o17_2) rfl (fun K hK => ?_) AllReadyH.nil
          go_simp
          refine (WH.out _ (HT.out.below (bstep B hHeld.2.2.2.2.2.2.2))).mono ?_
          rintro e v1 ⟨wn, wh, wl, wx, hww, heq, rfl, hbv1⟩
          rw [WPX.out] at heq
          simp only [Prod.mk.injEq] at heq
          obtain ⟨e1, hq8, e3⟩ := heq
          replace e1 := e1.symm
          replace e3 := e3.symm
          subst e1 e3
          have LK := Lib.hid (fun v W (r : Row W v (Dg.dg (nv wh wl))) => like_yes (!dz) wh wl 0 v hww W r)
          rw [hq8] at LK
          have RQ1 := Lib.hid (RQ.out.below (bundrew hbv1))
          clear hq8 hww
          have HBx := Lib.hid (bstep hHeld.2.2.2.2.2.2.2 hbv1)
          clear hHeld hbv1
          refine hK.out _ _ ?_ (fun hHeld => ?_)
          · exact keepW P5.out.1 PQ.out.1 HBx.out
          clear hK K HBx
          try simp only [Act.put, List.setIfInBounds_toArray, List.set_cons_zero, List.set_cons_succ]
          refine wpAnyH_ready (rs := [4]) (by kernel_rfl) (by simp) ?_
          refine AllReadyH.cons (o := o17_4) rfl (fun K hK => ?_) AllReadyH.nil
          go_simp
          refine (LK.out _ _ RQ1.out).mono ?_
          rintro e v2 ⟨rfl, hbv2⟩
          clear RQ1
          have HBx := Lib.hid (bstep hHeld.2.2.2.2.2.2.2 hbv2)
          clear hHeld hbv2
          refine hK.out _ _ ?_ (fun hHeld => ?_)
          · exact keepW P5.out.1 PQ.out.1 HBx.out
          clear hK K HBx
          try simp only [Act.put, List.setIfInBounds_toArray, List.set_cons_zero, List.set_cons_succ]
          refine wpAnyH_take (i := 5) (oi := o17_5) (v := ?_) rfl (by kernel_rfl) (by kernel_rfl) (by kernel_rfl) (fun _ _ _ h => h) (Or.inl ⟨by rfl, ?_⟩) (by assumption) ?_
          rotate_left
          · intro w hSw
            try dsimp only at hSw
            go_simp
            try with_reducible rfl
          try simp only [Act.put, List.setIfInBounds_toArray, List.set_cons_zero, List.set_cons_succ]
          refine wpAnyH_take (i := 6) (oi := o17_6) (v := ?_) rfl (by kernel_rfl) (by kernel_rfl) (by kernel_rfl) (fun _ _ _ h => h) (Or.inl ⟨by rfl, ?_⟩) (by assumption) ?_
          rotate_left
          · intro w hSw
            try dsimp only at hSw
            go_simp
            try with_reducible rfl
          try simp only [Act.put, List.setIfInBounds_toArray, List.set_cons_zero, List.set_cons_succ]
          refine wpAnyH_take (i := 8) (oi := o17_8) (v := ?_) rfl (by kernel_rfl) (by kernel_rfl) (by kernel_rfl) (fun _ _ _ h => h) (Or.inl ⟨by rfl, ?_⟩) (by assumption) ?_
          rotate_left
          · intro w hSw
            try dsimp only at hSw
            go_simp
            try with_reducible rfl
          try simp only [Act.put, List.setIfInBounds_toArray, List.set_cons_zero, List.set_cons_succ]
          refine wpAnyH_ready (rs := [7]) (by kernel_rfl) (by simp) ?_
          refine AllReadyH.cons (o := o17_7) rfl (fun K hK => ?_) AllReadyH.nil
          go_simp
          refine (EV.out _ (HT.out.below (bstep B hHeld.2.2.2.2.2.2.2))).mono ?_
          rintro e v3 ⟨rfl, hbv3⟩
          have HBx := Lib.hid (bstep hHeld.2.2.2.2.2.2.2 hbv3)
          clear hHeld hbv3
          refine hK.out _ _ ?_ (fun hHeld => ?_)
          · exact keepW P5.out.1 PQ.out.1 HBx.out
          clear hK K HBx
          try simp only [Act.put, List.setIfInBounds_toArray, List.set_cons_zero, List.set_cons_succ]
          refine wpAnyH_take (i := 9) (oi := o17_9) (v := ?_) rfl (by kernel_rfl) (by kernel_rfl) (by kernel_rfl) (fun _ _ _ h => h) (Or.inl ⟨by rfl, ?_⟩) (by assumption) ?_
          rotate_left
          · intro w hSw
            try dsimp only at hSw
            go_simp
            try with_reducible rfl
          try simp only [Act.put, List.setIfInBounds_toArray, List.set_cons_zero, List.set_cons_succ]
          refine wpAnyH_take (i := 10) (oi := o17_10) (v := undef) rfl (by kernel_rfl) (by kernel_rfl) (by kernel_rfl) (fun _ _ _ h => h) (Or.inr ⟨by rfl, rfl⟩) (by assumption) ?_
          try simp only [Act.put, List.setIfInBounds_toArray, List.set_cons_zero, List.set_cons_succ]
          refine wpAnyH_take (i := 11) (oi := o17_11) (v := ?_) rfl (by kernel_rfl) (by kernel_rfl) (by kernel_rfl) (fun _ _ _ h => h) (Or.inl ⟨by rfl, ?_⟩) (by assumption) ?_
          rotate_left
          · intro w hSw
            try dsimp only at hSw
            go_simp
            try with_reducible rfl
          try simp only [Act.put, List.setIfInBounds_toArray, List.set_cons_zero, List.set_cons_succ]
          refine wpAnyH_take (i := 12) (oi := o17_12) (v := ?_) rfl (by kernel_rfl) (by kernel_rfl) (by kernel_rfl) (fun _ _ _ h => h) (Or.inl ⟨by rfl, ?_⟩) (by assumption) ?_
          rotate_left
          · intro w hSw
            try dsimp only at hSw
            go_simp
            try with_reducible rfl
          try simp only [Act.put, List.setIfInBounds_toArray, List.set_cons_zero, List.set_cons_succ]
          refine wpAnyH_take (i := 13) (oi := o17_13) (v := ?_) rfl (by kernel_rfl) (by kernel_rfl) (by kernel_rfl) (fun _ _ _ h => h) (Or.inl ⟨by rfl, ?_⟩) (by assumption) ?_
          rotate_left
          · intro w hSw
            try dsimp only at hSw
            go_simp
            try with_reducible rfl
          try simp only [Act.put, List.setIfInBounds_toArray, List.set_cons_zero, List.set_cons_succ]
          refine wpAnyH_take (i := 14) (oi := o17_14) (v := ?_) rfl (by kernel_rfl) (by kernel_rfl) (by kernel_rfl) (fun _ _ _ h => h) (Or.inl ⟨by rfl, ?_⟩) (by assumption) ?_
          rotate_left
          · intro w hSw
            try dsimp only at hSw
            go_simp
            try with_reducible rfl
          try simp only [Act.put, List.setIfInBounds_toArray, List.set_cons_zero, List.set_cons_succ]
          refine wpAnyH_take (i := 15) (oi := o17_15) (v := ?_) rfl (by kernel_rfl) (by kernel_rfl) (by kernel_rfl) (fun _ _ _ h => h) (Or.inl ⟨by rfl, ?_⟩) (by assumption) ?_
          rotate_left
          · intro w hSw
            try dsimp only at hSw
            go_simp
            try with_reducible rfl
          try simp only [Act.put, List.setIfInBounds_toArray, List.set_cons_zero, List.set_cons_succ]
          refine wpAnyH_take (i := 17) (oi := o17_17) (v := ?_) rfl (by kernel_rfl) (by kernel_rfl) (by kernel_rfl) (fun _ _ _ h => h) (Or.inl ⟨by rfl, ?_⟩) (by assumption) ?_
          rotate_left
          · intro w hSw
            try dsimp only at hSw
            go_simp
            try with_reducible rfl
          try simp only [Act.put, List.setIfInBounds_toArray, List.set_cons_zero, List.set_cons_succ]
          refine wpAnyH_ready (rs := [16]) (by kernel_rfl) (by simp) ?_
          refine AllReadyH.cons (o := o17_16) rfl (fun K hK => ?_) AllReadyH.nil
          go_simp
          refine (OD.out _ (HT.out.below (bstep B hHeld.2.2.2.2.2.2.2))).mono ?_
          rintro e v4 ⟨rfl, hbv4⟩
          have HBx := Lib.hid (bstep hHeld.2.2.2.2.2.2.2 hbv4)
          clear hHeld hbv4
          refine hK.out _ _ ?_ (fun hHeld => ?_)
          · exact keepW P5.out.1 PQ.out.1 HBx.out
          clear hK K HBx
          try simp only [Act.put, List.setIfInBounds_toArray, List.set_cons_zero, List.set_cons_succ]
          refine wpAnyH_take (i := 18) (oi := o17_18) (v := ?_) rfl (by kernel_rfl) (by kernel_rfl) (by kernel_rfl) (fun _ _ _ h => h) (Or.inl ⟨by rfl, ?_⟩) (by assumption) ?_
          rotate_left
          · intro w hSw
            try dsimp only at hSw
            go_simp
            try with_reducible rfl
          try simp only [Act.put, List.setIfInBounds_toArray, List.set_cons_zero, List.set_cons_succ]
          refine wpAnyH_take (i := 19) (oi := o17_19) (v := undef) rfl (by kernel_rfl) (by kernel_rfl) (by kernel_rfl) (fun _ _ _ h => h) (Or.inr ⟨by rfl, rfl⟩) (by assumption) ?_
          try simp only [Act.put, List.setIfInBounds_toArray, List.set_cons_zero, List.set_cons_succ]
          refine wpAnyH_take (i := 20) (oi := o17_20) (v := undef) rfl (by kernel_rfl) (by kernel_rfl) (by kernel_rfl) (fun _ _ _ h => h) (Or.inr ⟨by rfl, rfl⟩) (by assumption) ?_
          try simp only [Act.put, List.setIfInBounds_toArray, List.set_cons_zero, List.set_cons_succ]
          refine wpAnyH_take (i := 21) (oi := o17_21) (v := ?_) rfl (by kernel_rfl) (by kernel_rfl) (by kernel_rfl) (fun _ _ _ h => h) (Or.inl ⟨by rfl, ?_⟩) (by assumption) ?_
          rotate_left
          · intro w hSw
            try dsimp only at hSw
            go_simp
            try with_reducible rfl
          try simp only [Act.put, List.setIfInBounds_toArray, List.set_cons_zero, List.set_cons_succ]
          refine wpAnyH_take (i := 22) (oi := o17_22) (v := ?_) rfl (by kernel_rfl) (by kernel_rfl) (by kernel_rfl) (fun _ _ _ h => h) (Or.inl ⟨by rfl, ?_⟩) (by assumption) ?_
          rotate_left
          · intro w hSw
            try dsimp only at hSw
            go_simp
            try with_reducible rfl
          try simp only [Act.put, List.setIfInBounds_toArray, List.set_cons_zero, List.set_cons_succ]
          refine wpAnyH_take (i := 23) (oi := o17_23) (v := ?_) rfl (by kernel_rfl) (by kernel_rfl) (by kernel_rfl) (fun _ _ _ h => h) (Or.inl ⟨by rfl, ?_⟩) (by assumption) ?_
          rotate_left
          · intro w hSw
            try dsimp only at hSw
            go_simp
            try with_reducible rfl
          try simp only [Act.put, List.setIfInBounds_toArray, List.set_cons_zero, List.set_cons_succ]
          refine wpAnyH_take (i := 24) (oi := o17_24) (v := ?_) rfl (by kernel_rfl) (by kernel_rfl) (by kernel_rfl) (fun _ _ _ h => h) (Or.inl ⟨by rfl, ?_⟩) (by assumption) ?_
          rotate_left
          · intro w hSw
            try dsimp only at hSw
            go_simp
            try with_reducible rfl
          try simp only [Act.put, List.setIfInBounds_toArray, List.set_cons_zero, List.set_cons_succ]
          refine wpAnyH_done (by kernel_rfl) ?_ _
          go_wp2
          go_ret
          exact ⟨rfl, bstep B hHeld.2.2.2.2.2.2.2⟩
        · simp only [Bool.true_and] at EV OD
          have hev := HEV.out rfl
          clear HEV
          subst hev
          refine wp_region_held_drew (S := fun w' => w'.cell? ⟨gP5, 0, none⟩ = some (.bool true) ∧ w'.cell? ⟨gP5, 1, none⟩ = some (.int .u64 (ah : Int)) ∧ w'.cell? ⟨gP5, 2, none⟩ = some (.int .u64 (al : Int)) ∧ w'.cell? ⟨gP5, 3, none⟩ = some (.int .i64 ea') ∧ w'.cell? ⟨gPQ, 0, none⟩ = some (.bool (!dz)) ∧ w'.cell? ⟨gPQ, 1, none⟩ = some (.slice QA LQn QC) ∧ w'.cell? ⟨gPQ, 2, none⟩ = some (.int .i64 0) ∧ Below y13.heap.size y13 w') (by kernel_rfl) ?_ (fun hHeld => ?_)
          · exact keepW P5.out.1 PQ.out.1 (Below.refl _ _).drew
          refine wpAnyH_take (i := 0) (oi := o17_0) (v := ?_) rfl (by kernel_rfl) (by kernel_rfl) (by kernel_rfl) (fun _ _ _ h => h) (Or.inl ⟨by rfl, ?_⟩) (by assumption) ?_
          rotate_left
          · intro w hSw
            try dsimp only at hSw
            go_simp
            try with_reducible rfl
          try simp only [Act.put, List.setIfInBounds_toArray, List.set_cons_zero, List.set_cons_succ]
          refine wpAnyH_take (i := 1) (oi := o17_1) (v := ?_) rfl (by kernel_rfl) (by kernel_rfl) (by kernel_rfl) (fun _ _ _ h => h) (Or.inl ⟨by rfl, ?_⟩) (by assumption) ?_
          rotate_left
          · intro w hSw
            try dsimp only at hSw
            go_simp
            try with_reducible rfl
          try simp only [Act.put, List.setIfInBounds_toArray, List.set_cons_zero, List.set_cons_succ]
          refine wpAnyH_take (i := 3) (oi := o17_3) (v := ?_) rfl (by kernel_rfl) (by kernel_rfl) (by kernel_rfl) (fun _ _ _ h => h) (Or.inl ⟨by rfl, ?_⟩) (by assumption) ?_
          rotate_left
          · intro w hSw
            try dsimp only at hSw
            go_simp
            try with_reducible rfl
          try simp only [Act.put, List.setIfInBounds_toArray, List.set_cons_zero, List.set_cons_succ]
          refine wpAnyH_ready (rs := [2]) (by kernel_rfl) (by simp) ?_
          refine AllReadyH.cons (o := o17_2) rfl (fun K hK => ?_) AllReadyH.nil
          go_simp
          refine (WH.out _ (HT.out.below (bstep B hHeld.2.2.2.2.2.2.2))).mono ?_
          rintro e v1 ⟨wn, wh, wl, wx, hww, heq, rfl, hbv1⟩
          rw [WPX.out] at heq
          simp only [Prod.mk.injEq] at heq
          obtain ⟨e1, hq8, e3⟩ := heq
          replace e1 := e1.symm
          replace e3 := e3.symm
          subst e1 e3
          have LK := Lib.hid (fun v W (r : Row W v (Dg.dg (nv wh wl))) => like_yes (!dz) wh wl 0 v hww W r)
          rw [hq8] at LK
          have RQ1 := Lib.hid (RQ.out.below (bundrew hbv1))
          clear hq8 hww
          have HBx := Lib.hid (bstep hHeld.2.2.2.2.2.2.2 hbv1)
          clear hHeld hbv1
          refine hK.out _ _ ?_ (fun hHeld => ?_)
          · exact keepW P5.out.1 PQ.out.1 HBx.out
          clear hK K HBx
          try simp only [Act.put, List.setIfInBounds_toArray, List.set_cons_zero, List.set_cons_succ]
          refine wpAnyH_ready (rs := [4]) (by kernel_rfl) (by simp) ?_
          refine AllReadyH.cons (o := o17_4) rfl (fun K hK => ?_) AllReadyH.nil
          go_simp
          refine (LK.out _ _ RQ1.out).mono ?_
          rintro e v2 ⟨rfl, hbv2⟩
          clear RQ1
          have HBx := Lib.hid (bstep hHeld.2.2.2.2.2.2.2 hbv2)
          clear hHeld hbv2
          refine hK.out _ _ ?_ (fun hHeld => ?_)
          · exact keepW P5.out.1 PQ.out.1 HBx.out
          clear hK K HBx
          try simp only [Act.put, List.setIfInBounds_toArray, List.set_cons_zero, List.set_cons_succ]
          refine wpAnyH_take (i := 5) (oi := o17_5) (v := ?_) rfl (by kernel_rfl) (by kernel_rfl) (by kernel_rfl) (fun _ _ _ h => h) (Or.inl ⟨by rfl, ?_⟩) (by assumption) ?_
          rotate_left
          · intro w hSw
            try dsimp only at hSw
            go_simp
            try with_reducible rfl
          try simp only [Act.put, List.setIfInBounds_toArray, List.set_cons_zero, List.set_cons_succ]
          refine wpAnyH_take (i := 6) (oi := o17_6) (v := ?_) rfl (by kernel_rfl) (by kernel_rfl) (by kernel_rfl) (fun _ _ _ h => h) (Or.inl ⟨by rfl, ?_⟩) (by assumption) ?_
          rotate_left
          · intro w hSw
            try dsimp only at hSw
            go_simp
            try with_reducible rfl
          try simp only [Act.put, List.setIfInBounds_toArray, List.set_cons_zero, List.set_cons_succ]
          refine wpAnyH_take (i := 8) (oi := o17_8) (v := ?_) rfl (by kernel_rfl) (by kernel_rfl) (by kernel_rfl) (fun _ _ _ h => h) (Or.inl ⟨by rfl, ?_⟩) (by assumption) ?_
          rotate_left
          · intro w hSw
            try dsimp only at hSw
            go_simp
            try with_reducible rfl
          try simp only [Act.put, List.setIfInBounds_toArray, List.set_cons_zero, List.set_cons_succ]
          refine wpAnyH_ready (rs := [7]) (by kernel_rfl) (by simp) ?_
          refine AllReadyH.cons (o := o17_7) rfl (fun K hK => ?_) AllReadyH.nil
          go_simp
          refine (EV.out _ (HT.out.below (bstep B hHeld.2.2.2.2.2.2.2))).mono ?_
          rintro e v3 ⟨rfl, hbv3⟩
          have HBx := Lib.hid (bstep hHeld.2.2.2.2.2.2.2 hbv3)
          clear hHeld hbv3
          refine hK.out _ _ ?_ (fun hHeld => ?_)
          · exact keepW P5.out.1 PQ.out.1 HBx.out
          clear hK K HBx
          try simp only [Act.put, List.setIfInBounds_toArray, List.set_cons_zero, List.set_cons_succ]
          refine wpAnyH_take (i := 9) (oi := o17_9) (v := ?_) rfl (by kernel_rfl) (by kernel_rfl) (by kernel_rfl) (fun _ _ _ h => h) (Or.inl ⟨by rfl, ?_⟩) (by assumption) ?_
          rotate_left
          · intro w hSw
            try dsimp only at hSw
            go_simp
            try with_reducible rfl
          try simp only [Act.put, List.setIfInBounds_toArray, List.set_cons_zero, List.set_cons_succ]
          refine wpAnyH_take (i := 10) (oi := o17_10) (v := ?_) rfl (by kernel_rfl) (by kernel_rfl) (by kernel_rfl) (fun _ _ _ h => h) (Or.inl ⟨by rfl, ?_⟩) (by assumption) ?_
          rotate_left
          · intro w hSw
            try dsimp only at hSw
            go_simp
            try with_reducible rfl
          try simp only [Act.put, List.setIfInBounds_toArray, List.set_cons_zero, List.set_cons_succ]
          refine wpAnyH_take (i := 11) (oi := o17_11) (v := ?_) rfl (by kernel_rfl) (by kernel_rfl) (by kernel_rfl) (fun _ _ _ h => h) (Or.inl ⟨by rfl, ?_⟩) (by assumption) ?_
          rotate_left
          · intro w hSw
            try dsimp only at hSw
            go_simp
            try with_reducible rfl
          try simp only [Act.put, List.setIfInBounds_toArray, List.set_cons_zero, List.set_cons_succ]
          refine wpAnyH_take (i := 12) (oi := o17_12) (v := ?_) rfl (by kernel_rfl) (by kernel_rfl) (by kernel_rfl) (fun _ _ _ h => h) (Or.inl ⟨by rfl, ?_⟩) (by assumption) ?_
          rotate_left
          · intro w hSw
            try dsimp only at hSw
            go_simp
            try with_reducible rfl
          try simp only [Act.put, List.setIfInBounds_toArray, List.set_cons_zero, List.set_cons_succ]
          refine wpAnyH_take (i := 13) (oi := o17_13) (v := ?_) rfl (by kernel_rfl) (by kernel_rfl) (by kernel_rfl) (fun _ _ _ h => h) (Or.inl ⟨by rfl, ?_⟩) (by assumption) ?_
          rotate_left
          · intro w hSw
            try dsimp only at hSw
            go_simp
            try with_reducible rfl
          try simp only [Act.put, List.setIfInBounds_toArray, List.set_cons_zero, List.set_cons_succ]
          refine wpAnyH_take (i := 14) (oi := o17_14) (v := ?_) rfl (by kernel_rfl) (by kernel_rfl) (by kernel_rfl) (fun _ _ _ h => h) (Or.inl ⟨by rfl, ?_⟩) (by assumption) ?_
          rotate_left
          · intro w hSw
            try dsimp only at hSw
            go_simp
            try with_reducible rfl
          try simp only [Act.put, List.setIfInBounds_toArray, List.set_cons_zero, List.set_cons_succ]
          refine wpAnyH_take (i := 15) (oi := o17_15) (v := ?_) rfl (by kernel_rfl) (by kernel_rfl) (by kernel_rfl) (fun _ _ _ h => h) (Or.inl ⟨by rfl, ?_⟩) (by assumption) ?_
          rotate_left
          · intro w hSw
            try dsimp only at hSw
            go_simp
            try with_reducible rfl
          try simp only [Act.put, List.setIfInBounds_toArray, List.set_cons_zero, List.set_cons_succ]
          refine wpAnyH_take (i := 17) (oi := o17_17) (v := ?_) rfl (by kernel_rfl) (by kernel_rfl) (by kernel_rfl) (fun _ _ _ h => h) (Or.inl ⟨by rfl, ?_⟩) (by assumption) ?_
          rotate_left
          · intro w hSw
            try dsimp only at hSw
            go_simp
            try with_reducible rfl
          try simp only [Act.put, List.setIfInBounds_toArray, List.set_cons_zero, List.set_cons_succ]
          refine wpAnyH_ready (rs := [16]) (by kernel_rfl) (by simp) ?_
          refine AllReadyH.cons (o := o17_16) rfl (fun K hK => ?_) AllReadyH.nil
          go_simp
          refine (OD.out _ (HT.out.below (bstep B hHeld.2.2.2.2.2.2.2))).mono ?_
          rintro e v4 ⟨rfl, hbv4⟩
          have HBx := Lib.hid (bstep hHeld.2.2.2.2.2.2.2 hbv4)
          clear hHeld hbv4
          refine hK.out _ _ ?_ (fun hHeld => ?_)
          · exact keepW P5.out.1 PQ.out.1 HBx.out
          clear hK K HBx
          try simp only [Act.put, List.setIfInBounds_toArray, List.set_cons_zero, List.set_cons_succ]
          refine wpAnyH_take (i := 18) (oi := o17_18) (v := ?_) rfl (by kernel_rfl) (by kernel_rfl) (by kernel_rfl) (fun _ _ _ h => h) (Or.inl ⟨by rfl, ?_⟩) (by assumption) ?_
          rotate_left
          · intro w hSw
            try dsimp only at hSw
            go_simp
            try with_reducible rfl
          try simp only [Act.put, List.setIfInBounds_toArray, List.set_cons_zero, List.set_cons_succ]
          refine wpAnyH_take (i := 19) (oi := o17_19) (v := ?_) rfl (by kernel_rfl) (by kernel_rfl) (by kernel_rfl) (fun _ _ _ h => h) (Or.inl ⟨by rfl, ?_⟩) (by assumption) ?_
          rotate_left
          · intro w hSw
            try dsimp only at hSw
            go_simp
            try with_reducible rfl
          try simp only [Act.put, List.setIfInBounds_toArray, List.set_cons_zero, List.set_cons_succ]
          refine wpAnyH_take (i := 20) (oi := o17_20) (v := ?_) rfl (by kernel_rfl) (by kernel_rfl) (by kernel_rfl) (fun _ _ _ h => h) (Or.inl ⟨by rfl, ?_⟩) (by assumption) ?_
          rotate_left
          · intro w hSw
            try dsimp only at hSw
            go_simp
            try with_reducible rfl
          try simp only [Act.put, List.setIfInBounds_toArray, List.set_cons_zero, List.set_cons_succ]
          refine wpAnyH_take (i := 21) (oi := o17_21) (v := ?_) rfl (by kernel_rfl) (by kernel_rfl) (by kernel_rfl) (fun _ _ _ h => h) (Or.inl ⟨by rfl, ?_⟩) (by assumption) ?_
          rotate_left
          · intro w hSw
            try dsimp only at hSw
            go_simp
            try with_reducible rfl
          try simp only [Act.put, List.setIfInBounds_toArray, List.set_cons_zero, List.set_cons_succ]
          refine wpAnyH_take (i := 22) (oi := o17_22) (v := ?_) rfl (by kernel_rfl) (by kernel_rfl) (by kernel_rfl) (fun _ _ _ h => h) (Or.inl ⟨by rfl, ?_⟩) (by assumption) ?_
          rotate_left
          · intro w hSw
            try dsimp only at hSw
            go_simp
            try with_reducible rfl
          try simp only [Act.put, List.setIfInBounds_toArray, List.set_cons_zero, List.set_cons_succ]
          refine wpAnyH_take (i := 23) (oi := o17_23) (v := ?_) rfl (by kernel_rfl) (by kernel_rfl) (by kernel_rfl) (fun _ _ _ h => h) (Or.inl ⟨by rfl, ?_⟩) (by assumption) ?_
          rotate_left
          · intro w hSw
            try dsimp only at hSw
            go_simp
            try with_reducible rfl
          try simp only [Act.put, List.setIfInBounds_toArray, List.set_cons_zero, List.set_cons_succ]
          refine wpAnyH_take (i := 24) (oi := o17_24) (v := ?_) rfl (by kernel_rfl) (by kernel_rfl) (by kernel_rfl) (fun _ _ _ h => h) (Or.inl ⟨by rfl, ?_⟩) (by assumption) ?_
          rotate_left
          · intro w hSw
            try dsimp only at hSw
            go_simp
            try with_reducible rfl
          try simp only [Act.put, List.setIfInBounds_toArray, List.set_cons_zero, List.set_cons_succ]
          refine wpAnyH_done (by kernel_rfl) ?_ _
          go_wp2
          go_ret
          exact ⟨rfl, bstep B hHeld.2.2.2.2.2.2.2⟩
  case' neg =>
    have tn : decide (ea' < 0) = false := decide_eq_false neg
    have WPX := Lib.hid (show rwF mo na' c ea' = (na', c, ea') by unfold rwF; rw [if_pos (by omega)])
    have WC := Lib.hid (wh_stay na' c ea' (by omega))
    have XB := Lib.hid NMH.out.2
    have GE := Lib.hid (show 0 ≤ ea' by omega)
    clear CU neg
    clear BKQ
    obtain ⟨⟨c4_1, c4_2, c4_3⟩, -, c4_9⟩ := PP.out
    have lt_P5 := P5.out.2.2
    have lt_PP := PP.out.2.2
    have lt_PQ := PQ.out.2.2
    have lt_B := B.size
    replace P5 := Lib.hid (P5.out.alloc (.cells #[.bool na', (.slice VA LVn VC), .int .i64 ea'] 36))
    replace RP := Lib.hid (RP.out.alloc (.cells #[.bool na', (.slice VA LVn VC), .int .i64 ea'] 36))
    replace PP := Lib.hid (PP.out.alloc (.cells #[.bool na', (.slice VA LVn VC), .int .i64 ea'] 36))
    replace PQ := Lib.hid (PQ.out.alloc (.cells #[.bool na', (.slice VA LVn VC), .int .i64 ea'] 36))
    replace B := ballD1 B (.cells #[.bool na', (.slice VA LVn VC), .int .i64 ea'] 36)
    have PF := Lib.hid (HoldsF.newF rfl : HoldsF (V4.alloc (.cells #[.bool na', (.slice VA LVn VC), .int .i64 ea'] 36)) V4.heap.size na' (.slice VA LVn VC) ea')
    have BKF := Lib.hid (BlkD.new rfl : BlkD (V4.alloc (.cells #[.bool na', (.slice VA LVn VC), .int .i64 ea'] 36)) V4.heap.size)
    go_upto_region 12 with fail
    obtain ⟨gPF, hg⟩ : ∃ g, g = V4.heap.size := ⟨_, rfl⟩
    rw [← hg] at PF BKF lt_B lt_P5 lt_PP lt_PQ
    rw [← hg]
    change Code.wp _ _ _ _ (V4.alloc (.cells #[.bool na', (.slice VA LVn VC), .int .i64 ea'] 36))
    generalize V4.alloc (.cells #[.bool na', (.slice VA LVn VC), .int .i64 ea'] 36) = V5 at *
    clear hg
    have ne_P5_PF : gP5 ≠ gPF := Nat.ne_of_lt lt_P5
    have ne_PP_PF : gPP ≠ gPF := Nat.ne_of_lt lt_PP
    have ne_PQ_PF : gPQ ≠ gPF := Nat.ne_of_lt lt_PQ
    have le_PF : w.heap.size ≤ gPF := lt_B
    clear lt_B lt_P5 lt_PP lt_PQ
    clear c4_1 c4_2 c4_3 c4_9
    clear BKF
    obtain ⟨⟨c5_1, c5_2, c5_3⟩, -, c5_9⟩ := PP.out
    go_upto_region 15 with fail
    clear c5_1 c5_2 c5_3 c5_9
    have FB : c < 10 ^ 40 := Nat.lt_of_lt_of_le NMH.out.1 (by decide)
    have CMX0 := fun W ra rb => CM.out (.slice VA LVn VC) (.slice VA LVn VC) c ea' W FB XB.out.1 XB.out.2 ra rb
    have WC0 := WC.out
    generalize sgR (sumR _ _ _ _) = z at CMX0 WC0
    have CMX := Lib.hid CMX0
    obtain ⟨wc1, wc2, wc3⟩ := WC0
    clear CM CMX0 FB WC OPQ
    generalize exB na' c ea' = E at *
    generalize oddT (rwF 5 na' c ea') = od at *
    have ze : (z == 0) = E := by rw [wc1, wc2]; rfl
    have HOD := Lib.hid (show E = true → od = (decide (ea' = 0) && decide (c % 2 = 1)) from fun _ => wc3)
    clear wc1 wc2 wc3
    obtain ⟨⟨c6_1, c6_2, c6_3⟩, -, c6_9⟩ := PF.out
    obtain ⟨⟨c7_1, c7_2, c7_3⟩, -, c7_9⟩ := PP.out
    go_wp2_with fail
    refine (CMX.out _ RP.out RP.out).mono ?_
    rintro e y6 ⟨rfl, hb⟩
    clear c6_1 c6_2 c6_3 c6_9 c7_1 c7_2 c7_3 c7_9
    replace P5 := Lib.hid (P5.out.below hb)
    replace RP := Lib.hid (RP.out.below hb)
    replace PP := Lib.hid (PP.out.below hb)
    replace PQ := Lib.hid (PQ.out.below hb)
    replace PF := Lib.hid (PF.out.below hb)
    replace B := bstep B hb
    clear hb
    clear CMX
    rcases row_parity RP.out hLV with ⟨L0, F0⟩ | ⟨gd, eA, l0, lc, hgd, dd, hd, hp⟩
    · have tl : ((LVn : Int) == 0) = true := by rw [L0]; rfl
      have HEV := Lib.hid (show E = true → true = !od by intro t; rw [HOD.out t]; simp [F0])
      clear HOD F0 L0
      obtain ⟨⟨c8_1, c8_2, c8_3⟩, -, c8_9⟩ := PF.out
      go_upto_region 17 with fail
      clear c8_1 c8_2 c8_3 c8_9
      clear tl ze
      cases E
      · clear HEV
        simp only [Bool.false_and] at EV OD
        refine wp_region_held_drew (S := fun w' => w'.cell? ⟨gP5, 0, none⟩ = some (.bool na') ∧ w'.cell? ⟨gP5, 1, none⟩ = some (.int .u64 (ah : Int)) ∧ w'.cell? ⟨gP5, 2, none⟩ = some (.int .u64 (al : Int)) ∧ w'.cell? ⟨gP5, 3, none⟩ = some (.int .i64 ea') ∧ w'.cell? ⟨gPQ, 0, none⟩ = some (.bool na') ∧ w'.cell? ⟨gPQ, 1, none⟩ = some (.slice VA LVn VC) ∧ w'.cell? ⟨gPQ, 2, none⟩ = some (.int .i64 ea') ∧ Below y6.heap.size y6 w') (by kernel_rfl) ?_ (fun hHeld => ?_)
        · exact keepW P5.out.1 PQ.out.1 (Below.refl _ _).drew
        refine wpAnyH_take (i := 0) (oi := o17_0) (v := ?_) rfl (by kernel_rfl) (by kernel_rfl) (by kernel_rfl) (fun _ _ _ h => h) (Or.inl ⟨by rfl, ?_⟩) (by assumption) ?_
        rotate_left
        · intro w hSw
          try dsimp only at hSw
          go_simp
          try with_reducible rfl
        try simp only [Act.put, List.setIfInBounds_toArray, List.set_cons_zero, List.set_cons_succ]
        refine wpAnyH_take (i := 1) (oi := o17_1) (v := ?_) rfl (by kernel_rfl) (by kernel_rfl) (by kernel_rfl) (fun _ _ _ h => h) (Or.inl ⟨by rfl, ?_⟩) (by assumption) ?_
        rotate_left
        · intro w hSw
          try dsimp only at hSw
          go_simp
          try with_reducible rfl
        try simp only [Act.put, List.setIfInBounds_toArray, List.set_cons_zero, List.set_cons_succ]
        refine wpAnyH_take (i := 3) (oi := o17_3) (v := ?_) rfl (by kernel_rfl) (by kernel_rfl) (by kernel_rfl) (fun _ _ _ h => h) (Or.inl ⟨by rfl, ?_⟩) (by assumption) ?_
        rotate_left
        · intro w hSw
          try dsimp only at hSw
          go_simp
          try with_reducible rfl
        try simp only [Act.put, List.setIfInBounds_toArray, List.set_cons_zero, List.set_cons_succ]
        refine wpAnyH_ready (rs := [2]) (by kernel_rfl) (by simp) ?_
        refine AllReadyH.cons (o := o17_2) rfl (fun K hK => ?_) AllReadyH.nil
        go_simp
        refine (WH.out _ (HT.out.below (bstep B hHeld.2.2.2.2.2.2.2))).mono ?_
        rintro e v1 ⟨wn, wh, wl, wx, hww, heq, rfl, hbv1⟩
        rw [WPX.out] at heq
        simp only [Prod.mk.injEq] at heq
        obtain ⟨e1, hq8, e3⟩ := heq
        replace e1 := e1.symm
        replace e3 := e3.symm
        subst e1 e3
        have LK := Lib.hid (fun v W (r : Row W v (Dg.dg (nv wh wl))) => like_yes na' wh wl ea' v hww W r)
        rw [hq8] at LK
        have RQ1 := Lib.hid (RP.out.below (bundrew hbv1))
        clear hq8 hww
        have HBx := Lib.hid (bstep hHeld.2.2.2.2.2.2.2 hbv1)
        clear hHeld hbv1
        refine hK.out _ _ ?_ (fun hHeld => ?_)
        · exact keepW P5.out.1 PQ.out.1 HBx.out
        clear hK K HBx
        try simp only [Act.put, List.setIfInBounds_toArray, List.set_cons_zero, List.set_cons_succ]
        refine wpAnyH_ready (rs := [4]) (by kernel_rfl) (by simp) ?_
        refine AllReadyH.cons (o := o17_4) rfl (fun K hK => ?_) AllReadyH.nil
        go_simp
        refine (LK.out _ _ RQ1.out).mono ?_
        rintro e v2 ⟨rfl, hbv2⟩
        clear RQ1
        have HBx := Lib.hid (bstep hHeld.2.2.2.2.2.2.2 hbv2)
        clear hHeld hbv2
        refine hK.out _ _ ?_ (fun hHeld => ?_)
        · exact keepW P5.out.1 PQ.out.1 HBx.out
        clear hK K HBx
        try simp only [Act.put, List.setIfInBounds_toArray, List.set_cons_zero, List.set_cons_succ]
        refine wpAnyH_take (i := 5) (oi := o17_5) (v := ?_) rfl (by kernel_rfl) (by kernel_rfl) (by kernel_rfl) (fun _ _ _ h => h) (Or.inl ⟨by rfl, ?_⟩) (by assumption) ?_
        rotate_left
        · intro w hSw
          try dsimp only at hSw
          go_simp
          try with_reducible rfl
        try simp only [Act.put, List.setIfInBounds_toArray, List.set_cons_zero, List.set_cons_succ]
        refine wpAnyH_take (i := 6) (oi := o17_6) (v := ?_) rfl (by kernel_rfl) (by kernel_rfl) (by kernel_rfl) (fun _ _ _ h => h) (Or.inl ⟨by rfl, ?_⟩) (by assumption) ?_
        rotate_left
        · intro w hSw
          try dsimp only at hSw
          go_simp
          try with_reducible rfl
        try simp only [Act.put, List.setIfInBounds_toArray, List.set_cons_zero, List.set_cons_succ]
        refine wpAnyH_take (i := 8) (oi := o17_8) (v := ?_) rfl (by kernel_rfl) (by kernel_rfl) (by kernel_rfl) (fun _ _ _ h => h) (Or.inl ⟨by rfl, ?_⟩) (by assumption) ?_
        rotate_left
        · intro w hSw
          try dsimp only at hSw
          go_simp
          try with_reducible rfl
        try simp only [Act.put, List.setIfInBounds_toArray, List.set_cons_zero, List.set_cons_succ]
        refine wpAnyH_ready (rs := [7]) (by kernel_rfl) (by simp) ?_
        refine AllReadyH.cons (o := o17_7) rfl (fun K hK => ?_) AllReadyH.nil
        go_simp
        refine (EV.out _ (HT.out.below (bstep B hHeld.2.2.2.2.2.2.2))).mono ?_
        rintro e v3 ⟨rfl, hbv3⟩
        have HBx := Lib.hid (bstep hHeld.2.2.2.2.2.2.2 hbv3)
        clear hHeld hbv3
        refine hK.out _ _ ?_ (fun hHeld => ?_)
        · exact keepW P5.out.1 PQ.out.1 HBx.out
        clear hK K HBx
        try simp only [Act.put, List.setIfInBounds_toArray, List.set_cons_zero, List.set_cons_succ]
        refine wpAnyH_take (i := 9) (oi := o17_9) (v := ?_) rfl (by kernel_rfl) (by kernel_rfl) (by kernel_rfl) (fun _ _ _ h => h) (Or.inl ⟨by rfl, ?_⟩) (by assumption) ?_
        rotate_left
        · intro w hSw
          try dsimp only at hSw
          go_simp
          try with_reducible rfl
        try simp only [Act.put, List.setIfInBounds_toArray, List.set_cons_zero, List.set_cons_succ]
        refine wpAnyH_take (i := 10) (oi := o17_10) (v := undef) rfl (by kernel_rfl) (by kernel_rfl) (by kernel_rfl) (fun _ _ _ h => h) (Or.inr ⟨by rfl, rfl⟩) (by assumption) ?_
        try simp only [Act.put, List.setIfInBounds_toArray, List.set_cons_zero, List.set_cons_succ]
        refine wpAnyH_take (i := 11) (oi := o17_11) (v := ?_) rfl (by kernel_rfl) (by kernel_rfl) (by kernel_rfl) (fun _ _ _ h => h) (Or.inl ⟨by rfl, ?_⟩) (by assumption) ?_
        rotate_left
        · intro w hSw
          try dsimp only at hSw
          go_simp
          try with_reducible rfl
        try simp only [Act.put, List.setIfInBounds_toArray, List.set_cons_zero, List.set_cons_succ]
        refine wpAnyH_take (i := 12) (oi := o17_12) (v := ?_) rfl (by kernel_rfl) (by kernel_rfl) (by kernel_rfl) (fun _ _ _ h => h) (Or.inl ⟨by rfl, ?_⟩) (by assumption) ?_
        rotate_left
        · intro w hSw
          try dsimp only at hSw
          go_simp
          try with_reducible rfl
        try simp only [Act.put, List.setIfInBounds_toArray, List.set_cons_zero, List.set_cons_succ]
        refine wpAnyH_take (i := 13) (oi := o17_13) (v := ?_) rfl (by kernel_rfl) (by kernel_rfl) (by kernel_rfl) (fun _ _ _ h => h) (Or.inl ⟨by rfl, ?_⟩) (by assumption) ?_
        rotate_left
        · intro w hSw
          try dsimp only at hSw
          go_simp
          try with_reducible rfl
        try simp only [Act.put, List.setIfInBounds_toArray, List.set_cons_zero, List.set_cons_succ]
        refine wpAnyH_take (i := 14) (oi := o17_14) (v := ?_) rfl (by kernel_rfl) (by kernel_rfl) (by kernel_rfl) (fun _ _ _ h => h) (Or.inl ⟨by rfl, ?_⟩) (by assumption) ?_
        rotate_left
        · intro w hSw
          try dsimp only at hSw
          go_simp
          try with_reducible rfl
        try simp only [Act.put, List.setIfInBounds_toArray, List.set_cons_zero, List.set_cons_succ]
        refine wpAnyH_take (i := 15) (oi := o17_15) (v := ?_) rfl (by kernel_rfl) (by kernel_rfl) (by kernel_rfl) (fun _ _ _ h => h) (Or.inl ⟨by rfl, ?_⟩) (by assumption) ?_
        rotate_left
        · intro w hSw
          try dsimp only at hSw
          go_simp
          try with_reducible rfl
        try simp only [Act.put, List.setIfInBounds_toArray, List.set_cons_zero, List.set_cons_succ]
        refine wpAnyH_take (i := 17) (oi := o17_17) (v := ?_) rfl (by kernel_rfl) (by kernel_rfl) (by kernel_rfl) (fun _ _ _ h => h) (Or.inl ⟨by rfl, ?_⟩) (by assumption) ?_
        rotate_left
        · intro w hSw
          try dsimp only at hSw
          go_simp
          try with_reducible rfl
        try simp only [Act.put, List.setIfInBounds_toArray, List.set_cons_zero, List.set_cons_succ]
        refine wpAnyH_ready (rs := [16]) (by kernel_rfl) (by simp) ?_
        refine AllReadyH.cons (o := o17_16) rfl (fun K hK => ?_) AllReadyH.nil
        go_simp
        refine (OD.out _ (HT.out.below (bstep B hHeld.2.2.2.2.2.2.2))).mono ?_
        rintro e v4 ⟨rfl, hbv4⟩
        have HBx := Lib.hid (bstep hHeld.2.2.2.2.2.2.2 hbv4)
        clear hHeld hbv4
        refine hK.out _ _ ?_ (fun hHeld => ?_)
        · exact keepW P5.out.1 PQ.out.1 HBx.out
        clear hK K HBx
        try simp only [Act.put, List.setIfInBounds_toArray, List.set_cons_zero, List.set_cons_succ]
        refine wpAnyH_take (i := 18) (oi := o17_18) (v := ?_) rfl (by kernel_rfl) (by kernel_rfl) (by kernel_rfl) (fun _ _ _ h => h) (Or.inl ⟨by rfl, ?_⟩) (by assumption) ?_
        rotate_left
        · intro w hSw
          try dsimp only at hSw
          go_simp
          try with_reducible rfl
        try simp only [Act.put, List.setIfInBounds_toArray, List.set_cons_zero, List.set_cons_succ]
        refine wpAnyH_take (i := 19) (oi := o17_19) (v := undef) rfl (by kernel_rfl) (by kernel_rfl) (by kernel_rfl) (fun _ _ _ h => h) (Or.inr ⟨by rfl, rfl⟩) (by assumption) ?_
        try simp only [Act.put, List.setIfInBounds_toArray, List.set_cons_zero, List.set_cons_succ]
        refine wpAnyH_take (i := 20) (oi := o17_20) (v := undef) rfl (by kernel_rfl) (by kernel_rfl) (by kernel_rfl) (fun _ _ _ h => h) (Or.inr ⟨by rfl, rfl⟩) (by assumption) ?_
        try simp only [Act.put, List.setIfInBounds_toArray, List.set_cons_zero, List.set_cons_succ]
        refine wpAnyH_take (i := 21) (oi := o17_21) (v := ?_) rfl (by kernel_rfl) (by kernel_rfl) (by kernel_rfl) (fun _ _ _ h => h) (Or.inl ⟨by rfl, ?_⟩) (by assumption) ?_
        rotate_left
        · intro w hSw
          try dsimp only at hSw
          go_simp
          try with_reducible rfl
        try simp only [Act.put, List.setIfInBounds_toArray, List.set_cons_zero, List.set_cons_succ]
        refine wpAnyH_take (i := 22) (oi := o17_22) (v := ?_) rfl (by kernel_rfl) (by kernel_rfl) (by kernel_rfl) (fun _ _ _ h => h) (Or.inl ⟨by rfl, ?_⟩) (by assumption) ?_
        rotate_left
        · intro w hSw
          try dsimp only at hSw
          go_simp
          try with_reducible rfl
        try simp only [Act.put, List.setIfInBounds_toArray, List.set_cons_zero, List.set_cons_succ]
        refine wpAnyH_take (i := 23) (oi := o17_23) (v := ?_) rfl (by kernel_rfl) (by kernel_rfl) (by kernel_rfl) (fun _ _ _ h => h) (Or.inl ⟨by rfl, ?_⟩) (by assumption) ?_
        rotate_left
        · intro w hSw
          try dsimp only at hSw
          go_simp
          try with_reducible rfl
        try simp only [Act.put, List.setIfInBounds_toArray, List.set_cons_zero, List.set_cons_succ]
        refine wpAnyH_take (i := 24) (oi := o17_24) (v := ?_) rfl (by kernel_rfl) (by kernel_rfl) (by kernel_rfl) (fun _ _ _ h => h) (Or.inl ⟨by rfl, ?_⟩) (by assumption) ?_
        rotate_left
        · intro w hSw
          try dsimp only at hSw
          go_simp
          try with_reducible rfl
        try simp only [Act.put, List.setIfInBounds_toArray, List.set_cons_zero, List.set_cons_succ]
        refine wpAnyH_done (by kernel_rfl) ?_ _
        go_wp2
        go_ret
        exact ⟨rfl, bstep B hHeld.2.2.2.2.2.2.2⟩
      · simp only [Bool.true_and] at EV OD
        have hev := HEV.out rfl
        clear HEV
        obtain rfl : od = false := by cases od; rfl; cases hev
        simp only [Bool.not_false] at EV
        clear hev
        refine wp_region_held_drew (S := fun w' => w'.cell? ⟨gP5, 0, none⟩ = some (.bool na') ∧ w'.cell? ⟨gP5, 1, none⟩ = some (.int .u64 (ah : Int)) ∧ w'.cell? ⟨gP5, 2, none⟩ = some (.int .u64 (al : Int)) ∧ w'.cell? ⟨gP5, 3, none⟩ = some (.int .i64 ea') ∧ w'.cell? ⟨gPQ, 0, none⟩ = some (.bool na') ∧ w'.cell? ⟨gPQ, 1, none⟩ = some (.slice VA LVn VC) ∧ w'.cell? ⟨gPQ, 2, none⟩ = some (.int .i64 ea') ∧ Below y6.heap.size y6 w') (by kernel_rfl) ?_ (fun hHeld => ?_)
        · exact keepW P5.out.1 PQ.out.1 (Below.refl _ _).drew
        refine wpAnyH_take (i := 0) (oi := o17_0) (v := ?_) rfl (by kernel_rfl) (by kernel_rfl) (by kernel_rfl) (fun _ _ _ h => h) (Or.inl ⟨by rfl, ?_⟩) (by assumption) ?_
        rotate_left
        · intro w hSw
          try dsimp only at hSw
          go_simp
          try with_reducible rfl
        try simp only [Act.put, List.setIfInBounds_toArray, List.set_cons_zero, List.set_cons_succ]
        refine wpAnyH_take (i := 1) (oi := o17_1) (v := ?_) rfl (by kernel_rfl) (by kernel_rfl) (by kernel_rfl) (fun _ _ _ h => h) (Or.inl ⟨by rfl, ?_⟩) (by assumption) ?_
        rotate_left
        · intro w hSw
          try dsimp only at hSw
          go_simp
          try with_reducible rfl
        try simp only [Act.put, List.setIfInBounds_toArray, List.set_cons_zero, List.set_cons_succ]
        refine wpAnyH_take (i := 3) (oi := o17_3) (v := ?_) rfl (by kernel_rfl) (by kernel_rfl) (by kernel_rfl) (fun _ _ _ h => h) (Or.inl ⟨by rfl, ?_⟩) (by assumption) ?_
        rotate_left
        · intro w hSw
          try dsimp only at hSw
          go_simp
          try with_reducible rfl
        try simp only [Act.put, List.setIfInBounds_toArray, List.set_cons_zero, List.set_cons_succ]
        refine wpAnyH_ready (rs := [2]) (by kernel_rfl) (by simp) ?_
        refine AllReadyH.cons (o := o17_2) rfl (fun K hK => ?_) AllReadyH.nil
        go_simp
        refine (WH.out _ (HT.out.below (bstep B hHeld.2.2.2.2.2.2.2))).mono ?_
        rintro e v1 ⟨wn, wh, wl, wx, hww, heq, rfl, hbv1⟩
        rw [WPX.out] at heq
        simp only [Prod.mk.injEq] at heq
        obtain ⟨e1, hq8, e3⟩ := heq
        replace e1 := e1.symm
        replace e3 := e3.symm
        subst e1 e3
        have LK := Lib.hid (fun v W (r : Row W v (Dg.dg (nv wh wl))) => like_yes na' wh wl ea' v hww W r)
        rw [hq8] at LK
        have RQ1 := Lib.hid (RP.out.below (bundrew hbv1))
        clear hq8 hww
        have HBx := Lib.hid (bstep hHeld.2.2.2.2.2.2.2 hbv1)
        clear hHeld hbv1
        refine hK.out _ _ ?_ (fun hHeld => ?_)
        · exact keepW P5.out.1 PQ.out.1 HBx.out
        clear hK K HBx
        try simp only [Act.put, List.setIfInBounds_toArray, List.set_cons_zero, List.set_cons_succ]
        refine wpAnyH_ready (rs := [4]) (by kernel_rfl) (by simp) ?_
        refine AllReadyH.cons (o := o17_4) rfl (fun K hK => ?_) AllReadyH.nil
        go_simp
        refine (LK.out _ _ RQ1.out).mono ?_
        rintro e v2 ⟨rfl, hbv2⟩
        clear RQ1
        have HBx := Lib.hid (bstep hHeld.2.2.2.2.2.2.2 hbv2)
        clear hHeld hbv2
        refine hK.out _ _ ?_ (fun hHeld => ?_)
        · exact keepW P5.out.1 PQ.out.1 HBx.out
        clear hK K HBx
        try simp only [Act.put, List.setIfInBounds_toArray, List.set_cons_zero, List.set_cons_succ]
        refine wpAnyH_take (i := 5) (oi := o17_5) (v := ?_) rfl (by kernel_rfl) (by kernel_rfl) (by kernel_rfl) (fun _ _ _ h => h) (Or.inl ⟨by rfl, ?_⟩) (by assumption) ?_
        rotate_left
        · intro w hSw
          try dsimp only at hSw
          go_simp
          try with_reducible rfl
        try simp only [Act.put, List.setIfInBounds_toArray, List.set_cons_zero, List.set_cons_succ]
        refine wpAnyH_take (i := 6) (oi := o17_6) (v := ?_) rfl (by kernel_rfl) (by kernel_rfl) (by kernel_rfl) (fun _ _ _ h => h) (Or.inl ⟨by rfl, ?_⟩) (by assumption) ?_
        rotate_left
        · intro w hSw
          try dsimp only at hSw
          go_simp
          try with_reducible rfl
        try simp only [Act.put, List.setIfInBounds_toArray, List.set_cons_zero, List.set_cons_succ]
        refine wpAnyH_take (i := 8) (oi := o17_8) (v := ?_) rfl (by kernel_rfl) (by kernel_rfl) (by kernel_rfl) (fun _ _ _ h => h) (Or.inl ⟨by rfl, ?_⟩) (by assumption) ?_
        rotate_left
        · intro w hSw
          try dsimp only at hSw
          go_simp
          try with_reducible rfl
        try simp only [Act.put, List.setIfInBounds_toArray, List.set_cons_zero, List.set_cons_succ]
        refine wpAnyH_ready (rs := [7]) (by kernel_rfl) (by simp) ?_
        refine AllReadyH.cons (o := o17_7) rfl (fun K hK => ?_) AllReadyH.nil
        go_simp
        refine (EV.out _ (HT.out.below (bstep B hHeld.2.2.2.2.2.2.2))).mono ?_
        rintro e v3 ⟨rfl, hbv3⟩
        have HBx := Lib.hid (bstep hHeld.2.2.2.2.2.2.2 hbv3)
        clear hHeld hbv3
        refine hK.out _ _ ?_ (fun hHeld => ?_)
        · exact keepW P5.out.1 PQ.out.1 HBx.out
        clear hK K HBx
        try simp only [Act.put, List.setIfInBounds_toArray, List.set_cons_zero, List.set_cons_succ]
        refine wpAnyH_take (i := 9) (oi := o17_9) (v := ?_) rfl (by kernel_rfl) (by kernel_rfl) (by kernel_rfl) (fun _ _ _ h => h) (Or.inl ⟨by rfl, ?_⟩) (by assumption) ?_
        rotate_left
        · intro w hSw
          try dsimp only at hSw
          go_simp
          try with_reducible rfl
        try simp only [Act.put, List.setIfInBounds_toArray, List.set_cons_zero, List.set_cons_succ]
        refine wpAnyH_take (i := 10) (oi := o17_10) (v := ?_) rfl (by kernel_rfl) (by kernel_rfl) (by kernel_rfl) (fun _ _ _ h => h) (Or.inl ⟨by rfl, ?_⟩) (by assumption) ?_
        rotate_left
        · intro w hSw
          try dsimp only at hSw
          go_simp
          try with_reducible rfl
        try simp only [Act.put, List.setIfInBounds_toArray, List.set_cons_zero, List.set_cons_succ]
        refine wpAnyH_take (i := 11) (oi := o17_11) (v := ?_) rfl (by kernel_rfl) (by kernel_rfl) (by kernel_rfl) (fun _ _ _ h => h) (Or.inl ⟨by rfl, ?_⟩) (by assumption) ?_
        rotate_left
        · intro w hSw
          try dsimp only at hSw
          go_simp
          try with_reducible rfl
        try simp only [Act.put, List.setIfInBounds_toArray, List.set_cons_zero, List.set_cons_succ]
        refine wpAnyH_take (i := 12) (oi := o17_12) (v := ?_) rfl (by kernel_rfl) (by kernel_rfl) (by kernel_rfl) (fun _ _ _ h => h) (Or.inl ⟨by rfl, ?_⟩) (by assumption) ?_
        rotate_left
        · intro w hSw
          try dsimp only at hSw
          go_simp
          try with_reducible rfl
        try simp only [Act.put, List.setIfInBounds_toArray, List.set_cons_zero, List.set_cons_succ]
        refine wpAnyH_take (i := 13) (oi := o17_13) (v := ?_) rfl (by kernel_rfl) (by kernel_rfl) (by kernel_rfl) (fun _ _ _ h => h) (Or.inl ⟨by rfl, ?_⟩) (by assumption) ?_
        rotate_left
        · intro w hSw
          try dsimp only at hSw
          go_simp
          try with_reducible rfl
        try simp only [Act.put, List.setIfInBounds_toArray, List.set_cons_zero, List.set_cons_succ]
        refine wpAnyH_take (i := 14) (oi := o17_14) (v := ?_) rfl (by kernel_rfl) (by kernel_rfl) (by kernel_rfl) (fun _ _ _ h => h) (Or.inl ⟨by rfl, ?_⟩) (by assumption) ?_
        rotate_left
        · intro w hSw
          try dsimp only at hSw
          go_simp
          try with_reducible rfl
        try simp only [Act.put, List.setIfInBounds_toArray, List.set_cons_zero, List.set_cons_succ]
        refine wpAnyH_take (i := 15) (oi := o17_15) (v := ?_) rfl (by kernel_rfl) (by kernel_rfl) (by kernel_rfl) (fun _ _ _ h => h) (Or.inl ⟨by rfl, ?_⟩) (by assumption) ?_
        rotate_left
        · intro w hSw
          try dsimp only at hSw
          go_simp
          try with_reducible rfl
        try simp only [Act.put, List.setIfInBounds_toArray, List.set_cons_zero, List.set_cons_succ]
        refine wpAnyH_take (i := 17) (oi := o17_17) (v := ?_) rfl (by kernel_rfl) (by kernel_rfl) (by kernel_rfl) (fun _ _ _ h => h) (Or.inl ⟨by rfl, ?_⟩) (by assumption) ?_
        rotate_left
        · intro w hSw
          try dsimp only at hSw
          go_simp
          try with_reducible rfl
        try simp only [Act.put, List.setIfInBounds_toArray, List.set_cons_zero, List.set_cons_succ]
        refine wpAnyH_ready (rs := [16]) (by kernel_rfl) (by simp) ?_
        refine AllReadyH.cons (o := o17_16) rfl (fun K hK => ?_) AllReadyH.nil
        go_simp
        refine (OD.out _ (HT.out.below (bstep B hHeld.2.2.2.2.2.2.2))).mono ?_
        rintro e v4 ⟨rfl, hbv4⟩
        have HBx := Lib.hid (bstep hHeld.2.2.2.2.2.2.2 hbv4)
        clear hHeld hbv4
        refine hK.out _ _ ?_ (fun hHeld => ?_)
        · exact keepW P5.out.1 PQ.out.1 HBx.out
        clear hK K HBx
        try simp only [Act.put, List.setIfInBounds_toArray, List.set_cons_zero, List.set_cons_succ]
        refine wpAnyH_take (i := 18) (oi := o17_18) (v := ?_) rfl (by kernel_rfl) (by kernel_rfl) (by kernel_rfl) (fun _ _ _ h => h) (Or.inl ⟨by rfl, ?_⟩) (by assumption) ?_
        rotate_left
        · intro w hSw
          try dsimp only at hSw
          go_simp
          try with_reducible rfl
        try simp only [Act.put, List.setIfInBounds_toArray, List.set_cons_zero, List.set_cons_succ]
        refine wpAnyH_take (i := 19) (oi := o17_19) (v := ?_) rfl (by kernel_rfl) (by kernel_rfl) (by kernel_rfl) (fun _ _ _ h => h) (Or.inl ⟨by rfl, ?_⟩) (by assumption) ?_
        rotate_left
        · intro w hSw
          try dsimp only at hSw
          go_simp
          try with_reducible rfl
        try simp only [Act.put, List.setIfInBounds_toArray, List.set_cons_zero, List.set_cons_succ]
        refine wpAnyH_take (i := 20) (oi := o17_20) (v := ?_) rfl (by kernel_rfl) (by kernel_rfl) (by kernel_rfl) (fun _ _ _ h => h) (Or.inl ⟨by rfl, ?_⟩) (by assumption) ?_
        rotate_left
        · intro w hSw
          try dsimp only at hSw
          go_simp
          try with_reducible rfl
        try simp only [Act.put, List.setIfInBounds_toArray, List.set_cons_zero, List.set_cons_succ]
        refine wpAnyH_take (i := 21) (oi := o17_21) (v := ?_) rfl (by kernel_rfl) (by kernel_rfl) (by kernel_rfl) (fun _ _ _ h => h) (Or.inl ⟨by rfl, ?_⟩) (by assumption) ?_
        rotate_left
        · intro w hSw
          try dsimp only at hSw
          go_simp
          try with_reducible rfl
        try simp only [Act.put, List.setIfInBounds_toArray, List.set_cons_zero, List.set_cons_succ]
        refine wpAnyH_take (i := 22) (oi := o17_22) (v := ?_) rfl (by kernel_rfl) (by kernel_rfl) (by kernel_rfl) (fun _ _ _ h => h) (Or.inl ⟨by rfl, ?_⟩) (by assumption) ?_
        rotate_left
        · intro w hSw
          try dsimp only at hSw
          go_simp
          try with_reducible rfl
        try simp only [Act.put, List.setIfInBounds_toArray, List.set_cons_zero, List.set_cons_succ]
        refine wpAnyH_take (i := 23) (oi := o17_23) (v := ?_) rfl (by kernel_rfl) (by kernel_rfl) (by kernel_rfl) (fun _ _ _ h => h) (Or.inl ⟨by rfl, ?_⟩) (by assumption) ?_
        rotate_left
        · intro w hSw
          try dsimp only at hSw
          go_simp
          try with_reducible rfl
        try simp only [Act.put, List.setIfInBounds_toArray, List.set_cons_zero, List.set_cons_succ]
        refine wpAnyH_take (i := 24) (oi := o17_24) (v := ?_) rfl (by kernel_rfl) (by kernel_rfl) (by kernel_rfl) (fun _ _ _ h => h) (Or.inl ⟨by rfl, ?_⟩) (by assumption) ?_
        rotate_left
        · intro w hSw
          try dsimp only at hSw
          go_simp
          try with_reducible rfl
        try simp only [Act.put, List.setIfInBounds_toArray, List.set_cons_zero, List.set_cons_succ]
        refine wpAnyH_done (by kernel_rfl) ?_ _
        go_wp2
        go_ret
        exact ⟨rfl, bstep B hHeld.2.2.2.2.2.2.2⟩
    · by_cases pos : 0 < ea'
      · subst eA
        have tl : ((LVn : Int) == 0) = false := by simp; omega
        obtain ⟨ev, hev0⟩ : ∃ b, b = decide (c % 2 = 0) := ⟨_, rfl⟩
        rw [← hev0] at hp
        have tp : decide (0 < ea') = true := decide_eq_true pos
        have HEV := Lib.hid (show E = true → true = !od by intro t; rw [HOD.out t, decide_eq_false (show ¬ ea' = 0 by omega)]; rfl)
        clear pos
        clear HOD hev0
        obtain ⟨⟨c8_1, c8_2, c8_3⟩, -, c8_9⟩ := PF.out
        go_upto_region 17 with fail
        clear c8_1 c8_2 c8_3 c8_9
        clear tl ze hp hd
        cases E
        · clear HEV
          simp only [Bool.false_and] at EV OD
          refine wp_region_held_drew (S := fun w' => w'.cell? ⟨gP5, 0, none⟩ = some (.bool na') ∧ w'.cell? ⟨gP5, 1, none⟩ = some (.int .u64 (ah : Int)) ∧ w'.cell? ⟨gP5, 2, none⟩ = some (.int .u64 (al : Int)) ∧ w'.cell? ⟨gP5, 3, none⟩ = some (.int .i64 ea') ∧ w'.cell? ⟨gPQ, 0, none⟩ = some (.bool na') ∧ w'.cell? ⟨gPQ, 1, none⟩ = some (.slice (some ⟨gd, 0, none⟩) LVn VC) ∧ w'.cell? ⟨gPQ, 2, none⟩ = some (.int .i64 ea') ∧ Below y6.heap.size y6 w') (by kernel_rfl) ?_ (fun hHeld => ?_)
          · exact keepW P5.out.1 PQ.out.1 (Below.refl _ _).drew
          refine wpAnyH_take (i := 0) (oi := o17_0) (v := ?_) rfl (by kernel_rfl) (by kernel_rfl) (by kernel_rfl) (fun _ _ _ h => h) (Or.inl ⟨by rfl, ?_⟩) (by assumption) ?_
          rotate_left
          · intro w hSw
            try dsimp only at hSw
            go_simp
            try with_reducible rfl
          try simp only [Act.put, List.setIfInBounds_toArray, List.set_cons_zero, List.set_cons_succ]
          refine wpAnyH_take (i := 1) (oi := o17_1) (v := ?_) rfl (by kernel_rfl) (by kernel_rfl) (by kernel_rfl) (fun _ _ _ h => h) (Or.inl ⟨by rfl, ?_⟩) (by assumption) ?_
          rotate_left
          · intro w hSw
            try dsimp only at hSw
            go_simp
            try with_reducible rfl
          try simp only [Act.put, List.setIfInBounds_toArray, List.set_cons_zero, List.set_cons_succ]
          refine wpAnyH_take (i := 3) (oi := o17_3) (v := ?_) rfl (by kernel_rfl) (by kernel_rfl) (by kernel_rfl) (fun _ _ _ h => h) (Or.inl ⟨by rfl, ?_⟩) (by assumption) ?_
          rotate_left
          · intro w hSw
            try dsimp only at hSw
            go_simp
            try with_reducible rfl
          try simp only [Act.put, List.setIfInBounds_toArray, List.set_cons_zero, List.set_cons_succ]
          refine wpAnyH_ready (rs := [2]) (by kernel_rfl) (by simp) ?_
          refine AllReadyH.cons (o := o17_2) rfl (fun K hK => ?_) AllReadyH.nil
          go_simp
          refine (WH.out _ (HT.out.below (bstep B hHeld.2.2.2.2.2.2.2))).mono ?_
          rintro e v1 ⟨wn, wh, wl, wx, hww, heq, rfl, hbv1⟩
          rw [WPX.out] at heq
          simp only [Prod.mk.injEq] at heq
          obtain ⟨e1, hq8, e3⟩ := heq
          replace e1 := e1.symm
          replace e3 := e3.symm
          subst e1 e3
          have LK := Lib.hid (fun v W (r : Row W v (Dg.dg (nv wh wl))) => like_yes na' wh wl ea' v hww W r)
          rw [hq8] at LK
          have RQ1 := Lib.hid (RP.out.below (bundrew hbv1))
          clear hq8 hww
          have HBx := Lib.hid (bstep hHeld.2.2.2.2.2.2.2 hbv1)
          clear hHeld hbv1
          refine hK.out _ _ ?_ (fun hHeld => ?_)
          · exact keepW P5.out.1 PQ.out.1 HBx.out
          clear hK K HBx
          try simp only [Act.put, List.setIfInBounds_toArray, List.set_cons_zero, List.set_cons_succ]
          refine wpAnyH_ready (rs := [4]) (by kernel_rfl) (by simp) ?_
          refine AllReadyH.cons (o := o17_4) rfl (fun K hK => ?_) AllReadyH.nil
          go_simp
          refine (LK.out _ _ RQ1.out).mono ?_
          rintro e v2 ⟨rfl, hbv2⟩
          clear RQ1
          have HBx := Lib.hid (bstep hHeld.2.2.2.2.2.2.2 hbv2)
          clear hHeld hbv2
          refine hK.out _ _ ?_ (fun hHeld => ?_)
          · exact keepW P5.out.1 PQ.out.1 HBx.out
          clear hK K HBx
          try simp only [Act.put, List.setIfInBounds_toArray, List.set_cons_zero, List.set_cons_succ]
          refine wpAnyH_take (i := 5) (oi := o17_5) (v := ?_) rfl (by kernel_rfl) (by kernel_rfl) (by kernel_rfl) (fun _ _ _ h => h) (Or.inl ⟨by rfl, ?_⟩) (by assumption) ?_
          rotate_left
          · intro w hSw
            try dsimp only at hSw
            go_simp
            try with_reducible rfl
          try simp only [Act.put, List.setIfInBounds_toArray, List.set_cons_zero, List.set_cons_succ]
          refine wpAnyH_take (i := 6) (oi := o17_6) (v := ?_) rfl (by kernel_rfl) (by kernel_rfl) (by kernel_rfl) (fun _ _ _ h => h) (Or.inl ⟨by rfl, ?_⟩) (by assumption) ?_
          rotate_left
          · intro w hSw
            try dsimp only at hSw
            go_simp
            try with_reducible rfl
          try simp only [Act.put, List.setIfInBounds_toArray, List.set_cons_zero, List.set_cons_succ]
          refine wpAnyH_take (i := 8) (oi := o17_8) (v := ?_) rfl (by kernel_rfl) (by kernel_rfl) (by kernel_rfl) (fun _ _ _ h => h) (Or.inl ⟨by rfl, ?_⟩) (by assumption) ?_
          rotate_left
          · intro w hSw
            try dsimp only at hSw
            go_simp
            try with_reducible rfl
          try simp only [Act.put, List.setIfInBounds_toArray, List.set_cons_zero, List.set_cons_succ]
          refine wpAnyH_ready (rs := [7]) (by kernel_rfl) (by simp) ?_
          refine AllReadyH.cons (o := o17_7) rfl (fun K hK => ?_) AllReadyH.nil
          go_simp
          refine (EV.out _ (HT.out.below (bstep B hHeld.2.2.2.2.2.2.2))).mono ?_
          rintro e v3 ⟨rfl, hbv3⟩
          have HBx := Lib.hid (bstep hHeld.2.2.2.2.2.2.2 hbv3)
          clear hHeld hbv3
          refine hK.out _ _ ?_ (fun hHeld => ?_)
          · exact keepW P5.out.1 PQ.out.1 HBx.out
          clear hK K HBx
          try simp only [Act.put, List.setIfInBounds_toArray, List.set_cons_zero, List.set_cons_succ]
          refine wpAnyH_take (i := 9) (oi := o17_9) (v := ?_) rfl (by kernel_rfl) (by kernel_rfl) (by kernel_rfl) (fun _ _ _ h => h) (Or.inl ⟨by rfl, ?_⟩) (by assumption) ?_
          rotate_left
          · intro w hSw
            try dsimp only at hSw
            go_simp
            try with_reducible rfl
          try simp only [Act.put, List.setIfInBounds_toArray, List.set_cons_zero, List.set_cons_succ]
          refine wpAnyH_take (i := 10) (oi := o17_10) (v := undef) rfl (by kernel_rfl) (by kernel_rfl) (by kernel_rfl) (fun _ _ _ h => h) (Or.inr ⟨by rfl, rfl⟩) (by assumption) ?_
          try simp only [Act.put, List.setIfInBounds_toArray, List.set_cons_zero, List.set_cons_succ]
          refine wpAnyH_take (i := 11) (oi := o17_11) (v := ?_) rfl (by kernel_rfl) (by kernel_rfl) (by kernel_rfl) (fun _ _ _ h => h) (Or.inl ⟨by rfl, ?_⟩) (by assumption) ?_
          rotate_left
          · intro w hSw
            try dsimp only at hSw
            go_simp
            try with_reducible rfl
          try simp only [Act.put, List.setIfInBounds_toArray, List.set_cons_zero, List.set_cons_succ]
          refine wpAnyH_take (i := 12) (oi := o17_12) (v := ?_) rfl (by kernel_rfl) (by kernel_rfl) (by kernel_rfl) (fun _ _ _ h => h) (Or.inl ⟨by rfl, ?_⟩) (by assumption) ?_
          rotate_left
          · intro w hSw
            try dsimp only at hSw
            go_simp
            try with_reducible rfl
          try simp only [Act.put, List.setIfInBounds_toArray, List.set_cons_zero, List.set_cons_succ]
          refine wpAnyH_take (i := 13) (oi := o17_13) (v := ?_) rfl (by kernel_rfl) (by kernel_rfl) (by kernel_rfl) (fun _ _ _ h => h) (Or.inl ⟨by rfl, ?_⟩) (by assumption) ?_
          rotate_left
          · intro w hSw
            try dsimp only at hSw
            go_simp
            try with_reducible rfl
          try simp only [Act.put, List.setIfInBounds_toArray, List.set_cons_zero, List.set_cons_succ]
          refine wpAnyH_take (i := 14) (oi := o17_14) (v := ?_) rfl (by kernel_rfl) (by kernel_rfl) (by kernel_rfl) (fun _ _ _ h => h) (Or.inl ⟨by rfl, ?_⟩) (by assumption) ?_
          rotate_left
          · intro w hSw
            try dsimp only at hSw
            go_simp
            try with_reducible rfl
          try simp only [Act.put, List.setIfInBounds_toArray, List.set_cons_zero, List.set_cons_succ]
          refine wpAnyH_take (i := 15) (oi := o17_15) (v := ?_) rfl (by kernel_rfl) (by kernel_rfl) (by kernel_rfl) (fun _ _ _ h => h) (Or.inl ⟨by rfl, ?_⟩) (by assumption) ?_
          rotate_left
          · intro w hSw
            try dsimp only at hSw
            go_simp
            try with_reducible rfl
          try simp only [Act.put, List.setIfInBounds_toArray, List.set_cons_zero, List.set_cons_succ]
          refine wpAnyH_take (i := 17) (oi := o17_17) (v := ?_) rfl (by kernel_rfl) (by kernel_rfl) (by kernel_rfl) (fun _ _ _ h => h) (Or.inl ⟨by rfl, ?_⟩) (by assumption) ?_
          rotate_left
          · intro w hSw
            try dsimp only at hSw
            go_simp
            try with_reducible rfl
          try simp only [Act.put, List.setIfInBounds_toArray, List.set_cons_zero, List.set_cons_succ]
          refine wpAnyH_ready (rs := [16]) (by kernel_rfl) (by simp) ?_
          refine AllReadyH.cons (o := o17_16) rfl (fun K hK => ?_) AllReadyH.nil
          go_simp
          refine (OD.out _ (HT.out.below (bstep B hHeld.2.2.2.2.2.2.2))).mono ?_
          rintro e v4 ⟨rfl, hbv4⟩
          have HBx := Lib.hid (bstep hHeld.2.2.2.2.2.2.2 hbv4)
          clear hHeld hbv4
          refine hK.out _ _ ?_ (fun hHeld => ?_)
          · exact keepW P5.out.1 PQ.out.1 HBx.out
          clear hK K HBx
          try simp only [Act.put, List.setIfInBounds_toArray, List.set_cons_zero, List.set_cons_succ]
          refine wpAnyH_take (i := 18) (oi := o17_18) (v := ?_) rfl (by kernel_rfl) (by kernel_rfl) (by kernel_rfl) (fun _ _ _ h => h) (Or.inl ⟨by rfl, ?_⟩) (by assumption) ?_
          rotate_left
          · intro w hSw
            try dsimp only at hSw
            go_simp
            try with_reducible rfl
          try simp only [Act.put, List.setIfInBounds_toArray, List.set_cons_zero, List.set_cons_succ]
          refine wpAnyH_take (i := 19) (oi := o17_19) (v := undef) rfl (by kernel_rfl) (by kernel_rfl) (by kernel_rfl) (fun _ _ _ h => h) (Or.inr ⟨by rfl, rfl⟩) (by assumption) ?_
          try simp only [Act.put, List.setIfInBounds_toArray, List.set_cons_zero, List.set_cons_succ]
          refine wpAnyH_take (i := 20) (oi := o17_20) (v := undef) rfl (by kernel_rfl) (by kernel_rfl) (by kernel_rfl) (fun _ _ _ h => h) (Or.inr ⟨by rfl, rfl⟩) (by assumption) ?_
          try simp only [Act.put, List.setIfInBounds_toArray, List.set_cons_zero, List.set_cons_succ]
          refine wpAnyH_take (i := 21) (oi := o17_21) (v := ?_) rfl (by kernel_rfl) (by kernel_rfl) (by kernel_rfl) (fun _ _ _ h => h) (Or.inl ⟨by rfl, ?_⟩) (by assumption) ?_
          rotate_left
          · intro w hSw
            try dsimp only at hSw
            go_simp
            try with_reducible rfl
          try simp only [Act.put, List.setIfInBounds_toArray, List.set_cons_zero, List.set_cons_succ]
          refine wpAnyH_take (i := 22) (oi := o17_22) (v := ?_) rfl (by kernel_rfl) (by kernel_rfl) (by kernel_rfl) (fun _ _ _ h => h) (Or.inl ⟨by rfl, ?_⟩) (by assumption) ?_
          rotate_left
          · intro w hSw
            try dsimp only at hSw
            go_simp
            try with_reducible rfl
          try simp only [Act.put, List.setIfInBounds_toArray, List.set_cons_zero, List.set_cons_succ]
          refine wpAnyH_take (i := 23) (oi := o17_23) (v := ?_) rfl (by kernel_rfl) (by kernel_rfl) (by kernel_rfl) (fun _ _ _ h => h) (Or.inl ⟨by rfl, ?_⟩) (by assumption) ?_
          rotate_left
          · intro w hSw
            try dsimp only at hSw
            go_simp
            try with_reducible rfl
          try simp only [Act.put, List.setIfInBounds_toArray, List.set_cons_zero, List.set_cons_succ]
          refine wpAnyH_take (i := 24) (oi := o17_24) (v := ?_) rfl (by kernel_rfl) (by kernel_rfl) (by kernel_rfl) (fun _ _ _ h => h) (Or.inl ⟨by rfl, ?_⟩) (by assumption) ?_
          rotate_left
          · intro w hSw
            try dsimp only at hSw
            go_simp
            try with_reducible rfl
          try simp only [Act.put, List.setIfInBounds_toArray, List.set_cons_zero, List.set_cons_succ]
          refine wpAnyH_done (by kernel_rfl) ?_ _
          go_wp2
          go_ret
          exact ⟨rfl, bstep B hHeld.2.2.2.2.2.2.2⟩
        · simp only [Bool.true_and] at EV OD
          have hev := HEV.out rfl
          clear HEV
          obtain rfl : od = false := by cases od; rfl; cases hev
          simp only [Bool.not_false] at EV
          clear hev
          refine wp_region_held_drew (S := fun w' => w'.cell? ⟨gP5, 0, none⟩ = some (.bool na') ∧ w'.cell? ⟨gP5, 1, none⟩ = some (.int .u64 (ah : Int)) ∧ w'.cell? ⟨gP5, 2, none⟩ = some (.int .u64 (al : Int)) ∧ w'.cell? ⟨gP5, 3, none⟩ = some (.int .i64 ea') ∧ w'.cell? ⟨gPQ, 0, none⟩ = some (.bool na') ∧ w'.cell? ⟨gPQ, 1, none⟩ = some (.slice (some ⟨gd, 0, none⟩) LVn VC) ∧ w'.cell? ⟨gPQ, 2, none⟩ = some (.int .i64 ea') ∧ Below y6.heap.size y6 w') (by kernel_rfl) ?_ (fun hHeld => ?_)
          · exact keepW P5.out.1 PQ.out.1 (Below.refl _ _).drew
          refine wpAnyH_take (i := 0) (oi := o17_0) (v := ?_) rfl (by kernel_rfl) (by kernel_rfl) (by kernel_rfl) (fun _ _ _ h => h) (Or.inl ⟨by rfl, ?_⟩) (by assumption) ?_
          rotate_left
          · intro w hSw
            try dsimp only at hSw
            go_simp
            try with_reducible rfl
          try simp only [Act.put, List.setIfInBounds_toArray, List.set_cons_zero, List.set_cons_succ]
          refine wpAnyH_take (i := 1) (oi := o17_1) (v := ?_) rfl (by kernel_rfl) (by kernel_rfl) (by kernel_rfl) (fun _ _ _ h => h) (Or.inl ⟨by rfl, ?_⟩) (by assumption) ?_
          rotate_left
          · intro w hSw
            try dsimp only at hSw
            go_simp
            try with_reducible rfl
          try simp only [Act.put, List.setIfInBounds_toArray, List.set_cons_zero, List.set_cons_succ]
          refine wpAnyH_take (i := 3) (oi := o17_3) (v := ?_) rfl (by kernel_rfl) (by kernel_rfl) (by kernel_rfl) (fun _ _ _ h => h) (Or.inl ⟨by rfl, ?_⟩) (by assumption) ?_
          rotate_left
          · intro w hSw
            try dsimp only at hSw
            go_simp
            try with_reducible rfl
          try simp only [Act.put, List.setIfInBounds_toArray, List.set_cons_zero, List.set_cons_succ]
          refine wpAnyH_ready (rs := [2]) (by kernel_rfl) (by simp) ?_
          refine AllReadyH.cons (o := o17_2) rfl (fun K hK => ?_) AllReadyH.nil
          go_simp
          refine (WH.out _ (HT.out.below (bstep B hHeld.2.2.2.2.2.2.2))).mono ?_
          rintro e v1 ⟨wn, wh, wl, wx, hww, heq, rfl, hbv1⟩
          rw [WPX.out] at heq
          simp only [Prod.mk.injEq] at heq
          obtain ⟨e1, hq8, e3⟩ := heq
          replace e1 := e1.symm
          replace e3 := e3.symm
          subst e1 e3
          have LK := Lib.hid (fun v W (r : Row W v (Dg.dg (nv wh wl))) => like_yes na' wh wl ea' v hww W r)
          rw [hq8] at LK
          have RQ1 := Lib.hid (RP.out.below (bundrew hbv1))
          clear hq8 hww
          have HBx := Lib.hid (bstep hHeld.2.2.2.2.2.2.2 hbv1)
          clear hHeld hbv1
          refine hK.out _ _ ?_ (fun hHeld => ?_)
          · exact keepW P5.out.1 PQ.out.1 HBx.out
          clear hK K HBx
          try simp only [Act.put, List.setIfInBounds_toArray, List.set_cons_zero, List.set_cons_succ]
          refine wpAnyH_ready (rs := [4]) (by kernel_rfl) (by simp) ?_
          refine AllReadyH.cons (o := o17_4) rfl (fun K hK => ?_) AllReadyH.nil
          go_simp
          refine (LK.out _ _ RQ1.out).mono ?_
          rintro e v2 ⟨rfl, hbv2⟩
          clear RQ1
          have HBx := Lib.hid (bstep hHeld.2.2.2.2.2.2.2 hbv2)
          clear hHeld hbv2
          refine hK.out _ _ ?_ (fun hHeld => ?_)
          · exact keepW P5.out.1 PQ.out.1 HBx.out
          clear hK K HBx
          try simp only [Act.put, List.setIfInBounds_toArray, List.set_cons_zero, List.set_cons_succ]
          refine wpAnyH_take (i := 5) (oi := o17_5) (v := ?_) rfl (by kernel_rfl) (by kernel_rfl) (by kernel_rfl) (fun _ _ _ h => h) (Or.inl ⟨by rfl, ?_⟩) (by assumption) ?_
          rotate_left
          · intro w hSw
            try dsimp only at hSw
            go_simp
            try with_reducible rfl
          try simp only [Act.put, List.setIfInBounds_toArray, List.set_cons_zero, List.set_cons_succ]
          refine wpAnyH_take (i := 6) (oi := o17_6) (v := ?_) rfl (by kernel_rfl) (by kernel_rfl) (by kernel_rfl) (fun _ _ _ h => h) (Or.inl ⟨by rfl, ?_⟩) (by assumption) ?_
          rotate_left
          · intro w hSw
            try dsimp only at hSw
            go_simp
            try with_reducible rfl
          try simp only [Act.put, List.setIfInBounds_toArray, List.set_cons_zero, List.set_cons_succ]
          refine wpAnyH_take (i := 8) (oi := o17_8) (v := ?_) rfl (by kernel_rfl) (by kernel_rfl) (by kernel_rfl) (fun _ _ _ h => h) (Or.inl ⟨by rfl, ?_⟩) (by assumption) ?_
          rotate_left
          · intro w hSw
            try dsimp only at hSw
            go_simp
            try with_reducible rfl
          try simp only [Act.put, List.setIfInBounds_toArray, List.set_cons_zero, List.set_cons_succ]
          refine wpAnyH_ready (rs := [7]) (by kernel_rfl) (by simp) ?_
          refine AllReadyH.cons (o := o17_7) rfl (fun K hK => ?_) AllReadyH.nil
          go_simp
          refine (EV.out _ (HT.out.below (bstep B hHeld.2.2.2.2.2.2.2))).mono ?_
          rintro e v3 ⟨rfl, hbv3⟩
          have HBx := Lib.hid (bstep hHeld.2.2.2.2.2.2.2 hbv3)
          clear hHeld hbv3
          refine hK.out _ _ ?_ (fun hHeld => ?_)
          · exact keepW P5.out.1 PQ.out.1 HBx.out
          clear hK K HBx
          try simp only [Act.put, List.setIfInBounds_toArray, List.set_cons_zero, List.set_cons_succ]
          refine wpAnyH_take (i := 9) (oi := o17_9) (v := ?_) rfl (by kernel_rfl) (by kernel_rfl) (by kernel_rfl) (fun _ _ _ h => h) (Or.inl ⟨by rfl, ?_⟩) (by assumption) ?_
          rotate_left
          · intro w hSw
            try dsimp only at hSw
            go_simp
            try with_reducible rfl
          try simp only [Act.put, List.setIfInBounds_toArray, List.set_cons_zero, List.set_cons_succ]
          refine wpAnyH_take (i := 10) (oi := o17_10) (v := ?_) rfl (by kernel_rfl) (by kernel_rfl) (by kernel_rfl) (fun _ _ _ h => h) (Or.inl ⟨by rfl, ?_⟩) (by assumption) ?_
          rotate_left
          · intro w hSw
            try dsimp only at hSw
            go_simp
            try with_reducible rfl
          try simp only [Act.put, List.setIfInBounds_toArray, List.set_cons_zero, List.set_cons_succ]
          refine wpAnyH_take (i := 11) (oi := o17_11) (v := ?_) rfl (by kernel_rfl) (by kernel_rfl) (by kernel_rfl) (fun _ _ _ h => h) (Or.inl ⟨by rfl, ?_⟩) (by assumption) ?_
          rotate_left
          · intro w hSw
            try dsimp only at hSw
            go_simp
            try with_reducible rfl
          try simp only [Act.put, List.setIfInBounds_toArray, List.set_cons_zero, List.set_cons_succ]
          refine wpAnyH_take (i := 12) (oi := o17_12) (v := ?_) rfl (by kernel_rfl) (by kernel_rfl) (by kernel_rfl) (fun _ _ _ h => h) (Or.inl ⟨by rfl, ?_⟩) (by assumption) ?_
          rotate_left
          · intro w hSw
            try dsimp only at hSw
            go_simp
            try with_reducible rfl
          try simp only [Act.put, List.setIfInBounds_toArray, List.set_cons_zero, List.set_cons_succ]
          refine wpAnyH_take (i := 13) (oi := o17_13) (v := ?_) rfl (by kernel_rfl) (by kernel_rfl) (by kernel_rfl) (fun _ _ _ h => h) (Or.inl ⟨by rfl, ?_⟩) (by assumption) ?_
          rotate_left
          · intro w hSw
            try dsimp only at hSw
            go_simp
            try with_reducible rfl
          try simp only [Act.put, List.setIfInBounds_toArray, List.set_cons_zero, List.set_cons_succ]
          refine wpAnyH_take (i := 14) (oi := o17_14) (v := ?_) rfl (by kernel_rfl) (by kernel_rfl) (by kernel_rfl) (fun _ _ _ h => h) (Or.inl ⟨by rfl, ?_⟩) (by assumption) ?_
          rotate_left
          · intro w hSw
            try dsimp only at hSw
            go_simp
            try with_reducible rfl
          try simp only [Act.put, List.setIfInBounds_toArray, List.set_cons_zero, List.set_cons_succ]
          refine wpAnyH_take (i := 15) (oi := o17_15) (v := ?_) rfl (by kernel_rfl) (by kernel_rfl) (by kernel_rfl) (fun _ _ _ h => h) (Or.inl ⟨by rfl, ?_⟩) (by assumption) ?_
          rotate_left
          · intro w hSw
            try dsimp only at hSw
            go_simp
            try with_reducible rfl
          try simp only [Act.put, List.setIfInBounds_toArray, List.set_cons_zero, List.set_cons_succ]
          refine wpAnyH_take (i := 17) (oi := o17_17) (v := ?_) rfl (by kernel_rfl) (by kernel_rfl) (by kernel_rfl) (fun _ _ _ h => h) (Or.inl ⟨by rfl, ?_⟩) (by assumption) ?_
          rotate_left
          · intro w hSw
            try dsimp only at hSw
            go_simp
            try with_reducible rfl
          try simp only [Act.put, List.setIfInBounds_toArray, List.set_cons_zero, List.set_cons_succ]
          refine wpAnyH_ready (rs := [16]) (by kernel_rfl) (by simp) ?_
          refine AllReadyH.cons (o := o17_16) rfl (fun K hK => ?_) AllReadyH.nil
          go_simp
          refine (OD.out _ (HT.out.below (bstep B hHeld.2.2.2.2.2.2.2))).mono ?_
          rintro e v4 ⟨rfl, hbv4⟩
          have HBx := Lib.hid (bstep hHeld.2.2.2.2.2.2.2 hbv4)
          clear hHeld hbv4
          refine hK.out _ _ ?_ (fun hHeld => ?_)
          · exact keepW P5.out.1 PQ.out.1 HBx.out
          clear hK K HBx
          try simp only [Act.put, List.setIfInBounds_toArray, List.set_cons_zero, List.set_cons_succ]
          refine wpAnyH_take (i := 18) (oi := o17_18) (v := ?_) rfl (by kernel_rfl) (by kernel_rfl) (by kernel_rfl) (fun _ _ _ h => h) (Or.inl ⟨by rfl, ?_⟩) (by assumption) ?_
          rotate_left
          · intro w hSw
            try dsimp only at hSw
            go_simp
            try with_reducible rfl
          try simp only [Act.put, List.setIfInBounds_toArray, List.set_cons_zero, List.set_cons_succ]
          refine wpAnyH_take (i := 19) (oi := o17_19) (v := ?_) rfl (by kernel_rfl) (by kernel_rfl) (by kernel_rfl) (fun _ _ _ h => h) (Or.inl ⟨by rfl, ?_⟩) (by assumption) ?_
          rotate_left
          · intro w hSw
            try dsimp only at hSw
            go_simp
            try with_reducible rfl
          try simp only [Act.put, List.setIfInBounds_toArray, List.set_cons_zero, List.set_cons_succ]
          refine wpAnyH_take (i := 20) (oi := o17_20) (v := ?_) rfl (by kernel_rfl) (by kernel_rfl) (by kernel_rfl) (fun _ _ _ h => h) (Or.inl ⟨by rfl, ?_⟩) (by assumption) ?_
          rotate_left
          · intro w hSw
            try dsimp only at hSw
            go_simp
            try with_reducible rfl
          try simp only [Act.put, List.setIfInBounds_toArray, List.set_cons_zero, List.set_cons_succ]
          refine wpAnyH_take (i := 21) (oi := o17_21) (v := ?_) rfl (by kernel_rfl) (by kernel_rfl) (by kernel_rfl) (fun _ _ _ h => h) (Or.inl ⟨by rfl, ?_⟩) (by assumption) ?_
          rotate_left
          · intro w hSw
            try dsimp only at hSw
            go_simp
            try with_reducible rfl
          try simp only [Act.put, List.setIfInBounds_toArray, List.set_cons_zero, List.set_cons_succ]
          refine wpAnyH_take (i := 22) (oi := o17_22) (v := ?_) rfl (by kernel_rfl) (by kernel_rfl) (by kernel_rfl) (fun _ _ _ h => h) (Or.inl ⟨by rfl, ?_⟩) (by assumption) ?_
          rotate_left
          · intro w hSw
            try dsimp only at hSw
            go_simp
            try with_reducible rfl
          try simp only [Act.put, List.setIfInBounds_toArray, List.set_cons_zero, List.set_cons_succ]
          refine wpAnyH_take (i := 23) (oi := o17_23) (v := ?_) rfl (by kernel_rfl) (by kernel_rfl) (by kernel_rfl) (fun _ _ _ h => h) (Or.inl ⟨by rfl, ?_⟩) (by assumption) ?_
          rotate_left
          · intro w hSw
            try dsimp only at hSw
            go_simp
            try with_reducible rfl
          try simp only [Act.put, List.setIfInBounds_toArray, List.set_cons_zero, List.set_cons_succ]
          refine wpAnyH_take (i := 24) (oi := o17_24) (v := ?_) rfl (by kernel_rfl) (by kernel_rfl) (by kernel_rfl) (fun _ _ _ h => h) (Or.inl ⟨by rfl, ?_⟩) (by assumption) ?_
          rotate_left
          · intro w hSw
            try dsimp only at hSw
            go_simp
            try with_reducible rfl
          try simp only [Act.put, List.setIfInBounds_toArray, List.set_cons_zero, List.set_cons_succ]
          refine wpAnyH_done (by kernel_rfl) ?_ _
          go_wp2
          go_ret
          exact ⟨rfl, bstep B hHeld.2.2.2.2.2.2.2⟩
      · subst eA
        have tl : ((LVn : Int) == 0) = false := by simp; omega
        obtain ⟨ev, hev0⟩ : ∃ b, b = decide (c % 2 = 0) := ⟨_, rfl⟩
        rw [← hev0] at hp
        have tp : decide (0 < ea') = false := decide_eq_false pos
        have par : decide (c % 2 = 0) = !decide (c % 2 = 1) := by rcases Nat.mod_two_eq_zero_or_one (c) with y | y <;> rw [y] <;> rfl
        have HEV := Lib.hid (show E = true → ev = !od by intro t; rw [HOD.out t, decide_eq_true (show ea' = 0 by have := GE.out; omega), Bool.true_and, hev0, par])
        clear par pos
        clear HOD hev0
        obtain ⟨⟨c8_1, c8_2, c8_3⟩, -, c8_9⟩ := PF.out
        go_upto_region 17 with fail
        clear c8_1 c8_2 c8_3 c8_9
        clear tl ze hp hd
        cases E
        · clear HEV
          simp only [Bool.false_and] at EV OD
          refine wp_region_held_drew (S := fun w' => w'.cell? ⟨gP5, 0, none⟩ = some (.bool na') ∧ w'.cell? ⟨gP5, 1, none⟩ = some (.int .u64 (ah : Int)) ∧ w'.cell? ⟨gP5, 2, none⟩ = some (.int .u64 (al : Int)) ∧ w'.cell? ⟨gP5, 3, none⟩ = some (.int .i64 ea') ∧ w'.cell? ⟨gPQ, 0, none⟩ = some (.bool na') ∧ w'.cell? ⟨gPQ, 1, none⟩ = some (.slice (some ⟨gd, 0, none⟩) LVn VC) ∧ w'.cell? ⟨gPQ, 2, none⟩ = some (.int .i64 ea') ∧ Below y6.heap.size y6 w') (by kernel_rfl) ?_ (fun hHeld => ?_)
          · exact keepW P5.out.1 PQ.out.1 (Below.refl _ _).drew
          refine wpAnyH_take (i := 0) (oi := o17_0) (v := ?_) rfl (by kernel_rfl) (by kernel_rfl) (by kernel_rfl) (fun _ _ _ h => h) (Or.inl ⟨by rfl, ?_⟩) (by assumption) ?_
          rotate_left
          · intro w hSw
            try dsimp only at hSw
            go_simp
            try with_reducible rfl
          try simp only [Act.put, List.setIfInBounds_toArray, List.set_cons_zero, List.set_cons_succ]
          refine wpAnyH_take (i := 1) (oi := o17_1) (v := ?_) rfl (by kernel_rfl) (by kernel_rfl) (by kernel_rfl) (fun _ _ _ h => h) (Or.inl ⟨by rfl, ?_⟩) (by assumption) ?_
          rotate_left
          · intro w hSw
            try dsimp only at hSw
            go_simp
            try with_reducible rfl
          try simp only [Act.put, List.setIfInBounds_toArray, List.set_cons_zero, List.set_cons_succ]
          refine wpAnyH_take (i := 3) (oi := o17_3) (v := ?_) rfl (by kernel_rfl) (by kernel_rfl) (by kernel_rfl) (fun _ _ _ h => h) (Or.inl ⟨by rfl, ?_⟩) (by assumption) ?_
          rotate_left
          · intro w hSw
            try dsimp only at hSw
            go_simp
            try with_reducible rfl
          try simp only [Act.put, List.setIfInBounds_toArray, List.set_cons_zero, List.set_cons_succ]
          refine wpAnyH_ready (rs := [2]) (by kernel_rfl) (by simp) ?_
          refine AllReadyH.cons (o := o17_2) rfl (fun K hK => ?_) AllReadyH.nil
          go_simp
          refine (WH.out _ (HT.out.below (bstep B hHeld.2.2.2.2.2.2.2))).mono ?_
          rintro e v1 ⟨wn, wh, wl, wx, hww, heq, rfl, hbv1⟩
          rw [WPX.out] at heq
          simp only [Prod.mk.injEq] at heq
          obtain ⟨e1, hq8, e3⟩ := heq
          replace e1 := e1.symm
          replace e3 := e3.symm
          subst e1 e3
          have LK := Lib.hid (fun v W (r : Row W v (Dg.dg (nv wh wl))) => like_yes na' wh wl ea' v hww W r)
          rw [hq8] at LK
          have RQ1 := Lib.hid (RP.out.below (bundrew hbv1))
          clear hq8 hww
          have HBx := Lib.hid (bstep hHeld.2.2.2.2.2.2.2 hbv1)
          clear hHeld hbv1
          refine hK.out _ _ ?_ (fun hHeld => ?_)
          · exact keepW P5.out.1 PQ.out.1 HBx.out
          clear hK K HBx
          try simp only [Act.put, List.setIfInBounds_toArray, List.set_cons_zero, List.set_cons_succ]
          refine wpAnyH_ready (rs := [4]) (by kernel_rfl) (by simp) ?_
          refine AllReadyH.cons (o := o17_4) rfl (fun K hK => ?_) AllReadyH.nil
          go_simp
          refine (LK.out _ _ RQ1.out).mono ?_
          rintro e v2 ⟨rfl, hbv2⟩
          clear RQ1
          have HBx := Lib.hid (bstep hHeld.2.2.2.2.2.2.2 hbv2)
          clear hHeld hbv2
          refine hK.out _ _ ?_ (fun hHeld => ?_)
          · exact keepW P5.out.1 PQ.out.1 HBx.out
          clear hK K HBx
          try simp only [Act.put, List.setIfInBounds_toArray, List.set_cons_zero, List.set_cons_succ]
          refine wpAnyH_take (i := 5) (oi := o17_5) (v := ?_) rfl (by kernel_rfl) (by kernel_rfl) (by kernel_rfl) (fun _ _ _ h => h) (Or.inl ⟨by rfl, ?_⟩) (by assumption) ?_
          rotate_left
          · intro w hSw
            try dsimp only at hSw
            go_simp
            try with_reducible rfl
          try simp only [Act.put, List.setIfInBounds_toArray, List.set_cons_zero, List.set_cons_succ]
          refine wpAnyH_take (i := 6) (oi := o17_6) (v := ?_) rfl (by kernel_rfl) (by kernel_rfl) (by kernel_rfl) (fun _ _ _ h => h) (Or.inl ⟨by rfl, ?_⟩) (by assumption) ?_
          rotate_left
          · intro w hSw
            try dsimp only at hSw
            go_simp
            try with_reducible rfl
          try simp only [Act.put, List.setIfInBounds_toArray, List.set_cons_zero, List.set_cons_succ]
          refine wpAnyH_take (i := 8) (oi := o17_8) (v := ?_) rfl (by kernel_rfl) (by kernel_rfl) (by kernel_rfl) (fun _ _ _ h => h) (Or.inl ⟨by rfl, ?_⟩) (by assumption) ?_
          rotate_left
          · intro w hSw
            try dsimp only at hSw
            go_simp
            try with_reducible rfl
          try simp only [Act.put, List.setIfInBounds_toArray, List.set_cons_zero, List.set_cons_succ]
          refine wpAnyH_ready (rs := [7]) (by kernel_rfl) (by simp) ?_
          refine AllReadyH.cons (o := o17_7) rfl (fun K hK => ?_) AllReadyH.nil
          go_simp
          refine (EV.out _ (HT.out.below (bstep B hHeld.2.2.2.2.2.2.2))).mono ?_
          rintro e v3 ⟨rfl, hbv3⟩
          have HBx := Lib.hid (bstep hHeld.2.2.2.2.2.2.2 hbv3)
          clear hHeld hbv3
          refine hK.out _ _ ?_ (fun hHeld => ?_)
          · exact keepW P5.out.1 PQ.out.1 HBx.out
          clear hK K HBx
          try simp only [Act.put, List.setIfInBounds_toArray, List.set_cons_zero, List.set_cons_succ]
          refine wpAnyH_take (i := 9) (oi := o17_9) (v := ?_) rfl (by kernel_rfl) (by kernel_rfl) (by kernel_rfl) (fun _ _ _ h => h) (Or.inl ⟨by rfl, ?_⟩) (by assumption) ?_
          rotate_left
          · intro w hSw
            try dsimp only at hSw
            go_simp
            try with_reducible rfl
          try simp only [Act.put, List.setIfInBounds_toArray, List.set_cons_zero, List.set_cons_succ]
          refine wpAnyH_take (i := 10) (oi := o17_10) (v := undef) rfl (by kernel_rfl) (by kernel_rfl) (by kernel_rfl) (fun _ _ _ h => h) (Or.inr ⟨by rfl, rfl⟩) (by assumption) ?_
          try simp only [Act.put, List.setIfInBounds_toArray, List.set_cons_zero, List.set_cons_succ]
          refine wpAnyH_take (i := 11) (oi := o17_11) (v := ?_) rfl (by kernel_rfl) (by kernel_rfl) (by kernel_rfl) (fun _ _ _ h => h) (Or.inl ⟨by rfl, ?_⟩) (by assumption) ?_
          rotate_left
          · intro w hSw
            try dsimp only at hSw
            go_simp
            try with_reducible rfl
          try simp only [Act.put, List.setIfInBounds_toArray, List.set_cons_zero, List.set_cons_succ]
          refine wpAnyH_take (i := 12) (oi := o17_12) (v := ?_) rfl (by kernel_rfl) (by kernel_rfl) (by kernel_rfl) (fun _ _ _ h => h) (Or.inl ⟨by rfl, ?_⟩) (by assumption) ?_
          rotate_left
          · intro w hSw
            try dsimp only at hSw
            go_simp
            try with_reducible rfl
          try simp only [Act.put, List.setIfInBounds_toArray, List.set_cons_zero, List.set_cons_succ]
          refine wpAnyH_take (i := 13) (oi := o17_13) (v := ?_) rfl (by kernel_rfl) (by kernel_rfl) (by kernel_rfl) (fun _ _ _ h => h) (Or.inl ⟨by rfl, ?_⟩) (by assumption) ?_
          rotate_left
          · intro w hSw
            try dsimp only at hSw
            go_simp
            try with_reducible rfl
          try simp only [Act.put, List.setIfInBounds_toArray, List.set_cons_zero, List.set_cons_succ]
          refine wpAnyH_take (i := 14) (oi := o17_14) (v := ?_) rfl (by kernel_rfl) (by kernel_rfl) (by kernel_rfl) (fun _ _ _ h => h) (Or.inl ⟨by rfl, ?_⟩) (by assumption) ?_
          rotate_left
          · intro w hSw
            try dsimp only at hSw
            go_simp
            try with_reducible rfl
          try simp only [Act.put, List.setIfInBounds_toArray, List.set_cons_zero, List.set_cons_succ]
          refine wpAnyH_take (i := 15) (oi := o17_15) (v := ?_) rfl (by kernel_rfl) (by kernel_rfl) (by kernel_rfl) (fun _ _ _ h => h) (Or.inl ⟨by rfl, ?_⟩) (by assumption) ?_
          rotate_left
          · intro w hSw
            try dsimp only at hSw
            go_simp
            try with_reducible rfl
          try simp only [Act.put, List.setIfInBounds_toArray, List.set_cons_zero, List.set_cons_succ]
          refine wpAnyH_take (i := 17) (oi := o17_17) (v := ?_) rfl (by kernel_rfl) (by kernel_rfl) (by kernel_rfl) (fun _ _ _ h => h) (Or.inl ⟨by rfl, ?_⟩) (by assumption) ?_
          rotate_left
          · intro w hSw
            try dsimp only at hSw
            go_simp
            try with_reducible rfl
          try simp only [Act.put, List.setIfInBounds_toArray, List.set_cons_zero, List.set_cons_succ]
          refine wpAnyH_ready (rs := [16]) (by kernel_rfl) (by simp) ?_
          refine AllReadyH.cons (o := o17_16) rfl (fun K hK => ?_) AllReadyH.nil
          go_simp
          refine (OD.out _ (HT.out.below (bstep B hHeld.2.2.2.2.2.2.2))).mono ?_
          rintro e v4 ⟨rfl, hbv4⟩
          have HBx := Lib.hid (bstep hHeld.2.2.2.2.2.2.2 hbv4)
          clear hHeld hbv4
          refine hK.out _ _ ?_ (fun hHeld => ?_)
          · exact keepW P5.out.1 PQ.out.1 HBx.out
          clear hK K HBx
          try simp only [Act.put, List.setIfInBounds_toArray, List.set_cons_zero, List.set_cons_succ]
          refine wpAnyH_take (i := 18) (oi := o17_18) (v := ?_) rfl (by kernel_rfl) (by kernel_rfl) (by kernel_rfl) (fun _ _ _ h => h) (Or.inl ⟨by rfl, ?_⟩) (by assumption) ?_
          rotate_left
          · intro w hSw
            try dsimp only at hSw
            go_simp
            try with_reducible rfl
          try simp only [Act.put, List.setIfInBounds_toArray, List.set_cons_zero, List.set_cons_succ]
          refine wpAnyH_take (i := 19) (oi := o17_19) (v := undef) rfl (by kernel_rfl) (by kernel_rfl) (by kernel_rfl) (fun _ _ _ h => h) (Or.inr ⟨by rfl, rfl⟩) (by assumption) ?_
          try simp only [Act.put, List.setIfInBounds_toArray, List.set_cons_zero, List.set_cons_succ]
          refine wpAnyH_take (i := 20) (oi := o17_20) (v := undef) rfl (by kernel_rfl) (by kernel_rfl) (by kernel_rfl) (fun _ _ _ h => h) (Or.inr ⟨by rfl, rfl⟩) (by assumption) ?_
          try simp only [Act.put, List.setIfInBounds_toArray, List.set_cons_zero, List.set_cons_succ]
          refine wpAnyH_take (i := 21) (oi := o17_21) (v := ?_) rfl (by kernel_rfl) (by kernel_rfl) (by kernel_rfl) (fun _ _ _ h => h) (Or.inl ⟨by rfl, ?_⟩) (by assumption) ?_
          rotate_left
          · intro w hSw
            try dsimp only at hSw
            go_simp
            try with_reducible rfl
          try simp only [Act.put, List.setIfInBounds_toArray, List.set_cons_zero, List.set_cons_succ]
          refine wpAnyH_take (i := 22) (oi := o17_22) (v := ?_) rfl (by kernel_rfl) (by kernel_rfl) (by kernel_rfl) (fun _ _ _ h => h) (Or.inl ⟨by rfl, ?_⟩) (by assumption) ?_
          rotate_left
          · intro w hSw
            try dsimp only at hSw
            go_simp
            try with_reducible rfl
          try simp only [Act.put, List.setIfInBounds_toArray, List.set_cons_zero, List.set_cons_succ]
          refine wpAnyH_take (i := 23) (oi := o17_23) (v := ?_) rfl (by kernel_rfl) (by kernel_rfl) (by kernel_rfl) (fun _ _ _ h => h) (Or.inl ⟨by rfl, ?_⟩) (by assumption) ?_
          rotate_left
          · intro w hSw
            try dsimp only at hSw
            go_simp
            try with_reducible rfl
          try simp only [Act.put, List.setIfInBounds_toArray, List.set_cons_zero, List.set_cons_succ]
          refine wpAnyH_take (i := 24) (oi := o17_24) (v := ?_) rfl (by kernel_rfl) (by kernel_rfl) (by kernel_rfl) (fun _ _ _ h => h) (Or.inl ⟨by rfl, ?_⟩) (by assumption) ?_
          rotate_left
          · intro w hSw
            try dsimp only at hSw
            go_simp
            try with_reducible rfl
          try simp only [Act.put, List.setIfInBounds_toArray, List.set_cons_zero, List.set_cons_succ]
          refine wpAnyH_done (by kernel_rfl) ?_ _
          go_wp2
          go_ret
          exact ⟨rfl, bstep B hHeld.2.2.2.2.2.2.2⟩
        · simp only [Bool.true_and] at EV OD
          have hev := HEV.out rfl
          clear HEV
          subst hev
          refine wp_region_held_drew (S := fun w' => w'.cell? ⟨gP5, 0, none⟩ = some (.bool na') ∧ w'.cell? ⟨gP5, 1, none⟩ = some (.int .u64 (ah : Int)) ∧ w'.cell? ⟨gP5, 2, none⟩ = some (.int .u64 (al : Int)) ∧ w'.cell? ⟨gP5, 3, none⟩ = some (.int .i64 ea') ∧ w'.cell? ⟨gPQ, 0, none⟩ = some (.bool na') ∧ w'.cell? ⟨gPQ, 1, none⟩ = some (.slice (some ⟨gd, 0, none⟩) LVn VC) ∧ w'.cell? ⟨gPQ, 2, none⟩ = some (.int .i64 ea') ∧ Below y6.heap.size y6 w') (by kernel_rfl) ?_ (fun hHeld => ?_)
          · exact keepW P5.out.1 PQ.out.1 (Below.refl _ _).drew
          refine wpAnyH_take (i := 0) (oi := o17_0) (v := ?_) rfl (by kernel_rfl) (by kernel_rfl) (by kernel_rfl) (fun _ _ _ h => h) (Or.inl ⟨by rfl, ?_⟩) (by assumption) ?_
          rotate_left
          · intro w hSw
            try dsimp only at hSw
            go_simp
            try with_reducible rfl
          try simp only [Act.put, List.setIfInBounds_toArray, List.set_cons_zero, List.set_cons_succ]
          refine wpAnyH_take (i := 1) (oi := o17_1) (v := ?_) rfl (by kernel_rfl) (by kernel_rfl) (by kernel_rfl) (fun _ _ _ h => h) (Or.inl ⟨by rfl, ?_⟩) (by assumption) ?_
          rotate_left
          · intro w hSw
            try dsimp only at hSw
            go_simp
            try with_reducible rfl
          try simp only [Act.put, List.setIfInBounds_toArray, List.set_cons_zero, List.set_cons_succ]
          refine wpAnyH_take (i := 3) (oi := o17_3) (v := ?_) rfl (by kernel_rfl) (by kernel_rfl) (by kernel_rfl) (fun _ _ _ h => h) (Or.inl ⟨by rfl, ?_⟩) (by assumption) ?_
          rotate_left
          · intro w hSw
            try dsimp only at hSw
            go_simp
            try with_reducible rfl
          try simp only [Act.put, List.setIfInBounds_toArray, List.set_cons_zero, List.set_cons_succ]
          refine wpAnyH_ready (rs := [2]) (by kernel_rfl) (by simp) ?_
          refine AllReadyH.cons (o := o17_2) rfl (fun K hK => ?_) AllReadyH.nil
          go_simp
          refine (WH.out _ (HT.out.below (bstep B hHeld.2.2.2.2.2.2.2))).mono ?_
          rintro e v1 ⟨wn, wh, wl, wx, hww, heq, rfl, hbv1⟩
          rw [WPX.out] at heq
          simp only [Prod.mk.injEq] at heq
          obtain ⟨e1, hq8, e3⟩ := heq
          replace e1 := e1.symm
          replace e3 := e3.symm
          subst e1 e3
          have LK := Lib.hid (fun v W (r : Row W v (Dg.dg (nv wh wl))) => like_yes na' wh wl ea' v hww W r)
          rw [hq8] at LK
          have RQ1 := Lib.hid (RP.out.below (bundrew hbv1))
          clear hq8 hww
          have HBx := Lib.hid (bstep hHeld.2.2.2.2.2.2.2 hbv1)
          clear hHeld hbv1
          refine hK.out _ _ ?_ (fun hHeld => ?_)
          · exact keepW P5.out.1 PQ.out.1 HBx.out
          clear hK K HBx
          try simp only [Act.put, List.setIfInBounds_toArray, List.set_cons_zero, List.set_cons_succ]
          refine wpAnyH_ready (rs := [4]) (by kernel_rfl) (by simp) ?_
          refine AllReadyH.cons (o := o17_4) rfl (fun K hK => ?_) AllReadyH.nil
          go_simp
          refine (LK.out _ _ RQ1.out).mono ?_
          rintro e v2 ⟨rfl, hbv2⟩
          clear RQ1
          have HBx := Lib.hid (bstep hHeld.2.2.2.2.2.2.2 hbv2)
          clear hHeld hbv2
          refine hK.out _ _ ?_ (fun hHeld => ?_)
          · exact keepW P5.out.1 PQ.out.1 HBx.out
          clear hK K HBx
          try simp only [Act.put, List.setIfInBounds_toArray, List.set_cons_zero, List.set_cons_succ]
          refine wpAnyH_take (i := 5) (oi := o17_5) (v := ?_) rfl (by kernel_rfl) (by kernel_rfl) (by kernel_rfl) (fun _ _ _ h => h) (Or.inl ⟨by rfl, ?_⟩) (by assumption) ?_
          rotate_left
          · intro w hSw
            try dsimp only at hSw
            go_simp
            try with_reducible rfl
          try simp only [Act.put, List.setIfInBounds_toArray, List.set_cons_zero, List.set_cons_succ]
          refine wpAnyH_take (i := 6) (oi := o17_6) (v := ?_) rfl (by kernel_rfl) (by kernel_rfl) (by kernel_rfl) (fun _ _ _ h => h) (Or.inl ⟨by rfl, ?_⟩) (by assumption) ?_
          rotate_left
          · intro w hSw
            try dsimp only at hSw
            go_simp
            try with_reducible rfl
          try simp only [Act.put, List.setIfInBounds_toArray, List.set_cons_zero, List.set_cons_succ]
          refine wpAnyH_take (i := 8) (oi := o17_8) (v := ?_) rfl (by kernel_rfl) (by kernel_rfl) (by kernel_rfl) (fun _ _ _ h => h) (Or.inl ⟨by rfl, ?_⟩) (by assumption) ?_
          rotate_left
          · intro w hSw
            try dsimp only at hSw
            go_simp
            try with_reducible rfl
          try simp only [Act.put, List.setIfInBounds_toArray, List.set_cons_zero, List.set_cons_succ]
          refine wpAnyH_ready (rs := [7]) (by kernel_rfl) (by simp) ?_
          refine AllReadyH.cons (o := o17_7) rfl (fun K hK => ?_) AllReadyH.nil
          go_simp
          refine (EV.out _ (HT.out.below (bstep B hHeld.2.2.2.2.2.2.2))).mono ?_
          rintro e v3 ⟨rfl, hbv3⟩
          have HBx := Lib.hid (bstep hHeld.2.2.2.2.2.2.2 hbv3)
          clear hHeld hbv3
          refine hK.out _ _ ?_ (fun hHeld => ?_)
          · exact keepW P5.out.1 PQ.out.1 HBx.out
          clear hK K HBx
          try simp only [Act.put, List.setIfInBounds_toArray, List.set_cons_zero, List.set_cons_succ]
          refine wpAnyH_take (i := 9) (oi := o17_9) (v := ?_) rfl (by kernel_rfl) (by kernel_rfl) (by kernel_rfl) (fun _ _ _ h => h) (Or.inl ⟨by rfl, ?_⟩) (by assumption) ?_
          rotate_left
          · intro w hSw
            try dsimp only at hSw
            go_simp
            try with_reducible rfl
          try simp only [Act.put, List.setIfInBounds_toArray, List.set_cons_zero, List.set_cons_succ]
          refine wpAnyH_take (i := 10) (oi := o17_10) (v := ?_) rfl (by kernel_rfl) (by kernel_rfl) (by kernel_rfl) (fun _ _ _ h => h) (Or.inl ⟨by rfl, ?_⟩) (by assumption) ?_
          rotate_left
          · intro w hSw
            try dsimp only at hSw
            go_simp
            try with_reducible rfl
          try simp only [Act.put, List.setIfInBounds_toArray, List.set_cons_zero, List.set_cons_succ]
          refine wpAnyH_take (i := 11) (oi := o17_11) (v := ?_) rfl (by kernel_rfl) (by kernel_rfl) (by kernel_rfl) (fun _ _ _ h => h) (Or.inl ⟨by rfl, ?_⟩) (by assumption) ?_
          rotate_left
          · intro w hSw
            try dsimp only at hSw
            go_simp
            try with_reducible rfl
          try simp only [Act.put, List.setIfInBounds_toArray, List.set_cons_zero, List.set_cons_succ]
          refine wpAnyH_take (i := 12) (oi := o17_12) (v := ?_) rfl (by kernel_rfl) (by kernel_rfl) (by kernel_rfl) (fun _ _ _ h => h) (Or.inl ⟨by rfl, ?_⟩) (by assumption) ?_
          rotate_left
          · intro w hSw
            try dsimp only at hSw
            go_simp
            try with_reducible rfl
          try simp only [Act.put, List.setIfInBounds_toArray, List.set_cons_zero, List.set_cons_succ]
          refine wpAnyH_take (i := 13) (oi := o17_13) (v := ?_) rfl (by kernel_rfl) (by kernel_rfl) (by kernel_rfl) (fun _ _ _ h => h) (Or.inl ⟨by rfl, ?_⟩) (by assumption) ?_
          rotate_left
          · intro w hSw
            try dsimp only at hSw
            go_simp
            try with_reducible rfl
          try simp only [Act.put, List.setIfInBounds_toArray, List.set_cons_zero, List.set_cons_succ]
          refine wpAnyH_take (i := 14) (oi := o17_14) (v := ?_) rfl (by kernel_rfl) (by kernel_rfl) (by kernel_rfl) (fun _ _ _ h => h) (Or.inl ⟨by rfl, ?_⟩) (by assumption) ?_
          rotate_left
          · intro w hSw
            try dsimp only at hSw
            go_simp
            try with_reducible rfl
          try simp only [Act.put, List.setIfInBounds_toArray, List.set_cons_zero, List.set_cons_succ]
          refine wpAnyH_take (i := 15) (oi := o17_15) (v := ?_) rfl (by kernel_rfl) (by kernel_rfl) (by kernel_rfl) (fun _ _ _ h => h) (Or.inl ⟨by rfl, ?_⟩) (by assumption) ?_
          rotate_left
          · intro w hSw
            try dsimp only at hSw
            go_simp
            try with_reducible rfl
          try simp only [Act.put, List.setIfInBounds_toArray, List.set_cons_zero, List.set_cons_succ]
          refine wpAnyH_take (i := 17) (oi := o17_17) (v := ?_) rfl (by kernel_rfl) (by kernel_rfl) (by kernel_rfl) (fun _ _ _ h => h) (Or.inl ⟨by rfl, ?_⟩) (by assumption) ?_
          rotate_left
          · intro w hSw
            try dsimp only at hSw
            go_simp
            try with_reducible rfl
          try simp only [Act.put, List.setIfInBounds_toArray, List.set_cons_zero, List.set_cons_succ]
          refine wpAnyH_ready (rs := [16]) (by kernel_rfl) (by simp) ?_
          refine AllReadyH.cons (o := o17_16) rfl (fun K hK => ?_) AllReadyH.nil
          go_simp
          refine (OD.out _ (HT.out.below (bstep B hHeld.2.2.2.2.2.2.2))).mono ?_
          rintro e v4 ⟨rfl, hbv4⟩
          have HBx := Lib.hid (bstep hHeld.2.2.2.2.2.2.2 hbv4)
          clear hHeld hbv4
          refine hK.out _ _ ?_ (fun hHeld => ?_)
          · exact keepW P5.out.1 PQ.out.1 HBx.out
          clear hK K HBx
          try simp only [Act.put, List.setIfInBounds_toArray, List.set_cons_zero, List.set_cons_succ]
          refine wpAnyH_take (i := 18) (oi := o17_18) (v := ?_) rfl (by kernel_rfl) (by kernel_rfl) (by kernel_rfl) (fun _ _ _ h => h) (Or.inl ⟨by rfl, ?_⟩) (by assumption) ?_
          rotate_left
          · intro w hSw
            try dsimp only at hSw
            go_simp
            try with_reducible rfl
          try simp only [Act.put, List.setIfInBounds_toArray, List.set_cons_zero, List.set_cons_succ]
          refine wpAnyH_take (i := 19) (oi := o17_19) (v := ?_) rfl (by kernel_rfl) (by kernel_rfl) (by kernel_rfl) (fun _ _ _ h => h) (Or.inl ⟨by rfl, ?_⟩) (by assumption) ?_
          rotate_left
          · intro w hSw
            try dsimp only at hSw
            go_simp
            try with_reducible rfl
          try simp only [Act.put, List.setIfInBounds_toArray, List.set_cons_zero, List.set_cons_succ]
          refine wpAnyH_take (i := 20) (oi := o17_20) (v := ?_) rfl (by kernel_rfl) (by kernel_rfl) (by kernel_rfl) (fun _ _ _ h => h) (Or.inl ⟨by rfl, ?_⟩) (by assumption) ?_
          rotate_left
          · intro w hSw
            try dsimp only at hSw
            go_simp
            try with_reducible rfl
          try simp only [Act.put, List.setIfInBounds_toArray, List.set_cons_zero, List.set_cons_succ]
          refine wpAnyH_take (i := 21) (oi := o17_21) (v := ?_) rfl (by kernel_rfl) (by kernel_rfl) (by kernel_rfl) (fun _ _ _ h => h) (Or.inl ⟨by rfl, ?_⟩) (by assumption) ?_
          rotate_left
          · intro w hSw
            try dsimp only at hSw
            go_simp
            try with_reducible rfl
          try simp only [Act.put, List.setIfInBounds_toArray, List.set_cons_zero, List.set_cons_succ]
          refine wpAnyH_take (i := 22) (oi := o17_22) (v := ?_) rfl (by kernel_rfl) (by kernel_rfl) (by kernel_rfl) (fun _ _ _ h => h) (Or.inl ⟨by rfl, ?_⟩) (by assumption) ?_
          rotate_left
          · intro w hSw
            try dsimp only at hSw
            go_simp
            try with_reducible rfl
          try simp only [Act.put, List.setIfInBounds_toArray, List.set_cons_zero, List.set_cons_succ]
          refine wpAnyH_take (i := 23) (oi := o17_23) (v := ?_) rfl (by kernel_rfl) (by kernel_rfl) (by kernel_rfl) (fun _ _ _ h => h) (Or.inl ⟨by rfl, ?_⟩) (by assumption) ?_
          rotate_left
          · intro w hSw
            try dsimp only at hSw
            go_simp
            try with_reducible rfl
          try simp only [Act.put, List.setIfInBounds_toArray, List.set_cons_zero, List.set_cons_succ]
          refine wpAnyH_take (i := 24) (oi := o17_24) (v := ?_) rfl (by kernel_rfl) (by kernel_rfl) (by kernel_rfl) (fun _ _ _ h => h) (Or.inl ⟨by rfl, ?_⟩) (by assumption) ?_
          rotate_left
          · intro w hSw
            try dsimp only at hSw
            go_simp
            try with_reducible rfl
          try simp only [Act.put, List.setIfInBounds_toArray, List.set_cons_zero, List.set_cons_succ]
          refine wpAnyH_done (by kernel_rfl) ?_ _
          go_wp2
          go_ret
          exact ⟨rfl, bstep B hHeld.2.2.2.2.2.2.2⟩
end Go.Proofs.YtncpdoeikebomaaDoor

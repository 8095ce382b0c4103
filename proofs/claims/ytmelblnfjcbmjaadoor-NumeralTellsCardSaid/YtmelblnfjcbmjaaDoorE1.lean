/-
  Decimal numbers of package dec as the program lays them; what is asked of one (Zero, Sign, Neg, Abs, May, Int), each as a contract of its call.
-/
import Derived.Test.YtmelblnfjcbmjaaDoorDg
namespace Go.Proofs.YtmelblnfjcbmjaaDoor
open Go.RowKit

/-- A number: sign, coefficient, exponent. -/
abbrev Dv (neg : Bool) (h l : Nat) (e : Int) : Value := .agg #[.bool neg, .int .u64 (h : Int), .int .u64 (l : Int), .int .i64 e]
def RetD (F : Bool → Nat → Nat → Int → Prop) (w : World) (e : Ending) (w' : World) : Prop := ∃ neg h l x, F neg h l x ∧ e = .returned (Dv neg h l x) ∧ Below w.heap.size w w'

/-- The four cells of a block hold a number. -/
def HoldsD (W : World) (g : Nat) (neg : Bool) (h l : Nat) (e : Int) : Prop :=
  (W.cell? ⟨g, 0, none⟩ = some (.bool neg) ∧ W.cell? ⟨g, 1, none⟩ = some (.int .u64 (h : Int)) ∧ W.cell? ⟨g, 2, none⟩ = some (.int .u64 (l : Int)) ∧ W.cell? ⟨g, 3, none⟩ = some (.int .i64 e)) ∧
  (W.frozen? ⟨g, 0, none⟩ = false ∧ W.frozen? ⟨g, 1, none⟩ = false ∧ W.frozen? ⟨g, 2, none⟩ = false ∧ W.frozen? ⟨g, 3, none⟩ = false) ∧ g < W.heap.size
theorem HoldsD.below {W w1 : World} {g : Nat} {neg : Bool} {h l : Nat} {e : Int} (H : HoldsD W g neg h l e) (hb : Below W.heap.size W w1) : HoldsD w1 g neg h l e := by
  obtain ⟨⟨a, b, c, d⟩, ⟨a', b', c', d'⟩, s⟩ := H
  exact ⟨⟨(hb.cell s).trans a, (hb.cell s).trans b, (hb.cell s).trans c, (hb.cell s).trans d⟩, ⟨(hb.frozen s).trans a', (hb.frozen s).trans b', (hb.frozen s).trans c', (hb.frozen s).trans d'⟩, Nat.lt_of_lt_of_le s hb.size⟩
theorem HoldsD.alloc {W : World} {g : Nat} {neg : Bool} {h l : Nat} {e : Int} (H : HoldsD W g neg h l e) (o : Obj) : HoldsD (W.alloc o) g neg h l e := H.below ((Below.refl _ _).alloc (Nat.le_refl _) o)
theorem HoldsD.far {W : World} {g : Nat} {neg : Bool} {h l : Nat} {e : Int} (H : HoldsD W g neg h l e) {p : Addr} (hp : g ≠ p.block) (u : Value) : HoldsD (W.setCell p u) g neg h l e := by
  obtain ⟨⟨a, b, c, d⟩, ⟨a', b', c', d'⟩, s⟩ := H
  have k : (W.setCell p u).heap[g]? = W.heap[g]? := Below.heap_setCell W p u g hp
  exact ⟨⟨(World.cell?_of_block (a := ⟨g, 0, none⟩) k).trans a, (World.cell?_of_block (a := ⟨g, 1, none⟩) k).trans b, (World.cell?_of_block (a := ⟨g, 2, none⟩) k).trans c, (World.cell?_of_block (a := ⟨g, 3, none⟩) k).trans d⟩, ⟨(World.frozen?_of_block (a := ⟨g, 0, none⟩) k).trans a', (World.frozen?_of_block (a := ⟨g, 1, none⟩) k).trans b', (World.frozen?_of_block (a := ⟨g, 2, none⟩) k).trans c', (World.frozen?_of_block (a := ⟨g, 3, none⟩) k).trans d'⟩, by simpa [World.setCell] using s⟩

set_option maxHeartbeats 400000 in
theorem zeroD_any (neg : Bool) (h l : Nat) (x : Int) (w : World) : Calls Tryd.prog 48 #[Dv neg h l x] w (RetB (decide (nv h l = 0)) w) := by
  have Z := Lib.hid (zero_any h l)
  go_enter Tryd.func48, Tryd.ntmps48
  go_wp2_with fail
  refine (Z.out _).mono ?_
  rintro e w1 ⟨rfl, hb1⟩
  go_wp2
  go_ret
  exact ⟨rfl, bstep (by go_grown) hb1⟩

/-- The sign of a number. -/
def sgn (neg : Bool) (c : Nat) : Int := if c = 0 then 0 else if neg then -1 else 1

set_option maxHeartbeats 400000 in
theorem sign_any (neg : Bool) (h l : Nat) (x : Int) (w : World) : Calls Tryd.prog 13 #[Dv neg h l x] w (RetI (sgn neg (nv h l)) w) := by
  have Z := Lib.hid (zeroD_any neg h l x)
  unfold sgn
  by_cases z : nv h l = 0
  · rw [if_pos z]
    rw [decide_eq_true z] at Z
    clear z
    go_enter Tryd.func13, Tryd.ntmps13
    go_wp2_with fail
    refine (Z.out _).mono ?_
    rintro e w1 ⟨rfl, hb1⟩
    go_wp2
    go_ret
    exact ⟨rfl, bstep (by go_grown) hb1⟩
  · rw [if_neg z]
    rw [decide_eq_false z] at Z
    clear z
    cases neg
    · go_enter Tryd.func13, Tryd.ntmps13
      go_wp2_with fail
      refine (Z.out _).mono ?_
      rintro e w1 ⟨rfl, hb1⟩
      have B1 : Below w.heap.size w w1 := bstep (by go_grown) hb1
      have c : w1.cell? ⟨w.heap.size, 0, none⟩ = some (.bool false) := (hb1.cell (p := ⟨w.heap.size, 0, none⟩) (by simp)).trans (by simp [go_sem])
      clear hb1
      go_wp2
      go_ret
      exact ⟨rfl, B1⟩
    · go_enter Tryd.func13, Tryd.ntmps13
      go_wp2_with fail
      refine (Z.out _).mono ?_
      rintro e w1 ⟨rfl, hb1⟩
      have B1 : Below w.heap.size w w1 := bstep (by go_grown) hb1
      have c : w1.cell? ⟨w.heap.size, 0, none⟩ = some (.bool true) := (hb1.cell (p := ⟨w.heap.size, 0, none⟩) (by simp)).trans (by simp [go_sem])
      clear hb1
      go_wp2
      go_ret
      exact ⟨rfl, B1⟩

set_option maxHeartbeats 800000 in
theorem neg_any (neg : Bool) (h l : Nat) (x : Int) (w : World) : Calls Tryd.prog 58 #[Dv neg h l x] w (RetD (fun n h' l' x' => n = (!neg && !decide (nv h l = 0)) ∧ h' = h ∧ l' = l ∧ x' = x) w) := by
  have Z := Lib.hid (zeroD_any neg h l x)
  generalize decide (nv h l = 0) = z at *
  cases neg
  · cases z
    · -- not 0
      go_enter Tryd.func58, Tryd.ntmps58
      go_wp2_with fail
      refine (Z.out _).mono ?_
      rintro e w1 ⟨rfl, hb1⟩
      have B1 : Below w.heap.size w w1 := bstep (by go_grown) hb1
      obtain ⟨⟨a1, a2, a3, a4⟩, ⟨a5, a6, a7, a8⟩, a9⟩ := (show HoldsD _ w.heap.size false h l x from by simp [HoldsD, go_sem]).below hb1
      obtain ⟨⟨b1, b2, b3, b4⟩, ⟨b5, b6, b7, b8⟩, b9⟩ := (show HoldsD _ (w.heap.size + 1) false 0 0 0 from by simp [HoldsD, go_sem]).below hb1
      clear hb1
      go_wp2
      refine bodyPost_ret (v := Dv true h l x) (by simp [results, Tryd.results58, go_sem, *]) rfl ⟨_, _, _, _, ⟨rfl, rfl, rfl, rfl⟩, rfl, ?_⟩
      clear a1 a2 a3 a4 a5 a6 a7 a8 a9 b1 b2 b3 b4 b5 b6 b7 b8 b9
      go_grown
    · -- 0
      go_enter Tryd.func58, Tryd.ntmps58
      go_wp2_with fail
      refine (Z.out _).mono ?_
      rintro e w1 ⟨rfl, hb1⟩
      have B1 : Below w.heap.size w w1 := bstep (by go_grown) hb1
      obtain ⟨⟨a1, a2, a3, a4⟩, ⟨a5, a6, a7, a8⟩, a9⟩ := (show HoldsD _ w.heap.size false h l x from by simp [HoldsD, go_sem]).below hb1
      obtain ⟨⟨b1, b2, b3, b4⟩, ⟨b5, b6, b7, b8⟩, b9⟩ := (show HoldsD _ (w.heap.size + 1) false 0 0 0 from by simp [HoldsD, go_sem]).below hb1
      clear hb1
      go_wp2
      refine bodyPost_ret (v := Dv false h l x) (by simp [results, Tryd.results58, go_sem, *]) rfl ⟨_, _, _, _, ⟨rfl, rfl, rfl, rfl⟩, rfl, ?_⟩
      clear a1 a2 a3 a4 a5 a6 a7 a8 a9 b1 b2 b3 b4 b5 b6 b7 b8 b9
      go_grown
  · go_enter Tryd.func58, Tryd.ntmps58
    go_wp2
    refine bodyPost_ret (v := Dv false h l x) (by simp [results, Tryd.results58, go_sem, *]) rfl ⟨_, _, _, _, ⟨rfl, rfl, rfl, rfl⟩, rfl, ?_⟩
    go_grown

/-- Which numbers there may be. -/
def mayD (neg : Bool) (c : Nat) (x : Int) : Bool := !(neg && decide (c = 0)) && (decide (c < 10 ^ 34) && (decide (-6176 ≤ x) && decide (x ≤ 6111)))

set_option maxHeartbeats 1000000 in
theorem may_any (neg : Bool) (h l : Nat) (x : Int) (ha : WW h l) (w : World) (ht : Tab w) : Calls Tryd.prog 31 #[Dv neg h l x] w (RetB (mayD neg (nv h l) x) w) := by
  have HT := Lib.hid ht
  have HA := Lib.hid ha
  clear ht ha
  unfold mayD
  by_cases bad : neg = true ∧ nv h l = 0
  · obtain ⟨rfl, z⟩ := bad
    rw [decide_eq_true z]
    go_enter Tryd.func31, Tryd.ntmps31
    go_wp2_with fail
    refine (zero_t z _).mono ?_
    rintro e w1 ⟨rfl, hb1⟩
    go_wp2
    go_ret
    exact ⟨rfl, bstep (by go_grown) hb1⟩
  · have e0 : (!(neg && decide (nv h l = 0))) = true := by
      cases neg
      · rfl
      · have : ¬ nv h l = 0 := fun z => bad ⟨rfl, z⟩
        simp [this]
    rw [e0, Bool.true_and]
    clear e0
    cases neg
    · go_enter Tryd.func31, Tryd.ntmps31
      go_wp2_with fail
      have B0 : Below w.heap.size w (w.alloc (.cells #[.bool false, .int .u64 (h : Int), .int .u64 (l : Int), .int .i64 x] 28)) := by go_grown
      have HD := Lib.hid (show HoldsD (w.alloc (.cells #[.bool false, .int .u64 (h : Int), .int .u64 (l : Int), .int .i64 x] 28)) w.heap.size false h l x from by simp [HoldsD, go_sem])
      refine (ten_yes 34 (by decide) _ (HT.out.below B0)).mono ?_
      rintro e w2 ⟨th, tl, P, rfl, hb2⟩
      have HP := Lib.hid P
      have B2 : Below w.heap.size w w2 := bstep B0 hb2
      obtain ⟨⟨a1, a2, a3, a4⟩, ⟨a5, a6, a7, a8⟩, a9⟩ := HD.out.below hb2
      have HD := Lib.hid (HD.out.below hb2)
      clear hb2 P B0
      have z1 : w.heap.size < w2.heap.size + 1 := by omega
      go_wp2_with fail
      refine (cmp_any h l th tl HA.out HP.out.1 _).mono ?_
      rintro e w3 ⟨rfl, hb3⟩
      rw [HP.out.2]
      have B3 : Below w.heap.size w w3 := bstep (B2.alloc B2.size _) hb3
      clear a1 a2 a3 a4 a5 a6 a7 a8 a9
      obtain ⟨⟨a1, a2, a3, a4⟩, ⟨a5, a6, a7, a8⟩, a9⟩ := (HD.out.alloc _).below hb3
      clear hb3 B2 z1 HD
      by_cases c1 : nv h l < 10 ^ 34
      · rw [cmpN_lt c1]
        have C1 := Lib.hid c1
        clear c1
        by_cases c2 : -6176 ≤ x
        · have t2 : decide (-6176 ≤ x) = true := decide_eq_true c2
          by_cases c3 : x ≤ 6111
          · have t3 : decide (x ≤ 6111) = true := decide_eq_true c3
            go_wp2
            go_ret
            exact ⟨by rw [decide_eq_true C1.out, t2, t3]; rfl, B3⟩
          · have t3 : decide (x ≤ 6111) = false := decide_eq_false c3
            go_wp2
            go_ret
            exact ⟨by rw [decide_eq_true C1.out, t2, t3]; rfl, B3⟩
        · have t2 : decide (-6176 ≤ x) = false := decide_eq_false c2
          go_wp2
          go_ret
          exact ⟨by rw [decide_eq_true C1.out, t2]; rfl, B3⟩
      · have C1 := Lib.hid c1
        have t1 : decide (cmpN (nv h l) (10 ^ 34) < 0) = false := by
          rcases cmpN_range (nv h l) (10 ^ 34) with ⟨e, e'⟩ | ⟨e, _⟩ | ⟨e, _⟩
          · exact absurd e' c1
          · rw [e]; decide
          · rw [e]; decide
        generalize cmpN (nv h l) (10 ^ 34) = cv at *
        clear c1
        go_wp2
        go_ret
        exact ⟨by rw [decide_eq_false C1.out]; rfl, B3⟩
    · have nz : nv h l ≠ 0 := fun z => bad ⟨rfl, z⟩
      go_enter Tryd.func31, Tryd.ntmps31
      go_wp2_with fail
      refine (zero_f nz _).mono ?_
      rintro e w1 ⟨rfl, hb1⟩
      have B0 : Below w.heap.size w w1 := bstep (by go_grown) hb1
      have HD := Lib.hid ((show HoldsD _ w.heap.size true h l x from by simp [HoldsD, go_sem]).below hb1)
      clear hb1 nz
      go_wp2_with fail
      refine (ten_yes 34 (by decide) _ (HT.out.below B0)).mono ?_
      rintro e w2 ⟨th, tl, P, rfl, hb2⟩
      have HP := Lib.hid P
      have B2 : Below w.heap.size w w2 := bstep B0 hb2
      obtain ⟨⟨a1, a2, a3, a4⟩, ⟨a5, a6, a7, a8⟩, a9⟩ := HD.out.below hb2
      have HD := Lib.hid (HD.out.below hb2)
      clear hb2 P B0
      have z1 : w.heap.size < w2.heap.size + 1 := by omega
      go_wp2_with fail
      refine (cmp_any h l th tl HA.out HP.out.1 _).mono ?_
      rintro e w3 ⟨rfl, hb3⟩
      rw [HP.out.2]
      have B3 : Below w.heap.size w w3 := bstep (B2.alloc B2.size _) hb3
      clear a1 a2 a3 a4 a5 a6 a7 a8 a9
      obtain ⟨⟨a1, a2, a3, a4⟩, ⟨a5, a6, a7, a8⟩, a9⟩ := (HD.out.alloc _).below hb3
      clear hb3 B2 z1 HD
      by_cases c1 : nv h l < 10 ^ 34
      · rw [cmpN_lt c1]
        have C1 := Lib.hid c1
        clear c1
        by_cases c2 : -6176 ≤ x
        · have t2 : decide (-6176 ≤ x) = true := decide_eq_true c2
          by_cases c3 : x ≤ 6111
          · have t3 : decide (x ≤ 6111) = true := decide_eq_true c3
            go_wp2
            go_ret
            exact ⟨by rw [decide_eq_true C1.out, t2, t3]; rfl, B3⟩
          · have t3 : decide (x ≤ 6111) = false := decide_eq_false c3
            go_wp2
            go_ret
            exact ⟨by rw [decide_eq_true C1.out, t2, t3]; rfl, B3⟩
        · have t2 : decide (-6176 ≤ x) = false := decide_eq_false c2
          go_wp2
          go_ret
          exact ⟨by rw [decide_eq_true C1.out, t2]; rfl, B3⟩
      · have C1 := Lib.hid c1
        have t1 : decide (cmpN (nv h l) (10 ^ 34) < 0) = false := by
          rcases cmpN_range (nv h l) (10 ^ 34) with ⟨e, e'⟩ | ⟨e, _⟩ | ⟨e, _⟩
          · exact absurd e' c1
          · rw [e]; decide
          · rw [e]; decide
        generalize cmpN (nv h l) (10 ^ 34) = cv at *
        clear c1
        go_wp2
        go_ret
        exact ⟨by rw [decide_eq_false C1.out]; rfl, B3⟩
end Go.Proofs.YtmelblnfjcbmjaaDoor

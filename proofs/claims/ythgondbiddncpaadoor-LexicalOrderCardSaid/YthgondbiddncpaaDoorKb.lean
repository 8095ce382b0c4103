/-
  Package clock: a time with an offset, so many seconds later, how far two times are apart and which one is ahead; the times of the statements (Make): each as a contract of its call.
-/
import Derived.Test.YthgondbiddncpaaDoorKa
namespace Go.Proofs.YthgondbiddncpaaDoor
open Go.RowKit

theorem B3 {w W : World} {g : Nat} (B : Below w.heap.size w W) (hg : w.heap.size ≤ g) (x y z : Value) : Below w.heap.size w (((W.setCell ⟨g, 0, none⟩ x).setCell ⟨g, 1, none⟩ y).setCell ⟨g, 2, none⟩ z) := ((B.setCell hg _).setCell hg _).setCell hg _

/-! ### At -/
set_option maxRecDepth 100000 in
set_option maxHeartbeats 1000000 in
theorem at_yes (s : Int) (z : Bool) (o n : Int) (h : mayM s true n = true) (w : World) : Calls Tryd.prog 46 #[Tm s z o, .int .i64 n] w (Ret (.tuple #[Tm s true n, .bool true]) w) := by
  have MD0 := mayM_any s true n
  rw [h] at MD0
  have MD := Lib.hid MD0
  clear MD0 h
  go_enter Tryd.func46, Tryd.ntmps46
  go_upto_region 1 with fail
  have P1 := Lib.hid (HoldsM.alloc (HoldsM.new rfl) _ : HoldsM ((w.alloc (TmC s z o)).alloc (TmC 0 false 0)) w.heap.size s z o)
  have P2 := Lib.hid (HoldsM.new (by simp) : HoldsM ((w.alloc (TmC s z o)).alloc (TmC 0 false 0)) (w.heap.size + 1) 0 false 0)
  have B := ballD1 (ballD1 (Below.refl w.heap.size w) (TmC s z o)) (TmC 0 false 0)
  change Code.wp _ _ _ _ ((w.alloc (TmC s z o)).alloc (TmC 0 false 0))
  generalize (w.alloc (TmC s z o)).alloc (TmC 0 false 0) = V at *
  obtain ⟨⟨a1, a2, a3⟩, ⟨a4, a5, a6⟩, a9⟩ := P1.out
  go_upto_region 2 with fail
  replace P1 := Lib.hid (P1.out.put1.put2 : HoldsM ((V.setCell ⟨w.heap.size, 1, none⟩ (.bool true)).setCell ⟨w.heap.size, 2, none⟩ (.int .i64 n)) w.heap.size s true n)
  replace P2 := Lib.hid ((P2.out.far (p := ⟨w.heap.size, 1, none⟩) (by simp) (.bool true)).far (p := ⟨w.heap.size, 2, none⟩) (by simp) (.int .i64 n))
  replace B := (B.setCell (p := ⟨w.heap.size, 1, none⟩) (Nat.le_refl _) (.bool true)).setCell (p := ⟨w.heap.size, 2, none⟩) (Nat.le_refl _) (.int .i64 n)
  change Code.wp _ _ _ _ ((V.setCell ⟨w.heap.size, 1, none⟩ (.bool true)).setCell ⟨w.heap.size, 2, none⟩ (.int .i64 n))
  clear a1 a2 a3 a4 a5 a6 a9
  generalize (V.setCell ⟨w.heap.size, 1, none⟩ (.bool true)).setCell ⟨w.heap.size, 2, none⟩ (.int .i64 n) = V2 at *
  clear V
  obtain ⟨⟨a1, a2, a3⟩, -, a9⟩ := P1.out
  go_wp2_with fail
  refine (MD.out _).mono ?_
  rintro e w1 ⟨rfl, hb⟩
  replace P1 := Lib.hid (P1.out.below hb)
  replace P2 := Lib.hid (P2.out.below hb)
  replace B := bstep B hb
  clear hb MD a1 a2 a3 a9
  obtain ⟨⟨a1, a2, a3⟩, -, a9⟩ := P1.out
  obtain ⟨⟨b1, b2, b3⟩, ⟨b4, b5, b6⟩, b9⟩ := P2.out
  go_wp2
  refine ret_via (v := .tuple #[Tm s true n, .bool true]) (fun V => HoldsM V (w.heap.size + 1) s true n) (fun VF hq => ?_) P2.out.put rfl ⟨rfl, B3 B (by omega) _ _ _⟩
  obtain ⟨⟨d1, d2, d3⟩, -, -⟩ := hq
  simp [results, Tryd.results46, go_sem, d1, d2, d3]
set_option maxRecDepth 100000 in
set_option maxHeartbeats 1000000 in
theorem at_no (s : Int) (z : Bool) (o n : Int) (h : mayM s true n = false) (w : World) : Calls Tryd.prog 46 #[Tm s z o, .int .i64 n] w (Ret (.tuple #[Tm 0 false 0, .bool false]) w) := by
  have MD0 := mayM_any s true n
  rw [h] at MD0
  have MD := Lib.hid MD0
  clear MD0 h
  go_enter Tryd.func46, Tryd.ntmps46
  go_upto_region 1 with fail
  have P1 := Lib.hid (HoldsM.alloc (HoldsM.new rfl) _ : HoldsM ((w.alloc (TmC s z o)).alloc (TmC 0 false 0)) w.heap.size s z o)
  have P2 := Lib.hid (HoldsM.new (by simp) : HoldsM ((w.alloc (TmC s z o)).alloc (TmC 0 false 0)) (w.heap.size + 1) 0 false 0)
  have B := ballD1 (ballD1 (Below.refl w.heap.size w) (TmC s z o)) (TmC 0 false 0)
  change Code.wp _ _ _ _ ((w.alloc (TmC s z o)).alloc (TmC 0 false 0))
  generalize (w.alloc (TmC s z o)).alloc (TmC 0 false 0) = V at *
  obtain ⟨⟨a1, a2, a3⟩, ⟨a4, a5, a6⟩, a9⟩ := P1.out
  go_upto_region 2 with fail
  replace P1 := Lib.hid (P1.out.put1.put2 : HoldsM ((V.setCell ⟨w.heap.size, 1, none⟩ (.bool true)).setCell ⟨w.heap.size, 2, none⟩ (.int .i64 n)) w.heap.size s true n)
  replace P2 := Lib.hid ((P2.out.far (p := ⟨w.heap.size, 1, none⟩) (by simp) (.bool true)).far (p := ⟨w.heap.size, 2, none⟩) (by simp) (.int .i64 n))
  replace B := (B.setCell (p := ⟨w.heap.size, 1, none⟩) (Nat.le_refl _) (.bool true)).setCell (p := ⟨w.heap.size, 2, none⟩) (Nat.le_refl _) (.int .i64 n)
  change Code.wp _ _ _ _ ((V.setCell ⟨w.heap.size, 1, none⟩ (.bool true)).setCell ⟨w.heap.size, 2, none⟩ (.int .i64 n))
  clear a1 a2 a3 a4 a5 a6 a9
  generalize (V.setCell ⟨w.heap.size, 1, none⟩ (.bool true)).setCell ⟨w.heap.size, 2, none⟩ (.int .i64 n) = V2 at *
  clear V
  obtain ⟨⟨a1, a2, a3⟩, -, a9⟩ := P1.out
  go_wp2_with fail
  refine (MD.out _).mono ?_
  rintro e w1 ⟨rfl, hb⟩
  replace P2 := Lib.hid (P2.out.below hb)
  replace B := bstep B hb
  clear hb MD a1 a2 a3 a9 P1
  obtain ⟨⟨b1, b2, b3⟩, ⟨b4, b5, b6⟩, b9⟩ := P2.out
  go_wp2
  refine ret_via (v := .tuple #[Tm 0 false 0, .bool false]) (fun V => HoldsM V (w.heap.size + 1) 0 false 0) (fun VF hq => ?_) P2.out.put rfl ⟨rfl, B3 B (by omega) _ _ _⟩
  obtain ⟨⟨d1, d2, d3⟩, -, -⟩ := hq
  simp [results, Tryd.results46, go_sem, d1, d2, d3]

/-! ### Make -/
/-- The offset of a time of the statements. -/
def offM (z : Bool) (o : Int) : Int := if z then o.tmod 64801 else 0
theorem tmodR (a : Int) {b : Int} (hb : 0 < b) : -b < a.tmod b ∧ a.tmod b < b := ⟨Int.lt_tmod_of_pos a hb, Int.tmod_lt_of_pos a hb⟩
theorem offM_range (z : Bool) (o : Int) : -64800 ≤ offM z o ∧ offM z o ≤ 64800 := by
  have := tmodR o (b := 64801) (by decide)
  unfold offM
  split <;> omega
theorem secM (s : Int) : (s.tmod 86400 + 86400).tmod 86400 = s % 86400 := by
  have h := tmodR s (b := 86400) (by decide)
  rw [Int.tmod_eq_emod_of_nonneg (by omega)]
  have := Int.tmod_add_mul_tdiv s 86400
  omega
theorem makeM_may (s : Int) (z : Bool) (o : Int) : mayM (s % 86400) z (offM z o) = true := by
  have h := offM_range z o
  have h1 := Int.emod_nonneg s (show (86400 : Int) ≠ 0 by decide)
  have h2 := Int.emod_lt_of_pos s (show (0 : Int) < 86400 by decide)
  have e : (z || offM z o == 0) = true := by cases z <;> simp [offM]
  unfold mayM
  rw [e, Bool.and_true]
  simp only [Bool.and_eq_true, decide_eq_true_eq]
  omega
set_option maxRecDepth 100000 in
set_option maxHeartbeats 1000000 in
theorem makeM_any (s : Int) (z : Bool) (o : Int) (w : World) : Calls Tryd.prog 29 #[.int .i64 s, .bool z, .int .i64 o] w (Ret (Tm (s % 86400) z (offM z o)) w) := by
  have e1 := secM s
  have r := tmodR s (b := 86400) (by decide)
  have f1 : wrap64 (s.tmod 86400 + 86400) = s.tmod 86400 + 86400 := I64.wrap' (by unfold I64; omega)
  have f2 : IntKind.i64.wrap (s.tmod 86400 + 86400) = s.tmod 86400 + 86400 := I64.wrap (by unfold I64; omega)
  generalize s % 86400 = S at *
  clear r
  cases z
  · rw [show offM false o = 0 from rfl]
    go_enter Tryd.func29, Tryd.ntmps29
    go_upto_region 1 with fail
    have PT := Lib.hid (HoldsM.new rfl : HoldsM (w.alloc (TmC 0 false 0)) w.heap.size 0 false 0)
    have B : Below w.heap.size w (w.alloc (TmC 0 false 0)) := by go_grown
    change Code.wp _ _ _ _ (w.alloc (TmC 0 false 0))
    generalize w.alloc (TmC 0 false 0) = V at *
    obtain ⟨⟨a1, a2, a3⟩, ⟨a4, a5, a6⟩, a9⟩ := PT.out
    go_upto_region 2 with fail
    have PU := Lib.hid (HoldsM.new rfl : HoldsM (V.alloc (TmC S false 0)) V.heap.size S false 0)
    replace PT := Lib.hid (PT.out.alloc (TmC S false 0))
    replace B := ballD1 B (TmC S false 0)
    have sz := B.size
    change Code.wp _ _ _ _ (V.alloc (TmC S false 0))
    clear a1 a2 a3 a4 a5 a6
    obtain ⟨g, hg⟩ : ∃ g, g = V.heap.size := ⟨_, rfl⟩
    rw [← hg] at PU a9 ⊢
    have ne : w.heap.size ≠ g := Nat.ne_of_lt a9
    generalize V.alloc (TmC S false 0) = V2 at *
    clear hg a9 sz V
    obtain ⟨⟨a1, a2, a3⟩, ⟨a4, a5, a6⟩, a9⟩ := PT.out
    obtain ⟨⟨b1, b2, b3⟩, ⟨b4, b5, b6⟩, b9⟩ := PU.out
    go_wp2
    refine ret_via (v := Tm S false 0) (fun V => HoldsM V w.heap.size S false 0) (fun VF hq => ?_) PT.out.put rfl ⟨rfl, B3 B (Nat.le_refl _) _ _ _⟩
    obtain ⟨⟨d1, d2, d3⟩, -, -⟩ := hq
    simp [results, Tryd.results29, go_sem, d1, d2, d3]
  · rw [show offM true o = o.tmod 64801 from rfl]
    go_enter Tryd.func29, Tryd.ntmps29
    go_upto_region 1 with fail
    have PT := Lib.hid (HoldsM.new rfl : HoldsM (w.alloc (TmC 0 false 0)) w.heap.size 0 false 0)
    have B : Below w.heap.size w (w.alloc (TmC 0 false 0)) := by go_grown
    change Code.wp _ _ _ _ (w.alloc (TmC 0 false 0))
    generalize w.alloc (TmC 0 false 0) = V at *
    obtain ⟨⟨a1, a2, a3⟩, ⟨a4, a5, a6⟩, a9⟩ := PT.out
    go_upto_region 2 with fail
    have PU := Lib.hid (HoldsM.new rfl : HoldsM (V.alloc (TmC S true 0)) V.heap.size S true 0)
    replace PT := Lib.hid (PT.out.alloc (TmC S true 0))
    replace B := ballD1 B (TmC S true 0)
    have sz := B.size
    change Code.wp _ _ _ _ (V.alloc (TmC S true 0))
    clear a1 a2 a3 a4 a5 a6
    obtain ⟨g, hg⟩ : ∃ g, g = V.heap.size := ⟨_, rfl⟩
    rw [← hg] at PU a9 ⊢
    have ne : w.heap.size ≠ g := Nat.ne_of_lt a9
    have le : w.heap.size ≤ g := Nat.le_of_lt a9
    generalize V.alloc (TmC S true 0) = V2 at *
    clear hg a9 sz V
    obtain ⟨⟨b1, b2, b3⟩, ⟨b4, b5, b6⟩, b9⟩ := PU.out
    go_upto_region 4 with fail
    replace PU := Lib.hid (PU.out.put2 (o := o.tmod 64801))
    replace PT := Lib.hid (PT.out.far (p := ⟨g, 2, none⟩) ne (.int .i64 (o.tmod 64801)))
    replace B := B.setCell (p := ⟨g, 2, none⟩) le (.int .i64 (o.tmod 64801))
    change Code.wp _ _ _ _ (V2.setCell ⟨g, 2, none⟩ (.int .i64 (o.tmod 64801)))
    clear b1 b2 b3 b4 b5 b6 b9
    generalize V2.setCell ⟨g, 2, none⟩ (.int .i64 (o.tmod 64801)) = V3 at *
    clear V2
    obtain ⟨⟨a1, a2, a3⟩, ⟨a4, a5, a6⟩, a9⟩ := PT.out
    obtain ⟨⟨b1, b2, b3⟩, ⟨b4, b5, b6⟩, b9⟩ := PU.out
    go_wp2
    refine ret_via (v := Tm S true (o.tmod 64801)) (fun V => HoldsM V w.heap.size S true (o.tmod 64801)) (fun VF hq => ?_) PT.out.put rfl ⟨rfl, B3 B (Nat.le_refl _) _ _ _⟩
    obtain ⟨⟨d1, d2, d3⟩, -, -⟩ := hq
    simp [results, Tryd.results29, go_sem, d1, d2, d3]

/-! ### Between and Cmp -/
set_option maxRecDepth 100000 in
set_option maxHeartbeats 1000000 in
theorem between_yes (s : Int) (z : Bool) (o : Int) (t : Int) (p : Int) (h : mayM s z o = true) (k : mayM t z p = true) (w : World) : Calls Tryd.prog 57 #[Tm s z o, Tm t z p] w (Ret (.tuple #[.int .i64 ((t - p) - (s - o)), .bool true]) w) := by
  have r1 := may_sec h
  have r2 := may_off h
  have r3 := may_sec k
  have r4 := may_off k
  have f1 : wrap64 (t - p) = t - p := I64.wrap' (by unfold I64; omega)
  have f2 : IntKind.i64.wrap (t - p) = t - p := I64.wrap (by unfold I64; omega)
  have f3 : wrap64 (s - o) = s - o := I64.wrap' (by unfold I64; omega)
  have f4 : IntKind.i64.wrap (s - o) = s - o := I64.wrap (by unfold I64; omega)
  have f5 : wrap64 ((t - p) - (s - o)) = (t - p) - (s - o) := I64.wrap' (by unfold I64; omega)
  have f6 : IntKind.i64.wrap ((t - p) - (s - o)) = (t - p) - (s - o) := I64.wrap (by unfold I64; omega)
  have M10 := mayM_any s z o
  rw [h] at M10
  have M20 := mayM_any t z p
  rw [k] at M20
  have M1 := Lib.hid M10
  have M2 := Lib.hid M20
  clear M10 M20 h k r1 r2 r3 r4
  go_enter Tryd.func57, Tryd.ntmps57
  go_upto_region 1 with fail
  have P1 := Lib.hid (HoldsM.alloc (HoldsM.new rfl) _ : HoldsM ((w.alloc (TmC s z o)).alloc (TmC t z p)) w.heap.size s z o)
  have P2 := Lib.hid (HoldsM.new (by simp) : HoldsM ((w.alloc (TmC s z o)).alloc (TmC t z p)) (w.heap.size + 1) t z p)
  have B := ballD1 (ballD1 (Below.refl w.heap.size w) (TmC s z o)) (TmC t z p)
  change Code.wp _ _ _ _ ((w.alloc (TmC s z o)).alloc (TmC t z p))
  generalize (w.alloc (TmC s z o)).alloc (TmC t z p) = V at *
  obtain ⟨⟨a1, a2, a3⟩, -, a9⟩ := P1.out
  obtain ⟨⟨b1, b2, b3⟩, -, b9⟩ := P2.out
  go_wp2_with fail
  refine (M1.out _).mono ?_
  rintro e w1 ⟨rfl, hb⟩
  replace P1 := Lib.hid (P1.out.below hb)
  replace P2 := Lib.hid (P2.out.below hb)
  replace B := bstep B hb
  clear hb M1 a1 a2 a3 a9 b1 b2 b3 b9
  obtain ⟨⟨a1, a2, a3⟩, -, a9⟩ := P1.out
  obtain ⟨⟨b1, b2, b3⟩, -, b9⟩ := P2.out
  go_wp2_with fail
  refine (M2.out _).mono ?_
  rintro e w2 ⟨rfl, hb⟩
  replace P1 := Lib.hid (P1.out.below hb)
  replace P2 := Lib.hid (P2.out.below hb)
  replace B := bstep B hb
  clear hb M2 a1 a2 a3 a9 b1 b2 b3 b9
  obtain ⟨⟨a1, a2, a3⟩, -, a9⟩ := P1.out
  obtain ⟨⟨b1, b2, b3⟩, -, b9⟩ := P2.out
  have zz : (z != z) = false := by simp
  go_wp2
  refine ret_via (v := .tuple #[.int .i64 ((t - p) - (s - o)), .bool true]) (fun _ => True) (fun VF _ => ?_) trivial rfl ⟨rfl, B⟩
  simp [results, Tryd.results57, go_sem, *]
set_option maxRecDepth 100000 in
set_option maxHeartbeats 1000000 in
theorem between_no (s : Int) (z : Bool) (o : Int) (t : Int) (y : Bool) (p : Int) (h : (mayM s z o && mayM t y p && (z == y)) = false) (w : World) : Calls Tryd.prog 57 #[Tm s z o, Tm t y p] w (Ret (.tuple #[.int .i64 0, .bool false]) w) := by
  have M10 := mayM_any s z o
  have M20 := mayM_any t y p
  generalize mayM s z o = a at *
  generalize mayM t y p = b at *
  have M1 := Lib.hid M10
  have M2 := Lib.hid M20
  clear M10 M20
  go_enter Tryd.func57, Tryd.ntmps57
  go_upto_region 1 with fail
  have P1 := Lib.hid (HoldsM.alloc (HoldsM.new rfl) _ : HoldsM ((w.alloc (TmC s z o)).alloc (TmC t y p)) w.heap.size s z o)
  have P2 := Lib.hid (HoldsM.new (by simp) : HoldsM ((w.alloc (TmC s z o)).alloc (TmC t y p)) (w.heap.size + 1) t y p)
  have B := ballD1 (ballD1 (Below.refl w.heap.size w) (TmC s z o)) (TmC t y p)
  change Code.wp _ _ _ _ ((w.alloc (TmC s z o)).alloc (TmC t y p))
  generalize (w.alloc (TmC s z o)).alloc (TmC t y p) = V at *
  obtain ⟨⟨a1, a2, a3⟩, -, a9⟩ := P1.out
  obtain ⟨⟨b1, b2, b3⟩, -, b9⟩ := P2.out
  go_wp2_with fail
  refine (M1.out _).mono ?_
  rintro e w1 ⟨rfl, hb⟩
  replace P1 := Lib.hid (P1.out.below hb)
  replace P2 := Lib.hid (P2.out.below hb)
  replace B := bstep B hb
  clear hb M1 a1 a2 a3 a9 b1 b2 b3 b9
  obtain ⟨⟨a1, a2, a3⟩, -, a9⟩ := P1.out
  obtain ⟨⟨b1, b2, b3⟩, -, b9⟩ := P2.out
  cases a
  · go_wp2
    refine ret_via (v := .tuple #[.int .i64 0, .bool false]) (fun _ => True) (fun VF _ => ?_) trivial rfl ⟨rfl, B⟩
    simp [results, Tryd.results57, go_sem, *]
  · go_wp2_with fail
    refine (M2.out _).mono ?_
    rintro e w2 ⟨rfl, hb⟩
    replace P1 := Lib.hid (P1.out.below hb)
    replace P2 := Lib.hid (P2.out.below hb)
    replace B := bstep B hb
    clear hb M2 a1 a2 a3 a9 b1 b2 b3 b9
    obtain ⟨⟨a1, a2, a3⟩, -, a9⟩ := P1.out
    obtain ⟨⟨b1, b2, b3⟩, -, b9⟩ := P2.out
    cases b
    · go_wp2
      refine ret_via (v := .tuple #[.int .i64 0, .bool false]) (fun _ => True) (fun VF _ => ?_) trivial rfl ⟨rfl, B⟩
      simp [results, Tryd.results57, go_sem, *]
    · have zz : (z == y) = false := by simpa using h
      clear h
      go_wp2
      refine ret_via (v := .tuple #[.int .i64 0, .bool false]) (fun _ => True) (fun VF _ => ?_) trivial rfl ⟨rfl, B⟩
      simp [results, Tryd.results57, go_sem, *]
set_option maxRecDepth 100000 in
set_option maxHeartbeats 1000000 in
theorem cmpM_of (s : Int) (z : Bool) (o : Int) (t : Int) (y : Bool) (p : Int) (n : Int) (c : Bool) (H : ∀ w : World, Calls Tryd.prog 57 #[Tm s z o, Tm t y p] w (Ret (.tuple #[.int .i64 n, .bool c]) w)) (w : World) : Calls Tryd.prog 30 #[Tm s z o, Tm t y p] w (Ret (.tuple #[.int .i64 (ordI 0 n), .bool c]) w) := by
  have HB := Lib.hid H
  have C := Lib.hid (compare_any 0 n)
  generalize ordI 0 n = d at *
  clear H
  go_enter Tryd.func30, Tryd.ntmps30
  go_upto_region 1 with fail
  have P1 := Lib.hid (HoldsM.alloc (HoldsM.new rfl) _ : HoldsM ((w.alloc (TmC s z o)).alloc (TmC t y p)) w.heap.size s z o)
  have P2 := Lib.hid (HoldsM.new (by simp) : HoldsM ((w.alloc (TmC s z o)).alloc (TmC t y p)) (w.heap.size + 1) t y p)
  have B := ballD1 (ballD1 (Below.refl w.heap.size w) (TmC s z o)) (TmC t y p)
  change Code.wp _ _ _ _ ((w.alloc (TmC s z o)).alloc (TmC t y p))
  generalize (w.alloc (TmC s z o)).alloc (TmC t y p) = V at *
  obtain ⟨⟨a1, a2, a3⟩, -, a9⟩ := P1.out
  obtain ⟨⟨b1, b2, b3⟩, -, b9⟩ := P2.out
  go_wp2_with fail
  refine (HB.out _).mono ?_
  rintro e w1 ⟨rfl, hb⟩
  replace P1 := Lib.hid (P1.out.below hb)
  replace P2 := Lib.hid (P2.out.below hb)
  replace B := bstep B hb
  clear hb HB a1 a2 a3 a9 b1 b2 b3 b9
  obtain ⟨⟨a1, a2, a3⟩, -, a9⟩ := P1.out
  obtain ⟨⟨b1, b2, b3⟩, -, b9⟩ := P2.out
  go_wp2_with fail
  refine (C.out _).mono ?_
  rintro e w2 ⟨rfl, hb⟩
  replace P1 := Lib.hid (P1.out.below hb)
  replace P2 := Lib.hid (P2.out.below hb)
  replace B := bstep B hb
  clear hb C a1 a2 a3 a9 b1 b2 b3 b9
  obtain ⟨⟨a1, a2, a3⟩, -, a9⟩ := P1.out
  obtain ⟨⟨b1, b2, b3⟩, -, b9⟩ := P2.out
  go_wp2
  refine ret_via (v := .tuple #[.int .i64 d, .bool c]) (fun _ => True) (fun VF _ => ?_) trivial rfl ⟨rfl, B⟩
  simp [results, Tryd.results30, go_sem, *]

/-! ### Later -/
theorem later_sum (s n : Int) (h : 0 ≤ s ∧ s ≤ 86399) : let q := n.tdiv 86400; let r := n.tmod 86400; (-86400 < r ∧ r < 86400) ∧ (s + r < 0 → (s + n) % 86400 = s + r + 86400 ∧ (s + n) / 86400 = q - 1) ∧ (0 ≤ s + r → s + r < 86400 → (s + n) % 86400 = s + r ∧ (s + n) / 86400 = q) ∧ (86400 ≤ s + r → (s + n) % 86400 = s + r - 86400 ∧ (s + n) / 86400 = q + 1) := by
  intro q r
  have a : r + 86400 * q = n := Int.tmod_add_mul_tdiv n 86400
  have b := tmodR n (b := 86400) (by decide)
  refine ⟨b, ?_, ?_, ?_⟩ <;> intros <;> omega
end Go.Proofs.YthgondbiddncpaaDoor

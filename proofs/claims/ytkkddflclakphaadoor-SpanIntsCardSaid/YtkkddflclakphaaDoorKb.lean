/-
  Package clock: a time with an offset, so many seconds later, how far two times are apart and which one is ahead; the times of the statements (Make): each as a contract of its call.
-/
import Derived.Test.YtkkddflclakphaaDoorKa
namespace Go.Proofs.YtkkddflclakphaaDoor
open Go.RowKit

theorem B3 {w W : World} {g : Nat} (B : Below w.heap.size w W) (hg : w.heap.size ≤ g) (x y z : Value) : Below w.heap.size w (((W.setCell ⟨g, 0, none⟩ x).setCell ⟨g, 1, none⟩ y).setCell ⟨g, 2, none⟩ z) := ((B.setCell hg _).setCell hg _).setCell hg _

/-! ### Make -/
/-- The offset of a time of the statements. -/
def offM (z : Bool) (o : Int) : Int := if z then o.tmod 64801 else 0
theorem tmodR (a : Int) {b : Int} (hb : 0 < b) : -b < a.tmod b ∧ a.tmod b < b := ⟨Int.lt_tmod_of_pos a hb, Int.tmod_lt_of_pos a hb⟩
theorem offM_range (z : Bool) (o : Int) : -64800 ≤ offM z o ∧ offM z o ≤ 64800 := by
  have := tmodR o (b := 64801) (by decide)
  unfold offM
  split <;> omega
theorem secM (s : Int) : (s.tmod 86400 + 86400).tmod 86400 = s % 86400 := by
  have h := tmodR s (b := 86400) (by decide)
  rw [Int.tmod_eq_emod_of_nonneg (by omega)]
  have := Int.tmod_add_mul_tdiv s 86400
  omega
theorem makeM_may (s : Int) (z : Bool) (o : Int) : mayM (s % 86400) z (offM z o) = true := by
  have h := offM_range z o
  have h1 := Int.emod_nonneg s (show (86400 : Int) ≠ 0 by decide)
  have h2 := Int.emod_lt_of_pos s (show (0 : Int) < 86400 by decide)
  have e : (z || offM z o == 0) = true := by cases z <;> simp [offM]
  unfold mayM
  rw [e, Bool.and_true]
  simp only [Bool.and_eq_true, decide_eq_true_eq]
  omega
/-! ### Later -/
theorem later_sum (s n : Int) (h : 0 ≤ s ∧ s ≤ 86399) : let q := n.tdiv 86400; let r := n.tmod 86400; (-86400 < r ∧ r < 86400) ∧ (s + r < 0 → (s + n) % 86400 = s + r + 86400 ∧ (s + n) / 86400 = q - 1) ∧ (0 ≤ s + r → s + r < 86400 → (s + n) % 86400 = s + r ∧ (s + n) / 86400 = q) ∧ (86400 ≤ s + r → (s + n) % 86400 = s + r - 86400 ∧ (s + n) / 86400 = q + 1) := by
  intro q r
  have a : r + 86400 * q = n := Int.tmod_add_mul_tdiv n 86400
  have b := tmodR n (b := 86400) (by decide)
  refine ⟨b, ?_, ?_, ?_⟩ <;> intros <;> omega
set_option maxRecDepth 100000 in
set_option maxHeartbeats 1000000 in
theorem later_back (s : Int) (z : Bool) (o : Int) (n q r : Int) (h : mayM s z o = true) (eq : n.tdiv 86400 = q) (er : n.tmod 86400 = r) (hq : -9223372036854775 ≤ q ∧ q ≤ 9223372036854775) (hr : -86400 < r ∧ r < 86400) (c : s + r < 0) (w : World) : Calls Tryd.prog 75 #[Tm s z o, .int .i64 n] w (Ret (.tuple #[Tm (s + r + 86400) z o, .int .i64 (q - 1)]) w) := by
  have r1 := may_sec h
  have t1 : decide (s + r < 0) = true := decide_eq_true (by omega)
  have f5 : wrap64 (s + r + 86400) = s + r + 86400 := I64.wrap' (by unfold I64; omega)
  have f6 : IntKind.i64.wrap (s + r + 86400) = s + r + 86400 := I64.wrap (by unfold I64; omega)
  have f7 : wrap64 (q - 1) = q - 1 := I64.wrap' (by unfold I64; omega)
  have f8 : IntKind.i64.wrap (q - 1) = q - 1 := I64.wrap (by unfold I64; omega)
  have f1 : wrap64 (s + r) = s + r := I64.wrap' (by unfold I64; omega)
  have f2 : IntKind.i64.wrap (s + r) = s + r := I64.wrap (by unfold I64; omega)
  have f3 : wrap64 q = q := I64.wrap' (by unfold I64; omega)
  have f4 : IntKind.i64.wrap q = q := I64.wrap (by unfold I64; omega)
  have MD0 := mayM_any s z o
  rw [h] at MD0
  have MD := Lib.hid MD0
  clear MD0 h hq hr c r1
  go_enter Tryd.func75, Tryd.ntmps75
  go_upto_region 1 with fail
  have P1 := Lib.hid (HoldsM.alloc (HoldsM.new rfl) _ : HoldsM ((w.alloc (TmC s z o)).alloc (TmC 0 false 0)) w.heap.size s z o)
  have P2 := Lib.hid (HoldsM.new (by simp) : HoldsM ((w.alloc (TmC s z o)).alloc (TmC 0 false 0)) (w.heap.size + 1) 0 false 0)
  have B := ballD1 (ballD1 (Below.refl w.heap.size w) (TmC s z o)) (TmC 0 false 0)
  change Code.wp _ _ _ _ ((w.alloc (TmC s z o)).alloc (TmC 0 false 0))
  generalize (w.alloc (TmC s z o)).alloc (TmC 0 false 0) = V at *
  obtain ⟨⟨a1, a2, a3⟩, ⟨a4, a5, a6⟩, a9⟩ := P1.out
  go_wp2_with fail
  refine (MD.out _).mono ?_
  rintro e w1 ⟨rfl, hb⟩
  replace P1 := Lib.hid (P1.out.below hb)
  replace P2 := Lib.hid (P2.out.below hb)
  replace B := bstep B hb
  clear hb MD a1 a2 a3 a4 a5 a6 a9
  obtain ⟨⟨a1, a2, a3⟩, ⟨a4, a5, a6⟩, a9⟩ := P1.out
  go_upto_region 5 with fail
  replace P1 := Lib.hid (P1.out.put0 (s := s + r))
  replace P2 := Lib.hid (P2.out.far (p := ⟨w.heap.size, 0, none⟩) (by simp) (.int .i64 (s + r)))
  replace B := B.setCell (p := ⟨w.heap.size, 0, none⟩) (Nat.le_refl _) (.int .i64 (s + r))
  change Code.wp _ _ _ _ (w1.setCell ⟨w.heap.size, 0, none⟩ (.int .i64 (s + r)))
  clear a1 a2 a3 a4 a5 a6 a9
  generalize w1.setCell ⟨w.heap.size, 0, none⟩ (.int .i64 (s + r)) = w2 at *
  obtain ⟨⟨a1, a2, a3⟩, ⟨a4, a5, a6⟩, a9⟩ := P1.out
  go_upto_region 7 with fail
  replace P1 := Lib.hid (P1.out.put0 (s := s + r + 86400))
  replace P2 := Lib.hid (P2.out.far (p := ⟨w.heap.size, 0, none⟩) (by simp) (.int .i64 (s + r + 86400)))
  replace B := B.setCell (p := ⟨w.heap.size, 0, none⟩) (Nat.le_refl _) (.int .i64 (s + r + 86400))
  change Code.wp _ _ _ _ (w2.setCell ⟨w.heap.size, 0, none⟩ (.int .i64 (s + r + 86400)))
  clear a1 a2 a3 a4 a5 a6 a9
  generalize w2.setCell ⟨w.heap.size, 0, none⟩ (.int .i64 (s + r + 86400)) = w3 at *
  obtain ⟨⟨a1, a2, a3⟩, ⟨a4, a5, a6⟩, a9⟩ := P1.out
  obtain ⟨⟨b1, b2, b3⟩, ⟨b4, b5, b6⟩, b9⟩ := P2.out
  go_wp2
  refine ret_via (v := .tuple #[Tm (s + r + 86400) z o, .int .i64 (q - 1)]) (fun V => HoldsM V (w.heap.size + 1) (s + r + 86400) z o) (fun VF hq => ?_) P2.out.put rfl ⟨rfl, B3 B (by omega) _ _ _⟩
  obtain ⟨⟨d1, d2, d3⟩, -, -⟩ := hq
  simp [results, Tryd.results75, go_sem, d1, d2, d3]
set_option maxRecDepth 100000 in
set_option maxHeartbeats 1000000 in
theorem later_same (s : Int) (z : Bool) (o : Int) (n q r : Int) (h : mayM s z o = true) (eq : n.tdiv 86400 = q) (er : n.tmod 86400 = r) (hq : -9223372036854775 ≤ q ∧ q ≤ 9223372036854775) (_hr : -86400 < r ∧ r < 86400) (c : 0 ≤ s + r ∧ s + r < 86400) (w : World) : Calls Tryd.prog 75 #[Tm s z o, .int .i64 n] w (Ret (.tuple #[Tm (s + r) z o, .int .i64 (q)]) w) := by
  have r1 := may_sec h
  have t1 : decide (s + r < 0) = false := decide_eq_false (by omega)
  have t2 : decide (86400 ≤ s + r) = false := decide_eq_false (by omega)
  have f1 : wrap64 (s + r) = s + r := I64.wrap' (by unfold I64; omega)
  have f2 : IntKind.i64.wrap (s + r) = s + r := I64.wrap (by unfold I64; omega)
  have f3 : wrap64 q = q := I64.wrap' (by unfold I64; omega)
  have f4 : IntKind.i64.wrap q = q := I64.wrap (by unfold I64; omega)
  have MD0 := mayM_any s z o
  rw [h] at MD0
  have MD := Lib.hid MD0
  clear MD0 h hq _hr c r1
  go_enter Tryd.func75, Tryd.ntmps75
  go_upto_region 1 with fail
  have P1 := Lib.hid (HoldsM.alloc (HoldsM.new rfl) _ : HoldsM ((w.alloc (TmC s z o)).alloc (TmC 0 false 0)) w.heap.size s z o)
  have P2 := Lib.hid (HoldsM.new (by simp) : HoldsM ((w.alloc (TmC s z o)).alloc (TmC 0 false 0)) (w.heap.size + 1) 0 false 0)
  have B := ballD1 (ballD1 (Below.refl w.heap.size w) (TmC s z o)) (TmC 0 false 0)
  change Code.wp _ _ _ _ ((w.alloc (TmC s z o)).alloc (TmC 0 false 0))
  generalize (w.alloc (TmC s z o)).alloc (TmC 0 false 0) = V at *
  obtain ⟨⟨a1, a2, a3⟩, ⟨a4, a5, a6⟩, a9⟩ := P1.out
  go_wp2_with fail
  refine (MD.out _).mono ?_
  rintro e w1 ⟨rfl, hb⟩
  replace P1 := Lib.hid (P1.out.below hb)
  replace P2 := Lib.hid (P2.out.below hb)
  replace B := bstep B hb
  clear hb MD a1 a2 a3 a4 a5 a6 a9
  obtain ⟨⟨a1, a2, a3⟩, ⟨a4, a5, a6⟩, a9⟩ := P1.out
  go_upto_region 5 with fail
  replace P1 := Lib.hid (P1.out.put0 (s := s + r))
  replace P2 := Lib.hid (P2.out.far (p := ⟨w.heap.size, 0, none⟩) (by simp) (.int .i64 (s + r)))
  replace B := B.setCell (p := ⟨w.heap.size, 0, none⟩) (Nat.le_refl _) (.int .i64 (s + r))
  change Code.wp _ _ _ _ (w1.setCell ⟨w.heap.size, 0, none⟩ (.int .i64 (s + r)))
  clear a1 a2 a3 a4 a5 a6 a9
  generalize w1.setCell ⟨w.heap.size, 0, none⟩ (.int .i64 (s + r)) = w2 at *
  obtain ⟨⟨a1, a2, a3⟩, ⟨a4, a5, a6⟩, a9⟩ := P1.out
  obtain ⟨⟨b1, b2, b3⟩, ⟨b4, b5, b6⟩, b9⟩ := P2.out
  go_wp2
  refine ret_via (v := .tuple #[Tm (s + r) z o, .int .i64 (q)]) (fun V => HoldsM V (w.heap.size + 1) (s + r) z o) (fun VF hq => ?_) P2.out.put rfl ⟨rfl, B3 B (by omega) _ _ _⟩
  obtain ⟨⟨d1, d2, d3⟩, -, -⟩ := hq
  simp [results, Tryd.results75, go_sem, d1, d2, d3]
set_option maxRecDepth 100000 in
set_option maxHeartbeats 1000000 in
theorem later_on (s : Int) (z : Bool) (o : Int) (n q r : Int) (h : mayM s z o = true) (eq : n.tdiv 86400 = q) (er : n.tmod 86400 = r) (hq : -9223372036854775 ≤ q ∧ q ≤ 9223372036854775) (hr : -86400 < r ∧ r < 86400) (c : 86400 ≤ s + r) (w : World) : Calls Tryd.prog 75 #[Tm s z o, .int .i64 n] w (Ret (.tuple #[Tm (s + r - 86400) z o, .int .i64 (q + 1)]) w) := by
  have r1 := may_sec h
  have t1 : decide (s + r < 0) = false := decide_eq_false (by omega)
  have t2 : decide (86400 ≤ s + r) = true := decide_eq_true (by omega)
  have f5 : wrap64 (s + r - 86400) = s + r - 86400 := I64.wrap' (by unfold I64; omega)
  have f6 : IntKind.i64.wrap (s + r - 86400) = s + r - 86400 := I64.wrap (by unfold I64; omega)
  have f7 : wrap64 (q + 1) = q + 1 := I64.wrap' (by unfold I64; omega)
  have f8 : IntKind.i64.wrap (q + 1) = q + 1 := I64.wrap (by unfold I64; omega)
  have f1 : wrap64 (s + r) = s + r := I64.wrap' (by unfold I64; omega)
  have f2 : IntKind.i64.wrap (s + r) = s + r := I64.wrap (by unfold I64; omega)
  have f3 : wrap64 q = q := I64.wrap' (by unfold I64; omega)
  have f4 : IntKind.i64.wrap q = q := I64.wrap (by unfold I64; omega)
  have MD0 := mayM_any s z o
  rw [h] at MD0
  have MD := Lib.hid MD0
  clear MD0 h hq hr c r1
  go_enter Tryd.func75, Tryd.ntmps75
  go_upto_region 1 with fail
  have P1 := Lib.hid (HoldsM.alloc (HoldsM.new rfl) _ : HoldsM ((w.alloc (TmC s z o)).alloc (TmC 0 false 0)) w.heap.size s z o)
  have P2 := Lib.hid (HoldsM.new (by simp) : HoldsM ((w.alloc (TmC s z o)).alloc (TmC 0 false 0)) (w.heap.size + 1) 0 false 0)
  have B := ballD1 (ballD1 (Below.refl w.heap.size w) (TmC s z o)) (TmC 0 false 0)
  change Code.wp _ _ _ _ ((w.alloc (TmC s z o)).alloc (TmC 0 false 0))
  generalize (w.alloc (TmC s z o)).alloc (TmC 0 false 0) = V at *
  obtain ⟨⟨a1, a2, a3⟩, ⟨a4, a5, a6⟩, a9⟩ := P1.out
  go_wp2_with fail
  refine (MD.out _).mono ?_
  rintro e w1 ⟨rfl, hb⟩
  replace P1 := Lib.hid (P1.out.below hb)
  replace P2 := Lib.hid (P2.out.below hb)
  replace B := bstep B hb
  clear hb MD a1 a2 a3 a4 a5 a6 a9
  obtain ⟨⟨a1, a2, a3⟩, ⟨a4, a5, a6⟩, a9⟩ := P1.out
  go_upto_region 5 with fail
  replace P1 := Lib.hid (P1.out.put0 (s := s + r))
  replace P2 := Lib.hid (P2.out.far (p := ⟨w.heap.size, 0, none⟩) (by simp) (.int .i64 (s + r)))
  replace B := B.setCell (p := ⟨w.heap.size, 0, none⟩) (Nat.le_refl _) (.int .i64 (s + r))
  change Code.wp _ _ _ _ (w1.setCell ⟨w.heap.size, 0, none⟩ (.int .i64 (s + r)))
  clear a1 a2 a3 a4 a5 a6 a9
  generalize w1.setCell ⟨w.heap.size, 0, none⟩ (.int .i64 (s + r)) = w2 at *
  obtain ⟨⟨a1, a2, a3⟩, ⟨a4, a5, a6⟩, a9⟩ := P1.out
  go_upto_region 10 with fail
  replace P1 := Lib.hid (P1.out.put0 (s := s + r - 86400))
  replace P2 := Lib.hid (P2.out.far (p := ⟨w.heap.size, 0, none⟩) (by simp) (.int .i64 (s + r - 86400)))
  replace B := B.setCell (p := ⟨w.heap.size, 0, none⟩) (Nat.le_refl _) (.int .i64 (s + r - 86400))
  change Code.wp _ _ _ _ (w2.setCell ⟨w.heap.size, 0, none⟩ (.int .i64 (s + r - 86400)))
  clear a1 a2 a3 a4 a5 a6 a9
  generalize w2.setCell ⟨w.heap.size, 0, none⟩ (.int .i64 (s + r - 86400)) = w3 at *
  obtain ⟨⟨a1, a2, a3⟩, ⟨a4, a5, a6⟩, a9⟩ := P1.out
  obtain ⟨⟨b1, b2, b3⟩, ⟨b4, b5, b6⟩, b9⟩ := P2.out
  go_wp2
  refine ret_via (v := .tuple #[Tm (s + r - 86400) z o, .int .i64 (q + 1)]) (fun V => HoldsM V (w.heap.size + 1) (s + r - 86400) z o) (fun VF hq => ?_) P2.out.put rfl ⟨rfl, B3 B (by omega) _ _ _⟩
  obtain ⟨⟨d1, d2, d3⟩, -, -⟩ := hq
  simp [results, Tryd.results75, go_sem, d1, d2, d3]
theorem later_yes (s : Int) (z : Bool) (o : Int) (n : Int) (h : mayM s z o = true) (hn : I64 n) (w : World) : Calls Tryd.prog 75 #[Tm s z o, .int .i64 n] w (Ret (.tuple #[Tm ((s + n) % 86400) z o, .int .i64 ((s + n) / 86400)]) w) := by
  obtain ⟨hr, k1, k2, k3⟩ := later_sum s n (may_sec h)
  have a := Int.tmod_add_mul_tdiv n 86400
  have hq : -9223372036854775 ≤ n.tdiv 86400 ∧ n.tdiv 86400 ≤ 9223372036854775 := by obtain ⟨_, _⟩ := hn; omega
  rcases (show s + n.tmod 86400 < 0 ∨ (0 ≤ s + n.tmod 86400 ∧ s + n.tmod 86400 < 86400) ∨ 86400 ≤ s + n.tmod 86400 by omega) with c | c | c
  · rw [(k1 c).1, (k1 c).2]; exact later_back s z o n _ _ h rfl rfl hq hr c w
  · rw [(k2 c.1 c.2).1, (k2 c.1 c.2).2]; exact later_same s z o n _ _ h rfl rfl hq hr c w
  · rw [(k3 c).1, (k3 c).2]; exact later_on s z o n _ _ h rfl rfl hq hr c w
set_option maxRecDepth 100000 in
set_option maxHeartbeats 1000000 in
theorem later_no (s : Int) (z : Bool) (o : Int) (n : Int) (h : mayM s z o = false) (w : World) : Calls Tryd.prog 75 #[Tm s z o, .int .i64 n] w (Ret (.tuple #[Tm 0 false 0, .int .i64 0]) w) := by
  have MD0 := mayM_any s z o
  rw [h] at MD0
  have MD := Lib.hid MD0
  clear MD0 h
  go_enter Tryd.func75, Tryd.ntmps75
  go_upto_region 1 with fail
  have P1 := Lib.hid (HoldsM.alloc (HoldsM.new rfl) _ : HoldsM ((w.alloc (TmC s z o)).alloc (TmC 0 false 0)) w.heap.size s z o)
  have P2 := Lib.hid (HoldsM.new (by simp) : HoldsM ((w.alloc (TmC s z o)).alloc (TmC 0 false 0)) (w.heap.size + 1) 0 false 0)
  have B := ballD1 (ballD1 (Below.refl w.heap.size w) (TmC s z o)) (TmC 0 false 0)
  change Code.wp _ _ _ _ ((w.alloc (TmC s z o)).alloc (TmC 0 false 0))
  generalize (w.alloc (TmC s z o)).alloc (TmC 0 false 0) = V at *
  obtain ⟨⟨a1, a2, a3⟩, ⟨a4, a5, a6⟩, a9⟩ := P1.out
  go_wp2_with fail
  refine (MD.out _).mono ?_
  rintro e w1 ⟨rfl, hb⟩
  replace P2 := Lib.hid (P2.out.below hb)
  replace B := bstep B hb
  clear hb MD a1 a2 a3 a4 a5 a6 a9 P1
  obtain ⟨⟨b1, b2, b3⟩, ⟨b4, b5, b6⟩, b9⟩ := P2.out
  go_wp2
  refine ret_via (v := .tuple #[Tm 0 false 0, .int .i64 0]) (fun V => HoldsM V (w.heap.size + 1) 0 false 0) (fun VF hq => ?_) P2.out.put rfl ⟨rfl, B3 B (by omega) _ _ _⟩
  obtain ⟨⟨d1, d2, d3⟩, -, -⟩ := hq
  simp [results, Tryd.results75, go_sem, d1, d2, d3]

end Go.Proofs.YtkkddflclakphaaDoor

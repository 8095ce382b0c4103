/-
  Out of several texts: what is needed here.
-/
import Derived.Test.YtfelcneedpndiaaDoorC0
import Derived.Test.YtfelcneedpndiaaDoorSh
import Derived.Test.YtfelcneedpndiaaDoorSh2
import Derived.WalkSpells
import Derived.BigQuiet
import Derived.Deep.QuietTactic
import Derived.Deep.CutBlock
import Derived.Deep.DeepCutAuto
import Derived.Deep.RegionHeld3
import Derived.Lib.OthersKept
import Derived.Deep.LoopGhost
import Derived.Lib.SmallJoins
import Derived.Shelf.Spec.BitsCarry
import Derived.Laws.RangeAny
import Derived.Lib.LaidTab
namespace Go.Proofs.YtfelcneedpndiaaDoor
open Go.RowKit Go.Sort

theorem add64 (x y c : Int) (hx : 0 ≤ x) (hy : 0 ≤ y) (hc0 : 0 ≤ c) (hc : c ≤ 1) (w : World) :
    (callFunc 73 #[.int .u64 x, .int .u64 y, .int .u64 c]).run Tryd.prog w =
      .ok (.value (.tuple #[.int .u64 ((x + y + c) % 18446744073709551616), .int .u64 ((x + y + c) / 18446744073709551616)])) w := by
  rw [run_callFunc_extern Tryd.func73 (by kernel_rfl) (by kernel_rfl) (by kernel_rfl) (e := add64Entry) (by kernel_rfl), run_add64 x y c hx hy hc0 hc]
  simp only [Result.andThen]
theorem add64_0 (x y : Int) (hx : 0 ≤ x) (hy : 0 ≤ y) (w : World) :
    (callFunc 73 #[.int .u64 x, .int .u64 y, .int .u64 0]).run Tryd.prog w =
      .ok (.value (.tuple #[.int .u64 ((x + y) % 18446744073709551616), .int .u64 ((x + y) / 18446744073709551616)])) w := by
  simpa using add64 x y 0 hx hy (Int.le_refl 0) (by decide) w
theorem mul64 (x y : Nat) (hx : x < 18446744073709551616) (hy : y < 18446744073709551616) (w : World) :
    Calls Tryd.prog 72 #[.int .u64 x, .int .u64 y] w fun e w' => e = .returned (.tuple #[.int .u64 ((x * y / 18446744073709551616 : Nat) : Int), .int .u64 ((x * y % 18446744073709551616 : Nat) : Int)]) ∧ w = w' :=
  (Tryd.bits_Mul64 x y hx hy w).mono fun _ _ ⟨a, b⟩ => ⟨a, b.symm⟩
/-- A number of two words. -/
abbrev U (h l : Nat) : Value := .agg #[.int .u64 (h : Int), .int .u64 (l : Int)]
/-- Two words below 2 to the 64. -/
def WW (h l : Nat) : Prop := h < 18446744073709551616 ∧ l < 18446744073709551616
/-- The number that two words are. -/
def nv (h l : Nat) : Nat := h * 18446744073709551616 + l
/-- 2 to the 128. -/
def B128 : Nat := 340282366920938463463374607431768211456
def RetUW (F : Nat → Nat → Nat → Prop) (w : World) (e : Ending) (w' : World) : Prop :=
  ∃ h l c : Nat, F h l c ∧ e = .returned (.tuple #[U h l, .int .u64 (c : Int)]) ∧ Below w.heap.size w w'
def RetWU (F : Nat → Nat → Nat → Prop) (w : World) (e : Ending) (w' : World) : Prop :=
  ∃ o h l : Nat, F o h l ∧ e = .returned (.tuple #[.int .u64 (o : Int), U h l]) ∧ Below w.heap.size w w'
def RetB (b : Bool) (w : World) (e : Ending) (w' : World) : Prop := e = .returned (.bool b) ∧ Below w.heap.size w w'
/-- What a sum is. -/
def SumF (ah al bh bl k h l c : Nat) : Prop := WW h l ∧ c ≤ 1 ∧ nv h l + c * B128 = nv ah al + nv bh bl + k
theorem ret_uw {h l c : Nat} {h' l' c' : Int} (a : h' = h) (b : l' = l) (d : c' = c) : Ending.returned (.tuple #[.agg #[.int .u64 h', .int .u64 l'], .int .u64 c']) = .returned (.tuple #[U h l, .int .u64 (c : Int)]) := by rw [a, b, d]
theorem ret_wu {h l c : Nat} {h' l' c' : Int} (a : h' = h) (b : l' = l) (d : c' = c) : Ending.returned (.tuple #[.int .u64 c', .agg #[.int .u64 h', .int .u64 l']]) = .returned (.tuple #[.int .u64 (c : Int), U h l]) := by rw [a, b, d]
theorem sumF_mk (ah al bh bl k : Nat) (ha : WW ah al) (hb : WW bh bl) (hk : k ≤ 1) :
    SumF ah al bh bl k ((ah + bh + (al + bl + k) / 18446744073709551616) % 18446744073709551616) ((al + bl + k) % 18446744073709551616) ((ah + bh + (al + bl + k) / 18446744073709551616) / 18446744073709551616) := by
  obtain ⟨_, _⟩ := ha; obtain ⟨_, _⟩ := hb
  unfold SumF WW nv B128
  refine ⟨⟨by omega, by omega⟩, by omega, by omega⟩
set_option maxHeartbeats 400000 in
theorem addCarry_any (ah al bh bl k : Nat) (ha : WW ah al) (hb : WW bh bl) (hk : k ≤ 1) (w : World) :
    Calls Tryd.prog 74 #[U ah al, U bh bl, .int .u64 (k : Int)] w (RetUW (SumF ah al bh bl k) w) := by
  have F := sumF_mk ah al bh bl k ha hb hk
  obtain ⟨_, _⟩ := ha; obtain ⟨_, _⟩ := hb
  have k0 : (0 : Int) ≤ ((al : Int) + bl + k) / 18446744073709551616 := by omega
  have k1 : ((al : Int) + bl + k) / 18446744073709551616 ≤ 1 := by omega
  go_enter Tryd.func74, Tryd.ntmps74
  go_wp2_with (first | simp only [add64 al bl k (Int.natCast_nonneg _) (Int.natCast_nonneg _) (Int.natCast_nonneg _) (by omega)] | simp only [add64 ah bh _ (Int.natCast_nonneg _) (Int.natCast_nonneg _) k0 k1])
  go_returns
  exact ⟨_, _, _, F, ret_uw (by omega) (by omega) (by omega), by go_grown⟩
theorem addCarry0 (ah al bh bl : Nat) (ha : WW ah al) (hb : WW bh bl) (w : World) :
    Calls Tryd.prog 74 #[U ah al, U bh bl, .int .u64 0] w (RetUW (SumF ah al bh bl 0) w) := addCarry_any ah al bh bl 0 ha hb (by omega) w
set_option maxHeartbeats 400000 in
theorem add_any (ah al bh bl : Nat) (ha : WW ah al) (hb : WW bh bl) (w : World) :
    Calls Tryd.prog 66 #[U ah al, U bh bl] w (RetUW (SumF ah al bh bl 0) w) := by
  go_enter Tryd.func66, Tryd.ntmps66
  go_wp2_with fail
  refine (addCarry0 ah al bh bl ha hb _).mono ?_
  rintro e w1 ⟨h, l, c, F, rfl, hb1⟩
  have Hb1 : Below w.heap.size w w1 := bstep (by go_grown) hb1
  obtain ⟨hc, hf⟩ := bcell hb1
  clear hb1
  go_wp2
  refine bodyPost_ret (v := .tuple #[U h l, .int .u64 (c : Int)]) (by simp [results, Tryd.results66, go_sem, hc]) rfl ⟨_, _, _, F, rfl, ?_⟩
  clear hc hf
  go_grown
theorem nv_lt {h l : Nat} (h1 : WW h l) : nv h l < B128 := by obtain ⟨_, _⟩ := h1; unfold nv B128; omega
set_option maxHeartbeats 400000 in
theorem zero_any (h l : Nat) (w : World) : Calls Tryd.prog 68 #[U h l] w (RetB (decide (nv h l = 0)) w) := by
  by_cases h0 : h = 0
  · subst h0
    by_cases l0 : l = 0
    · subst l0
      rw [show decide (nv 0 0 = 0) = true from by decide]
      go_enter Tryd.func68, Tryd.ntmps68
      go_wp2
      go_ret
      exact ⟨rfl, by go_grown⟩
    · rw [show decide (nv 0 l = 0) = false from by unfold nv; simp; omega]
      have e1 : ((l : Int) == 0) = false := by simp; omega
      go_enter Tryd.func68, Tryd.ntmps68
      go_wp2
      go_ret
      exact ⟨rfl, by go_grown⟩
  · rw [show decide (nv h l = 0) = false from by unfold nv; simp; omega]
    have e1 : ((h : Int) == 0) = false := by simp; omega
    go_enter Tryd.func68, Tryd.ntmps68
    go_wp2
    go_ret
    exact ⟨rfl, by go_grown⟩
/-- Of hands back the word itself; the world has one new block. -/
theorem wof_any (x : Nat) (w : World) : Calls Tryd.prog 67 #[.int .u64 (x : Int)] w fun e w' => e = .returned (.agg #[.int .u64 0, .int .u64 (x : Int)]) ∧ ∃ c, w' = w.alloc (.cells c 40) := by
  go_enter Tryd.func67, Tryd.ntmps67
  go_wp2
  go_returns
  exact ⟨rfl, _, rfl⟩
def MulF (x y p q : Nat) : Prop := p < 18446744073709551616 ∧ q < 18446744073709551616 ∧ p * 18446744073709551616 + q = x * y
theorem mul64' (x y : Nat) (hx : x < 18446744073709551616) (hy : y < 18446744073709551616) (w : World) :
    Calls Tryd.prog 72 #[.int .u64 x, .int .u64 y] w fun e w' => ∃ p q : Nat, MulF x y p q ∧ e = .returned (.tuple #[.int .u64 (p : Int), .int .u64 (q : Int)]) ∧ w = w' := by
  refine (mul64 x y hx hy w).mono fun e w' ⟨he, hw⟩ => ⟨x * y / 18446744073709551616, x * y % 18446744073709551616, ⟨?_, by omega, by omega⟩, he, hw⟩
  have : x * y ≤ 18446744073709551615 * 18446744073709551615 := Nat.mul_le_mul (by omega) (by omega)
  omega
/-- What a product by a word is. -/
def MulWordF (ah al x o h l : Nat) : Prop := o < 18446744073709551616 ∧ WW h l ∧ nv h l + o * B128 = nv ah al * x
theorem nv_mul (K a l x : Nat) : (a * K + l) * x = a * x * K + l * x := by rw [Nat.add_mul, Nat.mul_right_comm]
theorem mw_arith (m lo hi r : Nat) (_f1 : m < 18446744073709551616) (f2 : lo < 18446744073709551616) (_g1 : hi < 18446744073709551616) (_g2 : r < 18446744073709551616) (b : hi * 18446744073709551616 + r ≤ 18446744073709551615 * 18446744073709551615) :
    hi + (m + r) / 18446744073709551616 < 18446744073709551616 ∧ ((m + r) % 18446744073709551616 < 18446744073709551616 ∧ lo < 18446744073709551616) ∧ nv ((m + r) % 18446744073709551616) lo + (hi + (m + r) / 18446744073709551616) * B128 = (hi * 18446744073709551616 + r) * 18446744073709551616 + (m * 18446744073709551616 + lo) := by
  refine ⟨by omega, ⟨by omega, by omega⟩, ?_⟩
  clear b
  simp only [nv, B128]
  omega
theorem mulWordF_mk {ah al x m lo hi r : Nat} (ha : WW ah al) (hx : x < 18446744073709551616) (f : MulF al x m lo) (g : MulF ah x hi r) :
    MulWordF ah al x (hi + (m + r) / 18446744073709551616) ((m + r) % 18446744073709551616) lo ∧ hi + (m + r) / 18446744073709551616 < 18446744073709551616 := by
  obtain ⟨f1, f2, f3⟩ := f; obtain ⟨g1, g2, g3⟩ := g; obtain ⟨a1, a2⟩ := ha
  have e : nv ah al * x = ah * x * 18446744073709551616 + al * x := by unfold nv; exact nv_mul 18446744073709551616 ah al x
  have b : ah * x ≤ 18446744073709551615 * 18446744073709551615 := Nat.mul_le_mul (by omega) (by omega)
  rw [← f3, ← g3] at e
  rw [← g3] at b
  have q := mw_arith m lo hi r f1 f2 g1 g2 b
  unfold MulWordF WW
  rw [e]
  exact ⟨q, q.1⟩
set_option maxHeartbeats 400000 in
theorem mulWord_any (ah al x : Nat) (ha : WW ah al) (hx : x < 18446744073709551616) (w : World) :
    Calls Tryd.prog 65 #[U ah al, .int .u64 (x : Int)] w (RetWU (MulWordF ah al x) w) := by
  obtain ⟨a1, a2⟩ := id ha
  go_enter Tryd.func65, Tryd.ntmps65
  go_wp2_with fail
  refine (mul64' al x a2 hx _).mono ?_
  rintro e w1 ⟨m, lo, F, rfl, rfl⟩
  go_wp2_with fail
  refine (mul64' ah x a1 hx _).mono ?_
  rintro e w1 ⟨hi, r, G, rfl, rfl⟩
  obtain ⟨Q, bd⟩ := mulWordF_mk ha hx F G
  have bd' : (hi : Int) + ((m : Int) + r) / 18446744073709551616 < 18446744073709551616 := by omega
  have bd0 : 0 ≤ (hi : Int) + ((m : Int) + r) / 18446744073709551616 := by omega
  go_wp2_with (simp only [add64_0 (m : Int) (r : Int) (Int.natCast_nonneg _) (Int.natCast_nonneg _)])
  go_returns
  exact ⟨_, _, _, Q, ret_wu (by omega) (by omega) (by omega), by go_grown⟩
/-- The two cells of a block of the call's own hold the number h, l. -/
def Holds2 (W : World) (g h l : Nat) : Prop := W.cell? ⟨g, 0, none⟩ = some (.int .u64 (h : Int)) ∧ W.cell? ⟨g, 1, none⟩ = some (.int .u64 (l : Int)) ∧ W.frozen? ⟨g, 0, none⟩ = false ∧ W.frozen? ⟨g, 1, none⟩ = false ∧ g < W.heap.size
theorem Holds2.below {W w1 : World} {g h l : Nat} (H : Holds2 W g h l) (hb : Below W.heap.size W w1) : Holds2 w1 g h l := by
  obtain ⟨a, b, c, d, e⟩ := H
  exact ⟨(hb.cell e).trans a, (hb.cell e).trans b, (hb.frozen e).trans c, (hb.frozen e).trans d, Nat.lt_of_lt_of_le e hb.size⟩
theorem Holds2.alloc {W : World} {g h l : Nat} (H : Holds2 W g h l) (o : Obj) : Holds2 (W.alloc o) g h l := H.below ((Below.refl _ _).alloc (Nat.le_refl _) o)
theorem Holds2.drew {W : World} {g h l : Nat} (H : Holds2 W g h l) : Holds2 W.drew g h l := H
theorem p10 (k : Nat) : 0 < 10 ^ k := Nat.pow_pos (by decide)
theorem p10_mono {a b : Nat} (h : a ≤ b) : 10 ^ a ≤ 10 ^ b := Nat.pow_le_pow_right (by decide) h
theorem ww0 : WW 0 0 := ⟨by decide, by decide⟩
theorem Below.set1' {w W : World} (B : Below w.heap.size w W) (g i : Nat) (hg : w.heap.size ≤ g) (v : Value) : Below w.heap.size w (W.setCell ⟨g, i, none⟩ v) := Below.setCell B hg _
/-- All stays but one block. -/
def KB (g : Nat) (w w' : World) : Prop := w'.os = w.os ∧ w'.tape = w.tape ∧ w'.output = w.output ∧ w.heap.size ≤ w'.heap.size ∧ ∀ k, k < w.heap.size → k ≠ g → w'.heap[k]? = w.heap[k]?
theorem KB.refl (g : Nat) (w : World) : KB g w w := ⟨rfl, rfl, rfl, Nat.le_refl _, fun _ _ _ => rfl⟩
theorem KB.step {g : Nat} {w v v' : World} (a : KB g w v) (b : Below v.heap.size v v') : KB g w v' :=
  ⟨b.os.trans a.1, b.tape.trans a.2.1, b.output.trans a.2.2.1, Nat.le_trans a.2.2.2.1 b.size, fun k h n => (b.block k (Nat.lt_of_lt_of_le h a.2.2.2.1)).trans (a.2.2.2.2 k h n)⟩
theorem KB.alloc {g : Nat} {w v : World} (a : KB g w v) (o : Obj) : KB g w (v.alloc o) := a.step ((Below.refl _ _).alloc (Nat.le_refl _) o)
theorem KB.set {g : Nat} {w v : World} (a : KB g w v) (i : Nat) (u : Value) : KB g w (v.setCell ⟨g, i, none⟩ u) :=
  ⟨a.1, a.2.1, a.2.2.1, by have := a.2.2.2.1; simpa [World.setCell] using this, fun k h n => (Below.heap_setCell v ⟨g, i, none⟩ u k n).trans (a.2.2.2.2 k h n)⟩
theorem KB.drew {g : Nat} {w v : World} (a : KB g w v) : KB g w v.drew := a
theorem KB.trans {g : Nat} {w v u : World} (a : KB g w v) (b : KB g v u) : KB g w u :=
  ⟨b.1.trans a.1, b.2.1.trans a.2.1, b.2.2.1.trans a.2.2.1, Nat.le_trans a.2.2.2.1 b.2.2.2.1, fun k h n => (b.2.2.2.2 k (Nat.lt_of_lt_of_le h a.2.2.2.1) n).trans (a.2.2.2.2 k h n)⟩
theorem KB.below {g : Nat} {w v u : World} (a : Below w.heap.size w v) (hg : w.heap.size ≤ g) (b : KB g v u) : Below w.heap.size w u :=
  ⟨b.1.trans a.os, b.2.1.trans a.tape, b.2.2.1.trans a.output, Nat.le_trans a.size b.2.2.2.1, fun k h => (b.2.2.2.2 k (Nat.lt_of_lt_of_le h a.size) (by omega)).trans (a.block k h)⟩
/-- The ten cells of a block hold what was read. -/
def HoldsG (W : World) (g at' h l kept dr : Nat) (more : Bool) (pl pw pd : Nat) (bl : Bool) : Prop :=
  (W.cell? ⟨g, 0, none⟩ = some (.int .i64 (at' : Int)) ∧ W.cell? ⟨g, 1, none⟩ = some (.int .u64 (h : Int)) ∧ W.cell? ⟨g, 2, none⟩ = some (.int .u64 (l : Int)) ∧ W.cell? ⟨g, 3, none⟩ = some (.int .i64 (kept : Int)) ∧ W.cell? ⟨g, 4, none⟩ = some (.int .i64 (dr : Int)) ∧ W.cell? ⟨g, 5, none⟩ = some (.bool more) ∧ W.cell? ⟨g, 6, none⟩ = some (.int .i64 (pl : Int)) ∧ W.cell? ⟨g, 7, none⟩ = some (.int .i64 (pw : Int)) ∧ W.cell? ⟨g, 8, none⟩ = some (.int .i64 (pd : Int)) ∧ W.cell? ⟨g, 9, none⟩ = some (.bool bl)) ∧
  (∀ i, i < 10 → W.frozen? ⟨g, i, none⟩ = false) ∧ g < W.heap.size
theorem HoldsG.below {W W' : World} {g at' h l kept dr : Nat} {more : Bool} {pl pw pd : Nat} {bl : Bool} (H : HoldsG W g at' h l kept dr more pl pw pd bl) (hb : Below W.heap.size W W') : HoldsG W' g at' h l kept dr more pl pw pd bl := by
  obtain ⟨⟨a0, a1, a2, a3, a4, a5, a6, a7, a8, a9⟩, f, s⟩ := H
  exact ⟨⟨(hb.cell s).trans a0, (hb.cell s).trans a1, (hb.cell s).trans a2, (hb.cell s).trans a3, (hb.cell s).trans a4, (hb.cell s).trans a5, (hb.cell s).trans a6, (hb.cell s).trans a7, (hb.cell s).trans a8, (hb.cell s).trans a9⟩, fun i hi => (hb.frozen s).trans (f i hi), Nat.lt_of_lt_of_le s hb.size⟩
theorem HoldsG.alloc {W : World} {g at' h l kept dr : Nat} {more : Bool} {pl pw pd : Nat} {bl : Bool} (H : HoldsG W g at' h l kept dr more pl pw pd bl) (o : Obj) : HoldsG (W.alloc o) g at' h l kept dr more pl pw pd bl := H.below ((Below.refl _ _).alloc (Nat.le_refl _) o)
theorem HoldsG.put12 {W : World} {g at' h l kept dr : Nat} {more : Bool} {pl pw pd : Nat} {bl : Bool} (H : HoldsG W g at' h l kept dr more pl pw pd bl) (h' l' : Nat) : HoldsG ((W.setCell ⟨g, 1, none⟩ (.int .u64 (h' : Int))).setCell ⟨g, 2, none⟩ (.int .u64 (l' : Int))) g at' h' l' kept dr more pl pw pd bl := by
  obtain ⟨⟨a0, a1, a2, a3, a4, a5, a6, a7, a8, a9⟩, f, s⟩ := H
  have f0 := f 0 (by decide); have f1 := f 1 (by decide); have f2 := f 2 (by decide); have f3 := f 3 (by decide); have f4 := f 4 (by decide)
  have f5 := f 5 (by decide); have f6 := f 6 (by decide); have f7 := f 7 (by decide); have f8 := f 8 (by decide); have f9 := f 9 (by decide)
  refine ⟨by simp [go_sem, *], fun i hi => ?_, by simpa [World.setCell] using s⟩
  have fi := f i hi
  simp [go_sem, *]
theorem HoldsG.put3 {W : World} {g at' h l kept dr : Nat} {more : Bool} {pl pw pd : Nat} {bl : Bool} (H : HoldsG W g at' h l kept dr more pl pw pd bl) (k : Nat) : HoldsG (W.setCell ⟨g, 3, none⟩ (.int .i64 (k : Int))) g at' h l k dr more pl pw pd bl := by
  obtain ⟨⟨a0, a1, a2, a3, a4, a5, a6, a7, a8, a9⟩, f, s⟩ := H
  have f0 := f 0 (by decide); have f1 := f 1 (by decide); have f2 := f 2 (by decide); have f3 := f 3 (by decide); have f4 := f 4 (by decide)
  have f5 := f 5 (by decide); have f6 := f 6 (by decide); have f7 := f 7 (by decide); have f8 := f 8 (by decide); have f9 := f 9 (by decide)
  refine ⟨by simp [go_sem, *], fun i hi => ?_, by simpa [World.setCell] using s⟩
  have fi := f i hi
  simp [go_sem, *]
theorem HoldsG.put45 {W : World} {g at' h l kept dr : Nat} {more : Bool} {pl pw pd : Nat} {bl : Bool} (H : HoldsG W g at' h l kept dr more pl pw pd bl) (k : Nat) (m : Bool) : HoldsG ((W.setCell ⟨g, 4, none⟩ (.int .i64 (k : Int))).setCell ⟨g, 5, none⟩ (.bool m)) g at' h l kept k m pl pw pd bl := by
  obtain ⟨⟨a0, a1, a2, a3, a4, a5, a6, a7, a8, a9⟩, f, s⟩ := H
  have f0 := f 0 (by decide); have f1 := f 1 (by decide); have f2 := f 2 (by decide); have f3 := f 3 (by decide); have f4 := f 4 (by decide)
  have f5 := f 5 (by decide); have f6 := f 6 (by decide); have f7 := f 7 (by decide); have f8 := f 8 (by decide); have f9 := f 9 (by decide)
  refine ⟨by simp [go_sem, *], fun i hi => ?_, by simpa [World.setCell] using s⟩
  have fi := f i hi
  simp [go_sem, *]
/-- One more digit of the coefficient. -/
def CoefF (h l kept dr : Nat) (more : Bool) (d h' l' kept' dr' : Nat) (more' : Bool) : Prop :=
  WW h' l' ∧ ((kept = 38 ∧ h' = h ∧ l' = l ∧ kept' = kept ∧ dr' = dr + 1 ∧ more' = (more || decide (d ≠ 0))) ∨
   (kept ≠ 38 ∧ nv h' l' = nv h l * 10 + d ∧ kept' = (if nv h' l' = 0 then kept else kept + 1) ∧ dr' = dr ∧ more' = more))
set_option linter.unusedSimpArgs false in
set_option maxRecDepth 100000 in
set_option maxHeartbeats 4000000 in
theorem takeCoef_full (g at' h l dr : Nat) (more : Bool) (pl pw pd : Nat) (bl : Bool) (d : Nat) (hr : dr ≤ 200000000000000) (w : World) (H : HoldsG w g at' h l 38 dr more pl pw pd bl) :
    Calls Tryd.prog 55 #[.pointer (some ⟨g, 0, none⟩), .int .i64 (d : Int)] w fun e w' => e = .returned (.tuple #[]) ∧ HoldsG w' g at' h l 38 (dr + 1) (more || decide (d ≠ 0)) pl pw pd bl ∧ KB g w w' := by
  have HH := Lib.hid H
  obtain ⟨⟨a0, a1, a2, a3, a4, a5, a6, a7, a8, a9⟩, f, s⟩ := H
  have f4 := f 4 (by decide)
  have f5 := f 5 (by decide)
  obtain ⟨di, hdi⟩ : ∃ i : Int, i = (dr : Int) + 1 := ⟨_, rfl⟩
  have e1 : wrap64 ((dr : Int) + 1) = di := by unfold wrap64; omega
  have HX := Lib.hid hdi
  clear f hr hdi
  have t0 : ((38 : Int) == 38) = true := rfl
  generalize hm : (more || decide (d ≠ 0)) = mm at *
  cases more
  · by_cases d0 : d = 0
    · have t1 : (((d : Int)) != 0) = false := by rw [d0]; rfl
      have t2 : (((d : Int)) == 0) = true := by rw [d0]; rfl
      obtain rfl : mm = false := by rw [← hm, d0]; rfl
      clear d0 hm
      go_enter Tryd.func55, Tryd.ntmps55
      go_wp2
      refine bodyPost_ret (v := .tuple #[]) (by simp [results, Tryd.results55, go_sem]) rfl ⟨rfl, ?_, KB.set (KB.set (KB.refl _ _) _ _) _ _⟩
      have k := HoldsG.put45 HH.out (dr + 1) false
      rw [show (((dr + 1 : Nat)) : Int) = di by rw [HX.out]; rfl] at k
      exact k
    · have t1 : (((d : Int)) != 0) = true := by simp; omega
      have t2 : (((d : Int)) == 0) = false := by simp; omega
      obtain rfl : mm = true := by rw [← hm, decide_eq_true d0]; rfl
      clear d0 hm
      go_enter Tryd.func55, Tryd.ntmps55
      go_wp2
      refine bodyPost_ret (v := .tuple #[]) (by simp [results, Tryd.results55, go_sem]) rfl ⟨rfl, ?_, KB.set (KB.set (KB.refl _ _) _ _) _ _⟩
      have k := HoldsG.put45 HH.out (dr + 1) true
      rw [show (((dr + 1 : Nat)) : Int) = di by rw [HX.out]; rfl] at k
      exact k
  · obtain rfl : mm = true := by rw [← hm]; rfl
    clear hm
    go_enter Tryd.func55, Tryd.ntmps55
    go_wp2
    refine bodyPost_ret (v := .tuple #[]) (by simp [results, Tryd.results55, go_sem]) rfl ⟨rfl, ?_, KB.set (KB.set (KB.refl _ _) _ _) _ _⟩
    have k := HoldsG.put45 HH.out (dr + 1) true
    rw [show (((dr + 1 : Nat)) : Int) = di by rw [HX.out]; rfl] at k
    exact k
theorem read_step {h l o ph pl sh sl c d : Nat} (m : MulWordF h l 10 o ph pl) (f : SumF ph pl 0 d 0 sh sl c) (hd : d ≤ 9) : (o = 0 ∧ c = 0 ∧ nv sh sl = nv h l * 10 + d ∧ WW sh sl) ∨ ((o ≠ 0 ∨ c ≠ 0) ∧ B128 ≤ nv h l * 10 + d) := by
  obtain ⟨m1, m2, m3⟩ := m
  obtain ⟨f1, f2, f3⟩ := f
  have e : nv 0 d = d := by simp [nv]
  rw [e, Nat.add_zero] at f3
  have a := nv_lt f1
  have b := nv_lt m2
  rw [← m3]
  generalize nv ph pl = x at *
  generalize nv sh sl = y at *
  rcases Nat.eq_zero_or_pos o with z | z
  · subst z
    rw [Nat.zero_mul, Nat.add_zero]
    have hc : c = 0 ∨ c = 1 := by omega
    rcases hc with rfl | rfl
    · left; rw [Nat.zero_mul, Nat.add_zero] at f3; exact ⟨rfl, rfl, f3, f1⟩
    · right; rw [Nat.one_mul] at f3; exact ⟨.inr (by omega), by omega⟩
  · right
    refine ⟨.inl (by omega), ?_⟩
    have := Nat.le_mul_of_pos_left B128 z
    generalize o * B128 = q at *
    omega
theorem HoldsG.drew {W : World} {g at' h l kept dr : Nat} {more : Bool} {pl pw pd : Nat} {bl : Bool} (H : HoldsG W g at' h l kept dr more pl pw pd bl) : HoldsG W.drew g at' h l kept dr more pl pw pd bl := H
set_option linter.unusedSimpArgs false in
set_option maxRecDepth 100000 in
set_option maxHeartbeats 4000000 in
theorem takeCoef_more (g at' h l kept dr : Nat) (more : Bool) (pl pw pd : Nat) (bl : Bool) (d : Nat) (ha : WW h l) (hk : kept < 38) (hv : nv h l < 10 ^ kept) (hd : d ≤ 9) (w : World) (H : HoldsG w g at' h l kept dr more pl pw pd bl) :
    Calls Tryd.prog 55 #[.pointer (some ⟨g, 0, none⟩), .int .i64 (d : Int)] w fun e w' => e = .returned (.tuple #[]) ∧ ∃ h' l' : Nat, WW h' l' ∧ nv h' l' = nv h l * 10 + d ∧ HoldsG w' g at' h' l' (if nv h' l' = 0 then kept else kept + 1) dr more pl pw pd bl ∧ KB g w w' := by
  have HH := Lib.hid H
  have MW := Lib.hid (mulWord_any h l 10 ha (by decide))
  have small : nv h l * 10 + d < B128 := by
    have a : nv h l * 10 < 10 ^ kept * 10 := Nat.mul_lt_mul_of_pos_right hv (by decide)
    rw [← Nat.pow_succ] at a
    have b : 10 ^ (kept + 1) ≤ 10 ^ 38 := p10_mono (by omega)
    have c : 10 ^ 38 + 10 < B128 := by unfold B128; decide
    omega
  have HS := Lib.hid (And.intro small (And.intro hd hk))
  have t0 : ((kept : Int) == 38) = false := by simp; omega
  have d1 : IntKind.u64.wrap (d : Int) = (d : Int) := by rw [IntKind.wrap_u64]; omega
  have e3 : wrap64 ((kept : Int) + 1) = ((kept + 1 : Nat) : Int) := by unfold wrap64; omega
  clear hv small ha hk hd H
  obtain ⟨⟨a0, a1, a2, a3, a4, a5, a6, a7, a8, a9⟩, -, s⟩ := HH.out
  go_enter Tryd.func55, Tryd.ntmps55
  go_wp2_with fail
  refine (MW.out _).mono ?_
  rintro e v1 ⟨o, ph, pl', M, rfl, hb⟩
  have HM := Lib.hid M
  replace HH := Lib.hid (HH.out.below hb)
  have K := (KB.refl g w).step hb
  clear hb M MW a0 a1 a2 a3 a4 a5 a6 a7 a8 a9 s
  obtain ⟨⟨a0, a1, a2, a3, a4, a5, a6, a7, a8, a9⟩, f, s⟩ := HH.out
  have f1 := f 1 (by decide)
  have f2 := f 2 (by decide)
  clear f
  go_upto_region 4 with fail
  clear a0 a1 a2 a3 a4 a5 a6 a7 a8 a9 s f1 f2
  have GG := Lib.hid (HoldsG.put12 HH.out ph pl')
  replace K := KB.set (KB.set K 1 (.int .u64 (ph : Int))) 2 (.int .u64 (pl' : Int))
  generalize (v1.setCell ⟨g, 1, none⟩ (.int .u64 (ph : Int))).setCell ⟨g, 2, none⟩ (.int .u64 (pl' : Int)) = V at *
  clear HH
  obtain ⟨⟨a0, a1, a2, a3, a4, a5, a6, a7, a8, a9⟩, -, s⟩ := GG.out
  go_region_with
    (first
      | (go_at_call 67; refine (wof_any d _).mono ?_; rintro e w' ⟨rfl, o1, rfl⟩)
      | (go_at_call 66; refine (add_any ph pl' 0 d HM.out.2.1 ⟨by decide, (by have := HS.out.2.1; omega)⟩ _).mono ?_; rintro e v2 ⟨sh, sl, c, F, rfl, hb2⟩;
         have G2 := Lib.hid (HoldsG.below (by repeat' (first | (with_reducible exact GG.out) | (with_reducible refine HoldsG.alloc ?_ _) | (with_reducible refine HoldsG.drew ?_))) hb2 : HoldsG v2 g at' ph pl' kept dr more pl pw pd bl);
         have K2 := Lib.hid (KB.step (by repeat' (first | (with_reducible exact K) | (with_reducible refine KB.alloc ?_ _) | (with_reducible refine KB.drew ?_))) hb2 : KB g w v2);
         clear hb2;
         obtain ⟨⟨c0, c1, c2, c3, c4, c5, c6, c7, c8, c9⟩, ff, cs⟩ := G2.out;
         have f1 := ff 1 (by decide); have f2 := ff 2 (by decide); clear ff))
  all_goals
    clear a0 a1 a2 a3 a4 a5 a6 a7 a8 a9 c0 c1 c2 c3 c4 c5 c6 c7 c8 c9 f1 f2
    obtain ⟨wS, vS⟩ : WW sh sl ∧ nv sh sl = nv h l * 10 + d := by
      rcases read_step HM.out F HS.out.2.1 with ⟨-, -, a, b⟩ | ⟨-, b⟩
      · exact ⟨b, a⟩
      · exact absurd b (Nat.not_le.mpr HS.out.1)
    have RES := Lib.hid (And.intro wS vS)
    have ZU := Lib.hid (zero_any sh sl)
    clear F wS vS
    have G3 := Lib.hid (HoldsG.put12 G2.out sh sl)
    replace K2 := Lib.hid (KB.set (KB.set K2.out 1 (.int .u64 (sh : Int))) 2 (.int .u64 (sl : Int)))
    go_upto_region 5 with fail
    try rw [show ((v2.setCell ⟨g, 1, none⟩ (.int .u64 (sh : Int))).setCell ⟨g, 2, none⟩ (.int .u64 (sl : Int))).drew = ((v2.setCell ⟨g, 1, none⟩ (.int .u64 (sh : Int))).setCell ⟨g, 2, none⟩ (.int .u64 (sl : Int))) from rfl]
    generalize (v2.setCell ⟨g, 1, none⟩ (.int .u64 (sh : Int))).setCell ⟨g, 2, none⟩ (.int .u64 (sl : Int)) = V2 at *
    clear G2 GG K
    obtain ⟨⟨a0, a1, a2, a3, a4, a5, a6, a7, a8, a9⟩, -, s'⟩ := G3.out
    go_wp2_with fail
    refine (ZU.out _).mono ?_
    rintro e v3 ⟨rfl, hb⟩
    replace G3 := Lib.hid (HoldsG.below (by repeat' (first | (with_reducible exact G3.out) | (with_reducible refine HoldsG.drew ?_))) hb : HoldsG v3 g at' sh sl kept dr more pl pw pd bl)
    replace K2 := Lib.hid (KB.step (by repeat' (first | (with_reducible exact K2.out) | (with_reducible refine KB.drew ?_))) hb : KB g w v3)
    clear hb ZU a0 a1 a2 a3 a4 a5 a6 a7 a8 a9 s'
    by_cases z : nv sh sl = 0
    · rw [decide_eq_true z]
      have ZZ := Lib.hid z
      clear z
      go_wp2
      refine bodyPost_end (v := .tuple #[]) (by simp [results, Tryd.results55, go_sem]) rfl ⟨rfl, sh, sl, RES.out.1, RES.out.2, ?_, K2.out⟩
      rw [if_pos ZZ.out]
      exact G3.out
    · rw [decide_eq_false z]
      have ZZ := Lib.hid z
      clear z
      obtain ⟨⟨a0, a1, a2, a3, a4, a5, a6, a7, a8, a9⟩, f, s'⟩ := G3.out
      have f3 := f 3 (by decide)
      clear f
      go_wp2
      clear a0 a1 a2 a3 a4 a5 a6 a7 a8 a9 f3 s'
      refine bodyPost_end (v := .tuple #[]) (by simp [results, Tryd.results55, go_sem]) rfl ⟨rfl, sh, sl, RES.out.1, RES.out.2, ?_, KB.set K2.out _ _⟩
      rw [if_neg ZZ.out]
      exact HoldsG.put3 G3.out (kept + 1)
theorem HoldsG.put0 {W : World} {g at' h l kept dr : Nat} {more : Bool} {pl pw pd : Nat} {bl : Bool} (H : HoldsG W g at' h l kept dr more pl pw pd bl) (k : Nat) : HoldsG (W.setCell ⟨g, 0, none⟩ (.int .i64 (k : Int))) g k h l kept dr more pl pw pd bl := by
  obtain ⟨⟨a0, a1, a2, a3, a4, a5, a6, a7, a8, a9⟩, f, s⟩ := H
  have f0 := f 0 (by decide); have f1 := f 1 (by decide); have f2 := f 2 (by decide); have f3 := f 3 (by decide); have f4 := f 4 (by decide)
  have f5 := f 5 (by decide); have f6 := f 6 (by decide); have f7 := f 7 (by decide); have f8 := f 8 (by decide); have f9 := f 9 (by decide)
  refine ⟨by simp [go_sem, *], fun i hi => ?_, by simpa [World.setCell] using s⟩
  have fi := f i hi
  simp [go_sem, *]
theorem HoldsG.put6 {W : World} {g at' h l kept dr : Nat} {more : Bool} {pl pw pd : Nat} {bl : Bool} (H : HoldsG W g at' h l kept dr more pl pw pd bl) (k : Nat) : HoldsG (W.setCell ⟨g, 6, none⟩ (.int .i64 (k : Int))) g at' h l kept dr more k pw pd bl := by
  obtain ⟨⟨a0, a1, a2, a3, a4, a5, a6, a7, a8, a9⟩, f, s⟩ := H
  have f0 := f 0 (by decide); have f1 := f 1 (by decide); have f2 := f 2 (by decide); have f3 := f 3 (by decide); have f4 := f 4 (by decide)
  have f5 := f 5 (by decide); have f6 := f 6 (by decide); have f7 := f 7 (by decide); have f8 := f 8 (by decide); have f9 := f 9 (by decide)
  refine ⟨by simp [go_sem, *], fun i hi => ?_, by simpa [World.setCell] using s⟩
  have fi := f i hi
  simp [go_sem, *]
theorem HoldsG.put7 {W : World} {g at' h l kept dr : Nat} {more : Bool} {pl pw pd : Nat} {bl : Bool} (H : HoldsG W g at' h l kept dr more pl pw pd bl) (k : Nat) : HoldsG (W.setCell ⟨g, 7, none⟩ (.int .i64 (k : Int))) g at' h l kept dr more pl k pd bl := by
  obtain ⟨⟨a0, a1, a2, a3, a4, a5, a6, a7, a8, a9⟩, f, s⟩ := H
  have f0 := f 0 (by decide); have f1 := f 1 (by decide); have f2 := f 2 (by decide); have f3 := f 3 (by decide); have f4 := f 4 (by decide)
  have f5 := f 5 (by decide); have f6 := f 6 (by decide); have f7 := f 7 (by decide); have f8 := f 8 (by decide); have f9 := f 9 (by decide)
  refine ⟨by simp [go_sem, *], fun i hi => ?_, by simpa [World.setCell] using s⟩
  have fi := f i hi
  simp [go_sem, *]
theorem HoldsG.put8 {W : World} {g at' h l kept dr : Nat} {more : Bool} {pl pw pd : Nat} {bl : Bool} (H : HoldsG W g at' h l kept dr more pl pw pd bl) (k : Nat) : HoldsG (W.setCell ⟨g, 8, none⟩ (.int .i64 (k : Int))) g at' h l kept dr more pl pw k bl := by
  obtain ⟨⟨a0, a1, a2, a3, a4, a5, a6, a7, a8, a9⟩, f, s⟩ := H
  have f0 := f 0 (by decide); have f1 := f 1 (by decide); have f2 := f 2 (by decide); have f3 := f 3 (by decide); have f4 := f 4 (by decide)
  have f5 := f 5 (by decide); have f6 := f 6 (by decide); have f7 := f 7 (by decide); have f8 := f 8 (by decide); have f9 := f 9 (by decide)
  refine ⟨by simp [go_sem, *], fun i hi => ?_, by simpa [World.setCell] using s⟩
  have fi := f i hi
  simp [go_sem, *]
theorem HoldsG.put9 {W : World} {g at' h l kept dr : Nat} {more : Bool} {pl pw pd : Nat} {bl : Bool} (H : HoldsG W g at' h l kept dr more pl pw pd bl) (b : Bool) : HoldsG (W.setCell ⟨g, 9, none⟩ (.bool b)) g at' h l kept dr more pl pw pd b := by
  obtain ⟨⟨a0, a1, a2, a3, a4, a5, a6, a7, a8, a9⟩, f, s⟩ := H
  have f0 := f 0 (by decide); have f1 := f 1 (by decide); have f2 := f 2 (by decide); have f3 := f 3 (by decide); have f4 := f 4 (by decide)
  have f5 := f 5 (by decide); have f6 := f 6 (by decide); have f7 := f 7 (by decide); have f8 := f 8 (by decide); have f9 := f 9 (by decide)
  refine ⟨by simp [go_sem, *], fun i hi => ?_, by simpa [World.setCell] using s⟩
  have fi := f i hi
  simp [go_sem, *]
/-- What a coefficient keeps to. -/
def CoefI (h l kept dr : Nat) : Prop := WW h l ∧ kept ≤ 38 ∧ nv h l < 10 ^ kept ∧ dr ≤ 200000000000000
theorem takeCoef_any (g at' h l kept dr : Nat) (more : Bool) (pl pw pd : Nat) (bl : Bool) (d : Nat) (hc : CoefI h l kept dr) (hd : d ≤ 9) (w : World) (H : HoldsG w g at' h l kept dr more pl pw pd bl) :
    Calls Tryd.prog 55 #[.pointer (some ⟨g, 0, none⟩), .int .i64 (d : Int)] w fun e w' => e = .returned (.tuple #[]) ∧ ∃ (h' l' kept' dr' : Nat) (more' : Bool), CoefF h l kept dr more d h' l' kept' dr' more' ∧ HoldsG w' g at' h' l' kept' dr' more' pl pw pd bl ∧ KB g w w' := by
  obtain ⟨wh, k38, hv, hr⟩ := hc
  by_cases k : kept = 38
  · subst k
    refine (takeCoef_full g at' h l dr more pl pw pd bl d hr w H).mono ?_
    rintro e w' ⟨rfl, G, K⟩
    exact ⟨rfl, h, l, 38, dr + 1, _, ⟨wh, .inl ⟨rfl, rfl, rfl, rfl, rfl, rfl⟩⟩, G, K⟩
  · refine (takeCoef_more g at' h l kept dr more pl pw pd bl d wh (by omega) hv hd w H).mono ?_
    rintro e w' ⟨rfl, h', l', w', v', G, K⟩
    exact ⟨rfl, h', l', _, dr, more, ⟨w', .inr ⟨k, v', rfl, rfl, rfl⟩⟩, G, K⟩
set_option linter.unusedSimpArgs false in
set_option maxRecDepth 100000 in
set_option maxHeartbeats 4000000 in
theorem takeDigit_whole (g at' h l kept dr : Nat) (more : Bool) (pl pw pd : Nat) (bl : Bool) (d : Nat) (ha : at' = 0 ∨ at' = 1) (hc : CoefI h l kept dr) (hd : d ≤ 9) (w : World) (H : HoldsG w g at' h l kept dr more pl pw pd bl) :
    Calls Tryd.prog 47 #[.pointer (some ⟨g, 0, none⟩), .int .i64 (d : Int)] w fun e w' => e = .returned (.bool true) ∧ ∃ (h' l' kept' dr' : Nat) (more' : Bool), CoefF h l kept dr more d h' l' kept' dr' more' ∧ HoldsG w' g 1 h' l' kept' dr' more' pl pw pd bl ∧ KB g w w' := by
  have HH := Lib.hid H
  have HC := Lib.hid (And.intro hc hd)
  obtain ⟨⟨a0, a1, a2, a3, a4, a5, a6, a7, a8, a9⟩, f, s⟩ := H
  have f0 := f 0 (by decide)
  have f6 := f 6 (by decide)
  clear f hc hd
  have K := KB.refl g w
  have key : HoldsG (w.setCell ⟨g, 0, none⟩ (.int .i64 1)) g 1 h l kept dr more pl pw pd bl ∧ KB g w (w.setCell ⟨g, 0, none⟩ (.int .i64 1)) := ⟨HoldsG.put0 HH.out 1, KB.set K _ _⟩
  rcases ha with rfl | rfl
  all_goals
    go_enter Tryd.func47, Tryd.ntmps47
    go_wp2_with fail
    clear a0 a1 a2 a3 a4 a5 a6 a7 a8 a9 f0 f6 s K
    obtain ⟨G, K⟩ := key
    generalize w.setCell ⟨g, 0, none⟩ (.int .i64 1) = V at *
    refine (takeCoef_any g 1 h l kept dr more pl pw pd bl d HC.out.1 HC.out.2 V G).mono ?_
    rintro e v1 ⟨rfl, h', l', kept', dr', more', C, G', K'⟩
    have RES := Lib.hid (And.intro C (And.intro G' (KB.trans K K')))
    clear C G' K' G K
    go_wp2
    go_ret
    exact ⟨rfl, h', l', kept', dr', more', RES.out.1, RES.out.2.1, RES.out.2.2⟩
set_option linter.unusedSimpArgs false in
set_option maxRecDepth 100000 in
set_option maxHeartbeats 4000000 in
theorem takeDigit_places (g at' h l kept dr : Nat) (more : Bool) (pl pw pd : Nat) (bl : Bool) (d : Nat) (ha : at' = 2 ∨ at' = 3) (hc : CoefI h l kept dr) (hd : d ≤ 9) (hp : pl ≤ 200000000000000) (w : World) (H : HoldsG w g at' h l kept dr more pl pw pd bl) :
    Calls Tryd.prog 47 #[.pointer (some ⟨g, 0, none⟩), .int .i64 (d : Int)] w fun e w' => e = .returned (.bool true) ∧ ∃ (h' l' kept' dr' : Nat) (more' : Bool), CoefF h l kept dr more d h' l' kept' dr' more' ∧ HoldsG w' g 3 h' l' kept' dr' more' (pl + 1) pw pd bl ∧ KB g w w' := by
  have HH := Lib.hid H
  have HC := Lib.hid (And.intro hc hd)
  obtain ⟨p1, hp1⟩ : ∃ p : Nat, p = pl + 1 := ⟨_, rfl⟩
  have e6 : wrap64 ((pl : Int) + 1) = (p1 : Int) := by unfold wrap64; omega
  have HP := Lib.hid hp1
  clear hp hp1
  obtain ⟨⟨a0, a1, a2, a3, a4, a5, a6, a7, a8, a9⟩, f, s⟩ := H
  have f0 := f 0 (by decide)
  have f6 := f 6 (by decide)
  clear f hc hd
  have K := KB.refl g w
  have key : HoldsG ((w.setCell ⟨g, 0, none⟩ (.int .i64 3)).setCell ⟨g, 6, none⟩ (.int .i64 (p1 : Int))) g 3 h l kept dr more p1 pw pd bl ∧ KB g w ((w.setCell ⟨g, 0, none⟩ (.int .i64 3)).setCell ⟨g, 6, none⟩ (.int .i64 (p1 : Int))) := ⟨HoldsG.put6 (HoldsG.put0 HH.out 3) p1, KB.set (KB.set K _ _) _ _⟩
  rcases ha with rfl | rfl
  all_goals
    go_enter Tryd.func47, Tryd.ntmps47
    go_wp2_with fail
    clear a0 a1 a2 a3 a4 a5 a6 a7 a8 a9 f0 f6 s K
    obtain ⟨G, K⟩ := key
    generalize (w.setCell ⟨g, 0, none⟩ (.int .i64 3)).setCell ⟨g, 6, none⟩ (.int .i64 (p1 : Int)) = V at *
    refine (takeCoef_any g 3 h l kept dr more p1 pw pd bl d HC.out.1 HC.out.2 V G).mono ?_
    rintro e v1 ⟨rfl, h', l', kept', dr', more', C, G', K'⟩
    have RES := Lib.hid (And.intro C (And.intro G' (KB.trans K K')))
    clear C G' K' G K
    go_wp2
    go_ret
    have q := HP.out
    subst q
    exact ⟨rfl, h', l', kept', dr', more', RES.out.1, RES.out.2.1, RES.out.2.2⟩
set_option linter.unusedSimpArgs false in
set_option maxRecDepth 100000 in
set_option maxHeartbeats 4000000 in
theorem takeDigit_power (g at' h l kept dr : Nat) (more : Bool) (pl pw pd : Nat) (bl : Bool) (d : Nat) (ha : at' = 4 ∨ at' = 5 ∨ at' = 6) (hd : d ≤ 9) (hp : pw ≤ 200000000000000) (hq : pd ≤ 200000000000000) (w : World) (H : HoldsG w g at' h l kept dr more pl pw pd bl) :
    Calls Tryd.prog 47 #[.pointer (some ⟨g, 0, none⟩), .int .i64 (d : Int)] w fun e w' => e = .returned (.bool (decide (pd + 1 ≤ 6))) ∧ HoldsG w' g 6 h l kept dr more pl (pw * 10 + d) (pd + 1) bl ∧ KB g w w' := by
  have HH := Lib.hid H
  obtain ⟨q1, hq1⟩ : ∃ p : Nat, p = pw * 10 + d := ⟨_, rfl⟩
  obtain ⟨q2, hq2⟩ : ∃ p : Nat, p = pd + 1 := ⟨_, rfl⟩
  obtain ⟨m1, hm1⟩ : ∃ p : Int, p = 10 * (pw : Int) := ⟨_, rfl⟩
  have e1 : wrap64 (10 * (pw : Int)) = m1 := by unfold wrap64; omega
  have e2 : wrap64 (m1 + (d : Int)) = (q1 : Int) := by unfold wrap64; omega
  have e3 : wrap64 ((pd : Int) + 1) = (q2 : Int) := by unfold wrap64; omega
  have HQ := Lib.hid (And.intro hq1 hq2)
  have RB := Lib.hid (show decide (pd + 1 ≤ 6) = decide ((q2 : Int) ≤ 6) from decide_eq_decide.mpr (by omega))
  obtain ⟨⟨a0, a1, a2, a3, a4, a5, a6, a7, a8, a9⟩, f, s⟩ := H
  have f0 := f 0 (by decide)
  have f7 := f 7 (by decide)
  have f8 := f 8 (by decide)
  clear f hd hp hq hq1 hq2 hm1
  rcases ha with rfl | rfl | rfl
  all_goals
    go_enter Tryd.func47, Tryd.ntmps47
    go_wp2
    go_ret
    refine ⟨?_, ?_, KB.set (KB.set (KB.set (KB.refl g w) _ _) _ _) _ _⟩
    · rw [RB.out]; rfl
    · have k := HoldsG.put8 (HoldsG.put7 (HoldsG.put0 HH.out 6) q1) q2
      rw [← HQ.out.1, ← HQ.out.2]
      exact k
/-- What was read: the place; the coefficient, how many digits it has, how many were dropped, whether not all of these are noughts; the places; the power, its digits, whether it is below 0. -/
abbrev RdT : Type := Nat × Nat × Nat × Nat × Bool × Nat × Nat × Nat × Bool
/-- One more digit of the coefficient, its place and the places being given. -/
def coefS (at' V kept dr : Nat) (more : Bool) (pl pw pd : Nat) (bl : Bool) (d : Nat) : RdT :=
  if kept = 38 then (at', V, kept, dr + 1, more || decide (d ≠ 0), pl, pw, pd, bl) else (at', V * 10 + d, if V * 10 + d = 0 then kept else kept + 1, dr, more, pl, pw, pd, bl)
/-- One more rune. -/
def takeS (r : Nat) : RdT → RdT × Bool
  | (at', V, kept, dr, more, pl, pw, pd, bl) =>
    if 48 ≤ r ∧ r ≤ 57 then
      if at' ≤ 1 then (coefS 1 V kept dr more pl pw pd bl (r - 48), true)
      else if at' ≤ 3 then (coefS 3 V kept dr more (pl + 1) pw pd bl (r - 48), true)
      else ((6, V, kept, dr, more, pl, pw * 10 + (r - 48), pd + 1, bl), decide (pd + 1 ≤ 6))
    else if r = 46 then ((2, V, kept, dr, more, pl, pw, pd, bl), decide (at' ≤ 1))
    else if r = 69 then ((4, V, kept, dr, more, pl, pw, pd, bl), decide (at' = 1 ∨ at' = 3))
    else if r = 43 ∨ r = 45 then ((5, V, kept, dr, more, pl, pw, pd, decide (r = 45)), decide (at' = 4))
    else ((at', V, kept, dr, more, pl, pw, pd, bl), false)
/-- The cells of a block hold what was read. -/
def HoldsTn (W : World) (g : Nat) : RdT → Prop
  | (at', V, kept, dr, more, pl, pw, pd, bl) => ∃ h l : Nat, WW h l ∧ nv h l = V ∧ HoldsG W g at' h l kept dr more pl pw pd bl
/-- What it keeps to behind n runes. -/
def InvT (n : Nat) : RdT → Prop
  | (at', V, kept, dr, _, pl, pw, pd, _) => at' ≤ 6 ∧ kept ≤ 38 ∧ V < 10 ^ kept ∧ dr ≤ n ∧ pl ≤ n ∧ pd ≤ 7 ∧ pw < 10 ^ pd
theorem coefF_S {h l kept dr : Nat} {more : Bool} {d h' l' kept' dr' : Nat} {more' : Bool} (C : CoefF h l kept dr more d h' l' kept' dr' more') {W : World} {g at' pl pw pd : Nat} {bl : Bool} (H : HoldsG W g at' h' l' kept' dr' more' pl pw pd bl) : HoldsTn W g (coefS at' (nv h l) kept dr more pl pw pd bl d) := by
  obtain ⟨w, ⟨k, rfl, rfl, rfl, rfl, rfl⟩ | ⟨k, v, rfl, rfl, rfl⟩⟩ := C
  · unfold coefS
    rw [if_pos k]
    exact ⟨h', l', w, rfl, H⟩
  · unfold coefS
    rw [if_neg k]
    rw [v] at H
    exact ⟨h', l', w, v, H⟩
set_option linter.unusedSimpArgs false in
set_option maxRecDepth 100000 in
set_option maxHeartbeats 4000000 in
theorem take_d (g at' h l kept dr : Nat) (more : Bool) (pl pw pd : Nat) (bl : Bool) (d : Nat) (hd : d ≤ 9) (w : World) (H : HoldsG w g at' h l kept dr more pl pw pd bl) (ok : Bool) (Q : World → Prop)
    (TD : Calls Tryd.prog 47 #[.pointer (some ⟨g, 0, none⟩), .int .i64 (d : Int)] w fun e w' => e = .returned (.bool ok) ∧ Q w') :
    Calls Tryd.prog 33 #[.pointer (some ⟨g, 0, none⟩), .int .i32 ((d + 48 : Nat) : Int)] w fun e w' => e = .returned (.bool ok) ∧ Q w' := by
  have TD := Lib.hid TD
  obtain ⟨⟨a0, a1, a2, a3, a4, a5, a6, a7, a8, a9⟩, -, s⟩ := H
  obtain ⟨r, hr⟩ : ∃ r : Int, r = ((d + 48 : Nat) : Int) := ⟨_, rfl⟩
  rw [← hr]
  have t1 : decide (48 ≤ r) = true := decide_eq_true (by omega)
  have t2 : decide (r ≤ 57) = true := decide_eq_true (by omega)
  have e1 : IntKind.i32.wrap (r - 48) = (d : Int) := by rw [IntKind.wrap_i32]; omega
  have e2 : wrap32 (r - 48) = (d : Int) := by unfold wrap32; omega
  have e3 : IntKind.i64.wrap (d : Int) = (d : Int) := by rw [IntKind.wrap_i64]; omega
  clear hd hr
  go_enter Tryd.func33, Tryd.ntmps33
  go_wp2_with fail
  refine TD.out.mono ?_
  rintro e v1 ⟨rfl, RES⟩
  clear a0 a1 a2 a3 a4 a5 a6 a7 a8 a9 s TD
  have HR := Lib.hid RES
  clear RES
  go_wp2
  go_ret
  exact ⟨rfl, HR.out⟩
set_option linter.unusedSimpArgs false in
set_option maxRecDepth 100000 in
set_option maxHeartbeats 4000000 in
theorem take_point (g at' h l kept dr : Nat) (more : Bool) (pl pw pd : Nat) (bl : Bool) (ha : at' ≤ 6) (w : World) (H : HoldsG w g at' h l kept dr more pl pw pd bl) :
    Calls Tryd.prog 33 #[.pointer (some ⟨g, 0, none⟩), .int .i32 46] w fun e w' => e = .returned (.bool (decide (at' ≤ 1))) ∧ HoldsG w' g 2 h l kept dr more pl pw pd bl ∧ KB g w w' := by
  have HH := Lib.hid H
  obtain ⟨⟨a0, a1, a2, a3, a4, a5, a6, a7, a8, a9⟩, f, s⟩ := H
  have f0 := f 0 (by decide)
  have f9 := f 9 (by decide)
  clear f
  have c : at' = 0 ∨ at' = 1 ∨ at' = 2 ∨ at' = 3 ∨ at' = 4 ∨ at' = 5 ∨ at' = 6 := by omega
  clear ha
  rcases c with rfl | rfl | rfl | rfl | rfl | rfl | rfl
  all_goals
    go_enter Tryd.func33, Tryd.ntmps33
    go_wp2
    go_ret
    exact ⟨rfl, HoldsG.put0 HH.out 2, KB.set (KB.refl g w) _ _⟩
set_option linter.unusedSimpArgs false in
set_option maxRecDepth 100000 in
set_option maxHeartbeats 4000000 in
theorem take_E (g at' h l kept dr : Nat) (more : Bool) (pl pw pd : Nat) (bl : Bool) (ha : at' ≤ 6) (w : World) (H : HoldsG w g at' h l kept dr more pl pw pd bl) :
    Calls Tryd.prog 33 #[.pointer (some ⟨g, 0, none⟩), .int .i32 69] w fun e w' => e = .returned (.bool (decide (at' = 1 ∨ at' = 3))) ∧ HoldsG w' g 4 h l kept dr more pl pw pd bl ∧ KB g w w' := by
  have HH := Lib.hid H
  obtain ⟨⟨a0, a1, a2, a3, a4, a5, a6, a7, a8, a9⟩, f, s⟩ := H
  have f0 := f 0 (by decide)
  have f9 := f 9 (by decide)
  clear f
  have c : at' = 0 ∨ at' = 1 ∨ at' = 2 ∨ at' = 3 ∨ at' = 4 ∨ at' = 5 ∨ at' = 6 := by omega
  clear ha
  rcases c with rfl | rfl | rfl | rfl | rfl | rfl | rfl
  all_goals
    go_enter Tryd.func33, Tryd.ntmps33
    go_wp2
    go_ret
    exact ⟨rfl, HoldsG.put0 HH.out 4, KB.set (KB.refl g w) _ _⟩
set_option linter.unusedSimpArgs false in
set_option maxRecDepth 100000 in
set_option maxHeartbeats 4000000 in
theorem take_plus (g at' h l kept dr : Nat) (more : Bool) (pl pw pd : Nat) (bl : Bool) (ha : at' ≤ 6) (w : World) (H : HoldsG w g at' h l kept dr more pl pw pd bl) :
    Calls Tryd.prog 33 #[.pointer (some ⟨g, 0, none⟩), .int .i32 43] w fun e w' => e = .returned (.bool (decide (at' = 4))) ∧ HoldsG w' g 5 h l kept dr more pl pw pd false ∧ KB g w w' := by
  have HH := Lib.hid H
  obtain ⟨⟨a0, a1, a2, a3, a4, a5, a6, a7, a8, a9⟩, f, s⟩ := H
  have f0 := f 0 (by decide)
  have f9 := f 9 (by decide)
  clear f
  have c : at' = 0 ∨ at' = 1 ∨ at' = 2 ∨ at' = 3 ∨ at' = 4 ∨ at' = 5 ∨ at' = 6 := by omega
  clear ha
  rcases c with rfl | rfl | rfl | rfl | rfl | rfl | rfl
  all_goals
    go_enter Tryd.func33, Tryd.ntmps33
    go_wp2
    go_ret
    exact ⟨rfl, HoldsG.put9 (HoldsG.put0 HH.out 5) false, KB.set (KB.set (KB.refl g w) _ _) _ _⟩
set_option linter.unusedSimpArgs false in
set_option maxRecDepth 100000 in
set_option maxHeartbeats 4000000 in
theorem take_minus (g at' h l kept dr : Nat) (more : Bool) (pl pw pd : Nat) (bl : Bool) (ha : at' ≤ 6) (w : World) (H : HoldsG w g at' h l kept dr more pl pw pd bl) :
    Calls Tryd.prog 33 #[.pointer (some ⟨g, 0, none⟩), .int .i32 45] w fun e w' => e = .returned (.bool (decide (at' = 4))) ∧ HoldsG w' g 5 h l kept dr more pl pw pd true ∧ KB g w w' := by
  have HH := Lib.hid H
  obtain ⟨⟨a0, a1, a2, a3, a4, a5, a6, a7, a8, a9⟩, f, s⟩ := H
  have f0 := f 0 (by decide)
  have f9 := f 9 (by decide)
  clear f
  have c : at' = 0 ∨ at' = 1 ∨ at' = 2 ∨ at' = 3 ∨ at' = 4 ∨ at' = 5 ∨ at' = 6 := by omega
  clear ha
  rcases c with rfl | rfl | rfl | rfl | rfl | rfl | rfl
  all_goals
    go_enter Tryd.func33, Tryd.ntmps33
    go_wp2
    go_ret
    exact ⟨rfl, HoldsG.put9 (HoldsG.put0 HH.out 5) true, KB.set (KB.set (KB.refl g w) _ _) _ _⟩
set_option linter.unusedSimpArgs false in
set_option maxRecDepth 100000 in
set_option maxHeartbeats 4000000 in
theorem take_other (g at' h l kept dr : Nat) (more : Bool) (pl pw pd : Nat) (bl : Bool) (r : Int) (h1 : r < 48 ∨ 57 < r) (h2 : r ≠ 46) (h3 : r ≠ 69) (h4 : r ≠ 43) (h5 : r ≠ 45) (w : World) (H : HoldsG w g at' h l kept dr more pl pw pd bl) :
    Calls Tryd.prog 33 #[.pointer (some ⟨g, 0, none⟩), .int .i32 r] w fun e w' => e = .returned (.bool false) ∧ HoldsG w' g at' h l kept dr more pl pw pd bl ∧ KB g w w' := by
  have HH := Lib.hid H
  obtain ⟨⟨a0, a1, a2, a3, a4, a5, a6, a7, a8, a9⟩, f, s⟩ := H
  clear f
  have t2 : (r == 46) = false := by simpa using h2
  have t3 : (r == 69) = false := by simpa using h3
  have t4 : (r == 43) = false := by simpa using h4
  have t5 : (r == 45) = false := by simpa using h5
  have t6 : decide (48 ≤ r) = false ∨ (decide (48 ≤ r) = true ∧ decide (r ≤ 57) = false) := by
    by_cases k : 48 ≤ r
    · exact .inr ⟨decide_eq_true k, decide_eq_false (by omega)⟩
    · exact .inl (decide_eq_false k)
  clear h1 h2 h3 h4 h5
  rcases t6 with t6 | ⟨t6, t7⟩
  all_goals
    go_enter Tryd.func33, Tryd.ntmps33
    go_wp2
    go_ret
    exact ⟨rfl, HH.out, KB.refl g w⟩
theorem takeS_inv {n r : Nat} {s : RdT} (I : InvT n s) (h : (takeS r s).2 = true) : InvT (n + 1) (takeS r s).1 := by
  obtain ⟨at', V, kept, dr, more, pl, pw, pd, bl⟩ := s
  obtain ⟨i1, i2, i3, i4, i5, i6, i7⟩ := I
  have cf : ∀ (a p d : Nat), a ≤ 6 → p ≤ n + 1 → d ≤ 9 → InvT (n + 1) (coefS a V kept dr more p pw pd bl d) := by
    intro a p d ha hp hd
    unfold coefS
    by_cases k : kept = 38
    · rw [if_pos k]
      exact ⟨ha, i2, i3, by omega, hp, i6, i7⟩
    · rw [if_neg k]
      refine ⟨ha, ?_, ?_, by omega, hp, i6, i7⟩
      · show (if V * 10 + d = 0 then kept else kept + 1) ≤ 38
        split <;> omega
      · show V * 10 + d < 10 ^ (if V * 10 + d = 0 then kept else kept + 1)
        split
        · rename_i z
          rw [z]; exact p10 _
        · rw [Nat.pow_succ]; omega
  unfold takeS at h ⊢
  simp only [] at h ⊢
  by_cases c1 : 48 ≤ r ∧ r ≤ 57
  · rw [if_pos c1] at h ⊢
    by_cases c2 : at' ≤ 1
    · rw [if_pos c2] at h ⊢
      exact cf 1 pl (r - 48) (by decide) (by omega) (by omega)
    · rw [if_neg c2] at h ⊢
      by_cases c3 : at' ≤ 3
      · rw [if_pos c3] at h ⊢
        exact cf 3 (pl + 1) (r - 48) (by decide) (by omega) (by omega)
      · rw [if_neg c3] at h ⊢
        have h6 : pd + 1 ≤ 6 := of_decide_eq_true h
        refine ⟨by decide, i2, i3, by omega, by omega, by omega, ?_⟩
        show pw * 10 + (r - 48) < 10 ^ (pd + 1)
        rw [Nat.pow_succ]
        omega
  · rw [if_neg c1] at h ⊢
    by_cases c4 : r = 46
    · rw [if_pos c4] at h ⊢
      exact ⟨by decide, i2, i3, by omega, by omega, i6, i7⟩
    · rw [if_neg c4] at h ⊢
      by_cases c5 : r = 69
      · rw [if_pos c5] at h ⊢
        exact ⟨by decide, i2, i3, by omega, by omega, i6, i7⟩
      · rw [if_neg c5] at h ⊢
        by_cases c6 : r = 43 ∨ r = 45
        · rw [if_pos c6] at h ⊢
          exact ⟨by decide, i2, i3, by omega, by omega, i6, i7⟩
        · rw [if_neg c6] at h
          exact absurd h Bool.false_ne_true
theorem take_any (g n r : Nat) (s : RdT) (I : InvT n s) (hn : n ≤ 200000000000000) (w : World) (H : HoldsTn w g s) :
    Calls Tryd.prog 33 #[.pointer (some ⟨g, 0, none⟩), .int .i32 (r : Int)] w fun e w' => e = .returned (.bool (takeS r s).2) ∧ (HoldsTn w' g (takeS r s).1 ∧ KB g w w') := by
  obtain ⟨at', V, kept, dr, more, pl, pw, pd, bl⟩ := s
  obtain ⟨i1, i2, i3, i4, i5, i6, i7⟩ := I
  obtain ⟨h, l, wh, vh, H⟩ := H
  have ci : CoefI h l kept dr := ⟨wh, i2, by rw [vh]; exact i3, by omega⟩
  have pw12 : pw ≤ 200000000000000 := by
    have : 10 ^ pd ≤ 10 ^ 7 := p10_mono i6
    omega
  unfold takeS
  simp only []
  by_cases c1 : 48 ≤ r ∧ r ≤ 57
  · obtain ⟨d, hd⟩ : ∃ d, d = r - 48 := ⟨_, rfl⟩
    have d9 : d ≤ 9 := by omega
    rw [if_pos c1, ← hd, show ((r : Nat) : Int) = ((d + 48 : Nat) : Int) by omega]
    by_cases c2 : at' ≤ 1
    · rw [if_pos c2]
      refine take_d g at' h l kept dr more pl pw pd bl d d9 w H true (fun w' => HoldsTn w' g (coefS 1 V kept dr more pl pw pd bl d) ∧ KB g w w') ?_
      refine (takeDigit_whole g at' h l kept dr more pl pw pd bl d (by omega) ci d9 w H).mono ?_
      rintro e w' ⟨rfl, h', l', kept', dr', more', C, G, K⟩
      rw [← vh]
      exact ⟨rfl, coefF_S C G, K⟩
    · rw [if_neg c2]
      by_cases c3 : at' ≤ 3
      · rw [if_pos c3]
        refine take_d g at' h l kept dr more pl pw pd bl d d9 w H true (fun w' => HoldsTn w' g (coefS 3 V kept dr more (pl + 1) pw pd bl d) ∧ KB g w w') ?_
        refine (takeDigit_places g at' h l kept dr more pl pw pd bl d (by omega) ci d9 (by omega) w H).mono ?_
        rintro e w' ⟨rfl, h', l', kept', dr', more', C, G, K⟩
        rw [← vh]
        exact ⟨rfl, coefF_S C G, K⟩
      · rw [if_neg c3]
        refine take_d g at' h l kept dr more pl pw pd bl d d9 w H (decide (pd + 1 ≤ 6)) (fun w' => HoldsTn w' g (6, V, kept, dr, more, pl, pw * 10 + d, pd + 1, bl) ∧ KB g w w') ?_
        refine (takeDigit_power g at' h l kept dr more pl pw pd bl d (by omega) d9 pw12 (by omega) w H).mono ?_
        rintro e w' ⟨rfl, G, K⟩
        exact ⟨rfl, ⟨h, l, wh, vh, G⟩, K⟩
  · rw [if_neg c1]
    by_cases c4 : r = 46
    · rw [if_pos c4, c4]
      refine (take_point g at' h l kept dr more pl pw pd bl i1 w H).mono ?_
      rintro e w' ⟨rfl, G, K⟩
      exact ⟨rfl, ⟨h, l, wh, vh, G⟩, K⟩
    · rw [if_neg c4]
      by_cases c5 : r = 69
      · rw [if_pos c5, c5]
        refine (take_E g at' h l kept dr more pl pw pd bl i1 w H).mono ?_
        rintro e w' ⟨rfl, G, K⟩
        exact ⟨rfl, ⟨h, l, wh, vh, G⟩, K⟩
      · rw [if_neg c5]
        by_cases c6 : r = 43 ∨ r = 45
        · rw [if_pos c6]
          rcases c6 with c6 | c6
          · rw [c6]
            refine (take_plus g at' h l kept dr more pl pw pd bl i1 w H).mono ?_
            rintro e w' ⟨rfl, G, K⟩
            exact ⟨rfl, ⟨h, l, wh, vh, G⟩, K⟩
          · rw [c6]
            refine (take_minus g at' h l kept dr more pl pw pd bl i1 w H).mono ?_
            rintro e w' ⟨rfl, G, K⟩
            exact ⟨rfl, ⟨h, l, wh, vh, G⟩, K⟩
        · rw [if_neg c6]
          refine (take_other g at' h l kept dr more pl pw pd bl (r : Int) (by omega) (by omega) (by omega) (by omega) (by omega) w H).mono ?_
          rintro e w' ⟨rfl, G, K⟩
          exact ⟨rfl, ⟨h, l, wh, vh, G⟩, K⟩
def rd0 : RdT := (0, 0, 0, 0, false, 0, 0, 0, false)
/-- A text's bytes, one behind the other. -/
def runS : List UInt8 → RdT → Option RdT
  | [], s => some s
  | b :: t, s => if (takeS b.toNat s).2 = true then runS t (takeS b.toNat s).1 else none
theorem runS_snoc {l : List UInt8} {b : UInt8} : ∀ {s s' : RdT}, runS l s = some s' → runS (l ++ [b]) s = if (takeS b.toNat s').2 = true then some (takeS b.toNat s').1 else none := by
  induction l with
  | nil =>
    intro s s' h
    obtain rfl : s = s' := Option.some.inj h
    rfl
  | cons c l ih =>
    intro s s' h
    rw [List.cons_append]
    unfold runS at h ⊢
    split at h
    · rename_i q
      rw [if_pos q]
      exact ih h
    · exact absurd h (by simp)
theorem runS_stop {l : List UInt8} {b : UInt8} {m : List UInt8} : ∀ {s s' : RdT}, runS l s = some s' → (takeS b.toNat s').2 = false → runS (l ++ b :: m) s = none := by
  induction l with
  | nil =>
    intro s s' h k
    obtain rfl : s = s' := Option.some.inj h
    show (if (takeS b.toNat s).2 = true then runS m (takeS b.toNat s).1 else none) = none
    rw [if_neg (by rw [k]; exact Bool.false_ne_true)]
  | cons c l ih =>
    intro s s' h k
    rw [List.cons_append]
    unfold runS at h ⊢
    split at h
    · rename_i q
      rw [if_pos q]
      exact ih h k
    · exact absurd h (by simp)
theorem takeS_high {r : Nat} (h : 128 ≤ r) (s : RdT) : (takeS r s).2 = false := by
  obtain ⟨at', V, kept, dr, more, pl, pw, pd, bl⟩ := s
  unfold takeS
  simp only []
  rw [if_neg (by omega), if_neg (by omega), if_neg (by omega), if_neg (by omega)]
theorem byte_at (s : ByteArray) (pos : Nat) (h : pos < s.size) : s.data.toList.take (pos + 1) = s.data.toList.take pos ++ [s[pos]'h] := by
  have h' : pos < s.data.toList.length := h
  rw [List.take_succ_eq_append_getElem h']
  rfl
/-- What was read, as the program lays it. -/
abbrev Gv (at' h l kept dr : Nat) (more : Bool) (pl pw pd : Nat) (bl : Bool) : Value := .agg #[.int .i64 (at' : Int), .int .u64 (h : Int), .int .u64 (l : Int), .int .i64 (kept : Int), .int .i64 (dr : Int), .bool more, .int .i64 (pl : Int), .int .i64 (pw : Int), .int .i64 (pd : Int), .bool bl]
theorem HoldsG.new10 {W : World} {g : Nat} {t : Nat} (hg : g = W.heap.size) : HoldsG (W.alloc (.cells #[.int .i64 0, .int .u64 0, .int .u64 0, .int .i64 0, .int .i64 0, .bool false, .int .i64 0, .int .i64 0, .int .i64 0, .bool false] t)) g 0 0 0 0 0 false 0 0 0 false := by
  subst hg
  refine ⟨by simp [go_sem], fun i hi => by simp [go_sem], by simp⟩
theorem HoldsG.iter {W : World} {g at' h l kept dr : Nat} {more : Bool} {pl pw pd : Nat} {bl : Bool} (H : HoldsG W g at' h l kept dr more pl pw pd bl) {k : Nat} (hk : g ≠ k) (s : ByteArray) (pos : Nat) : HoldsG (W.iterAt k s pos) g at' h l kept dr more pl pw pd bl := by
  obtain ⟨⟨a0, a1, a2, a3, a4, a5, a6, a7, a8, a9⟩, f, e⟩ := H
  have q := Lib.iterAt_other W k g s pos hk
  exact ⟨⟨(World.cell?_of_block (a := ⟨g, 0, none⟩) q).trans a0, (World.cell?_of_block (a := ⟨g, 1, none⟩) q).trans a1, (World.cell?_of_block (a := ⟨g, 2, none⟩) q).trans a2, (World.cell?_of_block (a := ⟨g, 3, none⟩) q).trans a3, (World.cell?_of_block (a := ⟨g, 4, none⟩) q).trans a4, (World.cell?_of_block (a := ⟨g, 5, none⟩) q).trans a5, (World.cell?_of_block (a := ⟨g, 6, none⟩) q).trans a6, (World.cell?_of_block (a := ⟨g, 7, none⟩) q).trans a7, (World.cell?_of_block (a := ⟨g, 8, none⟩) q).trans a8, (World.cell?_of_block (a := ⟨g, 9, none⟩) q).trans a9⟩, fun i hi => (World.frozen?_of_block (a := ⟨g, i, none⟩) q).trans (f i hi), by rw [Lib.iterAt_size]; exact e⟩
theorem HoldsTn.iter {W : World} {g : Nat} {t : RdT} (H : HoldsTn W g t) {k : Nat} (hk : g ≠ k) (s : ByteArray) (pos : Nat) : HoldsTn (W.iterAt k s pos) g t := by
  obtain ⟨at', V, kept, dr, more, pl, pw, pd, bl⟩ := t
  obtain ⟨h, l, a, b, G⟩ := H
  exact ⟨h, l, a, b, G.iter hk s pos⟩
theorem HoldsG.kb {W W' : World} {q g at' h l kept dr : Nat} {more : Bool} {pl pw pd : Nat} {bl : Bool} (H : HoldsG W g at' h l kept dr more pl pw pd bl) (K : KB q W W') (hg : g ≠ q) : HoldsG W' g at' h l kept dr more pl pw pd bl := by
  obtain ⟨⟨a0, a1, a2, a3, a4, a5, a6, a7, a8, a9⟩, f, e⟩ := H
  have p := K.2.2.2.2 g e hg
  exact ⟨⟨(World.cell?_of_block (a := ⟨g, 0, none⟩) p).trans a0, (World.cell?_of_block (a := ⟨g, 1, none⟩) p).trans a1, (World.cell?_of_block (a := ⟨g, 2, none⟩) p).trans a2, (World.cell?_of_block (a := ⟨g, 3, none⟩) p).trans a3, (World.cell?_of_block (a := ⟨g, 4, none⟩) p).trans a4, (World.cell?_of_block (a := ⟨g, 5, none⟩) p).trans a5, (World.cell?_of_block (a := ⟨g, 6, none⟩) p).trans a6, (World.cell?_of_block (a := ⟨g, 7, none⟩) p).trans a7, (World.cell?_of_block (a := ⟨g, 8, none⟩) p).trans a8, (World.cell?_of_block (a := ⟨g, 9, none⟩) p).trans a9⟩, fun i hi => (World.frozen?_of_block (a := ⟨g, i, none⟩) p).trans (f i hi), Nat.lt_of_lt_of_le e K.2.2.2.1⟩
/-- The places at which a text may end. -/
def endS (t : RdT) : Bool := decide (t.1 = 1 ∨ t.1 = 3 ∨ t.1 = 6)
/-- What readThrough answers. -/
def RdP (o : Option RdT) (e : Ending) : Prop := match o with
  | none => e = .returned (.tuple #[Gv 0 0 0 0 0 false 0 0 0 false, .bool false])
  | some (at', V, kept, dr, more, pl, pw, pd, bl) => ∃ h l : Nat, WW h l ∧ nv h l = V ∧ e = .returned (.tuple #[Gv at' h l kept dr more pl pw pd bl, .bool (endS (at', V, kept, dr, more, pl, pw, pd, bl))])
def RtRel (w : World) (s : ByteArray) (k : Nat) (W : World) : Prop :=
  ∃ (pos : Nat) (t : RdT), W.heap[w.heap.size + 1 + 1]? = some (.stringIter s pos) ∧ pos + k = s.size ∧ runS (s.data.toList.take pos) rd0 = some t ∧ InvT pos t ∧ HoldsTn W (w.heap.size + 1) t ∧ HoldsG W w.heap.size 0 0 0 0 0 false 0 0 0 false ∧ Below w.heap.size w W
set_option linter.unusedSimpArgs false in
set_option maxRecDepth 100000 in
set_option maxHeartbeats 4000000 in
theorem readThrough_any (s : ByteArray) (hs : s.size ≤ 200000000000000) (w : World) : Calls Tryd.prog 17 #[.string s] w fun e w' => RdP (runS s.data.toList rd0) e ∧ Below w.heap.size w w' := by
  have HS := Lib.hid hs
  clear hs
  go_enter Tryd.func17, Tryd.ntmps17
  go_wp2
  go_loopg [] s.size (fun k W => RtRel w s k W)
  case atStart =>
    have Z := (show HoldsG (w.alloc (.cells #[.int .i64 0, .int .u64 0, .int .u64 0, .int .i64 0, .int .i64 0, .bool false, .int .i64 0, .int .i64 0, .int .i64 0, .bool false] 42)) w.heap.size 0 0 0 0 0 false 0 0 0 false from HoldsG.new10 rfl)
    refine ⟨0, rd0, ?_, by omega, by rw [List.take_zero]; rfl, ⟨by decide, by decide, by decide, by decide, by decide, by decide, by decide⟩, ⟨0, 0, ww0, rfl, ?_⟩, ?_, ?_⟩
    · have := World.iter_heap ((w.alloc (.cells #[.int .i64 0, .int .u64 0, .int .u64 0, .int .i64 0, .int .i64 0, .bool false, .int .i64 0, .int .i64 0, .int .i64 0, .bool false] 42)).alloc (.cells #[.int .i64 0, .int .u64 0, .int .u64 0, .int .i64 0, .int .i64 0, .bool false, .int .i64 0, .int .i64 0, .int .i64 0, .bool false] 42)) s 0
      simpa using this
    · exact HoldsG.alloc (HoldsG.new10 (by simp)) _
    · exact HoldsG.alloc (HoldsG.alloc Z _) _
    · exact Below.alloc (((Below.refl _ w).alloc (Nat.le_refl _) _).alloc (by simp) _) (by simp; omega) _
  case round =>
    obtain ⟨pos, t, hit, hp, hr, hI, A1, A0, HB⟩ := hrel
    have HR := Lib.hid (And.intro hr hI)
    have hsz : w.heap.size + 1 + 1 < wr.heap.size := (Array.getElem?_eq_some_iff.1 hit).1
    clear hr hI
    by_cases hlt : pos < s.size
    · obtain ⟨rv, p', hd1, hd2, hd3⟩ : ∃ rv p' : Nat, (Utf8.decode s pos).1 = rv ∧ pos + (Utf8.decode s pos).2 = p' ∧ ((rv = (s[pos]'hlt).toNat ∧ p' = pos + 1) ∨ (128 ≤ rv ∧ 128 ≤ (s[pos]'hlt).toNat)) := by
        refine ⟨_, _, rfl, rfl, ?_⟩
        by_cases ha : (s[pos]'hlt).toNat < 128
        · rw [decode_ascii s pos hlt ha]
          exact .inl ⟨rfl, rfl⟩
        · exact .inr ⟨(decode_high s pos hlt (by omega)).1, by omega⟩
      have hnx : ∀ ty, (Instr.next (.pointer (some ⟨w.heap.size + 1 + 1, 0, none⟩)) true ty).run Tryd.prog wr = _ := fun ty => Lib.run_next_any_at wr (w.heap.size + 1 + 1) s pos ty hit hlt
      rw [hd1, hd2] at hnx
      have HL := Lib.hid (show s.data.toList = s.data.toList.take pos ++ (s[pos]'hlt) :: s.data.toList.drop (pos + 1) from by
        have h' : pos < s.data.toList.length := hlt
        conv => lhs; rw [← List.take_append_drop pos s.data.toList]
        rw [List.drop_eq_getElem_cons h']
        rfl)
      have HM := Lib.hid (byte_at s pos hlt)
      have C0 := Lib.hid (A0.iter (k := w.heap.size + 1 + 1) (by omega) s p')
      have C1 := Lib.hid (A1.iter (k := w.heap.size + 1 + 1) (by omega) s p')
      have HB1 := Lib.below_iterAt HB (k := w.heap.size + 1 + 1) (by omega) s p'
      have hit2 := Lib.hid (Lib.iterAt_heap wr (w.heap.size + 1 + 1) s pos p' hit)
      have hsz1 : w.heap.size + 1 + 1 < (wr.iterAt (w.heap.size + 1 + 1) s p').heap.size := by rw [Lib.iterAt_size]; exact hsz
      generalize (s[pos]'hlt) = b at *
      have HD := Lib.hid hd3
      have HP := Lib.hid (And.intro hlt hp)
      clear hd1 hd2 hd3 hit hlt A0 A1 HB hsz hp
      generalize wr.iterAt (w.heap.size + 1 + 1) s p' = W1 at *
      have TK := Lib.hid (take_any (w.heap.size + 1) pos rv t HR.out.2 (by have := HP.out; have := HS.out; omega) W1 C1.out)
      obtain ⟨ok, hok⟩ : ∃ b : Bool, b = (takeS rv t).2 := ⟨_, rfl⟩
      rw [← hok] at TK
      have HO := Lib.hid hok
      clear hok
      go_wp2_with fail
      refine TK.out.mono ?_
      rintro e v1 ⟨rfl, G, K⟩
      replace C0 := Lib.hid (C0.out.kb K (by omega))
      have hit3 := Lib.hid ((K.2.2.2.2 _ hsz1 (by omega)).trans hit2.out)
      replace HB1 := KB.below HB1 (Nat.le_succ _) K
      have HG := Lib.hid G
      clear TK C1 hit2 hsz1 K G
      cases ok
      · have BF := Lib.hid (show (takeS b.toNat t).2 = false from by
          rcases HD.out with ⟨q, -⟩ | ⟨-, q⟩
          · rw [← q]; exact HO.out.symm
          · exact takeS_high q t)
        have NONE := Lib.hid (show runS s.data.toList rd0 = none from by
          rw [HL.out]
          exact runS_stop HR.out.1 BF.out)
        obtain ⟨⟨c0, c1, c2, c3, c4, c5, c6, c7, c8, c9⟩, ff, cs⟩ := C0.out
        have g0 := ff 0 (by decide); have g1 := ff 1 (by decide); have g2 := ff 2 (by decide); have g3 := ff 3 (by decide); have g4 := ff 4 (by decide)
        have g5 := ff 5 (by decide); have g6 := ff 6 (by decide); have g7 := ff 7 (by decide); have g8 := ff 8 (by decide); have g9 := ff 9 (by decide)
        clear ff
        go_wp2
        clear c0 c1 c2 c3 c4 c5 c6 c7 c8 c9 g0 g1 g2 g3 g4 g5 g6 g7 g8 g9 cs
        refine ret_via (v := .tuple #[Gv 0 0 0 0 0 false 0 0 0 false, .bool false]) (fun VF => HoldsG VF w.heap.size 0 0 0 0 0 false 0 0 0 false) (fun VF hq => ?_) (HoldsG.put9 (HoldsG.put8 (HoldsG.put7 (HoldsG.put6 (HoldsG.put45 (HoldsG.put3 (HoldsG.put12 (HoldsG.put0 C0.out 0) 0 0) 0) 0 false) 0) 0) 0) false) rfl ⟨?_, ?_⟩
        · obtain ⟨⟨d0, d1, d2, d3, d4, d5, d6, d7, d8, d9⟩, -, -⟩ := hq
          simp [results, Tryd.results17, go_sem, d0, d1, d2, d3, d4, d5, d6, d7, d8, d9]
        · rw [NONE.out]
          rfl
        · repeat' (first | (with_reducible exact HB1) | (with_reducible refine Below.set1' ?_ _ _ (Nat.le_refl _) _))
      · have q : rv = b.toNat ∧ p' = pos + 1 := by
          rcases HD.out with q | ⟨q, -⟩
          · exact q
          · rw [takeS_high q t] at HO
            exact absurd HO.out (by decide)
        have NX := Lib.hid (show runS (s.data.toList.take (pos + 1)) rd0 = some (takeS rv t).1 ∧ InvT (pos + 1) (takeS rv t).1 from ⟨by rw [HM.out, runS_snoc HR.out.1, ← q.1, if_pos HO.out.symm], takeS_inv HR.out.2 HO.out.symm⟩)
        have HQ := Lib.hid q.2
        clear q HO HD HM HL HR
        go_wp2
        go_roundg (gk - 1)
        case measure => have := HP.out; omega
        case rel =>
          have q := HQ.out
          subst q
          exact ⟨pos + 1, _, hit3.out, by have := HP.out; omega, NX.out.1, NX.out.2, HG.out, C0.out, HB1⟩
    · have hnx : ∀ ty, (Instr.next (.pointer (some ⟨w.heap.size + 1 + 1, 0, none⟩)) true ty).run Tryd.prog wr = _ := fun ty => Lib.run_next_end_at wr (w.heap.size + 1 + 1) s pos ty hit hlt
      have FULL := Lib.hid (show runS s.data.toList rd0 = some t from by
        have full : s.data.toList.take pos = s.data.toList := List.take_of_length_le (by show s.size ≤ pos; omega)
        rw [← full]; exact HR.out.1)
      clear hit
      obtain ⟨at', V, kept, dr, more, pl, pw, pd, bl⟩ := t
      obtain ⟨h, l, wh, vh, G⟩ := A1
      have a6 : at' ≤ 6 := HR.out.2.1
      have HV := Lib.hid (And.intro wh vh)
      have HG := Lib.hid G
      have H0 := Lib.hid A0
      clear wh vh G A0 HR hlt hp HS
      obtain ⟨⟨c0, c1, c2, c3, c4, c5, c6, c7, c8, c9⟩, -, cs⟩ := HG.out
      obtain ⟨⟨e0, e1, e2, e3, e4, e5, e6, e7, e8, e9⟩, ff, es⟩ := H0.out
      have g0 := ff 0 (by decide); have g1 := ff 1 (by decide); have g2 := ff 2 (by decide); have g3 := ff 3 (by decide); have g4 := ff 4 (by decide)
      have g5 := ff 5 (by decide); have g6 := ff 6 (by decide); have g7 := ff 7 (by decide); have g8 := ff 8 (by decide); have g9 := ff 9 (by decide)
      clear ff
      have n1 : w.heap.size + 1 ≠ w.heap.size := by omega
      obtain ⟨eb, heb⟩ : ∃ b : Bool, b = endS (at', V, kept, dr, more, pl, pw, pd, bl) := ⟨_, rfl⟩
      have c : (((at' : Int) == 1) = true ∧ eb = true) ∨ (((at' : Int) == 1) = false ∧ ((at' : Int) == 3) = true ∧ eb = true) ∨ (((at' : Int) == 1) = false ∧ ((at' : Int) == 3) = false ∧ ((at' : Int) == 6) = true ∧ eb = true) ∨ (((at' : Int) == 1) = false ∧ ((at' : Int) == 3) = false ∧ ((at' : Int) == 6) = false ∧ eb = false) := by
        have hb : eb = decide (at' = 1 ∨ at' = 3 ∨ at' = 6) := heb
        by_cases k1 : at' = 1
        · exact .inl ⟨beq_iff_eq.2 (by omega), by rw [hb]; exact decide_eq_true (.inl k1)⟩
        · by_cases k3 : at' = 3
          · exact .inr (.inl ⟨beq_eq_false_iff_ne.2 (by omega), beq_iff_eq.2 (by omega), by rw [hb]; exact decide_eq_true (.inr (.inl k3))⟩)
          · by_cases k6 : at' = 6
            · exact .inr (.inr (.inl ⟨beq_eq_false_iff_ne.2 (by omega), beq_eq_false_iff_ne.2 (by omega), beq_iff_eq.2 (by omega), by rw [hb]; exact decide_eq_true (.inr (.inr k6))⟩))
            · exact .inr (.inr (.inr ⟨beq_eq_false_iff_ne.2 (by omega), beq_eq_false_iff_ne.2 (by omega), beq_eq_false_iff_ne.2 (by omega), by rw [hb]; exact decide_eq_false (by omega)⟩))
      have HE := Lib.hid heb
      clear a6 heb
      rcases c with ⟨t1, rfl⟩ | ⟨t1, t2, rfl⟩ | ⟨t1, t2, t3, rfl⟩ | ⟨t1, t2, t3, rfl⟩
      iterate 3
        · go_wp2
          go_region
          all_goals
            go_wp2
            clear c0 c1 c2 c3 c4 c5 c6 c7 c8 c9 g0 g1 g2 g3 g4 g5 g6 g7 g8 g9 cs e0 e1 e2 e3 e4 e5 e6 e7 e8 e9 es
            refine ret_via (v := .tuple #[Gv at' h l kept dr more pl pw pd bl, .bool true]) (fun VF => HoldsG VF w.heap.size at' h l kept dr more pl pw pd bl) (fun VF hq => ?_) (by with_reducible (first | exact HoldsG.drew (HoldsG.put9 (HoldsG.put8 (HoldsG.put7 (HoldsG.put6 (HoldsG.put45 (HoldsG.put3 (HoldsG.put12 (HoldsG.put0 H0.out at') h l) kept) dr more) pl) pw) pd) bl) | exact HoldsG.put9 (HoldsG.put8 (HoldsG.put7 (HoldsG.put6 (HoldsG.put45 (HoldsG.put3 (HoldsG.put12 (HoldsG.put0 H0.out at') h l) kept) dr more) pl) pw) pd) bl)) rfl ⟨?_, ?_⟩
            · obtain ⟨⟨d0, d1, d2, d3, d4, d5, d6, d7, d8, d9⟩, -, -⟩ := hq
              simp [results, Tryd.results17, go_sem, d0, d1, d2, d3, d4, d5, d6, d7, d8, d9]
              try rfl
            · rw [FULL.out]
              refine ⟨h, l, HV.out.1, HV.out.2, ?_⟩
              rw [← HE.out]
            · repeat' (first | (with_reducible exact HB) | (with_reducible refine Below.drew ?_) | (with_reducible refine Below.set1' ?_ _ _ (Nat.le_refl _) _))
      · go_wp2
        go_region
        all_goals
          go_wp2
          clear c0 c1 c2 c3 c4 c5 c6 c7 c8 c9 g0 g1 g2 g3 g4 g5 g6 g7 g8 g9 cs e0 e1 e2 e3 e4 e5 e6 e7 e8 e9 es
          refine ret_via (v := .tuple #[Gv at' h l kept dr more pl pw pd bl, .bool false]) (fun VF => HoldsG VF w.heap.size at' h l kept dr more pl pw pd bl) (fun VF hq => ?_) (by with_reducible (first | exact HoldsG.drew (HoldsG.put9 (HoldsG.put8 (HoldsG.put7 (HoldsG.put6 (HoldsG.put45 (HoldsG.put3 (HoldsG.put12 (HoldsG.put0 H0.out at') h l) kept) dr more) pl) pw) pd) bl) | exact HoldsG.put9 (HoldsG.put8 (HoldsG.put7 (HoldsG.put6 (HoldsG.put45 (HoldsG.put3 (HoldsG.put12 (HoldsG.put0 H0.out at') h l) kept) dr more) pl) pw) pd) bl)) rfl ⟨?_, ?_⟩
          · obtain ⟨⟨d0, d1, d2, d3, d4, d5, d6, d7, d8, d9⟩, -, -⟩ := hq
            simp [results, Tryd.results17, go_sem, d0, d1, d2, d3, d4, d5, d6, d7, d8, d9]
            try rfl
          · rw [FULL.out]
            refine ⟨h, l, HV.out.1, HV.out.2, ?_⟩
            rw [← HE.out]
          · repeat' (first | (with_reducible exact HB) | (with_reducible refine Below.drew ?_) | (with_reducible refine Below.set1' ?_ _ _ (Nat.le_refl _) _))
/-- Whether a text has a number's form. -/
def shapeL (l : List UInt8) : Bool := match runS l rd0 with
  | none => false
  | some t => endS t
theorem shapeL_none {l : List UInt8} (h : none = runS l rd0) : shapeL l = false := by unfold shapeL; rw [← h]
theorem shapeL_some {l : List UInt8} {t : RdT} (h : some t = runS l rd0) : shapeL l = endS t := by unfold shapeL; rw [← h]
set_option linter.unusedSimpArgs false in
set_option maxRecDepth 100000 in
set_option maxHeartbeats 4000000 in
theorem shape_any (s : ByteArray) (hs : s.size ≤ 200000000000000) (w : World) : Calls Tryd.prog 9 #[.string s] w (RetB (shapeL s.data.toList) w) := by
  have RT := Lib.hid (readThrough_any s hs)
  obtain ⟨r, hr⟩ : ∃ r, r = shapeL s.data.toList := ⟨_, rfl⟩
  obtain ⟨o, ho⟩ : ∃ o, o = runS s.data.toList rd0 := ⟨_, rfl⟩
  rw [← hr]
  rw [← ho] at RT
  have HR := Lib.hid hr
  clear hs hr
  go_enter Tryd.func9, Tryd.ntmps9
  go_wp2_with fail
  refine (RT.out _).mono ?_
  rintro e w1 ⟨R, hb⟩
  have B : Below w.heap.size w w1 := bstep (by go_grown) hb
  clear hb RT
  cases o with
  | none =>
    obtain rfl : e = _ := R
    obtain rfl : r = false := HR.out.trans (shapeL_none ho)
    clear HR ho
    go_wp2
    go_ret
    exact ⟨rfl, ballD1 B _⟩
  | some t =>
    have HE := Lib.hid (HR.out.trans (shapeL_some ho))
    obtain ⟨at', V, kept, dr, more, pl, pw, pd, bl⟩ := t
    obtain ⟨h, l, -, -, rfl⟩ := R
    rw [← HE.out]
    clear HR ho HE
    go_wp2
    go_ret
    exact ⟨rfl, ballD1 B _⟩
end Go.Proofs.YtfelcneedpndiaaDoor

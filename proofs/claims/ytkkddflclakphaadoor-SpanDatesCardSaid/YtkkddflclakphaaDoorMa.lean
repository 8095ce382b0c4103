/-
  Package moment: moments as the program lays them; which ones may be, their instants; the moments of the statements (Make, day): each as a contract of its call.
-/
import Derived.Test.YtkkddflclakphaaDoorKb
import Derived.Test.YtkkddflclakphaaDoorCe
namespace Go.Proofs.YtkkddflclakphaaDoor
open Go.RowKit

/-- A moment, as a value. -/
abbrev Mo (y m d s : Int) (z : Bool) (o : Int) : Value := .agg #[.int .i64 y, .int .i64 m, .int .i64 d, .int .i64 s, .bool z, .int .i64 o]
abbrev MoC (y m d s : Int) (z : Bool) (o : Int) : Obj := .cells #[.int .i64 y, .int .i64 m, .int .i64 d, .int .i64 s, .bool z, .int .i64 o] 54
/-- A block holds a moment. -/
def HoldsN (W : World) (g : Nat) (y m d s : Int) (z : Bool) (o : Int) : Prop := (W.cell? ⟨g, 0, none⟩ = some (.int .i64 y) ∧ W.cell? ⟨g, 1, none⟩ = some (.int .i64 m) ∧ W.cell? ⟨g, 2, none⟩ = some (.int .i64 d) ∧ W.cell? ⟨g, 3, none⟩ = some (.int .i64 s) ∧ W.cell? ⟨g, 4, none⟩ = some (.bool z) ∧ W.cell? ⟨g, 5, none⟩ = some (.int .i64 o)) ∧ (W.frozen? ⟨g, 0, none⟩ = false ∧ W.frozen? ⟨g, 1, none⟩ = false ∧ W.frozen? ⟨g, 2, none⟩ = false ∧ W.frozen? ⟨g, 3, none⟩ = false ∧ W.frozen? ⟨g, 4, none⟩ = false ∧ W.frozen? ⟨g, 5, none⟩ = false) ∧ g < W.heap.size
theorem HoldsN.below {W W' : World} {g : Nat} {y m d s : Int} {z : Bool} {o : Int} (H : HoldsN W g y m d s z o) (hb : Below W.heap.size W W') : HoldsN W' g y m d s z o := by
  obtain ⟨⟨a0, a1, a2, a3, a4, a5⟩, ⟨b0, b1, b2, b3, b4, b5⟩, k⟩ := H
  obtain ⟨hc, hf⟩ := bcell hb
  exact ⟨⟨(hc _ _ k).trans a0, (hc _ _ k).trans a1, (hc _ _ k).trans a2, (hc _ _ k).trans a3, (hc _ _ k).trans a4, (hc _ _ k).trans a5⟩, ⟨(hf _ _ k).trans b0, (hf _ _ k).trans b1, (hf _ _ k).trans b2, (hf _ _ k).trans b3, (hf _ _ k).trans b4, (hf _ _ k).trans b5⟩, Nat.lt_of_lt_of_le k hb.size⟩
theorem HoldsN.alloc {W : World} {g : Nat} {y m d s : Int} {z : Bool} {o : Int} (H : HoldsN W g y m d s z o) (x : Obj) : HoldsN (W.alloc x) g y m d s z o := H.below ((Below.refl _ _).alloc (Nat.le_refl _) x)
theorem HoldsN.drew {W : World} {g : Nat} {y m d s : Int} {z : Bool} {o : Int} (H : HoldsN W g y m d s z o) : HoldsN W.drew g y m d s z o := H
theorem HoldsN.new {W : World} {g t : Nat} {y m d s : Int} {z : Bool} {o : Int} (hg : g = W.heap.size) : HoldsN (W.alloc (.cells #[.int .i64 y, .int .i64 m, .int .i64 d, .int .i64 s, .bool z, .int .i64 o] t)) g y m d s z o := by
  subst hg
  simp [HoldsN, go_sem]
theorem HoldsN.put {W : World} {g : Nat} {a b c e : Int} {f : Bool} {h : Int} {y m d s : Int} {z : Bool} {o : Int} (H : HoldsN W g a b c e f h) : HoldsN ((((((W.setCell ⟨g, 0, none⟩ (.int .i64 y)).setCell ⟨g, 1, none⟩ (.int .i64 m)).setCell ⟨g, 2, none⟩ (.int .i64 d)).setCell ⟨g, 3, none⟩ (.int .i64 s)).setCell ⟨g, 4, none⟩ (.bool z)).setCell ⟨g, 5, none⟩ (.int .i64 o)) g y m d s z o := by
  obtain ⟨⟨a0, a1, a2, a3, a4, a5⟩, ⟨b0, b1, b2, b3, b4, b5⟩, k⟩ := H
  simp [HoldsN, go_sem, *]
theorem HoldsN.far {W : World} {g : Nat} {y m d s : Int} {z : Bool} {o : Int} (H : HoldsN W g y m d s z o) {p : Addr} (hp : g ≠ p.block) (u : Value) : HoldsN (W.setCell p u) g y m d s z o := by
  obtain ⟨⟨a0, a1, a2, a3, a4, a5⟩, ⟨b0, b1, b2, b3, b4, b5⟩, k⟩ := H
  have n := Below.heap_setCell W p u g hp
  exact ⟨⟨(World.cell?_of_block (a := ⟨g, 0, none⟩) n).trans a0, (World.cell?_of_block (a := ⟨g, 1, none⟩) n).trans a1, (World.cell?_of_block (a := ⟨g, 2, none⟩) n).trans a2, (World.cell?_of_block (a := ⟨g, 3, none⟩) n).trans a3, (World.cell?_of_block (a := ⟨g, 4, none⟩) n).trans a4, (World.cell?_of_block (a := ⟨g, 5, none⟩) n).trans a5⟩, ⟨(World.frozen?_of_block (a := ⟨g, 0, none⟩) n).trans b0, (World.frozen?_of_block (a := ⟨g, 1, none⟩) n).trans b1, (World.frozen?_of_block (a := ⟨g, 2, none⟩) n).trans b2, (World.frozen?_of_block (a := ⟨g, 3, none⟩) n).trans b3, (World.frozen?_of_block (a := ⟨g, 4, none⟩) n).trans b4, (World.frozen?_of_block (a := ⟨g, 5, none⟩) n).trans b5⟩, by simpa using k⟩
theorem B6 {w W : World} {g : Nat} (B : Below w.heap.size w W) (hg : w.heap.size ≤ g) (v0 v1 v2 v3 v4 v5 : Value) : Below w.heap.size w ((((((W.setCell ⟨g, 0, none⟩ v0).setCell ⟨g, 1, none⟩ v1).setCell ⟨g, 2, none⟩ v2).setCell ⟨g, 3, none⟩ v3).setCell ⟨g, 4, none⟩ v4).setCell ⟨g, 5, none⟩ v5) := ((((((B.setCell hg _).setCell hg _).setCell hg _).setCell hg _).setCell hg _).setCell hg _)

/-! ### May -/
/-- Whether there is that moment. -/
def mayN (y m d s : Int) (z : Bool) (o : Int) : Bool := mayT y m d && mayM s z o
set_option maxRecDepth 100000 in
set_option maxHeartbeats 1000000 in
theorem mayN_any (y m d s : Int) (z : Bool) (o : Int) (w : World) : Calls Tryd.prog 73 #[Mo y m d s z o] w (Ret (.bool (mayN y m d s z o)) w) := by
  have MD0 := mayDay_any y m d
  have MT0 := mayM_any s z o
  unfold mayN
  generalize mayT y m d = p at *
  generalize mayM s z o = q at *
  have MD := Lib.hid MD0
  have MT := Lib.hid MT0
  clear MD0 MT0
  go_enter Tryd.func73, Tryd.ntmps73
  go_upto_region 1 with fail
  have PT := Lib.hid (HoldsN.new rfl : HoldsN (w.alloc (MoC y m d s z o)) w.heap.size y m d s z o)
  have B : Below w.heap.size w (w.alloc (MoC y m d s z o)) := by go_grown
  change Code.wp _ _ _ _ (w.alloc (MoC y m d s z o))
  generalize w.alloc (MoC y m d s z o) = V at *
  cases p
  · obtain ⟨⟨a0, a1, a2, a3, a4, a5⟩, -, a9⟩ := PT.out
    go_wp2_with fail
    refine (MD.out _).mono ?_
    rintro e w1 ⟨rfl, hb⟩
    replace PT := Lib.hid (PT.out.below hb)
    replace B := bstep B hb
    clear hb MD a0 a1 a2 a3 a4 a5 a9
    go_wp2
    go_ret
    exact ⟨rfl, B⟩
  · obtain ⟨⟨a0, a1, a2, a3, a4, a5⟩, -, a9⟩ := PT.out
    go_wp2_with fail
    refine (MD.out _).mono ?_
    rintro e w1 ⟨rfl, hb⟩
    replace PT := Lib.hid (PT.out.below hb)
    replace B := bstep B hb
    clear hb MD a0 a1 a2 a3 a4 a5 a9
    obtain ⟨⟨a0, a1, a2, a3, a4, a5⟩, -, a9⟩ := PT.out
    go_wp2_with fail
    refine (MT.out _).mono ?_
    rintro e w2 ⟨rfl, hb⟩
    replace PT := Lib.hid (PT.out.below hb)
    replace B := bstep B hb
    clear hb MT a0 a1 a2 a3 a4 a5 a9
    go_wp2
    go_ret
    exact ⟨rfl, B⟩
theorem mayN_false {y m d s : Int} {z : Bool} {o : Int} (h : mayN y m d s z o = false) (k : Day y m d) : mayM s z o = false := by
  have := may_day.2 k
  unfold mayN at h
  rw [this] at h
  simpa using h
theorem mayN_true {y m d s : Int} {z : Bool} {o : Int} (h : mayN y m d s z o = true) : Day y m d ∧ mayM s z o = true := by
  unfold mayN at h
  rw [Bool.and_eq_true] at h
  exact ⟨may_day.1 h.1, h.2⟩
theorem mayN_of {y m d s : Int} {z : Bool} {o : Int} (h : Day y m d) (k : mayM s z o = true) : mayN y m d s z o = true := by
  unfold mayN
  rw [may_day.2 h, k]
  rfl

/-! ### Instant -/
/-- How many seconds a moment is behind the first one of 1970. -/
def instI (y m d s o : Int) : Int := numI y m d * 86400 + s - o
theorem inst_range {y m d s : Int} {z : Bool} {o : Int} (h : Day y m d) (k : mayM s z o = true) : -31557014135661600 ≤ instI y m d s o ∧ instI y m d s o ≤ 31556889832847400 := by
  have a := num_in h
  have b := may_sec k
  have c := may_off k
  unfold instI
  omega
set_option maxRecDepth 100000 in
set_option maxHeartbeats 1000000 in
theorem instant_yes (y m d s : Int) (z : Bool) (o : Int) (h : Day y m d) (k : mayM s z o = true) (w : World) : Calls Tryd.prog 45 #[Mo y m d s z o] w (Ret (.tuple #[.int .i64 (instI y m d s o), .bool true]) w) := by
  have MN0 := mayN_any y m d s z o
  rw [mayN_of h k] at MN0
  have NU0 := number_yes y m d h
  have r1 := num_in h
  have r2 := may_sec k
  have r3 := may_off k
  unfold instI
  generalize numI y m d = N at *
  have f1 : wrap64 (N * 86400) = N * 86400 := I64.wrap' (by unfold I64; omega)
  have f2 : wrap64 (N * 86400 + s) = N * 86400 + s := I64.wrap' (by unfold I64; omega)
  have f3 : wrap64 (N * 86400 + s - o) = N * 86400 + s - o := I64.wrap' (by unfold I64; omega)
  have g1 : IntKind.i64.wrap (N * 86400) = N * 86400 := I64.wrap (by unfold I64; omega)
  have g2 : IntKind.i64.wrap (N * 86400 + s) = N * 86400 + s := I64.wrap (by unfold I64; omega)
  have g3 : IntKind.i64.wrap (N * 86400 + s - o) = N * 86400 + s - o := I64.wrap (by unfold I64; omega)
  have MN := Lib.hid MN0
  have NU := Lib.hid NU0
  clear MN0 NU0 r1 r2 r3 h k
  go_enter Tryd.func45, Tryd.ntmps45
  go_upto_region 1 with fail
  have PT := Lib.hid (HoldsN.new rfl : HoldsN (w.alloc (MoC y m d s z o)) w.heap.size y m d s z o)
  have B : Below w.heap.size w (w.alloc (MoC y m d s z o)) := by go_grown
  change Code.wp _ _ _ _ (w.alloc (MoC y m d s z o))
  generalize w.alloc (MoC y m d s z o) = V at *
  obtain ⟨⟨a0, a1, a2, a3, a4, a5⟩, -, a9⟩ := PT.out
  go_wp2_with fail
  refine (MN.out _).mono ?_
  rintro e w1 ⟨rfl, hb⟩
  replace PT := Lib.hid (PT.out.below hb)
  replace B := bstep B hb
  clear hb MN a0 a1 a2 a3 a4 a5 a9
  obtain ⟨⟨a0, a1, a2, a3, a4, a5⟩, -, a9⟩ := PT.out
  go_wp2_with fail
  refine (NU.out _).mono ?_
  rintro e w2 ⟨rfl, hb⟩
  replace PT := Lib.hid (PT.out.below hb)
  replace B := bstep B hb
  clear hb NU a0 a1 a2 a3 a4 a5 a9
  obtain ⟨⟨a0, a1, a2, a3, a4, a5⟩, -, a9⟩ := PT.out
  go_wp2
  refine ret_via (v := .tuple #[.int .i64 (N * 86400 + s - o), .bool true]) (fun _ => True) (fun VF _ => ?_) trivial rfl ⟨rfl, B⟩
  simp [results, Tryd.results45, go_sem, *]
set_option maxRecDepth 100000 in
set_option maxHeartbeats 1000000 in
theorem instant_no (y m d s : Int) (z : Bool) (o : Int) (h : mayN y m d s z o = false) (w : World) : Calls Tryd.prog 45 #[Mo y m d s z o] w (Ret (.tuple #[.int .i64 0, .bool false]) w) := by
  have MN0 := mayN_any y m d s z o
  rw [h] at MN0
  have MN := Lib.hid MN0
  clear MN0 h
  go_enter Tryd.func45, Tryd.ntmps45
  go_upto_region 1 with fail
  have PT := Lib.hid (HoldsN.new rfl : HoldsN (w.alloc (MoC y m d s z o)) w.heap.size y m d s z o)
  have B : Below w.heap.size w (w.alloc (MoC y m d s z o)) := by go_grown
  change Code.wp _ _ _ _ (w.alloc (MoC y m d s z o))
  generalize w.alloc (MoC y m d s z o) = V at *
  obtain ⟨⟨a0, a1, a2, a3, a4, a5⟩, -, a9⟩ := PT.out
  go_wp2_with fail
  refine (MN.out _).mono ?_
  rintro e w1 ⟨rfl, hb⟩
  replace PT := Lib.hid (PT.out.below hb)
  replace B := bstep B hb
  clear hb MN a0 a1 a2 a3 a4 a5 a9
  go_wp2
  refine ret_via (v := .tuple #[.int .i64 0, .bool false]) (fun _ => True) (fun VF _ => ?_) trivial rfl ⟨rfl, B⟩
  simp [results, Tryd.results45, go_sem]
/-- What Instant answers. -/
def insV (y m d s : Int) (z : Bool) (o : Int) : Int := if mayN y m d s z o then instI y m d s o else 0
theorem instant_any (y m d s : Int) (z : Bool) (o : Int) (w : World) : Calls Tryd.prog 45 #[Mo y m d s z o] w (Ret (.tuple #[.int .i64 (insV y m d s z o), .bool (mayN y m d s z o)]) w) := by
  cases h : mayN y m d s z o
  · have e : insV y m d s z o = 0 := by simp [insV, h]
    rw [e]
    exact instant_no y m d s z o h w
  · have e : insV y m d s z o = instI y m d s o := by simp [insV, h]
    rw [e]
    exact instant_yes y m d s z o (mayN_true h).1 (mayN_true h).2 w
end Go.Proofs.YtkkddflclakphaaDoor

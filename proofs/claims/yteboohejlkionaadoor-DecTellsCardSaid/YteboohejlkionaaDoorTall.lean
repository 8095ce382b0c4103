/-
  Several texts in one: each one's own remark stands ahead of it.
-/
import Derived.Test.YteboohejlkionaaDoorE1
import Derived.Test.YteboohejlkionaaDoorRall
import Derived.Test.YteboohejlkionaaDoorAc
import Derived.Deep.RegionHeld3
import Derived.Test.YteboohejlkionaaDoorEw
/-
  The document's numbers of layer 2 (the reference's): a number as the document has it, 0 less a number, each as a contract of its call.
-/
namespace Go.Proofs.YteboohejlkionaaDoor
open Go.RowKit

/-- A number of the document's: sign, digits, exponent. -/
abbrev Fv (n : Bool) (v : Value) (x : Int) : Value := .agg #[.bool n, v, .int .i64 x]
/-- The three cells of a block hold one. -/
def HoldsF (W : World) (g : Nat) (n : Bool) (v : Value) (x : Int) : Prop :=
  (W.cell? ⟨g, 0, none⟩ = some (.bool n) ∧ W.cell? ⟨g, 1, none⟩ = some v ∧ W.cell? ⟨g, 2, none⟩ = some (.int .i64 x)) ∧ (W.frozen? ⟨g, 0, none⟩ = false ∧ W.frozen? ⟨g, 1, none⟩ = false ∧ W.frozen? ⟨g, 2, none⟩ = false) ∧ g < W.heap.size
theorem HoldsF.below {W w1 : World} {g : Nat} {n : Bool} {v : Value} {x : Int} (H : HoldsF W g n v x) (hb : Below W.heap.size W w1) : HoldsF w1 g n v x := by
  obtain ⟨⟨a, b, c⟩, ⟨a', b', c'⟩, s⟩ := H
  exact ⟨⟨(hb.cell s).trans a, (hb.cell s).trans b, (hb.cell s).trans c⟩, ⟨(hb.frozen s).trans a', (hb.frozen s).trans b', (hb.frozen s).trans c'⟩, Nat.lt_of_lt_of_le s hb.size⟩
theorem HoldsF.alloc {W : World} {g : Nat} {n : Bool} {v : Value} {x : Int} (H : HoldsF W g n v x) (o : Obj) : HoldsF (W.alloc o) g n v x := H.below ((Below.refl _ _).alloc (Nat.le_refl _) o)
theorem HoldsF.drew {W : World} {g : Nat} {n : Bool} {v : Value} {x : Int} (H : HoldsF W g n v x) : HoldsF W.drew g n v x := H
theorem Row.alloc' {W : World} {v : Value} {l : List Nat} (h : Row W v l) (o : Obj) : Row (W.alloc o) v l := h.below ((Below.refl _ _).alloc (Nat.le_refl _) o)
def RetF (F : Bool → Value → Int → World → Prop) (w : World) (e : Ending) (w' : World) : Prop := ∃ n v x, F n v x w' ∧ e = .returned (Fv n v x) ∧ Below w.heap.size w w'

theorem Row.set {W : World} {v : Value} {l : List Nat} {B : Nat} (h : Row W v l) (hv : ∀ g cap, v = .slice (some ⟨g, 0, none⟩) l.length cap → g ≠ B) (i : Nat) (u : Value) : Row (W.setCell ⟨B, i, none⟩ u) v l := by
  refine ⟨h.1, ?_⟩
  rcases h.2 with h0 | ⟨g, cap, cur, rfl, hb0, hh, h1, h2, h3, h4⟩
  · exact .inl h0
  · refine .inr ⟨g, cap, cur, rfl, hb0, ?_, h1, h2, h3, h4⟩
    exact (Below.heap_setCell W ⟨B, i, none⟩ u g (hv g cap rfl)).trans hh

theorem heap_new2 (w : World) (o : Obj) (o' : Obj) : ((w.alloc o).alloc o').heap[w.heap.size + 1]? = some o' := by
  have e : (w.alloc o).heap.size = w.heap.size + 1 := World.size_alloc ..
  rw [← e]
  exact heap_alloc_new _ _
theorem row_apart {W : World} {v : Value} {l : List Nat} {B : Nat} {cs : Array Value} {t : TypeId} {f : Nat × Nat} (h : Row W v l) (hB : W.heap[B]? = some (.cells cs t f)) (ht : t ≠ 3) : ∀ g cap, v = .slice (some ⟨g, 0, none⟩) l.length cap → g ≠ B := by
  rintro g cap rfl rfl
  rcases h.2 with ⟨h0, _⟩ | ⟨g', cap', cur, e, hb0, hh, _⟩
  · cases h0
  · cases e
    rw [hB] at hh
    cases hh
    exact ht rfl
theorem Row.set3 {W : World} {v : Value} {l : List Nat} {B : Nat} (h : Row W v l) (hv : ∀ g cap, v = .slice (some ⟨g, 0, none⟩) l.length cap → g ≠ B) (a b c : Value) : Row (((W.setCell ⟨B, 0, none⟩ a).setCell ⟨B, 1, none⟩ b).setCell ⟨B, 2, none⟩ c) v l :=
  ((h.set hv 0 a).set hv 1 b).set hv 2 c

set_option maxRecDepth 100000 in
set_option maxHeartbeats 2000000 in
theorem ref_any (n : Bool) (h l : Nat) (x : Int) (ha : WW h l) (w : World) : Calls Tryd.prog 15 #[Dv n h l x] w (RetF (fun n' v x' W => n' = n ∧ x' = x ∧ Row W v (Dg.dg (nv h l))) w) := by
  have NN := Lib.hid (N_any h l ha)
  clear ha
  go_enter Tryd.func15, Tryd.ntmps15
  go_upto_region 1 with fail
  have B0 : Below w.heap.size w ((w.alloc (.cells #[.bool n, .int .u64 (h : Int), .int .u64 (l : Int), .int .i64 x] 28)).alloc (.cells #[.bool false, .slice none 0 0, .int .i64 0] 37)) := by go_grown
  have A0 := Lib.hid (show HoldsD ((w.alloc (.cells #[.bool n, .int .u64 (h : Int), .int .u64 (l : Int), .int .i64 x] 28)).alloc (.cells #[.bool false, .slice none 0 0, .int .i64 0] 37)) w.heap.size n h l x from by simp [HoldsD, go_sem])
  have A1 := Lib.hid (show HoldsF ((w.alloc (.cells #[.bool n, .int .u64 (h : Int), .int .u64 (l : Int), .int .i64 x] 28)).alloc (.cells #[.bool false, .slice none 0 0, .int .i64 0] 37)) (w.heap.size + 1) false (.slice none 0 0) 0 from by simp [HoldsF, go_sem])
  have A2 := Lib.hid (show ((w.alloc (.cells #[.bool n, .int .u64 (h : Int), .int .u64 (l : Int), .int .i64 x] 28)).alloc (.cells #[.bool false, .slice none 0 0, .int .i64 0] 37)).heap[w.heap.size + 1]? = some (.cells #[.bool false, .slice none 0 0, .int .i64 0] 37 (0, 0)) from heap_new2 _ _ _)
  generalize (w.alloc (.cells #[.bool n, .int .u64 (h : Int), .int .u64 (l : Int), .int .i64 x] 28)).alloc (.cells #[.bool false, .slice none 0 0, .int .i64 0] 37) = V at *
  obtain ⟨⟨a1, a2, a3, a4⟩, -, a9⟩ := A0.out
  obtain ⟨⟨b1, b2, b3⟩, ⟨b4, b5, b6⟩, b9⟩ := A1.out
  go_region_held3 (fun w' => w'.cell? ⟨w.heap.size, 0, none⟩ = some (.bool n) ∧ w'.cell? ⟨w.heap.size, 1, none⟩ = some (.int .u64 (h : Int)) ∧ w'.cell? ⟨w.heap.size, 2, none⟩ = some (.int .u64 (l : Int)) ∧ w'.cell? ⟨w.heap.size, 3, none⟩ = some (.int .i64 x))
    (repeat' (first | (with_reducible assumption) | (with_reducible refine keep4a ?_) | (with_reducible refine keep4d ?_) | (with_reducible refine keep4s ?_ ?_) | (with_reducible exact ⟨a1, a2, a3, a4⟩) | (with_reducible refine keep4 (by with_reducible assumption) ?_) | (show _ ≠ _; (try dsimp only); omega)))
    (first
      | (go_at_call 10; (with_reducible refine (NN.out _).mono ?_); rintro e w1 ⟨vN, rfl, RN, hb1⟩; obtain ⟨AN, cN, rfl⟩ := slice_of RN; have HRN := Lib.hid RN; clear RN; have C1 := Lib.hid (A1.out.below (bundrew hb1)); have C2 := Lib.hid ((hb1.block (w.heap.size + 1) b9).trans A2.out); obtain ⟨⟨c1, c2, c3⟩, ⟨c4, c5, c6⟩, c9⟩ := C1.out))
  all_goals
    go_wp2
    refine bodyPost_ret (v := Fv n (.slice AN (Dg.dg (nv h l)).length cN) x) (by simp [results, Tryd.results15, go_sem, *]) rfl ⟨n, _, x, ⟨rfl, rfl, ?_⟩, rfl, ?_⟩
    · exact Row.set3 HRN.out (row_apart HRN.out C2.out (by decide)) _ _ _
    · clear a1 a2 a3 a4 b1 b2 b3 b4 b5 b6 c1 c2 c3 c4 c5 c6
      repeat' (first | (with_reducible exact B0) | (with_reducible refine Below.drew ?_) | (with_reducible refine ballD1 ?_ _) | (with_reducible refine Below.set1' ?_ _ _ ?_ _) | (with_reducible refine bstep ?_ (by with_reducible assumption)) | omega)

set_option maxRecDepth 100000 in
set_option maxHeartbeats 2000000 in
theorem rneg_any (n : Bool) (v : Value) (c : Nat) (x : Int) (hl : (Dg.dg c).length ≤ 20000) (w : World) (h : Row w v (Dg.dg c)) : Calls Tryd.prog 20 #[Fv n v x] w (RetF (fun n' v' x' _ => n' = (!n && !decide (c = 0)) ∧ v' = v ∧ x' = x) w) := by
  obtain ⟨A, cap, rfl⟩ := slice_of h
  clear h
  have hz : decide (0 < (Dg.dg c).length) = !decide (c = 0) := by
    by_cases z : c = 0
    · subst z; rw [Dg.dg_zero]; rfl
    · have := nd_min z
      have k : 0 < (Dg.dg c).length := by
        have := nd_pos z
        unfold nd at this
        omega
      rw [decide_eq_true k, decide_eq_false z]; rfl
  generalize (Dg.dg c).length = m at *
  generalize decide (c = 0) = z at *
  cases n <;> cases z
  all_goals
    go_enter Tryd.func20, Tryd.ntmps20
    go_wp2
    first
    | refine bodyPost_ret (v := Fv true (.slice A m cap) x) (by simp [results, Tryd.results20, go_sem]) rfl ⟨_, _, _, ⟨rfl, rfl, rfl⟩, rfl, ?_⟩
    | refine bodyPost_ret (v := Fv false (.slice A m cap) x) (by simp [results, Tryd.results20, go_sem]) rfl ⟨_, _, _, ⟨rfl, rfl, rfl⟩, rfl, ?_⟩
    go_grown
end Go.Proofs.YteboohejlkionaaDoor

/-
  The document's sum of two numbers of layer 2, and which one is greater (the reference's Sum and Cmp), each as a contract of its call.
-/
namespace Go.Proofs.YteboohejlkionaaDoor
open Go.RowKit

/-- The sum of two sizes with signs: its sign and its size. -/
def sumR (na : Bool) (A : Nat) (nb : Bool) (B : Nat) : Bool × Nat := if na = nb then (na, A + B) else if B ≤ A then (na, A - B) else (nb, B - A)

theorem heap_new3 (w : World) (o o' o'' : Obj) : (((w.alloc o).alloc o').alloc o'').heap[w.heap.size + 1 + 1]? = some o'' := by
  have e : ((w.alloc o).alloc o').heap.size = w.heap.size + 1 + 1 := by rw [World.size_alloc, World.size_alloc]
  rw [← e]
  exact heap_alloc_new _ _
theorem keep3 {W w' : World} {g : Nat} {v0 v1 v2 : Value} (hb : Below W.heap.size W w') (h : W.cell? ⟨g, 0, none⟩ = some v0 ∧ W.cell? ⟨g, 1, none⟩ = some v1 ∧ W.cell? ⟨g, 2, none⟩ = some v2) : w'.cell? ⟨g, 0, none⟩ = some v0 ∧ w'.cell? ⟨g, 1, none⟩ = some v1 ∧ w'.cell? ⟨g, 2, none⟩ = some v2 := ⟨keepCell2 h.1 hb, keepCell2 h.2.1 hb, keepCell2 h.2.2 hb⟩
theorem keep3d {W : World} {g : Nat} {v0 v1 v2 : Value} (h : W.cell? ⟨g, 0, none⟩ = some v0 ∧ W.cell? ⟨g, 1, none⟩ = some v1 ∧ W.cell? ⟨g, 2, none⟩ = some v2) : W.drew.cell? ⟨g, 0, none⟩ = some v0 ∧ W.drew.cell? ⟨g, 1, none⟩ = some v1 ∧ W.drew.cell? ⟨g, 2, none⟩ = some v2 := h
theorem keep3s {W : World} {g : Nat} {v0 v1 v2 : Value} {p : Addr} {u : Value} (hg : g ≠ p.block) (h : W.cell? ⟨g, 0, none⟩ = some v0 ∧ W.cell? ⟨g, 1, none⟩ = some v1 ∧ W.cell? ⟨g, 2, none⟩ = some v2) : (W.setCell p u).cell? ⟨g, 0, none⟩ = some v0 ∧ (W.setCell p u).cell? ⟨g, 1, none⟩ = some v1 ∧ (W.setCell p u).cell? ⟨g, 2, none⟩ = some v2 := ⟨keepSet h.1 hg, keepSet h.2.1 hg, keepSet h.2.2 hg⟩
theorem dg_dig (n : Nat) : ∀ d ∈ Dg.dg n, d < 10 := Dg.dg_lt n

set_option maxRecDepth 100000 in
set_option maxHeartbeats 8000000 in
theorem rsum_any (na : Bool) (va : Value) (ca : Nat) (ea : Int) (nb : Bool) (vb : Value) (cb : Nat) (eb : Int) (h1 : ca < 10 ^ 40) (h2 : cb < 10 ^ 40) (e1 : -6176 ≤ ea) (e2 : ea ≤ 6111) (e3 : -6176 ≤ eb) (e4 : eb ≤ 6111) (w : World) (ra : Row w va (Dg.dg ca)) (rb : Row w vb (Dg.dg cb)) :
    Calls Tryd.prog 70 #[Fv na va ea, Fv nb vb eb] w (RetF (fun n v x W => n = (sumR na (ca * 10 ^ (ea - min ea eb).toNat) nb (cb * 10 ^ (eb - min ea eb).toNat)).1 ∧ x = min ea eb ∧ Row W v (Dg.dg (sumR na (ca * 10 ^ (ea - min ea eb).toNat) nb (cb * 10 ^ (eb - min ea eb).toNat)).2)) w) := by
  obtain ⟨m, hm⟩ : ∃ m, m = min ea eb := ⟨_, rfl⟩
  rw [← hm]
  obtain ⟨p, hp⟩ : ∃ p : Nat, ea - m = (p : Int) := ⟨(ea - m).toNat, by omega⟩
  obtain ⟨q, hq⟩ : ∃ q : Nat, eb - m = (q : Int) := ⟨(eb - m).toNat, by omega⟩
  have p1 : p ≤ 12400 := by omega
  have q1 : q ≤ 12400 := by omega
  rw [hp, hq, Int.toNat_natCast, Int.toNat_natCast]
  have LA : (Dg.dg ca).length ≤ 40 := Dg.dg_length_le h1
  have LB : (Dg.dg cb).length ≤ 40 := Dg.dg_length_le h2
  obtain ⟨K, hK⟩ : ∃ K : Nat, K = 12440 := ⟨_, rfl⟩
  have LA2 : (Dg.dg (ca * 10 ^ p)).length ≤ K := Dg.dg_length_le (by
    refine Nat.lt_of_lt_of_le (Nat.mul_lt_mul_of_pos_right h1 (p10 p)) ?_
    rw [← Nat.pow_add]
    exact p10_mono (by omega))
  have LB2 : (Dg.dg (cb * 10 ^ q)).length ≤ K := Dg.dg_length_le (by
    refine Nat.lt_of_lt_of_le (Nat.mul_lt_mul_of_pos_right h2 (p10 q)) ?_
    rw [← Nat.pow_add]
    exact p10_mono (by omega))
  rw [hK] at LA2 LB2
  clear hK
  have SA := Lib.hid (fun W (h : Row W va (Dg.dg ca)) => shift_any va ca p (by omega) (by omega) W h)
  have SB := Lib.hid (fun W (h : Row W vb (Dg.dg cb)) => shift_any vb cb q (by omega) (by omega) W h)
  generalize ca * 10 ^ p = A at *
  generalize cb * 10 ^ q = B at *
  have RA := Lib.hid ra
  have RB := Lib.hid rb
  have LL := Lib.hid (And.intro LA2 LB2)
  obtain ⟨Aa, cpa, rfl⟩ := slice_of ra
  obtain ⟨Ab, cpb, rfl⟩ := slice_of rb
  have f1 : IntKind.i64.wrap (ea - m) = ea - m := by rw [IntKind.wrap_i64]; omega
  have f2 : IntKind.i64.wrap (eb - m) = eb - m := by rw [IntKind.wrap_i64]; omega
  have HP := Lib.hid hp
  have HQ := Lib.hid hq
  obtain ⟨b, hb⟩ : ∃ b : Bool, (b = true ∧ eb < ea ∧ m = eb) ∨ (b = false ∧ ¬ eb < ea ∧ m = ea) := by
    by_cases z : eb < ea
    · exact ⟨true, .inl ⟨rfl, z, by omega⟩⟩
    · exact ⟨false, .inr ⟨rfl, z, by omega⟩⟩
  clear ra rb h1 h2 e1 e2 e3 e4 p1 q1 LA LB LA2 LB2 hm hp hq
  go_enter Tryd.func70, Tryd.ntmps70
  go_upto_region 2 with fail
  rw [← HP.out] at SA
  rw [← HQ.out] at SB
  have B0 : Below w.heap.size w (((w.alloc (.cells #[.bool na, .slice Aa (Dg.dg ca).length cpa, .int .i64 ea] 37)).alloc (.cells #[.bool nb, .slice Ab (Dg.dg cb).length cpb, .int .i64 eb] 37)).alloc (.cells #[.bool false, .slice none 0 0, .int .i64 0] 37)) := by go_grown
  have A0 := Lib.hid (show HoldsF (((w.alloc (.cells #[.bool na, .slice Aa (Dg.dg ca).length cpa, .int .i64 ea] 37)).alloc (.cells #[.bool nb, .slice Ab (Dg.dg cb).length cpb, .int .i64 eb] 37)).alloc (.cells #[.bool false, .slice none 0 0, .int .i64 0] 37)) w.heap.size na (.slice Aa (Dg.dg ca).length cpa) ea from by simp [HoldsF, go_sem])
  have A1 := Lib.hid (show HoldsF (((w.alloc (.cells #[.bool na, .slice Aa (Dg.dg ca).length cpa, .int .i64 ea] 37)).alloc (.cells #[.bool nb, .slice Ab (Dg.dg cb).length cpb, .int .i64 eb] 37)).alloc (.cells #[.bool false, .slice none 0 0, .int .i64 0] 37)) (w.heap.size + 1) nb (.slice Ab (Dg.dg cb).length cpb) eb from by simp [HoldsF, go_sem])
  have A2 := Lib.hid (show HoldsF (((w.alloc (.cells #[.bool na, .slice Aa (Dg.dg ca).length cpa, .int .i64 ea] 37)).alloc (.cells #[.bool nb, .slice Ab (Dg.dg cb).length cpb, .int .i64 eb] 37)).alloc (.cells #[.bool false, .slice none 0 0, .int .i64 0] 37)) (w.heap.size + 1 + 1) false (.slice none 0 0) 0 from by simp [HoldsF, go_sem])
  have A3 := Lib.hid (heap_new3 w (.cells #[.bool na, .slice Aa (Dg.dg ca).length cpa, .int .i64 ea] 37) (.cells #[.bool nb, .slice Ab (Dg.dg cb).length cpb, .int .i64 eb] 37) (.cells #[.bool false, .slice none 0 0, .int .i64 0] 37))
  replace RA := Lib.hid (((RA.out.alloc' (.cells #[.bool na, .slice Aa (Dg.dg ca).length cpa, .int .i64 ea] 37)).alloc' (.cells #[.bool nb, .slice Ab (Dg.dg cb).length cpb, .int .i64 eb] 37)).alloc' (.cells #[.bool false, .slice none 0 0, .int .i64 0] 37))
  replace RB := Lib.hid (((RB.out.alloc' (.cells #[.bool na, .slice Aa (Dg.dg ca).length cpa, .int .i64 ea] 37)).alloc' (.cells #[.bool nb, .slice Ab (Dg.dg cb).length cpb, .int .i64 eb] 37)).alloc' (.cells #[.bool false, .slice none 0 0, .int .i64 0] 37))
  generalize (((w.alloc (.cells #[.bool na, .slice Aa (Dg.dg ca).length cpa, .int .i64 ea] 37)).alloc (.cells #[.bool nb, .slice Ab (Dg.dg cb).length cpb, .int .i64 eb] 37)).alloc (.cells #[.bool false, .slice none 0 0, .int .i64 0] 37)) = V at *
  obtain ⟨⟨a1, a2, a3⟩, -, a9⟩ := A0.out
  obtain ⟨⟨b1, b2, b3⟩, -, b9⟩ := A1.out
  go_cut [13] (fun t W => t = .bool b ∧ W = V)
  case first =>
    rcases hb with ⟨rfl, z, -⟩ | ⟨rfl, z, -⟩
    · have t0 : decide (eb < ea) = true := decide_eq_true z
      clear z
      go_wp2
      go_meet
      case rel => exact ⟨rfl, rfl⟩
    · have t0 : decide (eb < ea) = false := decide_eq_false z
      clear z
      go_wp2
      go_meet
      case rel => exact ⟨rfl, rfl⟩
  case rest =>
  obtain ⟨rfl, rfl⟩ := hcut
  go_upto_if 13 with fail
  go_cut [5] (fun t W => t = .int .i64 m ∧ W = wc)
  case first =>
    rcases hb with ⟨rfl, -, rfl⟩ | ⟨rfl, -, rfl⟩
    · clear f1 f2
      go_wp2
      go_meet
      case rel => exact ⟨rfl, rfl⟩
    · clear f1 f2
      go_wp2
      go_meet
      case rel => exact ⟨rfl, rfl⟩
  case rest =>
  obtain ⟨rfl, rfl⟩ := hcut
  clear hb HP HQ
  go_wp2_with fail
  refine (SA.out _ RA.out).mono ?_
  rintro e w1 ⟨v1, rfl, R1, hb1⟩
  obtain ⟨A1', c1', rfl⟩ := slice_of R1
  have HR1 := Lib.hid R1
  replace A0 := Lib.hid (A0.out.below hb1)
  replace A1 := Lib.hid (A1.out.below hb1)
  replace A3 := Lib.hid ((hb1.block (w.heap.size + 1 + 1) A2.out.2.2).trans A3.out)
  replace A2 := Lib.hid (A2.out.below hb1)
  replace RB := Lib.hid (RB.out.below hb1)
  replace B0 := bstep B0 hb1
  clear a1 a2 a3 a9 b1 b2 b3 b9 hb1 R1 SA RA
  obtain ⟨⟨b1, b2, b3⟩, -, b9⟩ := A1.out
  go_wp2_with fail
  refine (SB.out _ RB.out).mono ?_
  rintro e w2 ⟨v2, rfl, R2, hb2⟩
  obtain ⟨A2', c2', rfl⟩ := slice_of R2
  have HR2 := Lib.hid R2
  replace A0 := Lib.hid (A0.out.below hb2)
  replace A1 := Lib.hid (A1.out.below hb2)
  replace A3 := Lib.hid ((hb2.block (w.heap.size + 1 + 1) A2.out.2.2).trans A3.out)
  replace A2 := Lib.hid (A2.out.below hb2)
  replace HR1 := Lib.hid (HR1.out.below hb2)
  replace B0 := bstep B0 hb2
  clear b1 b2 b3 b9 hb2 R2 SB RB f1 f2
  obtain ⟨⟨a1, a2, a3⟩, -, a9⟩ := A0.out
  obtain ⟨⟨b1, b2, b3⟩, -, b9⟩ := A1.out
  go_upto_region 6 with fail
  rcases Bool.eq_false_or_eq_true na with rfl | rfl <;> rcases Bool.eq_false_or_eq_true nb with rfl | rfl
  · -- both below 0
    have AD := Lib.hid (fun W (h : Row W (.slice A1' (Dg.dg A).length c1') (Dg.dg A)) (h' : Row W (.slice A2' (Dg.dg B).length c2') (Dg.dg B)) => radd_any _ _ (Dg.dg A) (Dg.dg B) (by have := LL.out.1; omega) (by have := LL.out.2; omega) (dg_dig A) (dg_dig B) W h h')
    rw [Dg.val_dg, Dg.val_dg] at AD
    go_upto_region 7 with fail
    obtain ⟨⟨c1, c2, c3⟩, ⟨c4, c5, c6⟩, c9⟩ := A2.out
    go_region_held3 (fun w' => w'.cell? ⟨w.heap.size, 0, none⟩ = some (.bool true) ∧ w'.cell? ⟨w.heap.size, 1, none⟩ = some (.slice Aa (Dg.dg ca).length cpa) ∧ w'.cell? ⟨w.heap.size, 2, none⟩ = some (.int .i64 ea))
      (repeat' (first | (with_reducible assumption) | (with_reducible refine keep3d ?_) | (with_reducible refine keep3s ?_ ?_) | (with_reducible exact ⟨a1, a2, a3⟩) | (with_reducible refine keep3 (by with_reducible assumption) ?_) | (show _ ≠ _; (try dsimp only); omega)))
      (first
        | (go_at_call 91; (with_reducible refine (AD.out _ ?_ ?_).mono ?_); (exact HR1.out); (exact HR2.out); rintro e wN ⟨vN, rfl, RN, hbN⟩; obtain ⟨AN, cN, rfl⟩ := slice_of RN; have HRN := Lib.hid RN; clear RN; have C1 := Lib.hid (A2.out.below (bundrew hbN)); have C2 := Lib.hid ((hbN.block (w.heap.size + 1 + 1) c9).trans A3.out); obtain ⟨⟨d1, d2, d3⟩, ⟨d4, d5, d6⟩, d9⟩ := C1.out))
    all_goals
      go_wp2
      refine bodyPost_ret (v := Fv true (.slice AN (Dg.dg (A + B)).length cN) m) (by simp [results, Tryd.results70, go_sem, *]) rfl ⟨_, _, _, ⟨?_, rfl, ?_⟩, rfl, ?_⟩
      · unfold sumR; rw [if_pos rfl]
      · rw [show (sumR true A true B).2 = A + B from (by unfold sumR; rw [if_pos rfl])]
        exact Row.set3 HRN.out (row_apart HRN.out C2.out (by decide)) _ _ _
      · clear a1 a2 a3 b1 b2 b3 c1 c2 c3 c4 c5 c6 d1 d2 d3 d4 d5 d6
        repeat' (first | (with_reducible exact B0) | (with_reducible refine Below.drew ?_) | (with_reducible refine Below.set1' ?_ _ _ ?_ _) | (with_reducible refine bstep ?_ (by with_reducible assumption)) | omega)
  · -- the first one below 0
    rcases Nat.lt_or_ge A B with z | z
    · have CM := Lib.hid (fun W (h : Row W (.slice A1' (Dg.dg A).length c1') (Dg.dg A)) (h' : Row W (.slice A2' (Dg.dg B).length c2') (Dg.dg B)) => rcmp_any _ _ A B (by have := LL.out.1; omega) (by have := LL.out.2; omega) W h h')
      rw [cmpN_lt z] at CM
      have Z := Lib.hid z
      have SU := Lib.hid (fun W (h : Row W (.slice A2' (Dg.dg B).length c2') (Dg.dg B)) (h' : Row W (.slice A1' (Dg.dg A).length c1') (Dg.dg A)) => rsub_any _ _ (Dg.dg B) (Dg.dg A) (by have := LL.out.2; omega) (by have := LL.out.1; omega) (dg_dig B) (dg_dig A) (by rw [Dg.val_dg, Dg.val_dg]; exact Nat.le_of_lt Z.out) W h h')
      rw [Dg.val_dg, Dg.val_dg] at SU
      clear z
      go_wp2_with fail
      refine (CM.out _ HR1.out HR2.out).mono ?_
      rintro e w3 ⟨rfl, hb3⟩
      replace A0 := Lib.hid (A0.out.below hb3)
      replace A1 := Lib.hid (A1.out.below hb3)
      replace A3 := Lib.hid ((hb3.block (w.heap.size + 1 + 1) A2.out.2.2).trans A3.out)
      replace A2 := Lib.hid (A2.out.below hb3)
      replace HR1 := Lib.hid (HR1.out.below hb3)
      replace HR2 := Lib.hid (HR2.out.below hb3)
      replace B0 := bstep B0 hb3
      clear a1 a2 a3 a9 b1 b2 b3 b9 hb3 CM
      obtain ⟨⟨a1, a2, a3⟩, -, a9⟩ := A0.out
      obtain ⟨⟨b1, b2, b3⟩, -, b9⟩ := A1.out
      go_upto_region 10 with fail
      obtain ⟨⟨c1, c2, c3⟩, ⟨c4, c5, c6⟩, c9⟩ := A2.out
      go_region_held3 (fun w' => w'.cell? ⟨w.heap.size + 1, 0, none⟩ = some (.bool false) ∧ w'.cell? ⟨w.heap.size + 1, 1, none⟩ = some (.slice Ab (Dg.dg cb).length cpb) ∧ w'.cell? ⟨w.heap.size + 1, 2, none⟩ = some (.int .i64 eb))
        (repeat' (first | (with_reducible assumption) | (with_reducible refine keep3d ?_) | (with_reducible refine keep3s ?_ ?_) | (with_reducible exact ⟨b1, b2, b3⟩) | (with_reducible refine keep3 (by with_reducible assumption) ?_) | (show _ ≠ _; (try dsimp only); omega)))
        (first
          | (go_at_call 92; (with_reducible refine (SU.out _ ?_ ?_).mono ?_); (exact HR2.out); (exact HR1.out); rintro e wN ⟨vN, rfl, RN, hbN⟩; obtain ⟨AN, cN, rfl⟩ := slice_of RN; have HRN := Lib.hid RN; clear RN; have C1 := Lib.hid (A2.out.below (bundrew hbN)); have C2 := Lib.hid ((hbN.block (w.heap.size + 1 + 1) c9).trans A3.out); obtain ⟨⟨d1, d2, d3⟩, ⟨d4, d5, d6⟩, d9⟩ := C1.out))
      all_goals
        go_wp2
        refine bodyPost_ret (v := Fv false (.slice AN (Dg.dg (B - A)).length cN) m) (by simp [results, Tryd.results70, go_sem, *]) rfl ⟨_, _, _, ⟨?_, rfl, ?_⟩, rfl, ?_⟩
        · unfold sumR; rw [if_neg (by decide), if_neg (by have := Z.out; omega)]
        · rw [show (sumR true A false B).2 = B - A from (by unfold sumR; rw [if_neg (by decide), if_neg (by have := Z.out; omega)])]
          exact Row.set3 HRN.out (row_apart HRN.out C2.out (by decide)) _ _ _
        · clear a1 a2 a3 b1 b2 b3 c1 c2 c3 c4 c5 c6 d1 d2 d3 d4 d5 d6
          repeat' (first | (with_reducible exact B0) | (with_reducible refine Below.drew ?_) | (with_reducible refine Below.set1' ?_ _ _ ?_ _) | (with_reducible refine bstep ?_ (by with_reducible assumption)) | omega)
    · have CM := Lib.hid (fun W (h : Row W (.slice A1' (Dg.dg A).length c1') (Dg.dg A)) (h' : Row W (.slice A2' (Dg.dg B).length c2') (Dg.dg B)) => rcmp_any _ _ A B (by have := LL.out.1; omega) (by have := LL.out.2; omega) W h h')
      obtain ⟨cv, hcv⟩ : ∃ c, c = cmpN A B := ⟨_, rfl⟩
      rw [← hcv] at CM
      have t9 : decide (0 ≤ cv) = true := by
        rcases cmpN_range A B with ⟨e, e'⟩ | ⟨e, _⟩ | ⟨e, _⟩
        · omega
        · rw [hcv, e]; rfl
        · rw [hcv, e]; rfl
      have Z := Lib.hid z
      have SU := Lib.hid (fun W (h : Row W (.slice A1' (Dg.dg A).length c1') (Dg.dg A)) (h' : Row W (.slice A2' (Dg.dg B).length c2') (Dg.dg B)) => rsub_any _ _ (Dg.dg A) (Dg.dg B) (by have := LL.out.1; omega) (by have := LL.out.2; omega) (dg_dig A) (dg_dig B) (by rw [Dg.val_dg, Dg.val_dg]; exact Z.out) W h h')
      rw [Dg.val_dg, Dg.val_dg] at SU
      clear z hcv
      go_wp2_with fail
      refine (CM.out _ HR1.out HR2.out).mono ?_
      rintro e w3 ⟨rfl, hb3⟩
      replace A0 := Lib.hid (A0.out.below hb3)
      replace A1 := Lib.hid (A1.out.below hb3)
      replace A3 := Lib.hid ((hb3.block (w.heap.size + 1 + 1) A2.out.2.2).trans A3.out)
      replace A2 := Lib.hid (A2.out.below hb3)
      replace HR1 := Lib.hid (HR1.out.below hb3)
      replace HR2 := Lib.hid (HR2.out.below hb3)
      replace B0 := bstep B0 hb3
      clear a1 a2 a3 a9 b1 b2 b3 b9 hb3 CM
      obtain ⟨⟨a1, a2, a3⟩, -, a9⟩ := A0.out
      obtain ⟨⟨b1, b2, b3⟩, -, b9⟩ := A1.out
      go_upto_region 9 with fail
      obtain ⟨⟨c1, c2, c3⟩, ⟨c4, c5, c6⟩, c9⟩ := A2.out
      go_region_held3 (fun w' => w'.cell? ⟨w.heap.size, 0, none⟩ = some (.bool true) ∧ w'.cell? ⟨w.heap.size, 1, none⟩ = some (.slice Aa (Dg.dg ca).length cpa) ∧ w'.cell? ⟨w.heap.size, 2, none⟩ = some (.int .i64 ea))
        (repeat' (first | (with_reducible assumption) | (with_reducible refine keep3d ?_) | (with_reducible refine keep3s ?_ ?_) | (with_reducible exact ⟨a1, a2, a3⟩) | (with_reducible refine keep3 (by with_reducible assumption) ?_) | (show _ ≠ _; (try dsimp only); omega)))
        (first
          | (go_at_call 92; (with_reducible refine (SU.out _ ?_ ?_).mono ?_); (exact HR1.out); (exact HR2.out); rintro e wN ⟨vN, rfl, RN, hbN⟩; obtain ⟨AN, cN, rfl⟩ := slice_of RN; have HRN := Lib.hid RN; clear RN; have C1 := Lib.hid (A2.out.below (bundrew hbN)); have C2 := Lib.hid ((hbN.block (w.heap.size + 1 + 1) c9).trans A3.out); obtain ⟨⟨d1, d2, d3⟩, ⟨d4, d5, d6⟩, d9⟩ := C1.out))
      all_goals
        go_wp2
        refine bodyPost_ret (v := Fv true (.slice AN (Dg.dg (A - B)).length cN) m) (by simp [results, Tryd.results70, go_sem, *]) rfl ⟨_, _, _, ⟨?_, rfl, ?_⟩, rfl, ?_⟩
        · unfold sumR; rw [if_neg (by decide), if_pos Z.out]
        · rw [show (sumR true A false B).2 = A - B from (by unfold sumR; rw [if_neg (by decide), if_pos Z.out])]
          exact Row.set3 HRN.out (row_apart HRN.out C2.out (by decide)) _ _ _
        · clear a1 a2 a3 b1 b2 b3 c1 c2 c3 c4 c5 c6 d1 d2 d3 d4 d5 d6
          repeat' (first | (with_reducible exact B0) | (with_reducible refine Below.drew ?_) | (with_reducible refine Below.set1' ?_ _ _ ?_ _) | (with_reducible refine bstep ?_ (by with_reducible assumption)) | omega)
  · -- the second one below 0
    rcases Nat.lt_or_ge A B with z | z
    · have CM := Lib.hid (fun W (h : Row W (.slice A1' (Dg.dg A).length c1') (Dg.dg A)) (h' : Row W (.slice A2' (Dg.dg B).length c2') (Dg.dg B)) => rcmp_any _ _ A B (by have := LL.out.1; omega) (by have := LL.out.2; omega) W h h')
      rw [cmpN_lt z] at CM
      have Z := Lib.hid z
      have SU := Lib.hid (fun W (h : Row W (.slice A2' (Dg.dg B).length c2') (Dg.dg B)) (h' : Row W (.slice A1' (Dg.dg A).length c1') (Dg.dg A)) => rsub_any _ _ (Dg.dg B) (Dg.dg A) (by have := LL.out.2; omega) (by have := LL.out.1; omega) (dg_dig B) (dg_dig A) (by rw [Dg.val_dg, Dg.val_dg]; exact Nat.le_of_lt Z.out) W h h')
      rw [Dg.val_dg, Dg.val_dg] at SU
      clear z
      go_wp2_with fail
      refine (CM.out _ HR1.out HR2.out).mono ?_
      rintro e w3 ⟨rfl, hb3⟩
      replace A0 := Lib.hid (A0.out.below hb3)
      replace A1 := Lib.hid (A1.out.below hb3)
      replace A3 := Lib.hid ((hb3.block (w.heap.size + 1 + 1) A2.out.2.2).trans A3.out)
      replace A2 := Lib.hid (A2.out.below hb3)
      replace HR1 := Lib.hid (HR1.out.below hb3)
      replace HR2 := Lib.hid (HR2.out.below hb3)
      replace B0 := bstep B0 hb3
      clear a1 a2 a3 a9 b1 b2 b3 b9 hb3 CM
      obtain ⟨⟨a1, a2, a3⟩, -, a9⟩ := A0.out
      obtain ⟨⟨b1, b2, b3⟩, -, b9⟩ := A1.out
      go_upto_region 10 with fail
      obtain ⟨⟨c1, c2, c3⟩, ⟨c4, c5, c6⟩, c9⟩ := A2.out
      go_region_held3 (fun w' => w'.cell? ⟨w.heap.size + 1, 0, none⟩ = some (.bool true) ∧ w'.cell? ⟨w.heap.size + 1, 1, none⟩ = some (.slice Ab (Dg.dg cb).length cpb) ∧ w'.cell? ⟨w.heap.size + 1, 2, none⟩ = some (.int .i64 eb))
        (repeat' (first | (with_reducible assumption) | (with_reducible refine keep3d ?_) | (with_reducible refine keep3s ?_ ?_) | (with_reducible exact ⟨b1, b2, b3⟩) | (with_reducible refine keep3 (by with_reducible assumption) ?_) | (show _ ≠ _; (try dsimp only); omega)))
        (first
          | (go_at_call 92; (with_reducible refine (SU.out _ ?_ ?_).mono ?_); (exact HR2.out); (exact HR1.out); rintro e wN ⟨vN, rfl, RN, hbN⟩; obtain ⟨AN, cN, rfl⟩ := slice_of RN; have HRN := Lib.hid RN; clear RN; have C1 := Lib.hid (A2.out.below (bundrew hbN)); have C2 := Lib.hid ((hbN.block (w.heap.size + 1 + 1) c9).trans A3.out); obtain ⟨⟨d1, d2, d3⟩, ⟨d4, d5, d6⟩, d9⟩ := C1.out))
      all_goals
        go_wp2
        refine bodyPost_ret (v := Fv true (.slice AN (Dg.dg (B - A)).length cN) m) (by simp [results, Tryd.results70, go_sem, *]) rfl ⟨_, _, _, ⟨?_, rfl, ?_⟩, rfl, ?_⟩
        · unfold sumR; rw [if_neg (by decide), if_neg (by have := Z.out; omega)]
        · rw [show (sumR false A true B).2 = B - A from (by unfold sumR; rw [if_neg (by decide), if_neg (by have := Z.out; omega)])]
          exact Row.set3 HRN.out (row_apart HRN.out C2.out (by decide)) _ _ _
        · clear a1 a2 a3 b1 b2 b3 c1 c2 c3 c4 c5 c6 d1 d2 d3 d4 d5 d6
          repeat' (first | (with_reducible exact B0) | (with_reducible refine Below.drew ?_) | (with_reducible refine Below.set1' ?_ _ _ ?_ _) | (with_reducible refine bstep ?_ (by with_reducible assumption)) | omega)
    · have CM := Lib.hid (fun W (h : Row W (.slice A1' (Dg.dg A).length c1') (Dg.dg A)) (h' : Row W (.slice A2' (Dg.dg B).length c2') (Dg.dg B)) => rcmp_any _ _ A B (by have := LL.out.1; omega) (by have := LL.out.2; omega) W h h')
      obtain ⟨cv, hcv⟩ : ∃ c, c = cmpN A B := ⟨_, rfl⟩
      rw [← hcv] at CM
      have t9 : decide (0 ≤ cv) = true := by
        rcases cmpN_range A B with ⟨e, e'⟩ | ⟨e, _⟩ | ⟨e, _⟩
        · omega
        · rw [hcv, e]; rfl
        · rw [hcv, e]; rfl
      have Z := Lib.hid z
      have SU := Lib.hid (fun W (h : Row W (.slice A1' (Dg.dg A).length c1') (Dg.dg A)) (h' : Row W (.slice A2' (Dg.dg B).length c2') (Dg.dg B)) => rsub_any _ _ (Dg.dg A) (Dg.dg B) (by have := LL.out.1; omega) (by have := LL.out.2; omega) (dg_dig A) (dg_dig B) (by rw [Dg.val_dg, Dg.val_dg]; exact Z.out) W h h')
      rw [Dg.val_dg, Dg.val_dg] at SU
      clear z hcv
      go_wp2_with fail
      refine (CM.out _ HR1.out HR2.out).mono ?_
      rintro e w3 ⟨rfl, hb3⟩
      replace A0 := Lib.hid (A0.out.below hb3)
      replace A1 := Lib.hid (A1.out.below hb3)
      replace A3 := Lib.hid ((hb3.block (w.heap.size + 1 + 1) A2.out.2.2).trans A3.out)
      replace A2 := Lib.hid (A2.out.below hb3)
      replace HR1 := Lib.hid (HR1.out.below hb3)
      replace HR2 := Lib.hid (HR2.out.below hb3)
      replace B0 := bstep B0 hb3
      clear a1 a2 a3 a9 b1 b2 b3 b9 hb3 CM
      obtain ⟨⟨a1, a2, a3⟩, -, a9⟩ := A0.out
      obtain ⟨⟨b1, b2, b3⟩, -, b9⟩ := A1.out
      go_upto_region 9 with fail
      obtain ⟨⟨c1, c2, c3⟩, ⟨c4, c5, c6⟩, c9⟩ := A2.out
      go_region_held3 (fun w' => w'.cell? ⟨w.heap.size, 0, none⟩ = some (.bool false) ∧ w'.cell? ⟨w.heap.size, 1, none⟩ = some (.slice Aa (Dg.dg ca).length cpa) ∧ w'.cell? ⟨w.heap.size, 2, none⟩ = some (.int .i64 ea))
        (repeat' (first | (with_reducible assumption) | (with_reducible refine keep3d ?_) | (with_reducible refine keep3s ?_ ?_) | (with_reducible exact ⟨a1, a2, a3⟩) | (with_reducible refine keep3 (by with_reducible assumption) ?_) | (show _ ≠ _; (try dsimp only); omega)))
        (first
          | (go_at_call 92; (with_reducible refine (SU.out _ ?_ ?_).mono ?_); (exact HR1.out); (exact HR2.out); rintro e wN ⟨vN, rfl, RN, hbN⟩; obtain ⟨AN, cN, rfl⟩ := slice_of RN; have HRN := Lib.hid RN; clear RN; have C1 := Lib.hid (A2.out.below (bundrew hbN)); have C2 := Lib.hid ((hbN.block (w.heap.size + 1 + 1) c9).trans A3.out); obtain ⟨⟨d1, d2, d3⟩, ⟨d4, d5, d6⟩, d9⟩ := C1.out))
      all_goals
        go_wp2
        refine bodyPost_ret (v := Fv false (.slice AN (Dg.dg (A - B)).length cN) m) (by simp [results, Tryd.results70, go_sem, *]) rfl ⟨_, _, _, ⟨?_, rfl, ?_⟩, rfl, ?_⟩
        · unfold sumR; rw [if_neg (by decide), if_pos Z.out]
        · rw [show (sumR false A true B).2 = A - B from (by unfold sumR; rw [if_neg (by decide), if_pos Z.out])]
          exact Row.set3 HRN.out (row_apart HRN.out C2.out (by decide)) _ _ _
        · clear a1 a2 a3 b1 b2 b3 c1 c2 c3 c4 c5 c6 d1 d2 d3 d4 d5 d6
          repeat' (first | (with_reducible exact B0) | (with_reducible refine Below.drew ?_) | (with_reducible refine Below.set1' ?_ _ _ ?_ _) | (with_reducible refine bstep ?_ (by with_reducible assumption)) | omega)
  · -- none below 0
    have AD := Lib.hid (fun W (h : Row W (.slice A1' (Dg.dg A).length c1') (Dg.dg A)) (h' : Row W (.slice A2' (Dg.dg B).length c2') (Dg.dg B)) => radd_any _ _ (Dg.dg A) (Dg.dg B) (by have := LL.out.1; omega) (by have := LL.out.2; omega) (dg_dig A) (dg_dig B) W h h')
    rw [Dg.val_dg, Dg.val_dg] at AD
    go_upto_region 7 with fail
    obtain ⟨⟨c1, c2, c3⟩, ⟨c4, c5, c6⟩, c9⟩ := A2.out
    go_region_held3 (fun w' => w'.cell? ⟨w.heap.size, 0, none⟩ = some (.bool false) ∧ w'.cell? ⟨w.heap.size, 1, none⟩ = some (.slice Aa (Dg.dg ca).length cpa) ∧ w'.cell? ⟨w.heap.size, 2, none⟩ = some (.int .i64 ea))
      (repeat' (first | (with_reducible assumption) | (with_reducible refine keep3d ?_) | (with_reducible refine keep3s ?_ ?_) | (with_reducible exact ⟨a1, a2, a3⟩) | (with_reducible refine keep3 (by with_reducible assumption) ?_) | (show _ ≠ _; (try dsimp only); omega)))
      (first
        | (go_at_call 91; (with_reducible refine (AD.out _ ?_ ?_).mono ?_); (exact HR1.out); (exact HR2.out); rintro e wN ⟨vN, rfl, RN, hbN⟩; obtain ⟨AN, cN, rfl⟩ := slice_of RN; have HRN := Lib.hid RN; clear RN; have C1 := Lib.hid (A2.out.below (bundrew hbN)); have C2 := Lib.hid ((hbN.block (w.heap.size + 1 + 1) c9).trans A3.out); obtain ⟨⟨d1, d2, d3⟩, ⟨d4, d5, d6⟩, d9⟩ := C1.out))
    all_goals
      go_wp2
      refine bodyPost_ret (v := Fv false (.slice AN (Dg.dg (A + B)).length cN) m) (by simp [results, Tryd.results70, go_sem, *]) rfl ⟨_, _, _, ⟨?_, rfl, ?_⟩, rfl, ?_⟩
      · unfold sumR; rw [if_pos rfl]
      · rw [show (sumR false A false B).2 = A + B from (by unfold sumR; rw [if_pos rfl])]
        exact Row.set3 HRN.out (row_apart HRN.out C2.out (by decide)) _ _ _
      · clear a1 a2 a3 b1 b2 b3 c1 c2 c3 c4 c5 c6 d1 d2 d3 d4 d5 d6
        repeat' (first | (with_reducible exact B0) | (with_reducible refine Below.drew ?_) | (with_reducible refine Below.set1' ?_ _ _ ?_ _) | (with_reducible refine bstep ?_ (by with_reducible assumption)) | omega)
end Go.Proofs.YteboohejlkionaaDoor

/-
  Which of two of the document's numbers is greater (the reference's Cmp), as a contract of its call.
-/
namespace Go.Proofs.YteboohejlkionaaDoor
open Go.RowKit

theorem keep33 {W w' : World} {g k : Nat} {v0 v1 v2 v3 v4 v5 : Value} (hb : Below W.heap.size W w') (h : W.cell? ⟨g, 0, none⟩ = some v0 ∧ W.cell? ⟨g, 1, none⟩ = some v1 ∧ W.cell? ⟨g, 2, none⟩ = some v2 ∧ W.cell? ⟨k, 0, none⟩ = some v3 ∧ W.cell? ⟨k, 1, none⟩ = some v4 ∧ W.cell? ⟨k, 2, none⟩ = some v5) : w'.cell? ⟨g, 0, none⟩ = some v0 ∧ w'.cell? ⟨g, 1, none⟩ = some v1 ∧ w'.cell? ⟨g, 2, none⟩ = some v2 ∧ w'.cell? ⟨k, 0, none⟩ = some v3 ∧ w'.cell? ⟨k, 1, none⟩ = some v4 ∧ w'.cell? ⟨k, 2, none⟩ = some v5 := ⟨keepCell2 h.1 hb, keepCell2 h.2.1 hb, keepCell2 h.2.2.1 hb, keepCell2 h.2.2.2.1 hb, keepCell2 h.2.2.2.2.1 hb, keepCell2 h.2.2.2.2.2 hb⟩
theorem keep33a {W : World} {g k : Nat} {v0 v1 v2 v3 v4 v5 : Value} {ob : Obj} (h : W.cell? ⟨g, 0, none⟩ = some v0 ∧ W.cell? ⟨g, 1, none⟩ = some v1 ∧ W.cell? ⟨g, 2, none⟩ = some v2 ∧ W.cell? ⟨k, 0, none⟩ = some v3 ∧ W.cell? ⟨k, 1, none⟩ = some v4 ∧ W.cell? ⟨k, 2, none⟩ = some v5) : (W.alloc ob).cell? ⟨g, 0, none⟩ = some v0 ∧ (W.alloc ob).cell? ⟨g, 1, none⟩ = some v1 ∧ (W.alloc ob).cell? ⟨g, 2, none⟩ = some v2 ∧ (W.alloc ob).cell? ⟨k, 0, none⟩ = some v3 ∧ (W.alloc ob).cell? ⟨k, 1, none⟩ = some v4 ∧ (W.alloc ob).cell? ⟨k, 2, none⟩ = some v5 := keep33 ((Below.refl _ _).alloc (Nat.le_refl _) ob) h
theorem keep33d {W : World} {g k : Nat} {v0 v1 v2 v3 v4 v5 : Value} (h : W.cell? ⟨g, 0, none⟩ = some v0 ∧ W.cell? ⟨g, 1, none⟩ = some v1 ∧ W.cell? ⟨g, 2, none⟩ = some v2 ∧ W.cell? ⟨k, 0, none⟩ = some v3 ∧ W.cell? ⟨k, 1, none⟩ = some v4 ∧ W.cell? ⟨k, 2, none⟩ = some v5) : W.drew.cell? ⟨g, 0, none⟩ = some v0 ∧ W.drew.cell? ⟨g, 1, none⟩ = some v1 ∧ W.drew.cell? ⟨g, 2, none⟩ = some v2 ∧ W.drew.cell? ⟨k, 0, none⟩ = some v3 ∧ W.drew.cell? ⟨k, 1, none⟩ = some v4 ∧ W.drew.cell? ⟨k, 2, none⟩ = some v5 := h
theorem keep33s {W : World} {g k : Nat} {v0 v1 v2 v3 v4 v5 : Value} {p : Addr} {u : Value} (hg : g ≠ p.block) (hk : k ≠ p.block) (h : W.cell? ⟨g, 0, none⟩ = some v0 ∧ W.cell? ⟨g, 1, none⟩ = some v1 ∧ W.cell? ⟨g, 2, none⟩ = some v2 ∧ W.cell? ⟨k, 0, none⟩ = some v3 ∧ W.cell? ⟨k, 1, none⟩ = some v4 ∧ W.cell? ⟨k, 2, none⟩ = some v5) : (W.setCell p u).cell? ⟨g, 0, none⟩ = some v0 ∧ (W.setCell p u).cell? ⟨g, 1, none⟩ = some v1 ∧ (W.setCell p u).cell? ⟨g, 2, none⟩ = some v2 ∧ (W.setCell p u).cell? ⟨k, 0, none⟩ = some v3 ∧ (W.setCell p u).cell? ⟨k, 1, none⟩ = some v4 ∧ (W.setCell p u).cell? ⟨k, 2, none⟩ = some v5 := ⟨keepSet h.1 hg, keepSet h.2.1 hg, keepSet h.2.2.1 hg, keepSet h.2.2.2.1 hk, keepSet h.2.2.2.2.1 hk, keepSet h.2.2.2.2.2 hk⟩
theorem Row.drew2 {W : World} {v : Value} {l : List Nat} (h : Row W v l) : Row W.drew v l := h
/-- The sign of a sum of two sizes with signs. -/
def sgR (p : Bool × Nat) : Int := if p.2 = 0 then 0 else if p.1 then -1 else 1

set_option maxRecDepth 100000 in
set_option maxHeartbeats 4000000 in
theorem rcmpF_any (na : Bool) (va : Value) (ca : Nat) (ea : Int) (nb : Bool) (vb : Value) (cb : Nat) (eb : Int) (h1 : ca < 10 ^ 40) (h2 : cb < 10 ^ 40) (e1 : -6176 ≤ ea) (e2 : ea ≤ 6111) (e3 : -6176 ≤ eb) (e4 : eb ≤ 6111) (w : World) (ra : Row w va (Dg.dg ca)) (rb : Row w vb (Dg.dg cb)) :
    Calls Tryd.prog 46 #[Fv na va ea, Fv nb vb eb] w (RetI (sgR (sumR na (ca * 10 ^ (ea - min ea eb).toNat) (!nb && !decide (cb = 0)) (cb * 10 ^ (eb - min ea eb).toNat))) w) := by
  obtain ⟨sb, hsb⟩ : ∃ s, s = (!nb && !decide (cb = 0)) := ⟨_, rfl⟩
  have LB : (Dg.dg cb).length ≤ 40 := Dg.dg_length_le h2
  have NE := Lib.hid (fun W (h : Row W vb (Dg.dg cb)) => rneg_any nb vb cb eb (by omega) W h)
  rw [← hsb] at NE
  rw [← hsb]
  have SU := Lib.hid (fun W (h : Row W va (Dg.dg ca)) (h' : Row W vb (Dg.dg cb)) => rsum_any na va ca ea sb vb cb eb h1 h2 e1 e2 e3 e4 W h h')
  generalize sumR na (ca * 10 ^ (ea - min ea eb).toNat) sb (cb * 10 ^ (eb - min ea eb).toNat) = sr at *
  obtain ⟨sn, sz⟩ := sr
  obtain ⟨m, hm⟩ : ∃ m, m = min ea eb := ⟨_, rfl⟩
  rw [← hm] at SU
  have RA := Lib.hid ra
  have RB := Lib.hid rb
  obtain ⟨Aa, cpa, rfl⟩ := slice_of ra
  obtain ⟨Ab, cpb, rfl⟩ := slice_of rb
  clear hsb hm ra rb h1 h2 e1 e2 e3 e4 LB
  go_enter Tryd.func46, Tryd.ntmps46
  go_upto_region 1 with fail
  have B0 : Below w.heap.size w ((w.alloc (.cells #[.bool na, .slice Aa (Dg.dg ca).length cpa, .int .i64 ea] 37)).alloc (.cells #[.bool nb, .slice Ab (Dg.dg cb).length cpb, .int .i64 eb] 37)) := by go_grown
  have A0 := Lib.hid (show HoldsF ((w.alloc (.cells #[.bool na, .slice Aa (Dg.dg ca).length cpa, .int .i64 ea] 37)).alloc (.cells #[.bool nb, .slice Ab (Dg.dg cb).length cpb, .int .i64 eb] 37)) w.heap.size na (.slice Aa (Dg.dg ca).length cpa) ea from by simp [HoldsF, go_sem])
  have A1 := Lib.hid (show HoldsF ((w.alloc (.cells #[.bool na, .slice Aa (Dg.dg ca).length cpa, .int .i64 ea] 37)).alloc (.cells #[.bool nb, .slice Ab (Dg.dg cb).length cpb, .int .i64 eb] 37)) (w.heap.size + 1) nb (.slice Ab (Dg.dg cb).length cpb) eb from by simp [HoldsF, go_sem])
  replace RA := Lib.hid ((RA.out.alloc' (.cells #[.bool na, .slice Aa (Dg.dg ca).length cpa, .int .i64 ea] 37)).alloc' (.cells #[.bool nb, .slice Ab (Dg.dg cb).length cpb, .int .i64 eb] 37))
  replace RB := Lib.hid ((RB.out.alloc' (.cells #[.bool na, .slice Aa (Dg.dg ca).length cpa, .int .i64 ea] 37)).alloc' (.cells #[.bool nb, .slice Ab (Dg.dg cb).length cpb, .int .i64 eb] 37))
  generalize (w.alloc (.cells #[.bool na, .slice Aa (Dg.dg ca).length cpa, .int .i64 ea] 37)).alloc (.cells #[.bool nb, .slice Ab (Dg.dg cb).length cpb, .int .i64 eb] 37) = V at *
  obtain ⟨⟨a1, a2, a3⟩, -, a9⟩ := A0.out
  obtain ⟨⟨b1, b2, b3⟩, -, b9⟩ := A1.out
  go_cut [5] (fun p W => ∃ (g : Nat) (A : Option Addr) (cap : Nat), p = .pointer (some ⟨g, 0, none⟩) ∧ HoldsF W g sn (.slice A (Dg.dg sz).length cap) m ∧ Below w.heap.size w W)
  case first =>
    go_region_held3 (fun w' => w'.cell? ⟨w.heap.size, 0, none⟩ = some (.bool na) ∧ w'.cell? ⟨w.heap.size, 1, none⟩ = some (.slice Aa (Dg.dg ca).length cpa) ∧ w'.cell? ⟨w.heap.size, 2, none⟩ = some (.int .i64 ea) ∧ w'.cell? ⟨w.heap.size + 1, 0, none⟩ = some (.bool nb) ∧ w'.cell? ⟨w.heap.size + 1, 1, none⟩ = some (.slice Ab (Dg.dg cb).length cpb) ∧ w'.cell? ⟨w.heap.size + 1, 2, none⟩ = some (.int .i64 eb))
      (repeat' (first | (with_reducible assumption) | (with_reducible refine keep33a ?_) | (with_reducible refine keep33d ?_) | (with_reducible refine keep33s ?_ ?_ ?_) | (with_reducible exact ⟨a1, a2, a3, b1, b2, b3⟩) | (with_reducible refine keep33 (by with_reducible assumption) ?_) | (show _ ≠ _; (try dsimp only); omega)))
      (first
        | (go_at_call 20; (with_reducible refine (NE.out _ ?_).mono ?_); (exact (by repeat' (first | (with_reducible exact RB.out) | (with_reducible refine Row.drew2 ?_) | (with_reducible refine Row.alloc' ?_ _)))); rintro e wN ⟨nN, vN, xN, ⟨rfl, rfl, rfl⟩, rfl, hbN⟩; obtain ⟨hcN, hfN⟩ := bcell hbN; have szN := hbN.size; (try simp only [World.size_alloc, World.size_drew] at szN); (try (have : V.heap.size < wN.heap.size := (by omega))))
        | (go_at_call 70; (with_reducible refine (SU.out _ ?_ ?_).mono ?_); (exact (by repeat' (first | (with_reducible exact RA.out) | (with_reducible refine Row.drew2 ?_) | (with_reducible refine Row.alloc' ?_ _) | (with_reducible refine Row.below ?_ (by with_reducible assumption))))); (exact (by repeat' (first | (with_reducible exact RB.out) | (with_reducible refine Row.drew2 ?_) | (with_reducible refine Row.alloc' ?_ _) | (with_reducible refine Row.below ?_ (by with_reducible assumption))))); rintro e wS ⟨nS, vS, xS, ⟨rfl, rfl, RS⟩, rfl, hbS⟩; obtain ⟨AS, cS, rfl⟩ := slice_of RS; obtain ⟨hcS, hfS⟩ := bcell hbS; have szS := hbS.size; (try simp only [World.size_alloc] at szS); (try (have : V.heap.size < wS.heap.size := (by omega))); (try (have : wN.heap.size < wS.heap.size := (by omega)))))
    all_goals
      go_wp2
      go_meet
      case rel =>
        refine ⟨_, AS, cS, rfl, ?_, ?_⟩
        · clear a1 a2 a3 b1 b2 b3 A0 A1 NE SU
          simp [HoldsF, go_sem, *]
        · clear a1 a2 a3 b1 b2 b3 hcN hfN hcS hfS
          repeat' (first | (with_reducible exact B0) | (with_reducible refine Below.drew ?_) | (with_reducible refine ballD1 ?_ _) | (with_reducible refine Below.set1' ?_ _ _ ?_ _) | (with_reducible refine bstep ?_ (by with_reducible assumption)) | omega)
  case rest =>
  obtain ⟨g, A, cap, rfl, P, B2⟩ := hcut
  have l0 : sz = 0 ↔ (Dg.dg sz).length = 0 := by
    constructor
    · rintro rfl; rw [Dg.dg_zero]; rfl
    · intro k
      rcases Nat.eq_zero_or_pos sz with z | z
      · exact z
      · have := nd_pos (n := sz) (by omega)
        unfold nd at this
        omega
  obtain ⟨ln, hln⟩ : ∃ n, n = (Dg.dg sz).length := ⟨_, rfl⟩
  rw [← hln] at l0 P
  clear hln a1 a2 a3 a9 b1 b2 b3 b9 A0 A1 B0 RA RB SU NE
  obtain ⟨⟨p1, p2, p3⟩, -, p9⟩ := P
  generalize wc = V2 at *
  by_cases z : sz = 0
  · have t : ((ln : Int) == 0) = true := by rw [l0.1 z]; rfl
    have hR : sgR (sn, sz) = 0 := by unfold sgR; rw [if_pos z]
    have HR := Lib.hid hR
    clear hR z l0
    go_wp2
    go_ret
    exact ⟨by rw [HR.out]; rfl, B2⟩
  · have t : ((ln : Int) == 0) = false := by
      have : ln ≠ 0 := fun k => z (l0.2 k)
      simp; omega
    cases sn
    · have hR : sgR (false, sz) = 1 := by unfold sgR; rw [if_neg z]; rfl
      have HR := Lib.hid hR
      clear hR z l0
      go_wp2
      go_ret
      exact ⟨by rw [HR.out]; rfl, B2⟩
    · have hR : sgR (true, sz) = -1 := by unfold sgR; rw [if_neg z]; rfl
      have HR := Lib.hid hR
      clear hR z l0
      go_wp2
      go_ret
      exact ⟨by rw [HR.out]; rfl, B2⟩
end Go.Proofs.YteboohejlkionaaDoor

/-
  A number that is the document's is so told (Like of the laws), as a contract of its call.
-/
namespace Go.Proofs.YteboohejlkionaaDoor
open Go.RowKit

theorem keep43 {W w' : World} {g k : Nat} {v0 v1 v2 v3 v4 v5 v6 : Value} (hb : Below W.heap.size W w') (h : W.cell? ⟨g, 0, none⟩ = some v0 ∧ W.cell? ⟨g, 1, none⟩ = some v1 ∧ W.cell? ⟨g, 2, none⟩ = some v2 ∧ W.cell? ⟨g, 3, none⟩ = some v3 ∧ W.cell? ⟨k, 0, none⟩ = some v4 ∧ W.cell? ⟨k, 1, none⟩ = some v5 ∧ W.cell? ⟨k, 2, none⟩ = some v6) : w'.cell? ⟨g, 0, none⟩ = some v0 ∧ w'.cell? ⟨g, 1, none⟩ = some v1 ∧ w'.cell? ⟨g, 2, none⟩ = some v2 ∧ w'.cell? ⟨g, 3, none⟩ = some v3 ∧ w'.cell? ⟨k, 0, none⟩ = some v4 ∧ w'.cell? ⟨k, 1, none⟩ = some v5 ∧ w'.cell? ⟨k, 2, none⟩ = some v6 := ⟨keepCell2 h.1 hb, keepCell2 h.2.1 hb, keepCell2 h.2.2.1 hb, keepCell2 h.2.2.2.1 hb, keepCell2 h.2.2.2.2.1 hb, keepCell2 h.2.2.2.2.2.1 hb, keepCell2 h.2.2.2.2.2.2 hb⟩
theorem keep43d {W : World} {g k : Nat} {v0 v1 v2 v3 v4 v5 v6 : Value} (h : W.cell? ⟨g, 0, none⟩ = some v0 ∧ W.cell? ⟨g, 1, none⟩ = some v1 ∧ W.cell? ⟨g, 2, none⟩ = some v2 ∧ W.cell? ⟨g, 3, none⟩ = some v3 ∧ W.cell? ⟨k, 0, none⟩ = some v4 ∧ W.cell? ⟨k, 1, none⟩ = some v5 ∧ W.cell? ⟨k, 2, none⟩ = some v6) : W.drew.cell? ⟨g, 0, none⟩ = some v0 ∧ W.drew.cell? ⟨g, 1, none⟩ = some v1 ∧ W.drew.cell? ⟨g, 2, none⟩ = some v2 ∧ W.drew.cell? ⟨g, 3, none⟩ = some v3 ∧ W.drew.cell? ⟨k, 0, none⟩ = some v4 ∧ W.drew.cell? ⟨k, 1, none⟩ = some v5 ∧ W.drew.cell? ⟨k, 2, none⟩ = some v6 := h
set_option maxRecDepth 100000 in
set_option maxHeartbeats 4000000 in
theorem like_yes (n : Bool) (h l : Nat) (x : Int) (v : Value) (ha : WW h l) (w : World) (r : Row w v (Dg.dg (nv h l))) : Calls Tryd.prog 18 #[Dv n h l x, Fv n v x] w (RetB true w) := by
  have LN : (Dg.dg (nv h l)).length ≤ 40 := Dg.dg_length_le (Nat.lt_of_lt_of_le (nv_lt ha) (by decide +kernel))
  have NN := Lib.hid (N_any h l ha)
  have CM := Lib.hid (fun v1 W (h1 : Row W v1 (Dg.dg (nv h l))) (h2 : Row W v (Dg.dg (nv h l))) => rcmp_any v1 v (nv h l) (nv h l) (by omega) (by omega) W h1 h2)
  rw [cmpN_eq] at CM
  have R := Lib.hid r
  obtain ⟨A, cap, rfl⟩ := slice_of r
  clear r ha LN
  go_enter Tryd.func18, Tryd.ntmps18
  go_upto_region 1 with fail
  have B0 : Below w.heap.size w ((w.alloc (.cells #[.bool n, .int .u64 (h : Int), .int .u64 (l : Int), .int .i64 x] 28)).alloc (.cells #[.bool n, .slice A (Dg.dg (nv h l)).length cap, .int .i64 x] 37)) := by go_grown
  have A0 := Lib.hid (show HoldsD ((w.alloc (.cells #[.bool n, .int .u64 (h : Int), .int .u64 (l : Int), .int .i64 x] 28)).alloc (.cells #[.bool n, .slice A (Dg.dg (nv h l)).length cap, .int .i64 x] 37)) w.heap.size n h l x from by simp [HoldsD, go_sem])
  have A1 := Lib.hid (show HoldsF ((w.alloc (.cells #[.bool n, .int .u64 (h : Int), .int .u64 (l : Int), .int .i64 x] 28)).alloc (.cells #[.bool n, .slice A (Dg.dg (nv h l)).length cap, .int .i64 x] 37)) (w.heap.size + 1) n (.slice A (Dg.dg (nv h l)).length cap) x from by simp [HoldsF, go_sem])
  replace R := Lib.hid ((R.out.alloc' (.cells #[.bool n, .int .u64 (h : Int), .int .u64 (l : Int), .int .i64 x] 28)).alloc' (.cells #[.bool n, .slice A (Dg.dg (nv h l)).length cap, .int .i64 x] 37))
  generalize ((w.alloc (.cells #[.bool n, .int .u64 (h : Int), .int .u64 (l : Int), .int .i64 x] 28)).alloc (.cells #[.bool n, .slice A (Dg.dg (nv h l)).length cap, .int .i64 x] 37)) = V at *
  obtain ⟨⟨a1, a2, a3, a4⟩, -, a9⟩ := A0.out
  obtain ⟨⟨b1, b2, b3⟩, -, b9⟩ := A1.out
  go_region_held3 (fun w' => w'.cell? ⟨w.heap.size, 0, none⟩ = some (.bool n) ∧ w'.cell? ⟨w.heap.size, 1, none⟩ = some (.int .u64 (h : Int)) ∧ w'.cell? ⟨w.heap.size, 2, none⟩ = some (.int .u64 (l : Int)) ∧ w'.cell? ⟨w.heap.size, 3, none⟩ = some (.int .i64 x) ∧ w'.cell? ⟨w.heap.size + 1, 0, none⟩ = some (.bool n) ∧ w'.cell? ⟨w.heap.size + 1, 1, none⟩ = some (.slice A (Dg.dg (nv h l)).length cap) ∧ w'.cell? ⟨w.heap.size + 1, 2, none⟩ = some (.int .i64 x))
    (repeat' (first | (with_reducible assumption) | (with_reducible refine keep43d ?_) | (with_reducible exact ⟨a1, a2, a3, a4, b1, b2, b3⟩) | (with_reducible refine keep43 (by with_reducible assumption) ?_)))
    (first
      | (go_at_call 10; (with_reducible refine (NN.out _).mono ?_); rintro e wN ⟨vN, rfl, RN, hbN⟩; have HRN := Lib.hid RN; clear RN)
      | (go_at_call 42; (with_reducible refine (CM.out _ _ ?_ ?_).mono ?_); (exact HRN.out); (exact R.out.below (bundrew hbN)); rintro e wC ⟨rfl, hbC⟩))
  all_goals
    clear a1 a2 a3 a4 b1 b2 b3
    go_wp2
    go_ret
    refine ⟨rfl, ?_⟩
    repeat' (first | (with_reducible exact B0) | (with_reducible refine Below.drew ?_) | (with_reducible refine bstep ?_ (by with_reducible assumption)))
end Go.Proofs.YteboohejlkionaaDoor

/-
  A number's size, and whether it is whole and of 128 bits; a number as an int (wholeSize and Whole of package dec), each as a contract of its call, for all numbers.
-/
namespace Go.Proofs.YteboohejlkionaaDoor
open Go.RowKit

/-- Whether a size is whole and of 128 bits; which it is. -/
def wsB (c : Nat) (x : Int) : Bool := decide (c = 0) || (if x < 0 then decide (-x ≤ 38) && decide (c % 10 ^ (-x).toNat = 0) else decide (x ≤ 38) && decide (c * 10 ^ x.toNat < B128))
def wsN (c : Nat) (x : Int) : Nat := if x < 0 then c / 10 ^ (-x).toNat else c * 10 ^ x.toNat

theorem keep22 {W w' : World} {g k : Nat} {v0 v1 v2 v3 : Value} (hb : Below W.heap.size W w') (h : W.cell? ⟨g, 0, none⟩ = some v0 ∧ W.cell? ⟨g, 1, none⟩ = some v1 ∧ W.cell? ⟨k, 0, none⟩ = some v2 ∧ W.cell? ⟨k, 1, none⟩ = some v3) : w'.cell? ⟨g, 0, none⟩ = some v0 ∧ w'.cell? ⟨g, 1, none⟩ = some v1 ∧ w'.cell? ⟨k, 0, none⟩ = some v2 ∧ w'.cell? ⟨k, 1, none⟩ = some v3 := ⟨keepCell2 h.1 hb, keepCell2 h.2.1 hb, keepCell2 h.2.2.1 hb, keepCell2 h.2.2.2 hb⟩
theorem keep22d {W : World} {g k : Nat} {v0 v1 v2 v3 : Value} (h : W.cell? ⟨g, 0, none⟩ = some v0 ∧ W.cell? ⟨g, 1, none⟩ = some v1 ∧ W.cell? ⟨k, 0, none⟩ = some v2 ∧ W.cell? ⟨k, 1, none⟩ = some v3) : W.drew.cell? ⟨g, 0, none⟩ = some v0 ∧ W.drew.cell? ⟨g, 1, none⟩ = some v1 ∧ W.drew.cell? ⟨k, 0, none⟩ = some v2 ∧ W.drew.cell? ⟨k, 1, none⟩ = some v3 := h
theorem keep22s {W : World} {g k : Nat} {v0 v1 v2 v3 : Value} {p : Addr} {u : Value} (hg : g ≠ p.block) (hk : k ≠ p.block) (h : W.cell? ⟨g, 0, none⟩ = some v0 ∧ W.cell? ⟨g, 1, none⟩ = some v1 ∧ W.cell? ⟨k, 0, none⟩ = some v2 ∧ W.cell? ⟨k, 1, none⟩ = some v3) : (W.setCell p u).cell? ⟨g, 0, none⟩ = some v0 ∧ (W.setCell p u).cell? ⟨g, 1, none⟩ = some v1 ∧ (W.setCell p u).cell? ⟨k, 0, none⟩ = some v2 ∧ (W.setCell p u).cell? ⟨k, 1, none⟩ = some v3 := ⟨keepSet h.1 hg, keepSet h.2.1 hg, keepSet h.2.2.1 hk, keepSet h.2.2.2 hk⟩
theorem decide_iff_eq {p q : Prop} [Decidable p] [Decidable q] (h : p ↔ q) : decide p = decide q := decide_eq_decide.2 h
theorem hi_half0 (K p q N : Nat) (a : q < K) (e : p * K + q = N) : (p = 0 ↔ N < K) ∧ (p = 0 → q = N) := by
  rcases Nat.eq_zero_or_pos p with z | z
  · subst z
    rw [Nat.zero_mul, Nat.zero_add] at e
    exact ⟨⟨fun _ => by omega, fun _ => rfl⟩, fun _ => e⟩
  · have := Nat.le_mul_of_pos_left K z
    exact ⟨⟨fun k => by omega, fun k => by omega⟩, fun k => by omega⟩
theorem hi_half {ph pl qh ql N : Nat} (hq : WW qh ql) (e : nv2 ph pl qh ql = N) : (nv ph pl = 0 ↔ N < B128) ∧ (nv ph pl = 0 → nv qh ql = N) :=
  hi_half0 B128 _ _ _ (nv_lt hq) e

set_option maxRecDepth 100000 in
set_option maxHeartbeats 8000000 in
theorem wsz_zero (neg : Bool) (h l : Nat) (x : Int) (ha : WW h l) (hz : nv h l = 0) (w : World) (ht : Tab w) :
    Calls Tryd.prog 40 #[Dv neg h l x] w (RetUB1 (fun a b ok => WW a b ∧ ok = wsB (nv h l) x ∧ (ok = true → nv a b = wsN (nv h l) x)) w) := by
  have HT := Lib.hid ht
  have HA := Lib.hid ha
  have Z := Lib.hid (zeroD_any neg h l x)
  clear ht ha
  rw [decide_eq_true hz] at Z
  have HZ := Lib.hid hz
  clear hz
  go_enter Tryd.func40, Tryd.ntmps40
  go_wp2_with fail
  refine (Z.out _).mono ?_
  rintro e w1 ⟨rfl, hb1⟩
  have B1 : Below w.heap.size w w1 := bstep (by go_grown) hb1
  have D1 := Lib.hid ((show Holds2 _ (w.heap.size + 1) 0 0 from by simp [Holds2, go_sem]).below hb1)
  clear hb1 Z
  obtain ⟨c1, c2, c3, c4, c5⟩ := D1.out
  go_wp2
  refine bodyPost_ret (v := .tuple #[U 0 0, .bool true]) (by simp [results, Tryd.results40, go_sem, *]) rfl ⟨_, _, _, ⟨⟨by decide, by decide⟩, ?_, fun _ => ?_⟩, rfl, ?_⟩
  · unfold wsB; rw [HZ.out]; rfl
  · unfold wsN; rw [HZ.out]; split <;> simp [nv]
  · clear c1 c2 c3 c4
    go_grown

set_option maxRecDepth 100000 in
set_option maxHeartbeats 8000000 in
theorem wsz_far (neg : Bool) (h l : Nat) (x : Int) (ha : WW h l) (x1 : -6176 ≤ x) (x2 : x ≤ 6111) (hz : nv h l ≠ 0) (neg0 : x < 0) (big : 38 < -x) (w : World) (ht : Tab w) :
    Calls Tryd.prog 40 #[Dv neg h l x] w (RetUB1 (fun a b ok => WW a b ∧ ok = wsB (nv h l) x ∧ (ok = true → nv a b = wsN (nv h l) x)) w) := by
  have HT := Lib.hid ht
  have HA := Lib.hid ha
  have Z := Lib.hid (zeroD_any neg h l x)
  clear ht ha
  rw [decide_eq_false hz] at Z
  have HZ := Lib.hid hz
  clear hz
  have t1 : decide (x < 0) = true := decide_eq_true neg0
  have e1 : IntKind.i64.wrap (-x) = -x := by rw [IntKind.wrap_i64]; omega
  have TN := Lib.hid (ten_no (-x) (.inr big))
  have HB := Lib.hid (And.intro neg0 big)
  clear big neg0 x1 x2
  go_enter Tryd.func40, Tryd.ntmps40
  go_wp2_with fail
  refine (Z.out _).mono ?_
  rintro e w1 ⟨rfl, hb1⟩
  have B1 : Below w.heap.size w w1 := bstep (by go_grown) hb1
  have D0 := Lib.hid ((show HoldsD _ w.heap.size neg h l x from by simp [HoldsD, go_sem]).below hb1)
  have D1 := Lib.hid ((show Holds2 _ (w.heap.size + 1) 0 0 from by simp [Holds2, go_sem]).below hb1)
  clear hb1 Z
  obtain ⟨⟨a1, a2, a3, a4⟩, -, a9⟩ := D0.out
  go_wp2_with fail
  refine (TN.out _).mono ?_
  rintro e w2 ⟨rfl, hb2⟩
  replace B1 := bstep B1 hb2
  replace D1 := Lib.hid (D1.out.below hb2)
  clear hb2 a1 a2 a3 a4 a9 D0 TN
  obtain ⟨c1, c2, c3, c4, c5⟩ := D1.out
  have z1 : w.heap.size + 1 < w2.heap.size + 1 := by omega
  go_wp2
  refine bodyPost_ret (v := .tuple #[U 0 0, .bool false]) (by simp [results, Tryd.results40, go_sem, *]) rfl ⟨_, _, _, ⟨⟨by decide, by decide⟩, ?_, fun k => (by cases k)⟩, rfl, ?_⟩
  · unfold wsB; rw [decide_eq_false HZ.out, if_pos HB.out.1, decide_eq_false (by have := HB.out.2; omega)]; rfl
  · clear c1 c2 c3 c4
    go_grown

set_option maxRecDepth 100000 in
set_option maxHeartbeats 8000000 in
theorem wsz_down (neg : Bool) (h l : Nat) (x : Int) (ha : WW h l) (x1 : -6176 ≤ x) (x2 : x ≤ 6111) (hz : nv h l ≠ 0) (neg0 : x < 0) (big : ¬ 38 < -x) (w : World) (ht : Tab w) :
    Calls Tryd.prog 40 #[Dv neg h l x] w (RetUB1 (fun a b ok => WW a b ∧ ok = wsB (nv h l) x ∧ (ok = true → nv a b = wsN (nv h l) x)) w) := by
  have HT := Lib.hid ht
  have HA := Lib.hid ha
  have Z := Lib.hid (zeroD_any neg h l x)
  clear ht ha
  rw [decide_eq_false hz] at Z
  have HZ := Lib.hid hz
  clear hz
  have t1 : decide (x < 0) = true := decide_eq_true neg0
  have e1 : IntKind.i64.wrap (-x) = -x := by rw [IntKind.wrap_i64]; omega
  obtain ⟨k, hk⟩ : ∃ k : Nat, -x = (k : Int) := ⟨(-x).toNat, by omega⟩
  have k38 : k ≤ 38 := by omega
  have HB := Lib.hid (And.intro neg0 (And.intro hk k38))
  have TY := Lib.hid (ten_yes k k38)
  rw [← hk] at TY
  clear big neg0 x1 x2 hk k38
  go_enter Tryd.func40, Tryd.ntmps40
  go_wp2_with fail
  refine (Z.out _).mono ?_
  rintro e w1 ⟨rfl, hb1⟩
  have B1 : Below w.heap.size w w1 := bstep (by go_grown) hb1
  have D0 := Lib.hid ((show HoldsD _ w.heap.size neg h l x from by simp [HoldsD, go_sem]).below hb1)
  have D1 := Lib.hid ((show Holds2 _ (w.heap.size + 1) 0 0 from by simp [Holds2, go_sem]).below hb1)
  clear hb1 Z
  obtain ⟨⟨a1, a2, a3, a4⟩, -, a9⟩ := D0.out
  go_wp2_with fail
  refine (TY.out _ (HT.out.below B1)).mono ?_
  rintro e w2 ⟨th, tl, P, rfl, hb2⟩
  have TP := Lib.hid P
  replace B1 := bstep B1 hb2
  replace D0 := Lib.hid (D0.out.below hb2)
  replace D1 := Lib.hid (D1.out.below hb2)
  clear hb2 a1 a2 a3 a4 a9 TY P
  obtain ⟨⟨a1, a2, a3, a4⟩, -, a9⟩ := D0.out
  have z1 : w.heap.size < w2.heap.size + 1 := by omega
  have DV := Lib.hid (div_yes 0 0 h l th tl ⟨by decide, by decide⟩ HA.out TP.out.1 (by rw [TP.out.2, show nv 0 0 = 0 from rfl]; exact p10 k))
  go_wp2_with fail
  refine (DV.out _).mono ?_
  rintro e w3 ⟨qh, ql, rh, rl, Q, rfl, hb3⟩
  have HQ := Lib.hid Q
  replace B1 := bstep (ballD1 B1 (.cells #[.int .u64 (th : Int), .int .u64 (tl : Int)] 24)) hb3
  replace D1 := Lib.hid ((D1.out.alloc (.cells #[.int .u64 (th : Int), .int .u64 (tl : Int)] 24)).below hb3)
  clear hb3 a1 a2 a3 a4 a9 z1 D0 DV Q
  go_upto_region 8 with fail
  have E0 := Lib.hid ((Holds2.new2 rfl).alloc _ : Holds2 ((w3.alloc (.cells #[.int .u64 (qh : Int), .int .u64 (ql : Int)] 24)).alloc (.cells #[.int .u64 (rh : Int), .int .u64 (rl : Int)] 24)) w3.heap.size qh ql)
  have E1 := Lib.hid (Holds2.new2 (by simp) : Holds2 ((w3.alloc (.cells #[.int .u64 (qh : Int), .int .u64 (ql : Int)] 24)).alloc (.cells #[.int .u64 (rh : Int), .int .u64 (rl : Int)] 24)) (w3.heap.size + 1) rh rl)
  have E2 := Lib.hid ((D1.out.alloc (.cells #[.int .u64 (qh : Int), .int .u64 (ql : Int)] 24)).alloc (.cells #[.int .u64 (rh : Int), .int .u64 (rl : Int)] 24))
  replace B1 := ballD1 (ballD1 B1 (.cells #[.int .u64 (qh : Int), .int .u64 (ql : Int)] 24)) (.cells #[.int .u64 (rh : Int), .int .u64 (rl : Int)] 24)
  have g1 : w.heap.size + 1 < w3.heap.size := D1.out.2.2.2.2
  generalize (w3.alloc (.cells #[.int .u64 (qh : Int), .int .u64 (ql : Int)] 24)).alloc (.cells #[.int .u64 (rh : Int), .int .u64 (rl : Int)] 24) = V4 at *
  clear D1
  obtain ⟨bz, hbz⟩ : ∃ b, b = decide (nv rh rl = 0) := ⟨_, rfl⟩
  have ZR := Lib.hid (zero_any rh rl)
  rw [← hbz] at ZR
  have HBZ := Lib.hid hbz
  clear hbz
  obtain ⟨a1, a2, -, -, a5⟩ := E0.out
  obtain ⟨b1, b2, -, -, b5⟩ := E1.out
  obtain ⟨c1, c2, c3, c4, c5⟩ := E2.out
  all_goals
    go_region_held3 (fun w' => w'.cell? ⟨w3.heap.size, 0, none⟩ = some (.int .u64 (qh : Int)) ∧ w'.cell? ⟨w3.heap.size, 1, none⟩ = some (.int .u64 (ql : Int)) ∧ w'.cell? ⟨w3.heap.size + 1, 0, none⟩ = some (.int .u64 (rh : Int)) ∧ w'.cell? ⟨w3.heap.size + 1, 1, none⟩ = some (.int .u64 (rl : Int)))
      (repeat' (first | (with_reducible assumption) | (with_reducible refine keep22d ?_) | (with_reducible refine keep22s ?_ ?_ ?_) | (with_reducible exact ⟨a1, a2, b1, b2⟩) | (with_reducible refine keep22 (by with_reducible assumption) ?_) | (show _ ≠ _; (try dsimp only); omega)))
      (first
        | (go_at_call 38; (with_reducible refine (ZR.out _).mono ?_); rintro e w5 ⟨rfl, hb5⟩; (first | obtain ⟨hc5, hf5⟩ := bcell (bundrew hb5) | obtain ⟨hc5, hf5⟩ := bcell hb5); have sz5 := hb5.size; (try simp only [World.size_drew] at sz5)))
    all_goals
      go_wp2
      refine bodyPost_ret (v := .tuple #[U qh ql, .bool bz]) (by simp [results, Tryd.results40, go_sem, *]) rfl ⟨_, _, _, ⟨HQ.out.1, ?_, fun _ => ?_⟩, rfl, ?_⟩
      · obtain ⟨-, -, q3, q4⟩ := HQ.out
        refine HBZ.out.trans ?_
        unfold wsB
        rw [decide_eq_false HZ.out, if_pos HB.out.1, HB.out.2.1, Int.toNat_natCast, decide_eq_true (show ((k : Nat) : Int) ≤ 38 by have := HB.out.2.2; omega)]
        rw [TP.out.2] at q3 q4
        rw [nv2_low] at q4
        rw [← q4, Nat.add_comm, Nat.add_mul_mod_self_right, Nat.mod_eq_of_lt q3, Bool.false_or, Bool.true_and]
      · obtain ⟨-, -, q3, q4⟩ := HQ.out
        unfold wsN
        rw [if_pos HB.out.1, HB.out.2.1, Int.toNat_natCast]
        rw [TP.out.2] at q3 q4
        rw [nv2_low] at q4
        rw [← q4, Nat.add_comm, Nat.add_mul_div_right _ _ (p10 k), Nat.div_eq_of_lt q3, Nat.zero_add]
      · clear a1 a2 b1 b2 c1 c2 c3 c4 hc5 hf5
        repeat' (first | (with_reducible exact B1) | (with_reducible refine Below.drew ?_) | (with_reducible refine Below.set1' ?_ _ _ ?_ _) | (with_reducible refine bstep ?_ (by with_reducible assumption)) | omega)

set_option maxRecDepth 100000 in
set_option maxHeartbeats 8000000 in
theorem wsz_high (neg : Bool) (h l : Nat) (x : Int) (ha : WW h l) (hz : nv h l ≠ 0) (neg0 : ¬ x < 0) (big : 38 < x) (w : World) (ht : Tab w) :
    Calls Tryd.prog 40 #[Dv neg h l x] w (RetUB1 (fun a b ok => WW a b ∧ ok = wsB (nv h l) x ∧ (ok = true → nv a b = wsN (nv h l) x)) w) := by
  have HT := Lib.hid ht
  have HA := Lib.hid ha
  have Z := Lib.hid (zeroD_any neg h l x)
  clear ht ha
  rw [decide_eq_false hz] at Z
  have HZ := Lib.hid hz
  clear hz
  have t1 : decide (x < 0) = false := decide_eq_false neg0
  have TN := Lib.hid (ten_no x (.inr big))
  have HB := Lib.hid (And.intro neg0 big)
  have MU := Lib.hid (mul_any h l 0 0 HA.out ⟨by decide, by decide⟩)
  clear big neg0
  go_enter Tryd.func40, Tryd.ntmps40
  go_wp2_with fail
  refine (Z.out _).mono ?_
  rintro e w1 ⟨rfl, hb1⟩
  have B1 : Below w.heap.size w w1 := bstep (by go_grown) hb1
  have D0 := Lib.hid ((show HoldsD _ w.heap.size neg h l x from by simp [HoldsD, go_sem]).below hb1)
  have D1 := Lib.hid ((show Holds2 _ (w.heap.size + 1) 0 0 from by simp [Holds2, go_sem]).below hb1)
  clear hb1 Z
  obtain ⟨⟨a1, a2, a3, a4⟩, -, a9⟩ := D0.out
  go_wp2_with fail
  refine (TN.out _).mono ?_
  rintro e w2 ⟨rfl, hb2⟩
  replace B1 := bstep B1 hb2
  replace D0 := Lib.hid (D0.out.below hb2)
  replace D1 := Lib.hid (D1.out.below hb2)
  clear hb2 a1 a2 a3 a4 a9 TN
  obtain ⟨⟨a1, a2, a3, a4⟩, -, a9⟩ := D0.out
  have z1 : w.heap.size < w2.heap.size + 1 := by omega
  go_wp2_with fail
  refine (MU.out _).mono ?_
  rintro e w3 ⟨ph, pl, qh, ql, P, rfl, hb3⟩
  have HQ := Lib.hid P
  replace B1 := bstep (ballD1 B1 (.cells #[.int .u64 0, .int .u64 0] 24)) hb3
  replace D1 := Lib.hid ((D1.out.alloc (.cells #[.int .u64 0, .int .u64 0] 24)).below hb3)
  clear hb3 a1 a2 a3 a4 a9 z1 D0 MU P
  go_upto_region 11 with fail
  have E0 := Lib.hid ((Holds2.new2 rfl).alloc _ : Holds2 ((w3.alloc (.cells #[.int .u64 (ph : Int), .int .u64 (pl : Int)] 24)).alloc (.cells #[.int .u64 (qh : Int), .int .u64 (ql : Int)] 24)) w3.heap.size ph pl)
  have E1 := Lib.hid (Holds2.new2 (by simp) : Holds2 ((w3.alloc (.cells #[.int .u64 (ph : Int), .int .u64 (pl : Int)] 24)).alloc (.cells #[.int .u64 (qh : Int), .int .u64 (ql : Int)] 24)) (w3.heap.size + 1) qh ql)
  have E2 := Lib.hid ((D1.out.alloc (.cells #[.int .u64 (ph : Int), .int .u64 (pl : Int)] 24)).alloc (.cells #[.int .u64 (qh : Int), .int .u64 (ql : Int)] 24))
  replace B1 := ballD1 (ballD1 B1 (.cells #[.int .u64 (ph : Int), .int .u64 (pl : Int)] 24)) (.cells #[.int .u64 (qh : Int), .int .u64 (ql : Int)] 24)
  have g1 : w.heap.size + 1 < w3.heap.size := D1.out.2.2.2.2
  generalize (w3.alloc (.cells #[.int .u64 (ph : Int), .int .u64 (pl : Int)] 24)).alloc (.cells #[.int .u64 (qh : Int), .int .u64 (ql : Int)] 24) = V4 at *
  clear D1
  obtain ⟨a1, a2, -, -, a5⟩ := E0.out
  obtain ⟨b1, b2, -, -, b5⟩ := E1.out
  obtain ⟨c1, c2, c3, c4, c5⟩ := E2.out
  have hun : undef = Value.tuple #[] := rfl
  first
  | (go_region_with (fail))
  | fail "the region"
  all_goals
    go_wp2
    refine bodyPost_ret (v := .tuple #[U qh ql, .bool false]) (by simp [results, Tryd.results40, go_sem, *]) rfl ⟨_, _, _, ⟨HQ.out.2.1, ?_, fun k => (by cases k)⟩, rfl, ?_⟩
    · unfold wsB
      rw [decide_eq_false HZ.out, if_neg (by have := HB.out.1; omega), decide_eq_false (by have := HB.out.2; omega)]; rfl
    · clear a1 a2 b1 b2 c1 c2 c3 c4
      repeat' (first | (with_reducible exact B1) | (with_reducible refine Below.drew ?_) | (with_reducible refine Below.set1' ?_ _ _ ?_ _) | (with_reducible refine bstep ?_ (by with_reducible assumption)) | omega)

set_option maxRecDepth 100000 in
set_option maxHeartbeats 8000000 in
theorem wsz_up (neg : Bool) (h l : Nat) (x : Int) (ha : WW h l) (hz : nv h l ≠ 0) (neg0 : ¬ x < 0) (big : ¬ 38 < x) (w : World) (ht : Tab w) :
    Calls Tryd.prog 40 #[Dv neg h l x] w (RetUB1 (fun a b ok => WW a b ∧ ok = wsB (nv h l) x ∧ (ok = true → nv a b = wsN (nv h l) x)) w) := by
  have HT := Lib.hid ht
  have HA := Lib.hid ha
  have Z := Lib.hid (zeroD_any neg h l x)
  clear ht ha
  rw [decide_eq_false hz] at Z
  have HZ := Lib.hid hz
  clear hz
  have t1 : decide (x < 0) = false := decide_eq_false neg0
  obtain ⟨k, rfl⟩ : ∃ k : Nat, x = (k : Int) := ⟨x.toNat, by omega⟩
  have k38 : k ≤ 38 := by omega
  have HB := Lib.hid (And.intro neg0 k38)
  have TY := Lib.hid (ten_yes k k38)
  clear big neg0 k38
  go_enter Tryd.func40, Tryd.ntmps40
  go_wp2_with fail
  refine (Z.out _).mono ?_
  rintro e w1 ⟨rfl, hb1⟩
  have B1 : Below w.heap.size w w1 := bstep (by go_grown) hb1
  have D0 := Lib.hid ((show HoldsD _ w.heap.size neg h l (k : Int) from by simp [HoldsD, go_sem]).below hb1)
  have D1 := Lib.hid ((show Holds2 _ (w.heap.size + 1) 0 0 from by simp [Holds2, go_sem]).below hb1)
  clear hb1 Z
  obtain ⟨⟨a1, a2, a3, a4⟩, -, a9⟩ := D0.out
  go_wp2_with fail
  refine (TY.out _ (HT.out.below B1)).mono ?_
  rintro e w2 ⟨th, tl, P, rfl, hb2⟩
  have TP := Lib.hid P
  replace B1 := bstep B1 hb2
  replace D0 := Lib.hid (D0.out.below hb2)
  replace D1 := Lib.hid (D1.out.below hb2)
  clear hb2 a1 a2 a3 a4 a9 TY P
  obtain ⟨⟨a1, a2, a3, a4⟩, -, a9⟩ := D0.out
  have z1 : w.heap.size < w2.heap.size + 1 := by omega
  have MU := Lib.hid (mul_any h l th tl HA.out TP.out.1)
  go_wp2_with fail
  refine (MU.out _).mono ?_
  rintro e w3 ⟨ph, pl, qh, ql, P, rfl, hb3⟩
  have HQ := Lib.hid P
  replace B1 := bstep (ballD1 B1 (.cells #[.int .u64 (th : Int), .int .u64 (tl : Int)] 24)) hb3
  replace D1 := Lib.hid ((D1.out.alloc (.cells #[.int .u64 (th : Int), .int .u64 (tl : Int)] 24)).below hb3)
  clear hb3 a1 a2 a3 a4 a9 z1 D0 MU P
  go_upto_region 11 with fail
  have E0 := Lib.hid ((Holds2.new2 rfl).alloc _ : Holds2 ((w3.alloc (.cells #[.int .u64 (ph : Int), .int .u64 (pl : Int)] 24)).alloc (.cells #[.int .u64 (qh : Int), .int .u64 (ql : Int)] 24)) w3.heap.size ph pl)
  have E1 := Lib.hid (Holds2.new2 (by simp) : Holds2 ((w3.alloc (.cells #[.int .u64 (ph : Int), .int .u64 (pl : Int)] 24)).alloc (.cells #[.int .u64 (qh : Int), .int .u64 (ql : Int)] 24)) (w3.heap.size + 1) qh ql)
  have E2 := Lib.hid ((D1.out.alloc (.cells #[.int .u64 (ph : Int), .int .u64 (pl : Int)] 24)).alloc (.cells #[.int .u64 (qh : Int), .int .u64 (ql : Int)] 24))
  replace B1 := ballD1 (ballD1 B1 (.cells #[.int .u64 (ph : Int), .int .u64 (pl : Int)] 24)) (.cells #[.int .u64 (qh : Int), .int .u64 (ql : Int)] 24)
  have g1 : w.heap.size + 1 < w3.heap.size := D1.out.2.2.2.2
  generalize (w3.alloc (.cells #[.int .u64 (ph : Int), .int .u64 (pl : Int)] 24)).alloc (.cells #[.int .u64 (qh : Int), .int .u64 (ql : Int)] 24) = V4 at *
  clear D1
  obtain ⟨bz, hbz⟩ : ∃ b, b = decide (nv ph pl = 0) := ⟨_, rfl⟩
  have ZR := Lib.hid (zero_any ph pl)
  rw [← hbz] at ZR
  have HBZ := Lib.hid hbz
  clear hbz
  obtain ⟨a1, a2, -, -, a5⟩ := E0.out
  obtain ⟨b1, b2, -, -, b5⟩ := E1.out
  obtain ⟨c1, c2, c3, c4, c5⟩ := E2.out
  all_goals
    go_region_held3 (fun w' => w'.cell? ⟨w3.heap.size, 0, none⟩ = some (.int .u64 (ph : Int)) ∧ w'.cell? ⟨w3.heap.size, 1, none⟩ = some (.int .u64 (pl : Int)) ∧ w'.cell? ⟨w3.heap.size + 1, 0, none⟩ = some (.int .u64 (qh : Int)) ∧ w'.cell? ⟨w3.heap.size + 1, 1, none⟩ = some (.int .u64 (ql : Int)))
      (repeat' (first | (with_reducible assumption) | (with_reducible refine keep22d ?_) | (with_reducible refine keep22s ?_ ?_ ?_) | (with_reducible exact ⟨a1, a2, b1, b2⟩) | (with_reducible refine keep22 (by with_reducible assumption) ?_) | (show _ ≠ _; (try dsimp only); omega)))
      (first
        | (go_at_call 38; (with_reducible refine (ZR.out _).mono ?_); rintro e w5 ⟨rfl, hb5⟩; (first | obtain ⟨hc5, hf5⟩ := bcell (bundrew hb5) | obtain ⟨hc5, hf5⟩ := bcell hb5); have sz5 := hb5.size; (try simp only [World.size_drew] at sz5)))
    all_goals
      go_wp2
      refine bodyPost_ret (v := .tuple #[U qh ql, .bool bz]) (by simp [results, Tryd.results40, go_sem, *]) rfl ⟨_, _, _, ⟨HQ.out.2.1, ?_, fun y => ?_⟩, rfl, ?_⟩
      · have hN : nv2 ph pl qh ql = nv h l * 10 ^ k := HQ.out.2.2.trans (by rw [TP.out.2])
        obtain ⟨p1, p2⟩ := hi_half HQ.out.2.1 hN
        refine HBZ.out.trans ?_
        unfold wsB
        rw [decide_eq_false HZ.out, if_neg (by have := HB.out.1; omega), Int.toNat_natCast, decide_eq_true (show ((k : Nat) : Int) ≤ 38 by have := HB.out.2; omega), Bool.false_or, Bool.true_and]
        exact decide_iff_eq p1
      · have hN : nv2 ph pl qh ql = nv h l * 10 ^ k := HQ.out.2.2.trans (by rw [TP.out.2])
        obtain ⟨p1, p2⟩ := hi_half HQ.out.2.1 hN
        unfold wsN
        rw [if_neg (by have := HB.out.1; omega), Int.toNat_natCast]
        replace y := HBZ.out.symm.trans y
        exact p2 (of_decide_eq_true y)
      · clear a1 a2 b1 b2 c1 c2 c3 c4 hc5 hf5
        repeat' (first | (with_reducible exact B1) | (with_reducible refine Below.drew ?_) | (with_reducible refine Below.set1' ?_ _ _ ?_ _) | (with_reducible refine bstep ?_ (by with_reducible assumption)) | omega)

theorem wsz_any (neg : Bool) (h l : Nat) (x : Int) (ha : WW h l) (x1 : -6176 ≤ x) (x2 : x ≤ 6111) (w : World) (ht : Tab w) :
    Calls Tryd.prog 40 #[Dv neg h l x] w (RetUB1 (fun a b ok => WW a b ∧ ok = wsB (nv h l) x ∧ (ok = true → nv a b = wsN (nv h l) x)) w) := by
  by_cases hz : nv h l = 0
  · exact wsz_zero neg h l x ha hz w ht
  by_cases n0 : x < 0
  · by_cases big : 38 < -x
    · exact wsz_far neg h l x ha x1 x2 hz n0 big w ht
    · exact wsz_down neg h l x ha x1 x2 hz n0 big w ht
  · by_cases big : 38 < x
    · exact wsz_high neg h l x ha hz n0 big w ht
    · exact wsz_up neg h l x ha hz n0 big w ht
end Go.Proofs.YteboohejlkionaaDoor

/-
  A number as an int (Whole of package dec), as a contract of its call, for all numbers.
-/
namespace Go.Proofs.YteboohejlkionaaDoor
open Go.RowKit

theorem keep2 {W w' : World} {g : Nat} {v0 v1 : Value} (hb : Below W.heap.size W w') (h : W.cell? ⟨g, 0, none⟩ = some v0 ∧ W.cell? ⟨g, 1, none⟩ = some v1) : w'.cell? ⟨g, 0, none⟩ = some v0 ∧ w'.cell? ⟨g, 1, none⟩ = some v1 := ⟨keepCell2 h.1 hb, keepCell2 h.2 hb⟩
theorem keep2a {W : World} {g : Nat} {v0 v1 : Value} {ob : Obj} (h : W.cell? ⟨g, 0, none⟩ = some v0 ∧ W.cell? ⟨g, 1, none⟩ = some v1) : (W.alloc ob).cell? ⟨g, 0, none⟩ = some v0 ∧ (W.alloc ob).cell? ⟨g, 1, none⟩ = some v1 := keep2 ((Below.refl _ _).alloc (Nat.le_refl _) ob) h
theorem keep2d {W : World} {g : Nat} {v0 v1 : Value} (h : W.cell? ⟨g, 0, none⟩ = some v0 ∧ W.cell? ⟨g, 1, none⟩ = some v1) : W.drew.cell? ⟨g, 0, none⟩ = some v0 ∧ W.drew.cell? ⟨g, 1, none⟩ = some v1 := h
/-- The greatest size of an int above 0, below 0. -/
def mostN (n : Bool) : Nat := if n then 9223372036854775808 else 9223372036854775807
/-- Whether a number is an int's; which one that is. -/
def whB (n : Bool) (c : Nat) (x : Int) : Bool := wsB c x && decide (wsN c x ≤ mostN n)
def iN (n : Bool) (z : Nat) : Int := if n then -(z : Int) else (z : Int)
def whV (n : Bool) (c : Nat) (x : Int) : Int := if whB n c x then iN n (wsN c x) else 0
def RetIB (v : Int) (b : Bool) (w : World) (e : Ending) (w' : World) : Prop := e = .returned (.tuple #[.int .i64 v, .bool b]) ∧ Below w.heap.size w w'

set_option maxRecDepth 100000 in
set_option maxHeartbeats 8000000 in
theorem whole_any (n : Bool) (h l : Nat) (x : Int) (ha : WW h l) (x1 : -6176 ≤ x) (x2 : x ≤ 6111) (w : World) (ht : Tab w) :
    Calls Tryd.prog 13 #[Dv n h l x] w (RetIB (whV n (nv h l) x) (whB n (nv h l) x) w) := by
  have HT := Lib.hid ht
  have WS := Lib.hid (wsz_any n h l x ha x1 x2)
  obtain ⟨V, hV⟩ : ∃ V, V = whV n (nv h l) x := ⟨_, rfl⟩
  obtain ⟨Y, hY⟩ : ∃ Y, Y = whB n (nv h l) x := ⟨_, rfl⟩
  rw [← hV, ← hY]
  unfold whV at hV
  rw [← hY] at hV
  unfold whB at hY
  generalize wsN (nv h l) x = N at *
  generalize wsB (nv h l) x = B at *
  have HV := Lib.hid hV
  have HY := Lib.hid hY
  clear ht ha x1 x2 hV hY
  go_enter Tryd.func13, Tryd.ntmps13
  go_wp2_with fail
  refine (WS.out _ (HT.out.below (by go_grown))).mono ?_
  rintro e w1 ⟨a, b, ok, ⟨q1, rfl, q3⟩, rfl, hb1⟩
  have B1 : Below w.heap.size w w1 := bstep (by go_grown) hb1
  have D0 := Lib.hid ((show HoldsD _ w.heap.size n h l x from by simp [HoldsD, go_sem]).below hb1)
  clear hb1 WS
  cases ok
  · have y0 : Y = false := by rw [HY.out]; rfl
    subst y0
    have v0 : V = 0 := by rw [HV.out]; rfl
    subst v0
    clear q1 q3 D0 HV HY
    go_wp2
    go_ret2
    exact ⟨rfl, ballD1 B1 _⟩
  have Q3 := Lib.hid (q3 rfl)
  clear q3
  replace HY := Lib.hid (show Y = decide (N ≤ mostN n) from HY.out)
  obtain ⟨mo, hmo⟩ : ∃ mo, mo = mostN n := ⟨_, rfl⟩
  have CM := Lib.hid (cmp_any a b 0 mo q1 ⟨by decide, by rw [hmo]; cases n <;> decide⟩)
  obtain ⟨cv, hcv⟩ : ∃ cv, cv = cmpN (nv a b) (nv 0 mo) := ⟨_, rfl⟩
  rw [← hcv] at CM
  have HQ := Lib.hid q1
  obtain ⟨bb, hbb⟩ : ∃ bb, bb = decide (0 < cv) := ⟨_, rfl⟩
  have HB := Lib.hid (show decide (N ≤ mostN n) = !bb from by
    rw [hbb, hcv, ← Q3.out, ← hmo, show nv 0 mo = mo from nv01 mo]
    rcases cmpN_range (nv a b) mo with ⟨e, e'⟩ | ⟨e, e'⟩ | ⟨e, e'⟩
    · rw [e, decide_eq_true (by omega)]; rfl
    · rw [e, decide_eq_true (by omega)]; rfl
    · rw [e, decide_eq_false (by omega)]; rfl)
  have E0 := Lib.hid (Holds2.new2 rfl : Holds2 (w1.alloc (.cells #[.int .u64 (a : Int), .int .u64 (b : Int)] 24)) w1.heap.size a b)
  have E1 := Lib.hid (D0.out.alloc (.cells #[.int .u64 (a : Int), .int .u64 (b : Int)] 24))
  replace B1 := ballD1 B1 (.cells #[.int .u64 (a : Int), .int .u64 (b : Int)] 24)
  have g1 : w.heap.size < w1.heap.size := D0.out.2.2
  have g2 : w.heap.size < w1.heap.size + 1 := by omega
  obtain ⟨⟨a1, -, -, -⟩, -, -⟩ := D0.out
  go_upto_region 4 with fail
  generalize w1.alloc (.cells #[.int .u64 (a : Int), .int .u64 (b : Int)] 24) = V1 at *
  clear D0 a1
  obtain ⟨⟨a1, -, -, -⟩, -, a9⟩ := E1.out
  obtain ⟨c1, c2, -, -, c5⟩ := E0.out
  cases n
  · skip
    have e5 : mo = 9223372036854775807 := hmo
    clear hmo hcv
    subst e5
    go_upto_region 7 with fail
    go_cut [22] (fun t W => t = .bool bb ∧ Below V1.heap.size V1 W)
    case first =>
      go_region_held3 (fun w' => w'.cell? ⟨w1.heap.size, 0, none⟩ = some (.int .u64 (a : Int)) ∧ w'.cell? ⟨w1.heap.size, 1, none⟩ = some (.int .u64 (b : Int)))
        (repeat' (first | (with_reducible assumption) | (with_reducible refine keep2a ?_) | (with_reducible refine keep2d ?_) | (with_reducible exact ⟨c1, c2⟩) | (with_reducible refine keep2 (by with_reducible assumption) ?_)))
        (first
          | (go_at_call 35; refine (of_any 9223372036854775807 _).mono ?_; rintro e w' ⟨rfl, o1, rfl⟩)
          | (go_at_call 39; refine (CM.out _).mono ?_; rintro e w5 ⟨rfl, hb5⟩))
      all_goals
        go_wp2
        go_meet
        case rel =>
          refine ⟨by rw [hbb], ?_⟩
          repeat' (first | (with_reducible exact Below.refl _ _) | (with_reducible refine Below.drew ?_) | (with_reducible refine ballD1 ?_ _) | (with_reducible refine bstep ?_ (by with_reducible assumption)))
    case rest =>
    obtain ⟨rfl, hb6⟩ := hcut
    replace B1 := bstep B1 hb6
    replace E0 := Lib.hid (E0.out.below hb6)
    replace E1 := Lib.hid (E1.out.below hb6)
    clear hb6 a1 a9 c1 c2 c5 CM hbb
    cases bb
    · have y0 : Y = true := by rw [HY.out, HB.out]; rfl
      subst y0
      obtain ⟨r1, r2⟩ : a = 0 ∧ b = N := by
        have k := of_decide_eq_true (show decide (N ≤ mostN false) = true from by rw [HB.out]; rfl)
        have k2 : N ≤ 9223372036854775807 := k
        have k3 := Q3.out
        have k4 := HQ.out.2
        unfold nv at k3
        omega
      subst r1 r2
      have v0 : V = iN false b := by rw [HV.out]; rfl
      subst v0
      have BD := Lib.hid (show b ≤ 9223372036854775807 from of_decide_eq_true (show decide (b ≤ mostN false) = true from by rw [HB.out]; rfl))
      obtain ⟨bi, hbi⟩ : ∃ bi : Int, bi = (b : Int) := ⟨_, rfl⟩
      have f1 : IntKind.i64.wrap bi = bi := by
        have := BD.out
        rw [IntKind.wrap_i64]
        omega
      obtain ⟨⟨a1, -, -, -⟩, -, a9⟩ := E1.out
      obtain ⟨c1, c2, -, -, c5⟩ := E0.out
      rw [← hbi] at c2
      have HBI := Lib.hid hbi
      clear E0 E1 HB HQ HV HY Q3 BD hbi
      go_wp2
      go_ret2
      exact ⟨by rw [show iN false b = bi from by unfold iN; rw [HBI.out]; rfl]; rfl, B1⟩
    · have y0 : Y = false := by rw [HY.out, HB.out]; rfl
      subst y0
      have v0 : V = 0 := by rw [HV.out]; rfl
      subst v0
      obtain ⟨⟨a1, -, -, -⟩, -, a9⟩ := E1.out
      clear E0 E1 HB HQ HV HY Q3
      go_wp2
      go_ret2
      exact ⟨rfl, B1⟩
  · skip
    have e5 : mo = 9223372036854775808 := hmo
    clear hmo hcv
    subst e5
    go_upto_region 7 with fail
    go_cut [22] (fun t W => t = .bool bb ∧ Below V1.heap.size V1 W)
    case first =>
      go_region_held3 (fun w' => w'.cell? ⟨w1.heap.size, 0, none⟩ = some (.int .u64 (a : Int)) ∧ w'.cell? ⟨w1.heap.size, 1, none⟩ = some (.int .u64 (b : Int)))
        (repeat' (first | (with_reducible assumption) | (with_reducible refine keep2a ?_) | (with_reducible refine keep2d ?_) | (with_reducible exact ⟨c1, c2⟩) | (with_reducible refine keep2 (by with_reducible assumption) ?_)))
        (first
          | (go_at_call 35; refine (of_any 9223372036854775808 _).mono ?_; rintro e w' ⟨rfl, o1, rfl⟩)
          | (go_at_call 39; refine (CM.out _).mono ?_; rintro e w5 ⟨rfl, hb5⟩))
      all_goals
        go_wp2
        go_meet
        case rel =>
          refine ⟨by rw [hbb], ?_⟩
          repeat' (first | (with_reducible exact Below.refl _ _) | (with_reducible refine Below.drew ?_) | (with_reducible refine ballD1 ?_ _) | (with_reducible refine bstep ?_ (by with_reducible assumption)))
    case rest =>
    obtain ⟨rfl, hb6⟩ := hcut
    replace B1 := bstep B1 hb6
    replace E0 := Lib.hid (E0.out.below hb6)
    replace E1 := Lib.hid (E1.out.below hb6)
    clear hb6 a1 a9 c1 c2 c5 CM hbb
    cases bb
    · have y0 : Y = true := by rw [HY.out, HB.out]; rfl
      subst y0
      obtain ⟨r1, r2⟩ : a = 0 ∧ b = N := by
        have k := of_decide_eq_true (show decide (N ≤ mostN true) = true from by rw [HB.out]; rfl)
        have k2 : N ≤ 9223372036854775808 := k
        have k3 := Q3.out
        have k4 := HQ.out.2
        unfold nv at k3
        omega
      subst r1 r2
      have v0 : V = iN true b := by rw [HV.out]; rfl
      subst v0
      have BD := Lib.hid (show b ≤ 9223372036854775808 from of_decide_eq_true (show decide (b ≤ mostN true) = true from by rw [HB.out]; rfl))
      obtain ⟨bi, hbi⟩ : ∃ bi : Int, bi = (b : Int) := ⟨_, rfl⟩
      have f1 : IntKind.i64.wrap (IntKind.u64.wrap (-bi)) = -bi := by
        have := BD.out
        have u : IntKind.u64.wrap (-bi) = (-bi) % 18446744073709551616 := by simp [IntKind.wrap, IntKind.signed, IntKind.bits]
        rw [u, IntKind.wrap_i64]
        omega
      obtain ⟨⟨a1, -, -, -⟩, -, a9⟩ := E1.out
      obtain ⟨c1, c2, -, -, c5⟩ := E0.out
      rw [← hbi] at c2
      have HBI := Lib.hid hbi
      clear E0 E1 HB HQ HV HY Q3 BD hbi
      go_wp2
      go_ret2
      exact ⟨by rw [show iN true b = -bi from by unfold iN; rw [HBI.out]; rfl]; rfl, B1⟩
    · have y0 : Y = false := by rw [HY.out, HB.out]; rfl
      subst y0
      have v0 : V = 0 := by rw [HV.out]; rfl
      subst v0
      obtain ⟨⟨a1, -, -, -⟩, -, a9⟩ := E1.out
      clear E0 E1 HB HQ HV HY Q3
      go_wp2
      go_ret2
      exact ⟨rfl, B1⟩
end Go.Proofs.YteboohejlkionaaDoor

/-
  Which numbers are an int's, by plain arithmetic: what the document's digits say, and what the program reckons.
-/
namespace Go.Proofs.YteboohejlkionaaDoor

/-- A size with its sign. -/
def SV (n : Bool) (A : Nat) : Int := if n then -(A : Int) else (A : Int)
theorem sgR_val (p : Bool × Nat) : sgR p = cmpZ (SV p.1 p.2) 0 := by
  obtain ⟨b, z⟩ := p
  unfold sgR SV cmpZ
  cases b
  · simp only [Bool.false_eq_true, if_false]
    split <;> split <;> (try split) <;> omega
  · simp only [if_true]
    split <;> split <;> (try split) <;> omega
theorem sumR_val (n : Bool) (A : Nat) (s : Bool) (B : Nat) : SV (sumR n A s B).1 (sumR n A s B).2 = SV n A + SV s B := by
  unfold sumR
  cases n <;> cases s
  · rw [if_pos rfl]; simp only [SV, Bool.false_eq_true, if_false]; omega
  · rw [if_neg (by decide)]
    split
    · simp only [SV, Bool.false_eq_true, if_false, if_true]; omega
    · simp only [SV, Bool.false_eq_true, if_false, if_true]; omega
  · rw [if_neg (by decide)]
    split
    · simp only [SV, Bool.false_eq_true, if_false, if_true]; omega
    · simp only [SV, Bool.false_eq_true, if_false, if_true]; omega
  · rw [if_pos rfl]; simp only [SV, if_true]; omega
theorem sgR_sign (n : Bool) (A : Nat) (s : Bool) (B : Nat) : sgR (sumR n A s B) = cmpZ (SV n A + SV s B) 0 := by
  rw [sgR_val, sumR_val]

/-- Which numbers are an int's, by the document's digits. -/
def inR (n : Bool) (A B : Nat) : Prop := -(B : Int) ≤ SV n A ∧ SV n A < (B : Int)
instance instInR (n : Bool) (A B : Nat) : Decidable (inR n A B) := by unfold inR; infer_instance
def dvB (c : Nat) (x : Int) : Bool := if x < 0 then decide (c % 10 ^ (-x).toNat = 0) else true
def inB (n : Bool) (c : Nat) (x : Int) : Bool := decide (inR n (c * 10 ^ (x - min x 0).toNat) (9223372036854775808 * 10 ^ (0 - min x 0).toNat)) && dvB c x

theorem inR_pos {A B : Nat} : inR false A B ↔ A < B := by unfold inR SV; simp only [Bool.false_eq_true, if_false]; omega
theorem inR_neg {A B : Nat} (h : 0 < B) : inR true A B ↔ A ≤ B := by unfold inR SV; simp only [if_true]; omega

theorem inB_wh {n : Bool} {c : Nat} {x : Int} (hc : c < 10 ^ 34) (hn : c = 0 → n = false) : whB n c x = inB n c x := by
  unfold whB wsB wsN inB dvB
  by_cases x0 : x < 0
  · rw [if_pos x0, if_pos x0, if_pos x0]
    obtain ⟨k, hk⟩ : ∃ k : Nat, x = -(k : Int) := ⟨(-x).toNat, by omega⟩
    have e1 : (-x).toNat = k := by omega
    have e2 : (x - min x 0).toNat = 0 := by omega
    have e3 : (0 - min x 0).toNat = k := by omega
    rw [e1, e2, e3, Nat.pow_zero, Nat.mul_one]
    by_cases dv : c % 10 ^ k = 0
    · rw [decide_eq_true dv, Bool.and_true, Bool.and_true]
      obtain ⟨d, hd⟩ : ∃ d, c = d * 10 ^ k := ⟨c / 10 ^ k, by rw [Nat.mul_comm]; exact (Nat.mul_div_cancel' (Nat.dvd_of_mod_eq_zero dv)).symm⟩
      have hdd : c / 10 ^ k = d := by rw [hd]; exact Nat.mul_div_cancel _ (p10 k)
      have hP := p10 k
      rw [hdd]
      have k38 : (decide (c = 0) || decide (-x ≤ 38)) = true := by
        by_cases z : c = 0
        · rw [decide_eq_true z]; rfl
        · have : 10 ^ k ≤ c := Nat.le_of_dvd (Nat.pos_of_ne_zero z) (Nat.dvd_of_mod_eq_zero dv)
          have : 10 ^ k < 10 ^ 34 := Nat.lt_of_le_of_lt this hc
          have : k < 34 := (Nat.pow_lt_pow_iff_right (by decide)).1 this
          rw [decide_eq_true (show -x ≤ 38 by omega), Bool.or_true]
      rw [k38, Bool.true_and]
      refine decide_eq_decide.2 ?_
      unfold mostN
      cases n
      · rw [inR_pos, hd, Nat.mul_lt_mul_right hP]
        simp only [Bool.false_eq_true, if_false]
        omega
      · rw [inR_neg (Nat.mul_pos (by decide) hP), hd, Nat.mul_le_mul_right_iff hP]
        simp only [if_true]
    · have z : c ≠ 0 := by rintro rfl; exact dv (Nat.zero_mod _)
      rw [decide_eq_false dv, decide_eq_false z, Bool.and_false, Bool.and_false]; rfl
  · rw [if_neg x0, if_neg x0, if_neg x0, Bool.and_true]
    obtain ⟨k, hk⟩ : ∃ k : Nat, x = (k : Int) := ⟨x.toNat, by omega⟩
    have e1 : x.toNat = k := by omega
    have e2 : (x - min x 0).toNat = k := by omega
    have e3 : (0 - min x 0).toNat = 0 := by omega
    rw [e1, e2, e3, Nat.pow_zero, Nat.mul_one]
    have main : decide (c * 10 ^ k ≤ mostN n) = decide (inR n (c * 10 ^ k) 9223372036854775808) := by
      refine decide_eq_decide.2 ?_
      unfold mostN
      cases n
      · rw [inR_pos]; simp only [Bool.false_eq_true, if_false]; omega
      · rw [inR_neg (by decide)]; simp only [if_true]
    rw [← main]
    by_cases le : c * 10 ^ k ≤ mostN n
    · rw [decide_eq_true le, Bool.and_true]
      have lm : c * 10 ^ k ≤ 9223372036854775808 := by unfold mostN at le; cases n <;> simp only [Bool.false_eq_true, if_false, if_true] at le <;> omega
      have b1 : c * 10 ^ k < B128 := Nat.lt_of_le_of_lt lm (by unfold B128; decide)
      rw [decide_eq_true b1, Bool.and_true]
      by_cases z : c = 0
      · rw [decide_eq_true z]; rfl
      · have : 10 ^ k ≤ c * 10 ^ k := Nat.le_mul_of_pos_left _ (Nat.pos_of_ne_zero z)
        have : 10 ^ k < 10 ^ 19 := Nat.lt_of_le_of_lt (Nat.le_trans this lm) (by decide)
        have : k < 19 := (Nat.pow_lt_pow_iff_right (by decide)).1 this
        rw [decide_eq_true (show x ≤ 38 by omega), Bool.or_true]
    · rw [decide_eq_false le, Bool.and_false]

/-- A number that is an int's is as great as that int. -/
theorem wh_same {n : Bool} {c : Nat} {x : Int} (x1 : -6176 ≤ x) (h : whB n c x = true) : cmpZ (vlZ (decide (iN n (wsN c x) < 0)) (iN n (wsN c x)).natAbs 0) (vlZ n c x) = 0 := by
  rw [cmpZ_eq]
  have ab : (iN n (wsN c x)).natAbs = wsN c x := by unfold iN; cases n <;> simp
  have sz : szN (wsN c x) 0 = szN c x := by
    unfold whB wsB at h
    unfold szN wsN
    by_cases x0 : x < 0
    · rw [if_pos x0] at h ⊢
      have dv : c % 10 ^ (-x).toNat = 0 := by
        by_cases z : c = 0
        · rw [z]; exact Nat.zero_mod _
        · rw [decide_eq_false z] at h
          simp at h
          exact h.1.2
      obtain ⟨d, hd⟩ : ∃ d, c = d * 10 ^ (-x).toNat := ⟨c / 10 ^ (-x).toNat, by rw [Nat.mul_comm]; exact (Nat.mul_div_cancel' (Nat.dvd_of_mod_eq_zero dv)).symm⟩
      have hdd : c / 10 ^ (-x).toNat = d := by rw [hd]; exact Nat.mul_div_cancel _ (p10 _)
      rw [hdd, hd, Nat.mul_assoc, ← Nat.pow_add]
      congr 2
      omega
    · rw [if_neg x0]
      rw [Nat.mul_assoc, ← Nat.pow_add]
      congr 2
      omega
  rw [ab]
  unfold vlZ
  rw [sz]
  unfold iN
  cases n
  · simp only [Bool.false_eq_true, if_false]
    rw [if_neg (by simp)]
  · simp only [if_true]
    by_cases z : wsN c x = 0
    · have s0 : szN c x = 0 := by rw [← sz, z, szN_zero]
      rw [s0]; simp
    · rw [if_pos (by simp; omega)]

theorem wh_int (z : Int) (z1 : -9223372036854775808 ≤ z) (z2 : z ≤ 9223372036854775807) : whB (decide (z < 0)) z.natAbs 0 = true ∧ whV (decide (z < 0)) z.natAbs 0 = z := by
  have e : whB (decide (z < 0)) z.natAbs 0 = true := by
    unfold whB wsB wsN mostN
    rw [if_neg (by decide), if_neg (by decide)]
    have : z.natAbs * 10 ^ (0 : Int).toNat = z.natAbs := by simp
    rw [this, decide_eq_true (show (0 : Int) ≤ 38 by decide), decide_eq_true (show z.natAbs < B128 from Nat.lt_of_le_of_lt (show z.natAbs ≤ 9223372036854775808 by omega) (by unfold B128; decide)), Bool.and_self, Bool.or_true, Bool.true_and]
    refine decide_eq_true ?_
    by_cases k : z < 0
    · rw [decide_eq_true k]; simp only [if_true]; omega
    · rw [decide_eq_false k]; simp only [Bool.false_eq_true, if_false]; omega
  refine ⟨e, ?_⟩
  unfold whV
  rw [if_pos e]
  have wn : wsN z.natAbs 0 = z.natAbs := by
    unfold wsN
    rw [if_neg (by decide)]
    simp
  rw [wn]
  unfold iN
  by_cases k : z < 0
  · rw [decide_eq_true k]; simp only [if_true]; omega
  · rw [decide_eq_false k]; simp only [Bool.false_eq_true, if_false]; omega
theorem may_int (z : Int) (z1 : -9223372036854775808 ≤ z) (z2 : z ≤ 9223372036854775807) : mayD (decide (z < 0)) z.natAbs 0 = true := by
  refine mayD_of ⟨Nat.lt_of_le_of_lt (show z.natAbs ≤ 9223372036854775808 by omega) (by decide), by decide, by decide⟩ ?_
  intro h
  exact decide_eq_false (by omega)
end Go.Proofs.YteboohejlkionaaDoor

/-
  Whether a number is an int's, by the document's digits (integral of the laws), as a contract of its call.
-/
namespace Go.Proofs.YteboohejlkionaaDoor
open Go.RowKit

theorem dg_at : ∀ (i n : Nat), (Dg.dg n).getD i 0 = n / 10 ^ i % 10
  | 0, n => by
    by_cases z : n = 0
    · subst z; rw [Dg.dg_zero]; rfl
    · rw [Dg.dg_pos z]; simp
  | i + 1, n => by
    by_cases z : n = 0
    · subst z; rw [Dg.dg_zero]; simp
    · rw [Dg.dg_pos z, List.getD_cons_succ, dg_at i, Nat.div_div_eq_div_mul, Nat.pow_succ, Nat.mul_comm 10]
/-- The first k digits are noughts. -/
def ZR (c k : Nat) : Prop := ∀ i, i < k → (Dg.dg c).getD i 0 = 0
theorem ZR.mod {c : Nat} : ∀ {k : Nat}, ZR c k → c % 10 ^ k = 0
  | 0, _ => by rw [Nat.pow_zero, Nat.mod_one]
  | k + 1, h => by
    have a := ZR.mod (k := k) (fun i hi => h i (by omega))
    have b := h k (by omega)
    rw [dg_at] at b
    rw [Nat.mod_pow_succ, a, b, Nat.mul_zero]
theorem ZR.no {c k m : Nat} (h : ZR c k) (hd : (Dg.dg c).getD k 0 ≠ 0) (hm : k < m) : c % 10 ^ m ≠ 0 := by
  intro e
  have d1 : 10 ^ (k + 1) ∣ c := Nat.dvd_trans (Nat.pow_dvd_pow 10 hm) (Nat.dvd_of_mod_eq_zero e)
  have e1 := Nat.mod_eq_zero_of_dvd d1
  rw [Nat.mod_pow_succ, h.mod, Nat.zero_add] at e1
  rw [dg_at] at hd
  rcases Nat.mul_eq_zero.1 e1 with z | z
  · have := p10 k
    omega
  · exact hd z
/-- Behind the loop what is left is true, and so is what the document says. -/
theorem in_end {c k : Nat} {x : Int} (h : ZR c k) (hk : ¬ ((k : Int) < -x ∧ k < (Dg.dg c).length)) : (decide (-x < ((Dg.dg c).length : Int)) || decide ((Dg.dg c).length = 0)) = true ∧ dvB c x = true := by
  have len0 : (Dg.dg c).length = 0 ↔ c = 0 := by
    constructor
    · intro k
      rcases Nat.eq_zero_or_pos c with z | z
      · exact z
      · have := nd_pos (n := c) (by omega)
        unfold nd at this
        omega
    · rintro rfl; rw [Dg.dg_zero]; rfl
  by_cases z : c = 0
  · subst z
    refine ⟨by rw [Dg.dg_zero]; simp, ?_⟩
    unfold dvB
    rw [Nat.zero_mod]
    split <;> rfl
  · have lp : 0 < (Dg.dg c).length := by
      rcases Nat.eq_zero_or_pos (Dg.dg c).length with y | y
      · exact absurd (len0.1 y) z
      · exact y
    have lim := (Dg.dg_bounds c).1
    by_cases x0 : x < 0
    · -- so many digits are noughts that -x are
      have kx : -x ≤ (k : Int) := by
        rcases Int.lt_or_le (k : Int) (-x) with y | y
        · exfalso
          have kl : (Dg.dg c).length ≤ k := by omega
          have m0 := h.mod
          have : 10 ^ (Dg.dg c).length ≤ 10 ^ k := p10_mono kl
          rw [Nat.mod_eq_of_lt (by omega)] at m0
          exact z m0
        · exact y
      have dv : c % 10 ^ (-x).toNat = 0 := ZR.mod (fun i hi => h i (by omega))
      have le : 10 ^ (-x).toNat ≤ c := Nat.le_of_dvd (Nat.pos_of_ne_zero z) (Nat.dvd_of_mod_eq_zero dv)
      have lt : (-x).toNat < (Dg.dg c).length := (Nat.pow_lt_pow_iff_right (by decide)).1 (Nat.lt_of_le_of_lt le lim)
      refine ⟨by rw [decide_eq_true (show -x < ((Dg.dg c).length : Int) by omega)]; rfl, ?_⟩
      unfold dvB
      rw [if_pos x0, decide_eq_true dv]
    · refine ⟨by rw [decide_eq_true (show -x < ((Dg.dg c).length : Int) by omega)]; rfl, ?_⟩
      unfold dvB
      rw [if_neg x0]
theorem in_no {c k : Nat} {x : Int} (h : ZR c k) (hd : (Dg.dg c).getD k 0 ≠ 0) (hk : (k : Int) < -x) : dvB c x = false := by
  unfold dvB
  rw [if_pos (by omega)]
  exact decide_eq_false (h.no hd (by omega))
set_option maxRecDepth 100000 in
set_option maxHeartbeats 8000000 in
theorem integral_any (n : Bool) (v : Value) (c : Nat) (x : Int) (hc : c < 10 ^ 34) (x1 : -6176 ≤ x) (x2 : x ≤ 6111) (w : World) (r : Row w v (Dg.dg c)) :
    Calls Tryd.prog 23 #[Fv n v x] w (RetB (inB n c x) w) := by
  have c40 : c < 10 ^ 40 := Nat.lt_of_lt_of_le hc (by decide)
  have p40 : 2 ^ 63 < 10 ^ 40 := by decide
  have L40 : (Dg.dg c).length ≤ 34 := Dg.dg_length_le hc
  have LO := Lib.hid (fun u W (h : Row W v (Dg.dg c)) (h' : Row W u (Dg.dg (2 ^ 63))) => rcmpF_any n v c x true u (2 ^ 63) 0 c40 p40 x1 x2 (by decide) (by decide) W h h')
  have HI := Lib.hid (fun u W (h : Row W v (Dg.dg c)) (h' : Row W u (Dg.dg (2 ^ 63))) => rcmpF_any n v c x false u (2 ^ 63) 0 c40 p40 x1 x2 (by decide) (by decide) W h h')
  rw [show (!true && !decide ((2 : Nat) ^ 63 = 0)) = false from rfl, sgR_sign] at LO
  rw [show (!false && !decide ((2 : Nat) ^ 63 = 0)) = true from by decide, sgR_sign] at HI
  have PW := Lib.hid (pow_any 63 (by decide))
  obtain ⟨bi, hbi⟩ : ∃ b, b = inB n c x := ⟨_, rfl⟩
  rw [← hbi]
  unfold inB at hbi
  rw [show (9223372036854775808 : Nat) = 2 ^ 63 from by decide] at hbi
  generalize c * 10 ^ (x - min x 0).toNat = Aa at *
  generalize 2 ^ 63 * 10 ^ (0 - min x 0).toNat = Bb at *
  obtain ⟨cl, hcl⟩ : ∃ c, c = cmpZ (SV n Aa + SV false Bb) 0 := ⟨_, rfl⟩
  obtain ⟨ch, hch⟩ : ∃ c, c = cmpZ (SV n Aa + SV true Bb) 0 := ⟨_, rfl⟩
  rw [← hcl] at LO
  rw [← hch] at HI
  have IR : inR n Aa Bb ↔ 0 ≤ cl ∧ ch < 0 := by
    rw [hcl, hch, cmpZ_ge, cmpZ_lt]
    unfold inR
    rw [show SV false Bb = (Bb : Int) from rfl, show SV true Bb = -(Bb : Int) from rfl]
    omega
  obtain ⟨rng, hrng⟩ : ∃ b, b = decide (inR n Aa Bb) := ⟨_, rfl⟩
  rw [← hrng] at hbi
  have HR : (rng = true ∧ 0 ≤ cl ∧ ch < 0) ∨ (rng = false ∧ cl < 0) ∨ (rng = false ∧ 0 ≤ cl ∧ 0 ≤ ch) := by
    rcases Int.lt_or_le cl 0 with y | y
    · exact .inr (.inl ⟨by rw [hrng]; exact decide_eq_false (fun k => by have := (IR.1 k).1; omega), y⟩)
    · rcases Int.lt_or_le ch 0 with z | z
      · exact .inl ⟨by rw [hrng]; exact decide_eq_true (IR.2 ⟨y, z⟩), y, z⟩
      · exact .inr (.inr ⟨by rw [hrng]; exact decide_eq_false (fun k => by have := (IR.1 k).2; omega), y, z⟩)
  have HBI := Lib.hid hbi
  have R := Lib.hid r
  obtain ⟨A0, cp0, rfl⟩ := slice_of r
  clear hbi r hc c40 p40 hcl hch IR hrng
  go_enter Tryd.func23, Tryd.ntmps23
  go_wp2_with fail
  refine (PW.out _).mono ?_
  rintro e w1 ⟨vp, rfl, RP, hb1⟩
  obtain ⟨A1, cp1, rfl⟩ := slice_of RP
  have E1 := Lib.hid ((show HoldsF _ w.heap.size n (.slice A0 (Dg.dg c).length cp0) x from by simp [HoldsF, go_sem]).below hb1)
  replace R := Lib.hid ((R.out.alloc' _).below hb1)
  have RP1 := Lib.hid RP
  have B1 : Below w.heap.size w w1 := bstep (by go_grown) hb1
  clear hb1 RP
  have E3 := Lib.hid (show HoldsF (w1.alloc (.cells #[.bool true, .slice A1 (Dg.dg (2 ^ 63)).length cp1, .int .i64 0] 37)) w1.heap.size true (.slice A1 (Dg.dg (2 ^ 63)).length cp1) 0 from by simp [HoldsF, go_sem])
  replace E1 := Lib.hid (E1.out.alloc (.cells #[.bool true, .slice A1 (Dg.dg (2 ^ 63)).length cp1, .int .i64 0] 37))
  replace R := Lib.hid (R.out.alloc' (.cells #[.bool true, .slice A1 (Dg.dg (2 ^ 63)).length cp1, .int .i64 0] 37))
  replace RP1 := Lib.hid (RP1.out.alloc' (.cells #[.bool true, .slice A1 (Dg.dg (2 ^ 63)).length cp1, .int .i64 0] 37))
  replace B1 := ballD1 B1 (.cells #[.bool true, .slice A1 (Dg.dg (2 ^ 63)).length cp1, .int .i64 0] 37)
  go_upto_region 2 with fail
  generalize w1.alloc (.cells #[.bool true, .slice A1 (Dg.dg (2 ^ 63)).length cp1, .int .i64 0] 37) = V1 at *
  go_wp2_with fail
  refine (PW.out _).mono ?_
  rintro e w2 ⟨vp, rfl, RP, hb1⟩
  obtain ⟨A2, cp2, rfl⟩ := slice_of RP
  replace E1 := Lib.hid (E1.out.below hb1)
  replace E3 := Lib.hid (E3.out.below hb1)
  replace R := Lib.hid (R.out.below hb1)
  replace RP1 := Lib.hid (RP1.out.below hb1)
  have RP2 := Lib.hid RP
  replace B1 := bstep B1 hb1
  clear hb1 RP PW
  have E4 := Lib.hid (show HoldsF (w2.alloc (.cells #[.bool false, .slice A2 (Dg.dg (2 ^ 63)).length cp2, .int .i64 0] 37)) w2.heap.size false (.slice A2 (Dg.dg (2 ^ 63)).length cp2) 0 from by simp [HoldsF, go_sem])
  replace E1 := Lib.hid (E1.out.alloc (.cells #[.bool false, .slice A2 (Dg.dg (2 ^ 63)).length cp2, .int .i64 0] 37))
  replace E3 := Lib.hid (E3.out.alloc (.cells #[.bool false, .slice A2 (Dg.dg (2 ^ 63)).length cp2, .int .i64 0] 37))
  replace R := Lib.hid (R.out.alloc' (.cells #[.bool false, .slice A2 (Dg.dg (2 ^ 63)).length cp2, .int .i64 0] 37))
  replace RP1 := Lib.hid (RP1.out.alloc' (.cells #[.bool false, .slice A2 (Dg.dg (2 ^ 63)).length cp2, .int .i64 0] 37))
  replace RP2 := Lib.hid (RP2.out.alloc' (.cells #[.bool false, .slice A2 (Dg.dg (2 ^ 63)).length cp2, .int .i64 0] 37))
  replace B1 := ballD1 B1 (.cells #[.bool false, .slice A2 (Dg.dg (2 ^ 63)).length cp2, .int .i64 0] 37)
  go_upto_region 3 with fail
  generalize w2.alloc (.cells #[.bool false, .slice A2 (Dg.dg (2 ^ 63)).length cp2, .int .i64 0] 37) = V2 at *
  obtain ⟨⟨a1, a2, a3⟩, -, a9⟩ := E1.out
  obtain ⟨⟨b1, b2, b3⟩, -, b9⟩ := E3.out
  have HRH := Lib.hid HR
  clear HR
  rcases HRH.out with ⟨rfl, k1, k2⟩ | ⟨rfl, k1⟩ | ⟨rfl, k1, k2⟩
  · have t1 : decide (cl < 0) = false := decide_eq_false (by omega)
    have t2 : decide (0 ≤ ch) = false := decide_eq_false (by omega)
    clear k1 k2 HRH
    go_wp2_with fail
    refine (LO.out _ _ R.out RP1.out).mono ?_
    rintro e w3 ⟨rfl, hb⟩
    replace E1 := Lib.hid (E1.out.below hb)
    replace E4 := Lib.hid (E4.out.below hb)
    replace R := Lib.hid (R.out.below hb)
    replace RP2 := Lib.hid (RP2.out.below hb)
    replace B1 := bstep B1 hb
    clear hb a1 a2 a3 a9 b1 b2 b3 b9 E3 RP1 LO
    obtain ⟨⟨a1, a2, a3⟩, -, a9⟩ := E1.out
    obtain ⟨⟨b1, b2, b3⟩, -, b9⟩ := E4.out
    go_wp2_with fail
    refine (HI.out _ _ R.out RP2.out).mono ?_
    rintro e w4 ⟨rfl, hb⟩
    replace E1 := Lib.hid (E1.out.below hb)
    replace R := Lib.hid (R.out.below hb)
    replace B1 := bstep B1 hb
    clear hb a1 a2 a3 a9 b1 b2 b3 b9 E4 RP2 HI
    obtain ⟨⟨a1, a2, a3⟩, -, a9⟩ := E1.out
    have f0 : IntKind.i64.wrap (-x) = -x := by rw [IntKind.wrap_i64]; omega
    obtain ⟨ln, hln⟩ : ∃ m, m = (Dg.dg c).length := ⟨_, rfl⟩
    rw [← hln] at L40 a2
    have HLN := Lib.hid hln
    clear hln x1 x2
    go_upto_region 5 with fail
    go_wp2
    go_loop [5] (fun t => ∃ k : Nat, t = .int .i64 (k : Int) ∧ k ≤ ln ∧ ZR c k) (fun t => ln - (intOf t).toNat)
    case atStart => exact ⟨0, rfl, Nat.zero_le _, fun i hi => absurd hi (Nat.not_lt_zero i)⟩
    case round =>
      obtain ⟨k, rfl, kl, z⟩ := hrel
      have Z := Lib.hid z
      clear z
      by_cases hk : (k : Int) < -x ∧ k < ln
      · obtain ⟨k1, k2⟩ := hk
        obtain ⟨g, rfl, ck⟩ : ∃ g, A0 = some ⟨g, 0, none⟩ ∧ w4.cell? ⟨g, k, none⟩ = some (.int .i64 (((Dg.dg c).getD k 0 : Nat) : Int)) := by
          rcases R.out.form with ⟨e, e'⟩ | ⟨g, cap, e, _, _, _, hcell⟩
          · exfalso
            have := HLN.out
            rw [e'] at this
            simp at this
            omega
          · cases e
            exact ⟨g, rfl, hcell k (by rw [← HLN.out]; exact k2)⟩
        have s1 : decide ((k : Int) < -x) = true := decide_eq_true k1
        have s2 : decide (k < ln) = true := decide_eq_true k2
        have s3 : (0 : Int) ≤ (k : Int) := by omega
        have s4 : (k : Int) < (ln : Int) := by omega
        obtain ⟨d, hd⟩ : ∃ d, d = (Dg.dg c).getD k 0 := ⟨_, rfl⟩
        rw [← hd] at ck
        have HD := Lib.hid hd
        have K1 := Lib.hid k1
        clear hd k1
        by_cases d0 : d = 0
        · subst d0
          have Z2 := Lib.hid (show ZR c (k + 1) from fun i hi => by
            rcases Nat.lt_or_ge i k with y | y
            · exact Z.out i y
            · have : i = k := by omega
              rw [this]; exact HD.out.symm)
          clear Z HD K1
          go_wp2
          go_round
          case rel => exact ⟨k + 1, by go_num, by omega, Z2.out⟩
          case measure => simp [intOf]; omega
        · have s5 : ((d : Int) == 0) = false := by simp; omega
          have s6 : ((d : Int) != 0) = true := by simp; omega
          have y0 : bi = false := by
            rw [HBI.out, in_no Z.out (by rw [← HD.out]; exact d0) K1.out]; rfl
          subst y0
          clear Z HD K1 HBI
          go_wp2
          go_ret
          exact ⟨rfl, B1⟩
      · obtain ⟨q1, q2⟩ := in_end Z.out (by rw [← HLN.out]; exact hk)
        rw [← HLN.out] at q1
        have y0 : bi = true := by rw [HBI.out, q2]; rfl
        subst y0
        have Q1 := Lib.hid q1
        clear q1 q2 Z HBI
        by_cases k1 : (k : Int) < -x
        · have s1 : decide ((k : Int) < -x) = true := decide_eq_true k1
          have s2 : decide (k < ln) = false := decide_eq_false (fun y => hk ⟨k1, y⟩)
          clear hk k1
          by_cases l1 : -x < (ln : Int)
          · have s3 : decide (-x < (ln : Int)) = true := decide_eq_true l1
            clear l1 Q1
            go_wp2
            go_ret
            exact ⟨rfl, B1⟩
          · have s3 : decide (-x < (ln : Int)) = false := decide_eq_false l1
            have s4 : ln = 0 := by
              have := Q1.out
              rw [s3] at this
              simpa using this
            have s5 : ((ln : Int) == 0) = true := by rw [s4]; rfl
            clear l1 Q1 s4
            go_wp2
            go_ret
            exact ⟨rfl, B1⟩
        · have s1 : decide ((k : Int) < -x) = false := decide_eq_false k1
          clear hk k1
          by_cases l1 : -x < (ln : Int)
          · have s3 : decide (-x < (ln : Int)) = true := decide_eq_true l1
            clear l1 Q1
            go_wp2
            go_ret
            exact ⟨rfl, B1⟩
          · have s3 : decide (-x < (ln : Int)) = false := decide_eq_false l1
            have s4 : ln = 0 := by
              have := Q1.out
              rw [s3] at this
              simpa using this
            have s5 : ((ln : Int) == 0) = true := by rw [s4]; rfl
            clear l1 Q1 s4
            go_wp2
            go_ret
            exact ⟨rfl, B1⟩
  · have t1 : decide (cl < 0) = true := decide_eq_true k1
    have y0 : bi = false := by rw [HBI.out]; rfl
    subst y0
    clear k1 HRH HBI
    go_wp2_with fail
    refine (LO.out _ _ R.out RP1.out).mono ?_
    rintro e w3 ⟨rfl, hb⟩
    replace B1 := bstep B1 hb
    clear hb a1 a2 a3 a9 b1 b2 b3 b9 E1 E3 E4 R RP1 RP2 LO HI
    go_wp2
    go_ret
    exact ⟨rfl, B1⟩
  · have t1 : decide (cl < 0) = false := decide_eq_false (by omega)
    have t2 : decide (0 ≤ ch) = true := decide_eq_true k2
    have y0 : bi = false := by rw [HBI.out]; rfl
    subst y0
    clear k1 k2 HRH HBI
    go_wp2_with fail
    refine (LO.out _ _ R.out RP1.out).mono ?_
    rintro e w3 ⟨rfl, hb⟩
    replace E1 := Lib.hid (E1.out.below hb)
    replace E4 := Lib.hid (E4.out.below hb)
    replace R := Lib.hid (R.out.below hb)
    replace RP2 := Lib.hid (RP2.out.below hb)
    replace B1 := bstep B1 hb
    clear hb a1 a2 a3 a9 b1 b2 b3 b9 E3 RP1 LO
    obtain ⟨⟨a1, a2, a3⟩, -, a9⟩ := E1.out
    obtain ⟨⟨b1, b2, b3⟩, -, b9⟩ := E4.out
    go_wp2_with fail
    refine (HI.out _ _ R.out RP2.out).mono ?_
    rintro e w4 ⟨rfl, hb⟩
    replace B1 := bstep B1 hb
    clear hb a1 a2 a3 a9 b1 b2 b3 b9 E1 E4 R RP2 HI
    go_wp2
    go_ret
    exact ⟨rfl, B1⟩
end Go.Proofs.YteboohejlkionaaDoor

/-
  Several texts in one: each one's own remark stands ahead of it.
-/
import Derived.Test.YtncpdoeikebomaaDoorRma
import Derived.Test.YtncpdoeikebomaaDoorE1
import Derived.Test.YtncpdoeikebomaaDoorAc
import Derived.Deep.RegionHeld3
/-
  The document's numbers of layer 2 (the reference's): a number as the document has it, 0 less a number, each as a contract of its call.
-/
namespace Go.Proofs.YtncpdoeikebomaaDoor
open Go.RowKit

/-- A number of the document's: sign, digits, exponent. -/
abbrev Fv (n : Bool) (v : Value) (x : Int) : Value := .agg #[.bool n, v, .int .i64 x]
/-- The three cells of a block hold one. -/
def HoldsF (W : World) (g : Nat) (n : Bool) (v : Value) (x : Int) : Prop :=
  (W.cell? ⟨g, 0, none⟩ = some (.bool n) ∧ W.cell? ⟨g, 1, none⟩ = some v ∧ W.cell? ⟨g, 2, none⟩ = some (.int .i64 x)) ∧ (W.frozen? ⟨g, 0, none⟩ = false ∧ W.frozen? ⟨g, 1, none⟩ = false ∧ W.frozen? ⟨g, 2, none⟩ = false) ∧ g < W.heap.size
theorem HoldsF.below {W w1 : World} {g : Nat} {n : Bool} {v : Value} {x : Int} (H : HoldsF W g n v x) (hb : Below W.heap.size W w1) : HoldsF w1 g n v x := by
  obtain ⟨⟨a, b, c⟩, ⟨a', b', c'⟩, s⟩ := H
  exact ⟨⟨(hb.cell s).trans a, (hb.cell s).trans b, (hb.cell s).trans c⟩, ⟨(hb.frozen s).trans a', (hb.frozen s).trans b', (hb.frozen s).trans c'⟩, Nat.lt_of_lt_of_le s hb.size⟩
theorem HoldsF.alloc {W : World} {g : Nat} {n : Bool} {v : Value} {x : Int} (H : HoldsF W g n v x) (o : Obj) : HoldsF (W.alloc o) g n v x := H.below ((Below.refl _ _).alloc (Nat.le_refl _) o)
theorem HoldsF.drew {W : World} {g : Nat} {n : Bool} {v : Value} {x : Int} (H : HoldsF W g n v x) : HoldsF W.drew g n v x := H
theorem Row.alloc' {W : World} {v : Value} {l : List Nat} (h : Row W v l) (o : Obj) : Row (W.alloc o) v l := h.below ((Below.refl _ _).alloc (Nat.le_refl _) o)
def RetF (F : Bool → Value → Int → World → Prop) (w : World) (e : Ending) (w' : World) : Prop := ∃ n v x, F n v x w' ∧ e = .returned (Fv n v x) ∧ Below w.heap.size w w'

theorem Row.set {W : World} {v : Value} {l : List Nat} {B : Nat} (h : Row W v l) (hv : ∀ g cap, v = .slice (some ⟨g, 0, none⟩) l.length cap → g ≠ B) (i : Nat) (u : Value) : Row (W.setCell ⟨B, i, none⟩ u) v l := by
  refine ⟨h.1, ?_⟩
  rcases h.2 with h0 | ⟨g, cap, cur, rfl, hb0, hh, h1, h2, h3, h4⟩
  · exact .inl h0
  · refine .inr ⟨g, cap, cur, rfl, hb0, ?_, h1, h2, h3, h4⟩
    exact (Below.heap_setCell W ⟨B, i, none⟩ u g (hv g cap rfl)).trans hh

theorem heap_new2 (w : World) (o : Obj) (o' : Obj) : ((w.alloc o).alloc o').heap[w.heap.size + 1]? = some o' := by
  have e : (w.alloc o).heap.size = w.heap.size + 1 := World.size_alloc ..
  rw [← e]
  exact heap_alloc_new _ _
theorem row_apart {W : World} {v : Value} {l : List Nat} {B : Nat} {cs : Array Value} {t : TypeId} {f : Nat × Nat} (h : Row W v l) (hB : W.heap[B]? = some (.cells cs t f)) (ht : t ≠ 3) : ∀ g cap, v = .slice (some ⟨g, 0, none⟩) l.length cap → g ≠ B := by
  rintro g cap rfl rfl
  rcases h.2 with ⟨h0, _⟩ | ⟨g', cap', cur, e, hb0, hh, _⟩
  · cases h0
  · cases e
    rw [hB] at hh
    cases hh
    exact ht rfl
theorem Row.set3 {W : World} {v : Value} {l : List Nat} {B : Nat} (h : Row W v l) (hv : ∀ g cap, v = .slice (some ⟨g, 0, none⟩) l.length cap → g ≠ B) (a b c : Value) : Row (((W.setCell ⟨B, 0, none⟩ a).setCell ⟨B, 1, none⟩ b).setCell ⟨B, 2, none⟩ c) v l :=
  ((h.set hv 0 a).set hv 1 b).set hv 2 c

set_option maxRecDepth 100000 in
set_option maxHeartbeats 2000000 in
theorem ref_any (n : Bool) (h l : Nat) (x : Int) (ha : WW h l) (w : World) : Calls Tryd.prog 12 #[Dv n h l x] w (RetF (fun n' v x' W => n' = n ∧ x' = x ∧ Row W v (Dg.dg (nv h l))) w) := by
  have NN := Lib.hid (N_any h l ha)
  clear ha
  go_enter Tryd.func12, Tryd.ntmps12
  go_upto_region 1 with fail
  have B0 : Below w.heap.size w ((w.alloc (.cells #[.bool n, .int .u64 (h : Int), .int .u64 (l : Int), .int .i64 x] 28)).alloc (.cells #[.bool false, .slice none 0 0, .int .i64 0] 36)) := by go_grown
  have A0 := Lib.hid (show HoldsD ((w.alloc (.cells #[.bool n, .int .u64 (h : Int), .int .u64 (l : Int), .int .i64 x] 28)).alloc (.cells #[.bool false, .slice none 0 0, .int .i64 0] 36)) w.heap.size n h l x from by simp [HoldsD, go_sem])
  have A1 := Lib.hid (show HoldsF ((w.alloc (.cells #[.bool n, .int .u64 (h : Int), .int .u64 (l : Int), .int .i64 x] 28)).alloc (.cells #[.bool false, .slice none 0 0, .int .i64 0] 36)) (w.heap.size + 1) false (.slice none 0 0) 0 from by simp [HoldsF, go_sem])
  have A2 := Lib.hid (show ((w.alloc (.cells #[.bool n, .int .u64 (h : Int), .int .u64 (l : Int), .int .i64 x] 28)).alloc (.cells #[.bool false, .slice none 0 0, .int .i64 0] 36)).heap[w.heap.size + 1]? = some (.cells #[.bool false, .slice none 0 0, .int .i64 0] 36 (0, 0)) from heap_new2 _ _ _)
  generalize (w.alloc (.cells #[.bool n, .int .u64 (h : Int), .int .u64 (l : Int), .int .i64 x] 28)).alloc (.cells #[.bool false, .slice none 0 0, .int .i64 0] 36) = V at *
  obtain ⟨⟨a1, a2, a3, a4⟩, -, a9⟩ := A0.out
  obtain ⟨⟨b1, b2, b3⟩, ⟨b4, b5, b6⟩, b9⟩ := A1.out
  go_region_held3 (fun w' => w'.cell? ⟨w.heap.size, 0, none⟩ = some (.bool n) ∧ w'.cell? ⟨w.heap.size, 1, none⟩ = some (.int .u64 (h : Int)) ∧ w'.cell? ⟨w.heap.size, 2, none⟩ = some (.int .u64 (l : Int)) ∧ w'.cell? ⟨w.heap.size, 3, none⟩ = some (.int .i64 x))
    (repeat' (first | (with_reducible assumption) | (with_reducible refine keep4a ?_) | (with_reducible refine keep4d ?_) | (with_reducible refine keep4s ?_ ?_) | (with_reducible exact ⟨a1, a2, a3, a4⟩) | (with_reducible refine keep4 (by with_reducible assumption) ?_) | (show _ ≠ _; (try dsimp only); omega)))
    (first
      | (go_at_call 43; (with_reducible refine (NN.out _).mono ?_); rintro e w1 ⟨vN, rfl, RN, hb1⟩; obtain ⟨AN, cN, rfl⟩ := slice_of RN; have HRN := Lib.hid RN; clear RN; have C1 := Lib.hid (A1.out.below (bundrew hb1)); have C2 := Lib.hid ((hb1.block (w.heap.size + 1) b9).trans A2.out); obtain ⟨⟨c1, c2, c3⟩, ⟨c4, c5, c6⟩, c9⟩ := C1.out))
  all_goals
    go_wp2
    refine bodyPost_ret (v := Fv n (.slice AN (Dg.dg (nv h l)).length cN) x) (by simp [results, Tryd.results12, go_sem, *]) rfl ⟨n, _, x, ⟨rfl, rfl, ?_⟩, rfl, ?_⟩
    · exact Row.set3 HRN.out (row_apart HRN.out C2.out (by decide)) _ _ _
    · clear a1 a2 a3 a4 b1 b2 b3 b4 b5 b6 c1 c2 c3 c4 c5 c6
      repeat' (first | (with_reducible exact B0) | (with_reducible refine Below.drew ?_) | (with_reducible refine ballD1 ?_ _) | (with_reducible refine Below.set1' ?_ _ _ ?_ _) | (with_reducible refine bstep ?_ (by with_reducible assumption)) | omega)

set_option maxRecDepth 100000 in
set_option maxHeartbeats 2000000 in
theorem rneg_any (n : Bool) (v : Value) (c : Nat) (x : Int) (hl : (Dg.dg c).length ≤ 20000) (w : World) (h : Row w v (Dg.dg c)) : Calls Tryd.prog 54 #[Fv n v x] w (RetF (fun n' v' x' _ => n' = (!n && !decide (c = 0)) ∧ v' = v ∧ x' = x) w) := by
  obtain ⟨A, cap, rfl⟩ := slice_of h
  clear h
  have hz : decide (0 < (Dg.dg c).length) = !decide (c = 0) := by
    by_cases z : c = 0
    · subst z; rw [Dg.dg_zero]; rfl
    · have := nd_min z
      have k : 0 < (Dg.dg c).length := by
        have := nd_pos z
        unfold nd at this
        omega
      rw [decide_eq_true k, decide_eq_false z]; rfl
  generalize (Dg.dg c).length = m at *
  generalize decide (c = 0) = z at *
  cases n <;> cases z
  all_goals
    go_enter Tryd.func54, Tryd.ntmps54
    go_wp2
    first
    | refine bodyPost_ret (v := Fv true (.slice A m cap) x) (by simp [results, Tryd.results54, go_sem]) rfl ⟨_, _, _, ⟨rfl, rfl, rfl⟩, rfl, ?_⟩
    | refine bodyPost_ret (v := Fv false (.slice A m cap) x) (by simp [results, Tryd.results54, go_sem]) rfl ⟨_, _, _, ⟨rfl, rfl, rfl⟩, rfl, ?_⟩
    go_grown
end Go.Proofs.YtncpdoeikebomaaDoor

/-
  The document's sum of two numbers of layer 2, and which one is greater (the reference's Sum and Cmp), each as a contract of its call.
-/
namespace Go.Proofs.YtncpdoeikebomaaDoor
open Go.RowKit

/-- The sum of two sizes with signs: its sign and its size. -/
def sumR (na : Bool) (A : Nat) (nb : Bool) (B : Nat) : Bool × Nat := if na = nb then (na, A + B) else if B ≤ A then (na, A - B) else (nb, B - A)

theorem heap_new3 (w : World) (o o' o'' : Obj) : (((w.alloc o).alloc o').alloc o'').heap[w.heap.size + 1 + 1]? = some o'' := by
  have e : ((w.alloc o).alloc o').heap.size = w.heap.size + 1 + 1 := by rw [World.size_alloc, World.size_alloc]
  rw [← e]
  exact heap_alloc_new _ _
theorem keepF3 {W w' : World} {g : Nat} {v0 v1 v2 : Value} (hb : Below W.heap.size W w') (h : W.cell? ⟨g, 0, none⟩ = some v0 ∧ W.cell? ⟨g, 1, none⟩ = some v1 ∧ W.cell? ⟨g, 2, none⟩ = some v2) : w'.cell? ⟨g, 0, none⟩ = some v0 ∧ w'.cell? ⟨g, 1, none⟩ = some v1 ∧ w'.cell? ⟨g, 2, none⟩ = some v2 := ⟨keepCell2 h.1 hb, keepCell2 h.2.1 hb, keepCell2 h.2.2 hb⟩
theorem keepF3d {W : World} {g : Nat} {v0 v1 v2 : Value} (h : W.cell? ⟨g, 0, none⟩ = some v0 ∧ W.cell? ⟨g, 1, none⟩ = some v1 ∧ W.cell? ⟨g, 2, none⟩ = some v2) : W.drew.cell? ⟨g, 0, none⟩ = some v0 ∧ W.drew.cell? ⟨g, 1, none⟩ = some v1 ∧ W.drew.cell? ⟨g, 2, none⟩ = some v2 := h
theorem keepF3s {W : World} {g : Nat} {v0 v1 v2 : Value} {p : Addr} {u : Value} (hg : g ≠ p.block) (h : W.cell? ⟨g, 0, none⟩ = some v0 ∧ W.cell? ⟨g, 1, none⟩ = some v1 ∧ W.cell? ⟨g, 2, none⟩ = some v2) : (W.setCell p u).cell? ⟨g, 0, none⟩ = some v0 ∧ (W.setCell p u).cell? ⟨g, 1, none⟩ = some v1 ∧ (W.setCell p u).cell? ⟨g, 2, none⟩ = some v2 := ⟨keepSet h.1 hg, keepSet h.2.1 hg, keepSet h.2.2 hg⟩
theorem dg_dig (n : Nat) : ∀ d ∈ Dg.dg n, d < 10 := Dg.dg_lt n

set_option maxRecDepth 100000 in
set_option maxHeartbeats 8000000 in
theorem rsum_any (na : Bool) (va : Value) (ca : Nat) (ea : Int) (nb : Bool) (vb : Value) (cb : Nat) (eb : Int) (h1 : ca < 10 ^ 40) (h2 : cb < 10 ^ 40) (e1 : -6176 ≤ ea) (e2 : ea ≤ 6111) (e3 : -6176 ≤ eb) (e4 : eb ≤ 6111) (w : World) (ra : Row w va (Dg.dg ca)) (rb : Row w vb (Dg.dg cb)) :
    Calls Tryd.prog 53 #[Fv na va ea, Fv nb vb eb] w (RetF (fun n v x W => n = (sumR na (ca * 10 ^ (ea - min ea eb).toNat) nb (cb * 10 ^ (eb - min ea eb).toNat)).1 ∧ x = min ea eb ∧ Row W v (Dg.dg (sumR na (ca * 10 ^ (ea - min ea eb).toNat) nb (cb * 10 ^ (eb - min ea eb).toNat)).2)) w) := by
  obtain ⟨m, hm⟩ : ∃ m, m = min ea eb := ⟨_, rfl⟩
  rw [← hm]
  obtain ⟨p, hp⟩ : ∃ p : Nat, ea - m = (p : Int) := ⟨(ea - m).toNat, by omega⟩
  obtain ⟨q, hq⟩ : ∃ q : Nat, eb - m = (q : Int) := ⟨(eb - m).toNat, by omega⟩
  have p1 : p ≤ 12400 := by omega
  have q1 : q ≤ 12400 := by omega
  rw [hp, hq, Int.toNat_natCast, Int.toNat_natCast]
  have LA : (Dg.dg ca).length ≤ 40 := Dg.dg_length_le h1
  have LB : (Dg.dg cb).length ≤ 40 := Dg.dg_length_le h2
  obtain ⟨K, hK⟩ : ∃ K : Nat, K = 12440 := ⟨_, rfl⟩
  have LA2 : (Dg.dg (ca * 10 ^ p)).length ≤ K := Dg.dg_length_le (by
    refine Nat.lt_of_lt_of_le (Nat.mul_lt_mul_of_pos_right h1 (p10 p)) ?_
    rw [← Nat.pow_add]
    exact p10_mono (by omega))
  have LB2 : (Dg.dg (cb * 10 ^ q)).length ≤ K := Dg.dg_length_le (by
    refine Nat.lt_of_lt_of_le (Nat.mul_lt_mul_of_pos_right h2 (p10 q)) ?_
    rw [← Nat.pow_add]
    exact p10_mono (by omega))
  rw [hK] at LA2 LB2
  clear hK
  have SA := Lib.hid (fun W (h : Row W va (Dg.dg ca)) => shift_any va ca p (by omega) (by omega) W h)
  have SB := Lib.hid (fun W (h : Row W vb (Dg.dg cb)) => shift_any vb cb q (by omega) (by omega) W h)
  generalize ca * 10 ^ p = A at *
  generalize cb * 10 ^ q = B at *
  have RA := Lib.hid ra
  have RB := Lib.hid rb
  have LL := Lib.hid (And.intro LA2 LB2)
  obtain ⟨Aa, cpa, rfl⟩ := slice_of ra
  obtain ⟨Ab, cpb, rfl⟩ := slice_of rb
  have f1 : IntKind.i64.wrap (ea - m) = ea - m := by rw [IntKind.wrap_i64]; omega
  have f2 : IntKind.i64.wrap (eb - m) = eb - m := by rw [IntKind.wrap_i64]; omega
  have HP := Lib.hid hp
  have HQ := Lib.hid hq
  obtain ⟨b, hb⟩ : ∃ b : Bool, (b = true ∧ eb < ea ∧ m = eb) ∨ (b = false ∧ ¬ eb < ea ∧ m = ea) := by
    by_cases z : eb < ea
    · exact ⟨true, .inl ⟨rfl, z, by omega⟩⟩
    · exact ⟨false, .inr ⟨rfl, z, by omega⟩⟩
  clear ra rb h1 h2 e1 e2 e3 e4 p1 q1 LA LB LA2 LB2 hm hp hq
  go_enter Tryd.func53, Tryd.ntmps53
  go_upto_region 2 with fail
  rw [← HP.out] at SA
  rw [← HQ.out] at SB
  have B0 : Below w.heap.size w (((w.alloc (.cells #[.bool na, .slice Aa (Dg.dg ca).length cpa, .int .i64 ea] 36)).alloc (.cells #[.bool nb, .slice Ab (Dg.dg cb).length cpb, .int .i64 eb] 36)).alloc (.cells #[.bool false, .slice none 0 0, .int .i64 0] 36)) := by go_grown
  have A0 := Lib.hid (show HoldsF (((w.alloc (.cells #[.bool na, .slice Aa (Dg.dg ca).length cpa, .int .i64 ea] 36)).alloc (.cells #[.bool nb, .slice Ab (Dg.dg cb).length cpb, .int .i64 eb] 36)).alloc (.cells #[.bool false, .slice none 0 0, .int .i64 0] 36)) w.heap.size na (.slice Aa (Dg.dg ca).length cpa) ea from by simp [HoldsF, go_sem])
  have A1 := Lib.hid (show HoldsF (((w.alloc (.cells #[.bool na, .slice Aa (Dg.dg ca).length cpa, .int .i64 ea] 36)).alloc (.cells #[.bool nb, .slice Ab (Dg.dg cb).length cpb, .int .i64 eb] 36)).alloc (.cells #[.bool false, .slice none 0 0, .int .i64 0] 36)) (w.heap.size + 1) nb (.slice Ab (Dg.dg cb).length cpb) eb from by simp [HoldsF, go_sem])
  have A2 := Lib.hid (show HoldsF (((w.alloc (.cells #[.bool na, .slice Aa (Dg.dg ca).length cpa, .int .i64 ea] 36)).alloc (.cells #[.bool nb, .slice Ab (Dg.dg cb).length cpb, .int .i64 eb] 36)).alloc (.cells #[.bool false, .slice none 0 0, .int .i64 0] 36)) (w.heap.size + 1 + 1) false (.slice none 0 0) 0 from by simp [HoldsF, go_sem])
  have A3 := Lib.hid (heap_new3 w (.cells #[.bool na, .slice Aa (Dg.dg ca).length cpa, .int .i64 ea] 36) (.cells #[.bool nb, .slice Ab (Dg.dg cb).length cpb, .int .i64 eb] 36) (.cells #[.bool false, .slice none 0 0, .int .i64 0] 36))
  replace RA := Lib.hid (((RA.out.alloc' (.cells #[.bool na, .slice Aa (Dg.dg ca).length cpa, .int .i64 ea] 36)).alloc' (.cells #[.bool nb, .slice Ab (Dg.dg cb).length cpb, .int .i64 eb] 36)).alloc' (.cells #[.bool false, .slice none 0 0, .int .i64 0] 36))
  replace RB := Lib.hid (((RB.out.alloc' (.cells #[.bool na, .slice Aa (Dg.dg ca).length cpa, .int .i64 ea] 36)).alloc' (.cells #[.bool nb, .slice Ab (Dg.dg cb).length cpb, .int .i64 eb] 36)).alloc' (.cells #[.bool false, .slice none 0 0, .int .i64 0] 36))
  generalize (((w.alloc (.cells #[.bool na, .slice Aa (Dg.dg ca).length cpa, .int .i64 ea] 36)).alloc (.cells #[.bool nb, .slice Ab (Dg.dg cb).length cpb, .int .i64 eb] 36)).alloc (.cells #[.bool false, .slice none 0 0, .int .i64 0] 36)) = V at *
  obtain ⟨⟨a1, a2, a3⟩, -, a9⟩ := A0.out
  obtain ⟨⟨b1, b2, b3⟩, -, b9⟩ := A1.out
  go_cut [13] (fun t W => t = .bool b ∧ W = V)
  case first =>
    rcases hb with ⟨rfl, z, -⟩ | ⟨rfl, z, -⟩
    · have t0 : decide (eb < ea) = true := decide_eq_true z
      clear z
      go_wp2
      go_meet
      case rel => exact ⟨rfl, rfl⟩
    · have t0 : decide (eb < ea) = false := decide_eq_false z
      clear z
      go_wp2
      go_meet
      case rel => exact ⟨rfl, rfl⟩
  case rest =>
  obtain ⟨rfl, rfl⟩ := hcut
  go_upto_if 13 with fail
  go_cut [5] (fun t W => t = .int .i64 m ∧ W = wc)
  case first =>
    rcases hb with ⟨rfl, -, rfl⟩ | ⟨rfl, -, rfl⟩
    · clear f1 f2
      go_wp2
      go_meet
      case rel => exact ⟨rfl, rfl⟩
    · clear f1 f2
      go_wp2
      go_meet
      case rel => exact ⟨rfl, rfl⟩
  case rest =>
  obtain ⟨rfl, rfl⟩ := hcut
  clear hb HP HQ
  go_wp2_with fail
  refine (SA.out _ RA.out).mono ?_
  rintro e w1 ⟨v1, rfl, R1, hb1⟩
  obtain ⟨A1', c1', rfl⟩ := slice_of R1
  have HR1 := Lib.hid R1
  replace A0 := Lib.hid (A0.out.below hb1)
  replace A1 := Lib.hid (A1.out.below hb1)
  replace A3 := Lib.hid ((hb1.block (w.heap.size + 1 + 1) A2.out.2.2).trans A3.out)
  replace A2 := Lib.hid (A2.out.below hb1)
  replace RB := Lib.hid (RB.out.below hb1)
  replace B0 := bstep B0 hb1
  clear a1 a2 a3 a9 b1 b2 b3 b9 hb1 R1 SA RA
  obtain ⟨⟨b1, b2, b3⟩, -, b9⟩ := A1.out
  go_wp2_with fail
  refine (SB.out _ RB.out).mono ?_
  rintro e w2 ⟨v2, rfl, R2, hb2⟩
  obtain ⟨A2', c2', rfl⟩ := slice_of R2
  have HR2 := Lib.hid R2
  replace A0 := Lib.hid (A0.out.below hb2)
  replace A1 := Lib.hid (A1.out.below hb2)
  replace A3 := Lib.hid ((hb2.block (w.heap.size + 1 + 1) A2.out.2.2).trans A3.out)
  replace A2 := Lib.hid (A2.out.below hb2)
  replace HR1 := Lib.hid (HR1.out.below hb2)
  replace B0 := bstep B0 hb2
  clear b1 b2 b3 b9 hb2 R2 SB RB f1 f2
  obtain ⟨⟨a1, a2, a3⟩, -, a9⟩ := A0.out
  obtain ⟨⟨b1, b2, b3⟩, -, b9⟩ := A1.out
  go_upto_region 6 with fail
  rcases Bool.eq_false_or_eq_true na with rfl | rfl <;> rcases Bool.eq_false_or_eq_true nb with rfl | rfl
  · -- both below 0
    have AD := Lib.hid (fun W (h : Row W (.slice A1' (Dg.dg A).length c1') (Dg.dg A)) (h' : Row W (.slice A2' (Dg.dg B).length c2') (Dg.dg B)) => radd_any _ _ (Dg.dg A) (Dg.dg B) (by have := LL.out.1; omega) (by have := LL.out.2; omega) (dg_dig A) (dg_dig B) W h h')
    rw [Dg.val_dg, Dg.val_dg] at AD
    go_upto_region 7 with fail
    obtain ⟨⟨c1, c2, c3⟩, ⟨c4, c5, c6⟩, c9⟩ := A2.out
    go_region_held3 (fun w' => w'.cell? ⟨w.heap.size, 0, none⟩ = some (.bool true) ∧ w'.cell? ⟨w.heap.size, 1, none⟩ = some (.slice Aa (Dg.dg ca).length cpa) ∧ w'.cell? ⟨w.heap.size, 2, none⟩ = some (.int .i64 ea))
      (repeat' (first | (with_reducible assumption) | (with_reducible refine keepF3d ?_) | (with_reducible refine keepF3s ?_ ?_) | (with_reducible exact ⟨a1, a2, a3⟩) | (with_reducible refine keepF3 (by with_reducible assumption) ?_) | (show _ ≠ _; (try dsimp only); omega)))
      (first
        | (go_at_call 52; (with_reducible refine (AD.out _ ?_ ?_).mono ?_); (exact HR1.out); (exact HR2.out); rintro e wN ⟨vN, rfl, RN, hbN⟩; obtain ⟨AN, cN, rfl⟩ := slice_of RN; have HRN := Lib.hid RN; clear RN; have C1 := Lib.hid (A2.out.below (bundrew hbN)); have C2 := Lib.hid ((hbN.block (w.heap.size + 1 + 1) c9).trans A3.out); obtain ⟨⟨d1, d2, d3⟩, ⟨d4, d5, d6⟩, d9⟩ := C1.out))
    all_goals
      go_wp2
      refine bodyPost_ret (v := Fv true (.slice AN (Dg.dg (A + B)).length cN) m) (by simp [results, Tryd.results53, go_sem, *]) rfl ⟨_, _, _, ⟨?_, rfl, ?_⟩, rfl, ?_⟩
      · unfold sumR; rw [if_pos rfl]
      · rw [show (sumR true A true B).2 = A + B from (by unfold sumR; rw [if_pos rfl])]
        exact Row.set3 HRN.out (row_apart HRN.out C2.out (by decide)) _ _ _
      · clear a1 a2 a3 b1 b2 b3 c1 c2 c3 c4 c5 c6 d1 d2 d3 d4 d5 d6
        repeat' (first | (with_reducible exact B0) | (with_reducible refine Below.drew ?_) | (with_reducible refine Below.set1' ?_ _ _ ?_ _) | (with_reducible refine bstep ?_ (by with_reducible assumption)) | omega)
  · -- the first one below 0
    rcases Nat.lt_or_ge A B with z | z
    · have CM := Lib.hid (fun W (h : Row W (.slice A1' (Dg.dg A).length c1') (Dg.dg A)) (h' : Row W (.slice A2' (Dg.dg B).length c2') (Dg.dg B)) => rcmp_any _ _ A B (by have := LL.out.1; omega) (by have := LL.out.2; omega) W h h')
      rw [cmpN_lt z] at CM
      have Z := Lib.hid z
      have SU := Lib.hid (fun W (h : Row W (.slice A2' (Dg.dg B).length c2') (Dg.dg B)) (h' : Row W (.slice A1' (Dg.dg A).length c1') (Dg.dg A)) => rsub_any _ _ (Dg.dg B) (Dg.dg A) (by have := LL.out.2; omega) (by have := LL.out.1; omega) (dg_dig B) (dg_dig A) (by rw [Dg.val_dg, Dg.val_dg]; exact Nat.le_of_lt Z.out) W h h')
      rw [Dg.val_dg, Dg.val_dg] at SU
      clear z
      go_wp2_with fail
      refine (CM.out _ HR1.out HR2.out).mono ?_
      rintro e w3 ⟨rfl, hb3⟩
      replace A0 := Lib.hid (A0.out.below hb3)
      replace A1 := Lib.hid (A1.out.below hb3)
      replace A3 := Lib.hid ((hb3.block (w.heap.size + 1 + 1) A2.out.2.2).trans A3.out)
      replace A2 := Lib.hid (A2.out.below hb3)
      replace HR1 := Lib.hid (HR1.out.below hb3)
      replace HR2 := Lib.hid (HR2.out.below hb3)
      replace B0 := bstep B0 hb3
      clear a1 a2 a3 a9 b1 b2 b3 b9 hb3 CM
      obtain ⟨⟨a1, a2, a3⟩, -, a9⟩ := A0.out
      obtain ⟨⟨b1, b2, b3⟩, -, b9⟩ := A1.out
      go_upto_region 10 with fail
      obtain ⟨⟨c1, c2, c3⟩, ⟨c4, c5, c6⟩, c9⟩ := A2.out
      go_region_held3 (fun w' => w'.cell? ⟨w.heap.size + 1, 0, none⟩ = some (.bool false) ∧ w'.cell? ⟨w.heap.size + 1, 1, none⟩ = some (.slice Ab (Dg.dg cb).length cpb) ∧ w'.cell? ⟨w.heap.size + 1, 2, none⟩ = some (.int .i64 eb))
        (repeat' (first | (with_reducible assumption) | (with_reducible refine keepF3d ?_) | (with_reducible refine keepF3s ?_ ?_) | (with_reducible exact ⟨b1, b2, b3⟩) | (with_reducible refine keepF3 (by with_reducible assumption) ?_) | (show _ ≠ _; (try dsimp only); omega)))
        (first
          | (go_at_call 84; (with_reducible refine (SU.out _ ?_ ?_).mono ?_); (exact HR2.out); (exact HR1.out); rintro e wN ⟨vN, rfl, RN, hbN⟩; obtain ⟨AN, cN, rfl⟩ := slice_of RN; have HRN := Lib.hid RN; clear RN; have C1 := Lib.hid (A2.out.below (bundrew hbN)); have C2 := Lib.hid ((hbN.block (w.heap.size + 1 + 1) c9).trans A3.out); obtain ⟨⟨d1, d2, d3⟩, ⟨d4, d5, d6⟩, d9⟩ := C1.out))
      all_goals
        go_wp2
        refine bodyPost_ret (v := Fv false (.slice AN (Dg.dg (B - A)).length cN) m) (by simp [results, Tryd.results53, go_sem, *]) rfl ⟨_, _, _, ⟨?_, rfl, ?_⟩, rfl, ?_⟩
        · unfold sumR; rw [if_neg (by decide), if_neg (by have := Z.out; omega)]
        · rw [show (sumR true A false B).2 = B - A from (by unfold sumR; rw [if_neg (by decide), if_neg (by have := Z.out; omega)])]
          exact Row.set3 HRN.out (row_apart HRN.out C2.out (by decide)) _ _ _
        · clear a1 a2 a3 b1 b2 b3 c1 c2 c3 c4 c5 c6 d1 d2 d3 d4 d5 d6
          repeat' (first | (with_reducible exact B0) | (with_reducible refine Below.drew ?_) | (with_reducible refine Below.set1' ?_ _ _ ?_ _) | (with_reducible refine bstep ?_ (by with_reducible assumption)) | omega)
    · have CM := Lib.hid (fun W (h : Row W (.slice A1' (Dg.dg A).length c1') (Dg.dg A)) (h' : Row W (.slice A2' (Dg.dg B).length c2') (Dg.dg B)) => rcmp_any _ _ A B (by have := LL.out.1; omega) (by have := LL.out.2; omega) W h h')
      obtain ⟨cv, hcv⟩ : ∃ c, c = cmpN A B := ⟨_, rfl⟩
      rw [← hcv] at CM
      have t9 : decide (0 ≤ cv) = true := by
        rcases cmpN_range A B with ⟨e, e'⟩ | ⟨e, _⟩ | ⟨e, _⟩
        · omega
        · rw [hcv, e]; rfl
        · rw [hcv, e]; rfl
      have Z := Lib.hid z
      have SU := Lib.hid (fun W (h : Row W (.slice A1' (Dg.dg A).length c1') (Dg.dg A)) (h' : Row W (.slice A2' (Dg.dg B).length c2') (Dg.dg B)) => rsub_any _ _ (Dg.dg A) (Dg.dg B) (by have := LL.out.1; omega) (by have := LL.out.2; omega) (dg_dig A) (dg_dig B) (by rw [Dg.val_dg, Dg.val_dg]; exact Z.out) W h h')
      rw [Dg.val_dg, Dg.val_dg] at SU
      clear z hcv
      go_wp2_with fail
      refine (CM.out _ HR1.out HR2.out).mono ?_
      rintro e w3 ⟨rfl, hb3⟩
      replace A0 := Lib.hid (A0.out.below hb3)
      replace A1 := Lib.hid (A1.out.below hb3)
      replace A3 := Lib.hid ((hb3.block (w.heap.size + 1 + 1) A2.out.2.2).trans A3.out)
      replace A2 := Lib.hid (A2.out.below hb3)
      replace HR1 := Lib.hid (HR1.out.below hb3)
      replace HR2 := Lib.hid (HR2.out.below hb3)
      replace B0 := bstep B0 hb3
      clear a1 a2 a3 a9 b1 b2 b3 b9 hb3 CM
      obtain ⟨⟨a1, a2, a3⟩, -, a9⟩ := A0.out
      obtain ⟨⟨b1, b2, b3⟩, -, b9⟩ := A1.out
      go_upto_region 9 with fail
      obtain ⟨⟨c1, c2, c3⟩, ⟨c4, c5, c6⟩, c9⟩ := A2.out
      go_region_held3 (fun w' => w'.cell? ⟨w.heap.size, 0, none⟩ = some (.bool true) ∧ w'.cell? ⟨w.heap.size, 1, none⟩ = some (.slice Aa (Dg.dg ca).length cpa) ∧ w'.cell? ⟨w.heap.size, 2, none⟩ = some (.int .i64 ea))
        (repeat' (first | (with_reducible assumption) | (with_reducible refine keepF3d ?_) | (with_reducible refine keepF3s ?_ ?_) | (with_reducible exact ⟨a1, a2, a3⟩) | (with_reducible refine keepF3 (by with_reducible assumption) ?_) | (show _ ≠ _; (try dsimp only); omega)))
        (first
          | (go_at_call 84; (with_reducible refine (SU.out _ ?_ ?_).mono ?_); (exact HR1.out); (exact HR2.out); rintro e wN ⟨vN, rfl, RN, hbN⟩; obtain ⟨AN, cN, rfl⟩ := slice_of RN; have HRN := Lib.hid RN; clear RN; have C1 := Lib.hid (A2.out.below (bundrew hbN)); have C2 := Lib.hid ((hbN.block (w.heap.size + 1 + 1) c9).trans A3.out); obtain ⟨⟨d1, d2, d3⟩, ⟨d4, d5, d6⟩, d9⟩ := C1.out))
      all_goals
        go_wp2
        refine bodyPost_ret (v := Fv true (.slice AN (Dg.dg (A - B)).length cN) m) (by simp [results, Tryd.results53, go_sem, *]) rfl ⟨_, _, _, ⟨?_, rfl, ?_⟩, rfl, ?_⟩
        · unfold sumR; rw [if_neg (by decide), if_pos Z.out]
        · rw [show (sumR true A false B).2 = A - B from (by unfold sumR; rw [if_neg (by decide), if_pos Z.out])]
          exact Row.set3 HRN.out (row_apart HRN.out C2.out (by decide)) _ _ _
        · clear a1 a2 a3 b1 b2 b3 c1 c2 c3 c4 c5 c6 d1 d2 d3 d4 d5 d6
          repeat' (first | (with_reducible exact B0) | (with_reducible refine Below.drew ?_) | (with_reducible refine Below.set1' ?_ _ _ ?_ _) | (with_reducible refine bstep ?_ (by with_reducible assumption)) | omega)
  · -- the second one below 0
    rcases Nat.lt_or_ge A B with z | z
    · have CM := Lib.hid (fun W (h : Row W (.slice A1' (Dg.dg A).length c1') (Dg.dg A)) (h' : Row W (.slice A2' (Dg.dg B).length c2') (Dg.dg B)) => rcmp_any _ _ A B (by have := LL.out.1; omega) (by have := LL.out.2; omega) W h h')
      rw [cmpN_lt z] at CM
      have Z := Lib.hid z
      have SU := Lib.hid (fun W (h : Row W (.slice A2' (Dg.dg B).length c2') (Dg.dg B)) (h' : Row W (.slice A1' (Dg.dg A).length c1') (Dg.dg A)) => rsub_any _ _ (Dg.dg B) (Dg.dg A) (by have := LL.out.2; omega) (by have := LL.out.1; omega) (dg_dig B) (dg_dig A) (by rw [Dg.val_dg, Dg.val_dg]; exact Nat.le_of_lt Z.out) W h h')
      rw [Dg.val_dg, Dg.val_dg] at SU
      clear z
      go_wp2_with fail
      refine (CM.out _ HR1.out HR2.out).mono ?_
      rintro e w3 ⟨rfl, hb3⟩
      replace A0 := Lib.hid (A0.out.below hb3)
      replace A1 := Lib.hid (A1.out.below hb3)
      replace A3 := Lib.hid ((hb3.block (w.heap.size + 1 + 1) A2.out.2.2).trans A3.out)
      replace A2 := Lib.hid (A2.out.below hb3)
      replace HR1 := Lib.hid (HR1.out.below hb3)
      replace HR2 := Lib.hid (HR2.out.below hb3)
      replace B0 := bstep B0 hb3
      clear a1 a2 a3 a9 b1 b2 b3 b9 hb3 CM
      obtain ⟨⟨a1, a2, a3⟩, -, a9⟩ := A0.out
      obtain ⟨⟨b1, b2, b3⟩, -, b9⟩ := A1.out
      go_upto_region 10 with fail
      obtain ⟨⟨c1, c2, c3⟩, ⟨c4, c5, c6⟩, c9⟩ := A2.out
      go_region_held3 (fun w' => w'.cell? ⟨w.heap.size + 1, 0, none⟩ = some (.bool true) ∧ w'.cell? ⟨w.heap.size + 1, 1, none⟩ = some (.slice Ab (Dg.dg cb).length cpb) ∧ w'.cell? ⟨w.heap.size + 1, 2, none⟩ = some (.int .i64 eb))
        (repeat' (first | (with_reducible assumption) | (with_reducible refine keepF3d ?_) | (with_reducible refine keepF3s ?_ ?_) | (with_reducible exact ⟨b1, b2, b3⟩) | (with_reducible refine keepF3 (by with_reducible assumption) ?_) | (show _ ≠ _; (try dsimp only); omega)))
        (first
          | (go_at_call 84; (with_reducible refine (SU.out _ ?_ ?_).mono ?_); (exact HR2.out); (exact HR1.out); rintro e wN ⟨vN, rfl, RN, hbN⟩; obtain ⟨AN, cN, rfl⟩ := slice_of RN; have HRN := Lib.hid RN; clear RN; have C1 := Lib.hid (A2.out.below (bundrew hbN)); have C2 := Lib.hid ((hbN.block (w.heap.size + 1 + 1) c9).trans A3.out); obtain ⟨⟨d1, d2, d3⟩, ⟨d4, d5, d6⟩, d9⟩ := C1.out))
      all_goals
        go_wp2
        refine bodyPost_ret (v := Fv true (.slice AN (Dg.dg (B - A)).length cN) m) (by simp [results, Tryd.results53, go_sem, *]) rfl ⟨_, _, _, ⟨?_, rfl, ?_⟩, rfl, ?_⟩
        · unfold sumR; rw [if_neg (by decide), if_neg (by have := Z.out; omega)]
        · rw [show (sumR false A true B).2 = B - A from (by unfold sumR; rw [if_neg (by decide), if_neg (by have := Z.out; omega)])]
          exact Row.set3 HRN.out (row_apart HRN.out C2.out (by decide)) _ _ _
        · clear a1 a2 a3 b1 b2 b3 c1 c2 c3 c4 c5 c6 d1 d2 d3 d4 d5 d6
          repeat' (first | (with_reducible exact B0) | (with_reducible refine Below.drew ?_) | (with_reducible refine Below.set1' ?_ _ _ ?_ _) | (with_reducible refine bstep ?_ (by with_reducible assumption)) | omega)
    · have CM := Lib.hid (fun W (h : Row W (.slice A1' (Dg.dg A).length c1') (Dg.dg A)) (h' : Row W (.slice A2' (Dg.dg B).length c2') (Dg.dg B)) => rcmp_any _ _ A B (by have := LL.out.1; omega) (by have := LL.out.2; omega) W h h')
      obtain ⟨cv, hcv⟩ : ∃ c, c = cmpN A B := ⟨_, rfl⟩
      rw [← hcv] at CM
      have t9 : decide (0 ≤ cv) = true := by
        rcases cmpN_range A B with ⟨e, e'⟩ | ⟨e, _⟩ | ⟨e, _⟩
        · omega
        · rw [hcv, e]; rfl
        · rw [hcv, e]; rfl
      have Z := Lib.hid z
      have SU := Lib.hid (fun W (h : Row W (.slice A1' (Dg.dg A).length c1') (Dg.dg A)) (h' : Row W (.slice A2' (Dg.dg B).length c2') (Dg.dg B)) => rsub_any _ _ (Dg.dg A) (Dg.dg B) (by have := LL.out.1; omega) (by have := LL.out.2; omega) (dg_dig A) (dg_dig B) (by rw [Dg.val_dg, Dg.val_dg]; exact Z.out) W h h')
      rw [Dg.val_dg, Dg.val_dg] at SU
      clear z hcv
      go_wp2_with fail
      refine (CM.out _ HR1.out HR2.out).mono ?_
      rintro e w3 ⟨rfl, hb3⟩
      replace A0 := Lib.hid (A0.out.below hb3)
      replace A1 := Lib.hid (A1.out.below hb3)
      replace A3 := Lib.hid ((hb3.block (w.heap.size + 1 + 1) A2.out.2.2).trans A3.out)
      replace A2 := Lib.hid (A2.out.below hb3)
      replace HR1 := Lib.hid (HR1.out.below hb3)
      replace HR2 := Lib.hid (HR2.out.below hb3)
      replace B0 := bstep B0 hb3
      clear a1 a2 a3 a9 b1 b2 b3 b9 hb3 CM
      obtain ⟨⟨a1, a2, a3⟩, -, a9⟩ := A0.out
      obtain ⟨⟨b1, b2, b3⟩, -, b9⟩ := A1.out
      go_upto_region 9 with fail
      obtain ⟨⟨c1, c2, c3⟩, ⟨c4, c5, c6⟩, c9⟩ := A2.out
      go_region_held3 (fun w' => w'.cell? ⟨w.heap.size, 0, none⟩ = some (.bool false) ∧ w'.cell? ⟨w.heap.size, 1, none⟩ = some (.slice Aa (Dg.dg ca).length cpa) ∧ w'.cell? ⟨w.heap.size, 2, none⟩ = some (.int .i64 ea))
        (repeat' (first | (with_reducible assumption) | (with_reducible refine keepF3d ?_) | (with_reducible refine keepF3s ?_ ?_) | (with_reducible exact ⟨a1, a2, a3⟩) | (with_reducible refine keepF3 (by with_reducible assumption) ?_) | (show _ ≠ _; (try dsimp only); omega)))
        (first
          | (go_at_call 84; (with_reducible refine (SU.out _ ?_ ?_).mono ?_); (exact HR1.out); (exact HR2.out); rintro e wN ⟨vN, rfl, RN, hbN⟩; obtain ⟨AN, cN, rfl⟩ := slice_of RN; have HRN := Lib.hid RN; clear RN; have C1 := Lib.hid (A2.out.below (bundrew hbN)); have C2 := Lib.hid ((hbN.block (w.heap.size + 1 + 1) c9).trans A3.out); obtain ⟨⟨d1, d2, d3⟩, ⟨d4, d5, d6⟩, d9⟩ := C1.out))
      all_goals
        go_wp2
        refine bodyPost_ret (v := Fv false (.slice AN (Dg.dg (A - B)).length cN) m) (by simp [results, Tryd.results53, go_sem, *]) rfl ⟨_, _, _, ⟨?_, rfl, ?_⟩, rfl, ?_⟩
        · unfold sumR; rw [if_neg (by decide), if_pos Z.out]
        · rw [show (sumR false A true B).2 = A - B from (by unfold sumR; rw [if_neg (by decide), if_pos Z.out])]
          exact Row.set3 HRN.out (row_apart HRN.out C2.out (by decide)) _ _ _
        · clear a1 a2 a3 b1 b2 b3 c1 c2 c3 c4 c5 c6 d1 d2 d3 d4 d5 d6
          repeat' (first | (with_reducible exact B0) | (with_reducible refine Below.drew ?_) | (with_reducible refine Below.set1' ?_ _ _ ?_ _) | (with_reducible refine bstep ?_ (by with_reducible assumption)) | omega)
  · -- none below 0
    have AD := Lib.hid (fun W (h : Row W (.slice A1' (Dg.dg A).length c1') (Dg.dg A)) (h' : Row W (.slice A2' (Dg.dg B).length c2') (Dg.dg B)) => radd_any _ _ (Dg.dg A) (Dg.dg B) (by have := LL.out.1; omega) (by have := LL.out.2; omega) (dg_dig A) (dg_dig B) W h h')
    rw [Dg.val_dg, Dg.val_dg] at AD
    go_upto_region 7 with fail
    obtain ⟨⟨c1, c2, c3⟩, ⟨c4, c5, c6⟩, c9⟩ := A2.out
    go_region_held3 (fun w' => w'.cell? ⟨w.heap.size, 0, none⟩ = some (.bool false) ∧ w'.cell? ⟨w.heap.size, 1, none⟩ = some (.slice Aa (Dg.dg ca).length cpa) ∧ w'.cell? ⟨w.heap.size, 2, none⟩ = some (.int .i64 ea))
      (repeat' (first | (with_reducible assumption) | (with_reducible refine keepF3d ?_) | (with_reducible refine keepF3s ?_ ?_) | (with_reducible exact ⟨a1, a2, a3⟩) | (with_reducible refine keepF3 (by with_reducible assumption) ?_) | (show _ ≠ _; (try dsimp only); omega)))
      (first
        | (go_at_call 52; (with_reducible refine (AD.out _ ?_ ?_).mono ?_); (exact HR1.out); (exact HR2.out); rintro e wN ⟨vN, rfl, RN, hbN⟩; obtain ⟨AN, cN, rfl⟩ := slice_of RN; have HRN := Lib.hid RN; clear RN; have C1 := Lib.hid (A2.out.below (bundrew hbN)); have C2 := Lib.hid ((hbN.block (w.heap.size + 1 + 1) c9).trans A3.out); obtain ⟨⟨d1, d2, d3⟩, ⟨d4, d5, d6⟩, d9⟩ := C1.out))
    all_goals
      go_wp2
      refine bodyPost_ret (v := Fv false (.slice AN (Dg.dg (A + B)).length cN) m) (by simp [results, Tryd.results53, go_sem, *]) rfl ⟨_, _, _, ⟨?_, rfl, ?_⟩, rfl, ?_⟩
      · unfold sumR; rw [if_pos rfl]
      · rw [show (sumR false A false B).2 = A + B from (by unfold sumR; rw [if_pos rfl])]
        exact Row.set3 HRN.out (row_apart HRN.out C2.out (by decide)) _ _ _
      · clear a1 a2 a3 b1 b2 b3 c1 c2 c3 c4 c5 c6 d1 d2 d3 d4 d5 d6
        repeat' (first | (with_reducible exact B0) | (with_reducible refine Below.drew ?_) | (with_reducible refine Below.set1' ?_ _ _ ?_ _) | (with_reducible refine bstep ?_ (by with_reducible assumption)) | omega)
end Go.Proofs.YtncpdoeikebomaaDoor

/-
  Which of two of the document's numbers is greater (the reference's Cmp), as a contract of its call.
-/
namespace Go.Proofs.YtncpdoeikebomaaDoor
open Go.RowKit

theorem keep33 {W w' : World} {g k : Nat} {v0 v1 v2 v3 v4 v5 : Value} (hb : Below W.heap.size W w') (h : W.cell? ⟨g, 0, none⟩ = some v0 ∧ W.cell? ⟨g, 1, none⟩ = some v1 ∧ W.cell? ⟨g, 2, none⟩ = some v2 ∧ W.cell? ⟨k, 0, none⟩ = some v3 ∧ W.cell? ⟨k, 1, none⟩ = some v4 ∧ W.cell? ⟨k, 2, none⟩ = some v5) : w'.cell? ⟨g, 0, none⟩ = some v0 ∧ w'.cell? ⟨g, 1, none⟩ = some v1 ∧ w'.cell? ⟨g, 2, none⟩ = some v2 ∧ w'.cell? ⟨k, 0, none⟩ = some v3 ∧ w'.cell? ⟨k, 1, none⟩ = some v4 ∧ w'.cell? ⟨k, 2, none⟩ = some v5 := ⟨keepCell2 h.1 hb, keepCell2 h.2.1 hb, keepCell2 h.2.2.1 hb, keepCell2 h.2.2.2.1 hb, keepCell2 h.2.2.2.2.1 hb, keepCell2 h.2.2.2.2.2 hb⟩
theorem keep33a {W : World} {g k : Nat} {v0 v1 v2 v3 v4 v5 : Value} {ob : Obj} (h : W.cell? ⟨g, 0, none⟩ = some v0 ∧ W.cell? ⟨g, 1, none⟩ = some v1 ∧ W.cell? ⟨g, 2, none⟩ = some v2 ∧ W.cell? ⟨k, 0, none⟩ = some v3 ∧ W.cell? ⟨k, 1, none⟩ = some v4 ∧ W.cell? ⟨k, 2, none⟩ = some v5) : (W.alloc ob).cell? ⟨g, 0, none⟩ = some v0 ∧ (W.alloc ob).cell? ⟨g, 1, none⟩ = some v1 ∧ (W.alloc ob).cell? ⟨g, 2, none⟩ = some v2 ∧ (W.alloc ob).cell? ⟨k, 0, none⟩ = some v3 ∧ (W.alloc ob).cell? ⟨k, 1, none⟩ = some v4 ∧ (W.alloc ob).cell? ⟨k, 2, none⟩ = some v5 := keep33 ((Below.refl _ _).alloc (Nat.le_refl _) ob) h
theorem keep33d {W : World} {g k : Nat} {v0 v1 v2 v3 v4 v5 : Value} (h : W.cell? ⟨g, 0, none⟩ = some v0 ∧ W.cell? ⟨g, 1, none⟩ = some v1 ∧ W.cell? ⟨g, 2, none⟩ = some v2 ∧ W.cell? ⟨k, 0, none⟩ = some v3 ∧ W.cell? ⟨k, 1, none⟩ = some v4 ∧ W.cell? ⟨k, 2, none⟩ = some v5) : W.drew.cell? ⟨g, 0, none⟩ = some v0 ∧ W.drew.cell? ⟨g, 1, none⟩ = some v1 ∧ W.drew.cell? ⟨g, 2, none⟩ = some v2 ∧ W.drew.cell? ⟨k, 0, none⟩ = some v3 ∧ W.drew.cell? ⟨k, 1, none⟩ = some v4 ∧ W.drew.cell? ⟨k, 2, none⟩ = some v5 := h
theorem keep33s {W : World} {g k : Nat} {v0 v1 v2 v3 v4 v5 : Value} {p : Addr} {u : Value} (hg : g ≠ p.block) (hk : k ≠ p.block) (h : W.cell? ⟨g, 0, none⟩ = some v0 ∧ W.cell? ⟨g, 1, none⟩ = some v1 ∧ W.cell? ⟨g, 2, none⟩ = some v2 ∧ W.cell? ⟨k, 0, none⟩ = some v3 ∧ W.cell? ⟨k, 1, none⟩ = some v4 ∧ W.cell? ⟨k, 2, none⟩ = some v5) : (W.setCell p u).cell? ⟨g, 0, none⟩ = some v0 ∧ (W.setCell p u).cell? ⟨g, 1, none⟩ = some v1 ∧ (W.setCell p u).cell? ⟨g, 2, none⟩ = some v2 ∧ (W.setCell p u).cell? ⟨k, 0, none⟩ = some v3 ∧ (W.setCell p u).cell? ⟨k, 1, none⟩ = some v4 ∧ (W.setCell p u).cell? ⟨k, 2, none⟩ = some v5 := ⟨keepSet h.1 hg, keepSet h.2.1 hg, keepSet h.2.2.1 hg, keepSet h.2.2.2.1 hk, keepSet h.2.2.2.2.1 hk, keepSet h.2.2.2.2.2 hk⟩
theorem Row.drew2 {W : World} {v : Value} {l : List Nat} (h : Row W v l) : Row W.drew v l := h
/-- The sign of a sum of two sizes with signs. -/
def sgR (p : Bool × Nat) : Int := if p.2 = 0 then 0 else if p.1 then -1 else 1

set_option maxRecDepth 100000 in
set_option maxHeartbeats 4000000 in
theorem rcmpF_any (na : Bool) (va : Value) (ca : Nat) (ea : Int) (nb : Bool) (vb : Value) (cb : Nat) (eb : Int) (h1 : ca < 10 ^ 40) (h2 : cb < 10 ^ 40) (e1 : -6176 ≤ ea) (e2 : ea ≤ 6111) (e3 : -6176 ≤ eb) (e4 : eb ≤ 6111) (w : World) (ra : Row w va (Dg.dg ca)) (rb : Row w vb (Dg.dg cb)) :
    Calls Tryd.prog 18 #[Fv na va ea, Fv nb vb eb] w (RetI (sgR (sumR na (ca * 10 ^ (ea - min ea eb).toNat) (!nb && !decide (cb = 0)) (cb * 10 ^ (eb - min ea eb).toNat))) w) := by
  obtain ⟨sb, hsb⟩ : ∃ s, s = (!nb && !decide (cb = 0)) := ⟨_, rfl⟩
  have LB : (Dg.dg cb).length ≤ 40 := Dg.dg_length_le h2
  have NE := Lib.hid (fun W (h : Row W vb (Dg.dg cb)) => rneg_any nb vb cb eb (by omega) W h)
  rw [← hsb] at NE
  rw [← hsb]
  have SU := Lib.hid (fun W (h : Row W va (Dg.dg ca)) (h' : Row W vb (Dg.dg cb)) => rsum_any na va ca ea sb vb cb eb h1 h2 e1 e2 e3 e4 W h h')
  generalize sumR na (ca * 10 ^ (ea - min ea eb).toNat) sb (cb * 10 ^ (eb - min ea eb).toNat) = sr at *
  obtain ⟨sn, sz⟩ := sr
  obtain ⟨m, hm⟩ : ∃ m, m = min ea eb := ⟨_, rfl⟩
  rw [← hm] at SU
  have RA := Lib.hid ra
  have RB := Lib.hid rb
  obtain ⟨Aa, cpa, rfl⟩ := slice_of ra
  obtain ⟨Ab, cpb, rfl⟩ := slice_of rb
  clear hsb hm ra rb h1 h2 e1 e2 e3 e4 LB
  go_enter Tryd.func18, Tryd.ntmps18
  go_upto_region 1 with fail
  have B0 : Below w.heap.size w ((w.alloc (.cells #[.bool na, .slice Aa (Dg.dg ca).length cpa, .int .i64 ea] 36)).alloc (.cells #[.bool nb, .slice Ab (Dg.dg cb).length cpb, .int .i64 eb] 36)) := by go_grown
  have A0 := Lib.hid (show HoldsF ((w.alloc (.cells #[.bool na, .slice Aa (Dg.dg ca).length cpa, .int .i64 ea] 36)).alloc (.cells #[.bool nb, .slice Ab (Dg.dg cb).length cpb, .int .i64 eb] 36)) w.heap.size na (.slice Aa (Dg.dg ca).length cpa) ea from by simp [HoldsF, go_sem])
  have A1 := Lib.hid (show HoldsF ((w.alloc (.cells #[.bool na, .slice Aa (Dg.dg ca).length cpa, .int .i64 ea] 36)).alloc (.cells #[.bool nb, .slice Ab (Dg.dg cb).length cpb, .int .i64 eb] 36)) (w.heap.size + 1) nb (.slice Ab (Dg.dg cb).length cpb) eb from by simp [HoldsF, go_sem])
  replace RA := Lib.hid ((RA.out.alloc' (.cells #[.bool na, .slice Aa (Dg.dg ca).length cpa, .int .i64 ea] 36)).alloc' (.cells #[.bool nb, .slice Ab (Dg.dg cb).length cpb, .int .i64 eb] 36))
  replace RB := Lib.hid ((RB.out.alloc' (.cells #[.bool na, .slice Aa (Dg.dg ca).length cpa, .int .i64 ea] 36)).alloc' (.cells #[.bool nb, .slice Ab (Dg.dg cb).length cpb, .int .i64 eb] 36))
  generalize (w.alloc (.cells #[.bool na, .slice Aa (Dg.dg ca).length cpa, .int .i64 ea] 36)).alloc (.cells #[.bool nb, .slice Ab (Dg.dg cb).length cpb, .int .i64 eb] 36) = V at *
  obtain ⟨⟨a1, a2, a3⟩, -, a9⟩ := A0.out
  obtain ⟨⟨b1, b2, b3⟩, -, b9⟩ := A1.out
  go_cut [5] (fun p W => ∃ (g : Nat) (A : Option Addr) (cap : Nat), p = .pointer (some ⟨g, 0, none⟩) ∧ HoldsF W g sn (.slice A (Dg.dg sz).length cap) m ∧ Below w.heap.size w W)
  case first =>
    go_region_held3 (fun w' => w'.cell? ⟨w.heap.size, 0, none⟩ = some (.bool na) ∧ w'.cell? ⟨w.heap.size, 1, none⟩ = some (.slice Aa (Dg.dg ca).length cpa) ∧ w'.cell? ⟨w.heap.size, 2, none⟩ = some (.int .i64 ea) ∧ w'.cell? ⟨w.heap.size + 1, 0, none⟩ = some (.bool nb) ∧ w'.cell? ⟨w.heap.size + 1, 1, none⟩ = some (.slice Ab (Dg.dg cb).length cpb) ∧ w'.cell? ⟨w.heap.size + 1, 2, none⟩ = some (.int .i64 eb))
      (repeat' (first | (with_reducible assumption) | (with_reducible refine keep33a ?_) | (with_reducible refine keep33d ?_) | (with_reducible refine keep33s ?_ ?_ ?_) | (with_reducible exact ⟨a1, a2, a3, b1, b2, b3⟩) | (with_reducible refine keep33 (by with_reducible assumption) ?_) | (show _ ≠ _; (try dsimp only); omega)))
      (first
        | (go_at_call 54; (with_reducible refine (NE.out _ ?_).mono ?_); (exact (by repeat' (first | (with_reducible exact RB.out) | (with_reducible refine Row.drew2 ?_) | (with_reducible refine Row.alloc' ?_ _)))); rintro e wN ⟨nN, vN, xN, ⟨rfl, rfl, rfl⟩, rfl, hbN⟩; obtain ⟨hcN, hfN⟩ := bcell hbN; have szN := hbN.size; (try simp only [World.size_alloc, World.size_drew] at szN); (try (have : V.heap.size < wN.heap.size := (by omega))))
        | (go_at_call 53; (with_reducible refine (SU.out _ ?_ ?_).mono ?_); (exact (by repeat' (first | (with_reducible exact RA.out) | (with_reducible refine Row.drew2 ?_) | (with_reducible refine Row.alloc' ?_ _) | (with_reducible refine Row.below ?_ (by with_reducible assumption))))); (exact (by repeat' (first | (with_reducible exact RB.out) | (with_reducible refine Row.drew2 ?_) | (with_reducible refine Row.alloc' ?_ _) | (with_reducible refine Row.below ?_ (by with_reducible assumption))))); rintro e wS ⟨nS, vS, xS, ⟨rfl, rfl, RS⟩, rfl, hbS⟩; obtain ⟨AS, cS, rfl⟩ := slice_of RS; obtain ⟨hcS, hfS⟩ := bcell hbS; have szS := hbS.size; (try simp only [World.size_alloc] at szS); (try (have : V.heap.size < wS.heap.size := (by omega))); (try (have : wN.heap.size < wS.heap.size := (by omega)))))
    all_goals
      go_wp2
      go_meet
      case rel =>
        refine ⟨_, AS, cS, rfl, ?_, ?_⟩
        · clear a1 a2 a3 b1 b2 b3 A0 A1 NE SU
          simp [HoldsF, go_sem, *]
        · clear a1 a2 a3 b1 b2 b3 hcN hfN hcS hfS
          repeat' (first | (with_reducible exact B0) | (with_reducible refine Below.drew ?_) | (with_reducible refine ballD1 ?_ _) | (with_reducible refine Below.set1' ?_ _ _ ?_ _) | (with_reducible refine bstep ?_ (by with_reducible assumption)) | omega)
  case rest =>
  obtain ⟨g, A, cap, rfl, P, B2⟩ := hcut
  have l0 : sz = 0 ↔ (Dg.dg sz).length = 0 := by
    constructor
    · rintro rfl; rw [Dg.dg_zero]; rfl
    · intro k
      rcases Nat.eq_zero_or_pos sz with z | z
      · exact z
      · have := nd_pos (n := sz) (by omega)
        unfold nd at this
        omega
  obtain ⟨ln, hln⟩ : ∃ n, n = (Dg.dg sz).length := ⟨_, rfl⟩
  rw [← hln] at l0 P
  clear hln a1 a2 a3 a9 b1 b2 b3 b9 A0 A1 B0 RA RB SU NE
  obtain ⟨⟨p1, p2, p3⟩, -, p9⟩ := P
  generalize wc = V2 at *
  by_cases z : sz = 0
  · have t : ((ln : Int) == 0) = true := by rw [l0.1 z]; rfl
    have hR : sgR (sn, sz) = 0 := by unfold sgR; rw [if_pos z]
    have HR := Lib.hid hR
    clear hR z l0
    go_wp2
    go_ret
    exact ⟨by rw [HR.out]; rfl, B2⟩
  · have t : ((ln : Int) == 0) = false := by
      have : ln ≠ 0 := fun k => z (l0.2 k)
      simp; omega
    cases sn
    · have hR : sgR (false, sz) = 1 := by unfold sgR; rw [if_neg z]; rfl
      have HR := Lib.hid hR
      clear hR z l0
      go_wp2
      go_ret
      exact ⟨by rw [HR.out]; rfl, B2⟩
    · have hR : sgR (true, sz) = -1 := by unfold sgR; rw [if_neg z]; rfl
      have HR := Lib.hid hR
      clear hR z l0
      go_wp2
      go_ret
      exact ⟨by rw [HR.out]; rfl, B2⟩
end Go.Proofs.YtncpdoeikebomaaDoor

/-
  A number that is the document's is so told (Like of the laws), as a contract of its call.
-/
namespace Go.Proofs.YtncpdoeikebomaaDoor
open Go.RowKit

theorem keep43 {W w' : World} {g k : Nat} {v0 v1 v2 v3 v4 v5 v6 : Value} (hb : Below W.heap.size W w') (h : W.cell? ⟨g, 0, none⟩ = some v0 ∧ W.cell? ⟨g, 1, none⟩ = some v1 ∧ W.cell? ⟨g, 2, none⟩ = some v2 ∧ W.cell? ⟨g, 3, none⟩ = some v3 ∧ W.cell? ⟨k, 0, none⟩ = some v4 ∧ W.cell? ⟨k, 1, none⟩ = some v5 ∧ W.cell? ⟨k, 2, none⟩ = some v6) : w'.cell? ⟨g, 0, none⟩ = some v0 ∧ w'.cell? ⟨g, 1, none⟩ = some v1 ∧ w'.cell? ⟨g, 2, none⟩ = some v2 ∧ w'.cell? ⟨g, 3, none⟩ = some v3 ∧ w'.cell? ⟨k, 0, none⟩ = some v4 ∧ w'.cell? ⟨k, 1, none⟩ = some v5 ∧ w'.cell? ⟨k, 2, none⟩ = some v6 := ⟨keepCell2 h.1 hb, keepCell2 h.2.1 hb, keepCell2 h.2.2.1 hb, keepCell2 h.2.2.2.1 hb, keepCell2 h.2.2.2.2.1 hb, keepCell2 h.2.2.2.2.2.1 hb, keepCell2 h.2.2.2.2.2.2 hb⟩
theorem keep43d {W : World} {g k : Nat} {v0 v1 v2 v3 v4 v5 v6 : Value} (h : W.cell? ⟨g, 0, none⟩ = some v0 ∧ W.cell? ⟨g, 1, none⟩ = some v1 ∧ W.cell? ⟨g, 2, none⟩ = some v2 ∧ W.cell? ⟨g, 3, none⟩ = some v3 ∧ W.cell? ⟨k, 0, none⟩ = some v4 ∧ W.cell? ⟨k, 1, none⟩ = some v5 ∧ W.cell? ⟨k, 2, none⟩ = some v6) : W.drew.cell? ⟨g, 0, none⟩ = some v0 ∧ W.drew.cell? ⟨g, 1, none⟩ = some v1 ∧ W.drew.cell? ⟨g, 2, none⟩ = some v2 ∧ W.drew.cell? ⟨g, 3, none⟩ = some v3 ∧ W.drew.cell? ⟨k, 0, none⟩ = some v4 ∧ W.drew.cell? ⟨k, 1, none⟩ = some v5 ∧ W.drew.cell? ⟨k, 2, none⟩ = some v6 := h
set_option maxRecDepth 100000 in
set_option maxHeartbeats 4000000 in
theorem like_yes (n : Bool) (h l : Nat) (x : Int) (v : Value) (ha : WW h l) (w : World) (r : Row w v (Dg.dg (nv h l))) : Calls Tryd.prog 13 #[Dv n h l x, Fv n v x] w (RetB true w) := by
  have LN : (Dg.dg (nv h l)).length ≤ 40 := Dg.dg_length_le (Nat.lt_of_lt_of_le (nv_lt ha) (by decide +kernel))
  have NN := Lib.hid (N_any h l ha)
  have CM := Lib.hid (fun v1 W (h1 : Row W v1 (Dg.dg (nv h l))) (h2 : Row W v (Dg.dg (nv h l))) => rcmp_any v1 v (nv h l) (nv h l) (by omega) (by omega) W h1 h2)
  rw [cmpN_eq] at CM
  have R := Lib.hid r
  obtain ⟨A, cap, rfl⟩ := slice_of r
  clear r ha LN
  go_enter Tryd.func13, Tryd.ntmps13
  go_upto_region 1 with fail
  have B0 : Below w.heap.size w ((w.alloc (.cells #[.bool n, .int .u64 (h : Int), .int .u64 (l : Int), .int .i64 x] 28)).alloc (.cells #[.bool n, .slice A (Dg.dg (nv h l)).length cap, .int .i64 x] 36)) := by go_grown
  have A0 := Lib.hid (show HoldsD ((w.alloc (.cells #[.bool n, .int .u64 (h : Int), .int .u64 (l : Int), .int .i64 x] 28)).alloc (.cells #[.bool n, .slice A (Dg.dg (nv h l)).length cap, .int .i64 x] 36)) w.heap.size n h l x from by simp [HoldsD, go_sem])
  have A1 := Lib.hid (show HoldsF ((w.alloc (.cells #[.bool n, .int .u64 (h : Int), .int .u64 (l : Int), .int .i64 x] 28)).alloc (.cells #[.bool n, .slice A (Dg.dg (nv h l)).length cap, .int .i64 x] 36)) (w.heap.size + 1) n (.slice A (Dg.dg (nv h l)).length cap) x from by simp [HoldsF, go_sem])
  replace R := Lib.hid ((R.out.alloc' (.cells #[.bool n, .int .u64 (h : Int), .int .u64 (l : Int), .int .i64 x] 28)).alloc' (.cells #[.bool n, .slice A (Dg.dg (nv h l)).length cap, .int .i64 x] 36))
  generalize ((w.alloc (.cells #[.bool n, .int .u64 (h : Int), .int .u64 (l : Int), .int .i64 x] 28)).alloc (.cells #[.bool n, .slice A (Dg.dg (nv h l)).length cap, .int .i64 x] 36)) = V at *
  obtain ⟨⟨a1, a2, a3, a4⟩, -, a9⟩ := A0.out
  obtain ⟨⟨b1, b2, b3⟩, -, b9⟩ := A1.out
  go_region_held3 (fun w' => w'.cell? ⟨w.heap.size, 0, none⟩ = some (.bool n) ∧ w'.cell? ⟨w.heap.size, 1, none⟩ = some (.int .u64 (h : Int)) ∧ w'.cell? ⟨w.heap.size, 2, none⟩ = some (.int .u64 (l : Int)) ∧ w'.cell? ⟨w.heap.size, 3, none⟩ = some (.int .i64 x) ∧ w'.cell? ⟨w.heap.size + 1, 0, none⟩ = some (.bool n) ∧ w'.cell? ⟨w.heap.size + 1, 1, none⟩ = some (.slice A (Dg.dg (nv h l)).length cap) ∧ w'.cell? ⟨w.heap.size + 1, 2, none⟩ = some (.int .i64 x))
    (repeat' (first | (with_reducible assumption) | (with_reducible refine keep43d ?_) | (with_reducible exact ⟨a1, a2, a3, a4, b1, b2, b3⟩) | (with_reducible refine keep43 (by with_reducible assumption) ?_)))
    (first
      | (go_at_call 43; (with_reducible refine (NN.out _).mono ?_); rintro e wN ⟨vN, rfl, RN, hbN⟩; have HRN := Lib.hid RN; clear RN)
      | (go_at_call 40; (with_reducible refine (CM.out _ _ ?_ ?_).mono ?_); (exact HRN.out); (exact R.out.below (bundrew hbN)); rintro e wC ⟨rfl, hbC⟩))
  all_goals
    clear a1 a2 a3 a4 b1 b2 b3
    go_wp2
    go_ret
    refine ⟨rfl, ?_⟩
    repeat' (first | (with_reducible exact B0) | (with_reducible refine Below.drew ?_) | (with_reducible refine bstep ?_ (by with_reducible assumption)))
end Go.Proofs.YtncpdoeikebomaaDoor

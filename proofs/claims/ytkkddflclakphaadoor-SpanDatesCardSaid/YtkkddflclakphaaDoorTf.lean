/-
  A number as an int (Whole of package dec), as a contract of its call, for all numbers.
-/
import Derived.Test.YtkkddflclakphaaDoorTe
import Derived.Deep.RegionHeld3
namespace Go.Proofs.YtkkddflclakphaaDoor
open Go.RowKit

theorem keep2 {W w' : World} {g : Nat} {v0 v1 : Value} (hb : Below W.heap.size W w') (h : W.cell? ⟨g, 0, none⟩ = some v0 ∧ W.cell? ⟨g, 1, none⟩ = some v1) : w'.cell? ⟨g, 0, none⟩ = some v0 ∧ w'.cell? ⟨g, 1, none⟩ = some v1 := ⟨keepCell2 h.1 hb, keepCell2 h.2 hb⟩
theorem keep2a {W : World} {g : Nat} {v0 v1 : Value} {ob : Obj} (h : W.cell? ⟨g, 0, none⟩ = some v0 ∧ W.cell? ⟨g, 1, none⟩ = some v1) : (W.alloc ob).cell? ⟨g, 0, none⟩ = some v0 ∧ (W.alloc ob).cell? ⟨g, 1, none⟩ = some v1 := keep2 ((Below.refl _ _).alloc (Nat.le_refl _) ob) h
theorem keep2d {W : World} {g : Nat} {v0 v1 : Value} (h : W.cell? ⟨g, 0, none⟩ = some v0 ∧ W.cell? ⟨g, 1, none⟩ = some v1) : W.drew.cell? ⟨g, 0, none⟩ = some v0 ∧ W.drew.cell? ⟨g, 1, none⟩ = some v1 := h
/-- The greatest size of an int above 0, below 0. -/
def mostN (n : Bool) : Nat := if n then 9223372036854775808 else 9223372036854775807
/-- Whether a number is an int's; which one that is. -/
def whB (n : Bool) (c : Nat) (x : Int) : Bool := wsB c x && decide (wsN c x ≤ mostN n)
def iN (n : Bool) (z : Nat) : Int := if n then -(z : Int) else (z : Int)
def whV (n : Bool) (c : Nat) (x : Int) : Int := if whB n c x then iN n (wsN c x) else 0
def RetIB (v : Int) (b : Bool) (w : World) (e : Ending) (w' : World) : Prop := e = .returned (.tuple #[.int .i64 v, .bool b]) ∧ Below w.heap.size w w'

set_option maxRecDepth 100000 in
set_option maxHeartbeats 8000000 in
theorem whole_any (n : Bool) (h l : Nat) (x : Int) (ha : WW h l) (x1 : -6176 ≤ x) (x2 : x ≤ 6111) (w : World) (ht : Tab w) :
    Calls Tryd.prog 36 #[Dv n h l x] w (RetIB (whV n (nv h l) x) (whB n (nv h l) x) w) := by
  have HT := Lib.hid ht
  have WS := Lib.hid (wsz_any n h l x ha x1 x2)
  obtain ⟨V, hV⟩ : ∃ V, V = whV n (nv h l) x := ⟨_, rfl⟩
  obtain ⟨Y, hY⟩ : ∃ Y, Y = whB n (nv h l) x := ⟨_, rfl⟩
  rw [← hV, ← hY]
  unfold whV at hV
  rw [← hY] at hV
  unfold whB at hY
  generalize wsN (nv h l) x = N at *
  generalize wsB (nv h l) x = B at *
  have HV := Lib.hid hV
  have HY := Lib.hid hY
  clear ht ha x1 x2 hV hY
  go_enter Tryd.func36, Tryd.ntmps36
  go_wp2_with fail
  refine (WS.out _ (HT.out.below (by go_grown))).mono ?_
  rintro e w1 ⟨a, b, ok, ⟨q1, rfl, q3⟩, rfl, hb1⟩
  have B1 : Below w.heap.size w w1 := bstep (by go_grown) hb1
  have D0 := Lib.hid ((show HoldsD _ w.heap.size n h l x from by simp [HoldsD, go_sem]).below hb1)
  clear hb1 WS
  cases ok
  · have y0 : Y = false := by rw [HY.out]; rfl
    subst y0
    have v0 : V = 0 := by rw [HV.out]; rfl
    subst v0
    clear q1 q3 D0 HV HY
    go_wp2
    go_ret2
    exact ⟨rfl, ballD1 B1 _⟩
  have Q3 := Lib.hid (q3 rfl)
  clear q3
  replace HY := Lib.hid (show Y = decide (N ≤ mostN n) from HY.out)
  obtain ⟨mo, hmo⟩ : ∃ mo, mo = mostN n := ⟨_, rfl⟩
  have CM := Lib.hid (wcmp_any a b 0 mo q1 ⟨by decide, by rw [hmo]; cases n <;> decide⟩)
  obtain ⟨cv, hcv⟩ : ∃ cv, cv = cmpN (nv a b) (nv 0 mo) := ⟨_, rfl⟩
  rw [← hcv] at CM
  have HQ := Lib.hid q1
  obtain ⟨bb, hbb⟩ : ∃ bb, bb = decide (0 < cv) := ⟨_, rfl⟩
  have HB := Lib.hid (show decide (N ≤ mostN n) = !bb from by
    rw [hbb, hcv, ← Q3.out, ← hmo, show nv 0 mo = mo from nv01 mo]
    rcases cmpN_range (nv a b) mo with ⟨e, e'⟩ | ⟨e, e'⟩ | ⟨e, e'⟩
    · rw [e, decide_eq_true (by omega)]; rfl
    · rw [e, decide_eq_true (by omega)]; rfl
    · rw [e, decide_eq_false (by omega)]; rfl)
  have E0 := Lib.hid (Holds2.new2 rfl : Holds2 (w1.alloc (.cells #[.int .u64 (a : Int), .int .u64 (b : Int)] 31)) w1.heap.size a b)
  have E1 := Lib.hid (D0.out.alloc (.cells #[.int .u64 (a : Int), .int .u64 (b : Int)] 31))
  replace B1 := ballD1 B1 (.cells #[.int .u64 (a : Int), .int .u64 (b : Int)] 31)
  have g1 : w.heap.size < w1.heap.size := D0.out.2.2
  have g2 : w.heap.size < w1.heap.size + 1 := by omega
  obtain ⟨⟨a1, -, -, -⟩, -, -⟩ := D0.out
  go_upto_region 4 with fail
  generalize w1.alloc (.cells #[.int .u64 (a : Int), .int .u64 (b : Int)] 31) = V1 at *
  clear D0 a1
  obtain ⟨⟨a1, -, -, -⟩, -, a9⟩ := E1.out
  obtain ⟨c1, c2, -, -, c5⟩ := E0.out
  cases n
  · skip
    have e5 : mo = 9223372036854775807 := hmo
    clear hmo hcv
    subst e5
    go_upto_region 7 with fail
    go_cut [22] (fun t W => t = .bool bb ∧ Below V1.heap.size V1 W)
    case first =>
      go_region_held3 (fun w' => w'.cell? ⟨w1.heap.size, 0, none⟩ = some (.int .u64 (a : Int)) ∧ w'.cell? ⟨w1.heap.size, 1, none⟩ = some (.int .u64 (b : Int)))
        (repeat' (first | (with_reducible assumption) | (with_reducible refine keep2a ?_) | (with_reducible refine keep2d ?_) | (with_reducible exact ⟨c1, c2⟩) | (with_reducible refine keep2 (by with_reducible assumption) ?_)))
        (first
          | (go_at_call 30; refine (wof_any 9223372036854775807 _).mono ?_; rintro e w' ⟨rfl, o1, rfl⟩)
          | (go_at_call 58; refine (CM.out _).mono ?_; rintro e w5 ⟨rfl, hb5⟩))
      all_goals
        go_wp2
        go_meet
        case rel =>
          refine ⟨by rw [hbb], ?_⟩
          repeat' (first | (with_reducible exact Below.refl _ _) | (with_reducible refine Below.drew ?_) | (with_reducible refine ballD1 ?_ _) | (with_reducible refine bstep ?_ (by with_reducible assumption)))
    case rest =>
    obtain ⟨rfl, hb6⟩ := hcut
    replace B1 := bstep B1 hb6
    replace E0 := Lib.hid (E0.out.below hb6)
    replace E1 := Lib.hid (E1.out.below hb6)
    clear hb6 a1 a9 c1 c2 c5 CM hbb
    cases bb
    · have y0 : Y = true := by rw [HY.out, HB.out]; rfl
      subst y0
      obtain ⟨r1, r2⟩ : a = 0 ∧ b = N := by
        have k := of_decide_eq_true (show decide (N ≤ mostN false) = true from by rw [HB.out]; rfl)
        have k2 : N ≤ 9223372036854775807 := k
        have k3 := Q3.out
        have k4 := HQ.out.2
        unfold nv at k3
        omega
      subst r1 r2
      have v0 : V = iN false b := by rw [HV.out]; rfl
      subst v0
      have BD := Lib.hid (show b ≤ 9223372036854775807 from of_decide_eq_true (show decide (b ≤ mostN false) = true from by rw [HB.out]; rfl))
      obtain ⟨bi, hbi⟩ : ∃ bi : Int, bi = (b : Int) := ⟨_, rfl⟩
      have f1 : IntKind.i64.wrap bi = bi := by
        have := BD.out
        rw [IntKind.wrap_i64]
        omega
      obtain ⟨⟨a1, -, -, -⟩, -, a9⟩ := E1.out
      obtain ⟨c1, c2, -, -, c5⟩ := E0.out
      rw [← hbi] at c2
      have HBI := Lib.hid hbi
      clear E0 E1 HB HQ HV HY Q3 BD hbi
      go_wp2
      go_ret2
      exact ⟨by rw [show iN false b = bi from by unfold iN; rw [HBI.out]; rfl]; rfl, B1⟩
    · have y0 : Y = false := by rw [HY.out, HB.out]; rfl
      subst y0
      have v0 : V = 0 := by rw [HV.out]; rfl
      subst v0
      obtain ⟨⟨a1, -, -, -⟩, -, a9⟩ := E1.out
      clear E0 E1 HB HQ HV HY Q3
      go_wp2
      go_ret2
      exact ⟨rfl, B1⟩
  · skip
    have e5 : mo = 9223372036854775808 := hmo
    clear hmo hcv
    subst e5
    go_upto_region 7 with fail
    go_cut [22] (fun t W => t = .bool bb ∧ Below V1.heap.size V1 W)
    case first =>
      go_region_held3 (fun w' => w'.cell? ⟨w1.heap.size, 0, none⟩ = some (.int .u64 (a : Int)) ∧ w'.cell? ⟨w1.heap.size, 1, none⟩ = some (.int .u64 (b : Int)))
        (repeat' (first | (with_reducible assumption) | (with_reducible refine keep2a ?_) | (with_reducible refine keep2d ?_) | (with_reducible exact ⟨c1, c2⟩) | (with_reducible refine keep2 (by with_reducible assumption) ?_)))
        (first
          | (go_at_call 30; refine (wof_any 9223372036854775808 _).mono ?_; rintro e w' ⟨rfl, o1, rfl⟩)
          | (go_at_call 58; refine (CM.out _).mono ?_; rintro e w5 ⟨rfl, hb5⟩))
      all_goals
        go_wp2
        go_meet
        case rel =>
          refine ⟨by rw [hbb], ?_⟩
          repeat' (first | (with_reducible exact Below.refl _ _) | (with_reducible refine Below.drew ?_) | (with_reducible refine ballD1 ?_ _) | (with_reducible refine bstep ?_ (by with_reducible assumption)))
    case rest =>
    obtain ⟨rfl, hb6⟩ := hcut
    replace B1 := bstep B1 hb6
    replace E0 := Lib.hid (E0.out.below hb6)
    replace E1 := Lib.hid (E1.out.below hb6)
    clear hb6 a1 a9 c1 c2 c5 CM hbb
    cases bb
    · have y0 : Y = true := by rw [HY.out, HB.out]; rfl
      subst y0
      obtain ⟨r1, r2⟩ : a = 0 ∧ b = N := by
        have k := of_decide_eq_true (show decide (N ≤ mostN true) = true from by rw [HB.out]; rfl)
        have k2 : N ≤ 9223372036854775808 := k
        have k3 := Q3.out
        have k4 := HQ.out.2
        unfold nv at k3
        omega
      subst r1 r2
      have v0 : V = iN true b := by rw [HV.out]; rfl
      subst v0
      have BD := Lib.hid (show b ≤ 9223372036854775808 from of_decide_eq_true (show decide (b ≤ mostN true) = true from by rw [HB.out]; rfl))
      obtain ⟨bi, hbi⟩ : ∃ bi : Int, bi = (b : Int) := ⟨_, rfl⟩
      have f1 : IntKind.i64.wrap (IntKind.u64.wrap (-bi)) = -bi := by
        have := BD.out
        have u : IntKind.u64.wrap (-bi) = (-bi) % 18446744073709551616 := by simp [IntKind.wrap, IntKind.signed, IntKind.bits]
        rw [u, IntKind.wrap_i64]
        omega
      obtain ⟨⟨a1, -, -, -⟩, -, a9⟩ := E1.out
      obtain ⟨c1, c2, -, -, c5⟩ := E0.out
      rw [← hbi] at c2
      have HBI := Lib.hid hbi
      clear E0 E1 HB HQ HV HY Q3 BD hbi
      go_wp2
      go_ret2
      exact ⟨by rw [show iN true b = -bi from by unfold iN; rw [HBI.out]; rfl]; rfl, B1⟩
    · have y0 : Y = false := by rw [HY.out, HB.out]; rfl
      subst y0
      have v0 : V = 0 := by rw [HV.out]; rfl
      subst v0
      obtain ⟨⟨a1, -, -, -⟩, -, a9⟩ := E1.out
      clear E0 E1 HB HQ HV HY Q3
      go_wp2
      go_ret2
      exact ⟨rfl, B1⟩
end Go.Proofs.YtkkddflclakphaaDoor

/-
  The statement CivilOrder, walked: it answers true.
-/
import Derived.Test.YtmikbdnjkfdodaaCf
namespace Go.Proofs.Ytmikbdnjkfdodaa
open Go.RowKit

theorem HoldsT.eq_alloc {W : World} {g : Nat} {y m d : Int} (hg : g = W.heap.size) : HoldsT (W.alloc (DtC y m d)) g y m d := HoldsT.new hg
/-- A day that is there, hidden behind letters. -/
theorem made (y m d : Int) : ∃ Y M D : Int, Day Y M D ∧ ∀ w : World, Calls Try.prog 21 #[.int .i64 y, .int .i64 m, .int .i64 d] w (Ret (Dt Y M D) w) := ⟨_, _, _, make_day y m d, make_any y m d⟩

set_option maxRecDepth 100000 in
set_option maxHeartbeats 4000000 in
theorem civilOrder_walk (y m d v u t : Int) (w : World) : Calls Try.prog 8 #[.int .i64 y, .int .i64 m, .int .i64 d, .int .i64 v, .int .i64 u, .int .i64 t] w (Ret (.bool true) w) := by
  have AW := Lib.hid awake6
  obtain ⟨Y, M, D, h1, K1⟩ := made y m d
  obtain ⟨V, U, T, h2, K2⟩ := made v u t
  have M1 := Lib.hid K1
  have M2 := Lib.hid K2
  have N1 := Lib.hid (number_yes Y M D h1)
  have N2 := Lib.hid (number_yes V U T h2)
  have C0 := cmp_any Y M D V U T
  rw [ordT_num h1 h2] at C0
  have C1 := Lib.hid C0
  have ne : numI Y M D ≠ numI V U T → ¬ (Y = V ∧ M = U ∧ D = T) := by rintro h ⟨rfl, rfl, rfl⟩; exact h rfl
  have eq := @num_inj Y M D V U T h1 h2
  generalize numI Y M D = a at *
  generalize numI V U T = b at *
  have NE := Lib.hid ne
  have EQ := Lib.hid eq
  have OC := Lib.hid (ordI_cases a b)
  generalize ordI a b = c at *
  clear K1 K2 h1 h2 C0 ne eq
  go_enter Try.func8, Try.ntmps8
  go_wp2_with fail
  refine (AW.out _).mono ?_
  rintro e w1 ⟨rfl, hb1⟩
  have B : Below w.heap.size w w1 := bstep (by go_grown) hb1
  clear hb1 AW
  go_wp2_with fail
  refine (M1.out _).mono ?_
  rintro e w2 ⟨rfl, hb2⟩
  replace B := bstep B hb2
  clear hb2 M1
  go_wp2_with fail
  refine (M2.out _).mono ?_
  rintro e w3 ⟨rfl, hb3⟩
  replace B := bstep B hb3
  clear hb3 M2
  go_upto_region 4 with fail
  have P1 := Lib.hid (HoldsT.alloc (HoldsT.new rfl) _ : HoldsT ((w3.alloc (DtC Y M D)).alloc (DtC V U T)) w3.heap.size Y M D)
  have P2 := Lib.hid (HoldsT.new (by simp) : HoldsT ((w3.alloc (DtC Y M D)).alloc (DtC V U T)) (w3.heap.size + 1) V U T)
  replace B := ballD1 (ballD1 B (DtC Y M D)) (DtC V U T)
  change Code.wp _ _ _ _ ((w3.alloc (DtC Y M D)).alloc (DtC V U T))
  generalize (w3.alloc (DtC Y M D)).alloc (DtC V U T) = V4 at *
  obtain ⟨g, hg⟩ : ∃ g, g = w3.heap.size := ⟨_, rfl⟩
  rw [← hg] at P1 P2
  rw [← hg]
  clear hg
  obtain ⟨⟨a1, a2, a3⟩, -, a9⟩ := P1.out
  obtain ⟨⟨b1, b2, b3⟩, -, b9⟩ := P2.out
  go_wp2_with fail
  refine (N1.out _).mono ?_
  rintro e w5 ⟨rfl, hb5⟩
  replace P1 := Lib.hid (P1.out.below hb5)
  replace P2 := Lib.hid (P2.out.below hb5)
  replace B := bstep B hb5
  clear hb5 a1 a2 a3 a9 b1 b2 b3 b9 N1
  obtain ⟨⟨a1, a2, a3⟩, -, a9⟩ := P1.out
  obtain ⟨⟨b1, b2, b3⟩, -, b9⟩ := P2.out
  go_wp2_with fail
  refine (N2.out _).mono ?_
  rintro e w6 ⟨rfl, hb6⟩
  replace P1 := Lib.hid (P1.out.below hb6)
  replace P2 := Lib.hid (P2.out.below hb6)
  replace B := bstep B hb6
  clear hb6 a1 a2 a3 a9 b1 b2 b3 b9 N2
  obtain ⟨⟨a1, a2, a3⟩, -, a9⟩ := P1.out
  obtain ⟨⟨b1, b2, b3⟩, -, b9⟩ := P2.out
  go_wp2_with fail
  refine (C1.out _).mono ?_
  rintro e w7 ⟨rfl, hb7⟩
  replace P1 := Lib.hid (P1.out.below hb7)
  replace P2 := Lib.hid (P2.out.below hb7)
  replace B := bstep B hb7
  clear hb7 a1 a2 a3 a9 b1 b2 b3 b9 C1
  obtain ⟨⟨a1, a2, a3⟩, -, a9⟩ := P1.out
  obtain ⟨⟨b1, b2, b3⟩, -, b9⟩ := P2.out
  rcases OC.out with ⟨rfl, k⟩ | ⟨rfl, k⟩ | ⟨rfl, k⟩
  · have t1 : decide (a < b) = true := decide_eq_true k
    have t2 : decide (b < a) = false := decide_eq_false (by omega)
    have t3 := Lib.hid (NE.out (by omega))
    clear k NE EQ OC
    go_wp2
    all_goals first
      | exact (t3.out ⟨by assumption, by assumption, by assumption⟩).elim
      | (go_ret; exact ⟨rfl, B⟩)
  · subst k
    have t1 : decide (a < a) = false := decide_eq_false (Int.lt_irrefl a)
    obtain ⟨rfl, rfl, rfl⟩ := EQ.out rfl
    clear NE EQ OC
    go_wp2
    go_ret
    exact ⟨rfl, B⟩
  · have t1 : decide (a < b) = false := decide_eq_false (by omega)
    have t2 : decide (b < a) = true := decide_eq_true k
    have t3 := Lib.hid (NE.out (by omega))
    clear k NE EQ OC
    go_wp2
    all_goals first
      | exact (t3.out ⟨by assumption, by assumption, by assumption⟩).elim
      | (go_ret; exact ⟨rfl, B⟩)
end Go.Proofs.Ytmikbdnjkfdodaa

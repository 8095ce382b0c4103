/-
  The document's examples (awake), as a contract of its call: it answers true.
-/
import Derived.Test.YtlcpbmjipplcdaaDoorL
namespace Go.Proofs.YtlcpbmjipplcdaaDoor
open Go.RowKit

theorem lots {g b : Nat} (h : g < b) : g < b ∧ g < b + 1 ∧ g < b + 1 + 1 ∧ g < b + 1 + 1 + 1 ∧ g < b + 1 + 1 + 1 + 1 := by omega
theorem lots1 (b : Nat) : b < b + 1 + 1 ∧ b < b + 1 + 1 + 1 ∧ b < b + 1 + 1 + 1 + 1 := by omega
theorem sz_lt {a b c : Nat} (h : a + 1 ≤ b) (k : c ≤ a) : c < b := by omega
set_option maxHeartbeats 4000000 in
theorem awake_any (w : World) (ht : Tab w) : Calls Tryd.prog 10 #[] w (RetB true w) := by
  have HT := Lib.hid ht
  clear ht
  go_enter Tryd.func10, Tryd.ntmps10
  go_wp2_with fail
  refine (mul_top _).mono ?_
  rintro e w1 ⟨rfl, hb1⟩
  have B1 := hb1
  have S1 := B1.size
  have T1 := Lib.hid (HT.out.below B1)
  clear hb1
  go_wp2_with fail
  refine (of_int 1 _).mono ?_
  rintro e w2 ⟨rfl, o1, rfl⟩
  go_wp2_with fail
  refine (of_int 3 _).mono ?_
  rintro e w2 ⟨rfl, o2, rfl⟩
  go_wp2_with fail
  refine (div_third _).mono ?_
  rintro e w2 ⟨rfl, hb2⟩
  have M1 := Lib.hid (Holds2.below (by simp [Holds2, go_sem]) hb2 : Holds2 w2 w1.heap.size 18446744073709551615 18446744073709551614)
  have M2 := Lib.hid (Holds2.below (by simp [Holds2, go_sem]) hb2 : Holds2 w2 (w1.heap.size + 1) 0 1)
  have B2 : Below w.heap.size w w2 := bstep (by go_grown) hb2
  have S2 := B2.size
  have T2 := Lib.hid (HT.out.below B2)
  clear hb2 T1
  go_wp2_with fail
  refine (ten38' _ (T2.out.below (by go_grown))).mono ?_
  rintro e w3 ⟨rfl, hb3⟩
  have M1' := Lib.hid (Holds2.below (by repeat' (first | (with_reducible exact M1.out) | (with_reducible refine Holds2.alloc ?_ _))) hb3 : Holds2 w3 w1.heap.size 18446744073709551615 18446744073709551614)
  have M2' := Lib.hid (Holds2.below (by repeat' (first | (with_reducible exact M2.out) | (with_reducible refine Holds2.alloc ?_ _))) hb3 : Holds2 w3 (w1.heap.size + 1) 0 1)
  have M3 := Lib.hid (Holds2.below (by simp [Holds2, go_sem]) hb3 : Holds2 w3 w2.heap.size 6148914691236517205 6148914691236517205)
  have M4 := Lib.hid (Holds2.below (by simp [Holds2, go_sem]) hb3 : Holds2 w3 (w2.heap.size + 1) 0 1)
  have B3 : Below w.heap.size w w3 := bstep (by go_grown) hb3
  have S3 := B3.size
  have T3 := Lib.hid (HT.out.below B3)
  clear hb3 T2 M1 M2
  go_wp2_with fail
  refine (of_int 10 _).mono ?_
  rintro e w4 ⟨rfl, o3, rfl⟩
  go_wp2_with fail
  refine (root_ten _).mono ?_
  rintro e w4 ⟨rfl, hb4⟩
  have N1 := Lib.hid (Holds2.below (by repeat' (first | (with_reducible exact M1'.out) | (with_reducible refine Holds2.alloc ?_ _))) hb4 : Holds2 w4 w1.heap.size 18446744073709551615 18446744073709551614)
  have N2 := Lib.hid (Holds2.below (by repeat' (first | (with_reducible exact M2'.out) | (with_reducible refine Holds2.alloc ?_ _))) hb4 : Holds2 w4 (w1.heap.size + 1) 0 1)
  have N3 := Lib.hid (Holds2.below (by repeat' (first | (with_reducible exact M3.out) | (with_reducible refine Holds2.alloc ?_ _))) hb4 : Holds2 w4 w2.heap.size 6148914691236517205 6148914691236517205)
  have N4 := Lib.hid (Holds2.below (by repeat' (first | (with_reducible exact M4.out) | (with_reducible refine Holds2.alloc ?_ _))) hb4 : Holds2 w4 (w2.heap.size + 1) 0 1)
  have N5 := Lib.hid (Holds2.below (by simp [Holds2, go_sem]) hb4 : Holds2 w4 w3.heap.size 5421010862427522170 687399551400673280)
  have B4 : Below w.heap.size w w4 := bstep (by go_grown) hb4
  have S4 := B4.size
  have T4 := Lib.hid (HT.out.below B4)
  clear hb4 T3 M1' M2' M3 M4 HT
  obtain ⟨a1, a2, a3, a4, a5⟩ := N1.out
  obtain ⟨b1, b2, b3, b4, b5⟩ := N2.out
  obtain ⟨c1, c2, c3, c4, c5⟩ := N3.out
  obtain ⟨d1, d2, d3, d4, d5⟩ := N4.out
  obtain ⟨e1, e2, e3, e4, e5⟩ := N5.out
  simp only [Int.cast_ofNat_Int] at a1 a2 b1 b2 c1 c2 d1 d2 e1 e2
  obtain ⟨_, a6, a7, a8, a9⟩ := lots a5
  obtain ⟨_, b6, b7, b8, b9⟩ := lots b5
  obtain ⟨_, c6, c7, c8, c9⟩ := lots c5
  obtain ⟨_, d6, d7, d8, d9⟩ := lots d5
  obtain ⟨_, e6, e7, e8, e9⟩ := lots e5
  obtain ⟨f6, f7, f8⟩ := lots1 w4.heap.size
  go_wp2
  go_region_held3 (fun w' => w'.cell? ⟨w1.heap.size, 0, none⟩ = some (.int .u64 18446744073709551615) ∧ w'.cell? ⟨w1.heap.size, 1, none⟩ = some (.int .u64 18446744073709551614) ∧ w'.cell? ⟨w1.heap.size + 1, 0, none⟩ = some (.int .u64 0) ∧ w'.cell? ⟨w1.heap.size + 1, 1, none⟩ = some (.int .u64 1)
      ∧ w'.cell? ⟨w2.heap.size, 0, none⟩ = some (.int .u64 6148914691236517205) ∧ w'.cell? ⟨w2.heap.size, 1, none⟩ = some (.int .u64 6148914691236517205) ∧ w'.cell? ⟨w2.heap.size + 1, 0, none⟩ = some (.int .u64 0) ∧ w'.cell? ⟨w2.heap.size + 1, 1, none⟩ = some (.int .u64 1)
      ∧ w'.cell? ⟨w3.heap.size, 0, none⟩ = some (.int .u64 5421010862427522170) ∧ w'.cell? ⟨w3.heap.size, 1, none⟩ = some (.int .u64 687399551400673280) ∧ w'.cell? ⟨w4.heap.size, 0, none⟩ = some (.int .u64 0) ∧ w'.cell? ⟨w4.heap.size, 1, none⟩ = some (.int .u64 3))
    (simp [go_sem, *])
    (first
      | (go_at_call 50; refine (of_int _ _).mono ?_; rintro e w' ⟨rfl, o4, rfl⟩)
      | (go_at_call 27; refine (digits38' _ (T4.out.below (by go_grown))).mono ?_; rintro e w5 ⟨rfl, hb5⟩; obtain ⟨hc5, hf5⟩ := bcell (bundrew hb5); have sz := hb5.size; simp only [World.size_alloc, World.size_drew] at sz; have z4 : w4.heap.size < w5.heap.size := (by omega); obtain ⟨f9, f10, f11, f12, f13⟩ := lots z4; obtain ⟨a10, a11, a12, a13, a14⟩ := lots (Nat.lt_trans a5 z4); obtain ⟨b10, b11, b12, b13, b14⟩ := lots (Nat.lt_trans b5 z4); obtain ⟨c10, c11, c12, c13, c14⟩ := lots (Nat.lt_trans c5 z4); obtain ⟨d10, d11, d12, d13, d14⟩ := lots (Nat.lt_trans d5 z4); obtain ⟨e10, e11, e12, e13, e14⟩ := lots (Nat.lt_trans e5 z4); have B5 : Below w.heap.size w w5 := bstep (by go_grown) hb5))
  all_goals
    go_wp2
    go_ret
    refine ⟨rfl, ?_⟩
    clear hc5 hf5 a1 a2 a3 a4 b1 b2 b3 b4 c1 c2 c3 c4 d1 d2 d3 d4 e1 e2 e3 e4
    go_grown
end Go.Proofs.YtlcpbmjipplcdaaDoor

/-
  The statement NumeralShifts, walked: it answers true, where the document's examples do.
-/
import Derived.Test.YtmelblnfjcbmjaaDoorWn1
import Derived.Test.YtmelblnfjcbmjaaDoorE9
import Derived.Test.YtmelblnfjcbmjaaDoorE7
import Derived.Test.YtmelblnfjcbmjaaDoorPe
import Derived.Test.YtmelblnfjcbmjaaDoorOf
namespace Go.Proofs.YtmelblnfjcbmjaaDoor
open Go.RowKit

theorem KI_run {l : List UInt8} {v : Nat} (da : ∀ b ∈ l, DigB b) (hv : dvl l 0 = v) (h : v < 10 ^ 38) (h0 : l ≠ []) : ∃ k, runS l rd0 = some (1, v, k, 0, false, 0, 0, 0, false) := by
  obtain ⟨k, -, e⟩ := run_digits (.inl rfl) l 0 0 0 0 0 0 false da KI.zero (by rw [hv]; exact h) (.inl ⟨rfl, by decide⟩)
  rw [hv, if_neg h0] at e
  exact ⟨k, e⟩
theorem dig48 : DigB 48 := ⟨by decide, by decide⟩
theorem read_s0 {n : Nat} (h : n < 18446744073709551616) : readL (Lib.decDigits n ++ [48]) = some (false, n * 10, 0) := by
  obtain ⟨da, db, dc⟩ := dec_all n
  obtain ⟨k, e⟩ := KI_run (l := Lib.decDigits n ++ [48]) (v := n * 10) (fun b hb => (List.mem_append.1 hb).elim (da b) (fun q => List.mem_singleton.1 q ▸ dig48)) (by rw [dvl_append, db]; rfl) (by omega) (by simp)
  exact readL_of e (.inl rfl) (by decide) ⟨by omega, by decide, by decide⟩
theorem read_0s {n : Nat} (h : n < 18446744073709551616) : readL (48 :: Lib.decDigits n) = some (false, n, 0) := by
  obtain ⟨da, db, dc⟩ := dec_all n
  obtain ⟨k, e⟩ := KI_run (l := 48 :: Lib.decDigits n) (v := n) (fun b hb => (List.mem_cons.1 hb).elim (fun q => q ▸ dig48) (da b)) (by show dvl (Lib.decDigits n) 0 = n; exact db) (by omega) (by simp)
  exact readL_of e (.inl rfl) (by decide) ⟨by omega, by decide, by decide⟩
theorem read_s1 {n : Nat} (h : n < 18446744073709551616) : readL (Lib.decDigits n ++ [46, 48]) = some (false, n * 10, -1) := by
  obtain ⟨da, db, dc⟩ := dec_all n
  obtain ⟨k, K, e⟩ := run_digits (.inl rfl) (Lib.decDigits n) 0 0 0 0 0 0 false da KI.zero (by rw [db]; omega) (.inl ⟨rfl, by decide⟩)
  rw [db] at K
  rw [db, if_neg dc] at e
  obtain ⟨k2, -, e2⟩ := run_digits (.inr rfl) [48] 2 n k (0 + (if 1 = 3 then (Lib.decDigits n).length else 0)) 0 0 false (by intro b hb; rw [List.mem_singleton.1 hb]; exact dig48) K (by show n * 10 + (48 - 48) < _; omega) (.inr ⟨rfl, by decide, by decide⟩)
  have e3 : runS (Lib.decDigits n ++ [46, 48]) rd0 = some (3, n * 10, k2, 0, false, 1, 0, 0, false) := by
    refine (runS_append _ _ (s := rd0) e).trans ?_
    exact (runS_cons (takeS_point _ _ _ _ _ _)).trans e2
  exact readL_of e3 (.inr (.inl rfl)) (by decide) ⟨by omega, by decide, by decide⟩
theorem read_e1 {n : Nat} (h : n < 18446744073709551616) : readL (Lib.decDigits n ++ [69, 49]) = some (false, n, 1) := by
  obtain ⟨da, db, dc⟩ := dec_all n
  obtain ⟨k, K, e⟩ := run_digits (.inl rfl) (Lib.decDigits n) 0 0 0 0 0 0 false da KI.zero (by rw [db]; omega) (.inl ⟨rfl, by decide⟩)
  rw [db, if_neg dc] at e
  have e3 : runS (Lib.decDigits n ++ [69, 49]) rd0 = some (6, n, k, 0, false, 0, 1, 1, false) := by
    refine (runS_append _ _ (s := rd0) e).trans ?_
    refine (runS_cons (takeS_E _ _ _ _ _ _)).trans ?_
    exact run_power [49] 4 n k _ 0 0 false (by intro b hb; rw [List.mem_singleton.1 hb]; exact ⟨by decide, by decide⟩) (by decide) (by decide)
  exact readL_of e3 (.inr (.inr rfl)) (by decide) ⟨by omega, by decide, by decide⟩
theorem mul_ten {n : Nat} (h : n < 18446744073709551616) : mulF false n 0 false 10 0 = some (false, n * 10, 0) := fitF_self ⟨by omega, by decide, by decide⟩ (fun _ => rfl)
theorem cmp_ten {n : Nat} (h : n < 18446744073709551616) : cmpD false (n * 10) (-1) false n 0 = 0 := by
  rw [cmpD_val ⟨by omega, by decide, by decide⟩ ⟨by omega, by decide, by decide⟩, cmpZ_eq]
  have e : szN (n * 10) (-1) = szN n 0 := szN_shift (c := n) (k := 1) (x := 0) (by decide)
  unfold vlZ
  rw [if_neg (by decide), if_neg (by decide), e]
theorem str_add (S : ByteArray) (l m : List UInt8) (h : S.data.toList = l) : (S ++ ⟨m.toArray⟩).data.toList = l ++ m := by
  rw [ByteArray.data_append, Array.toList_append, h]
theorem add_str (S : ByteArray) (l m : List UInt8) (h : S.data.toList = l) : ((⟨m.toArray⟩ : ByteArray) ++ S).data.toList = m ++ l := by
  rw [ByteArray.data_append, Array.toList_append, h]
theorem size_add (S T : ByteArray) : (S ++ T).size = S.size + T.size := by
  show (S ++ T).data.size = _
  rw [ByteArray.data_append, Array.size_append]
  rfl

set_option linter.unusedSimpArgs false in
set_option maxRecDepth 100000 in
set_option maxHeartbeats 8000000 in
theorem numeralShifts_walk (AW : Aw5C) (n : Nat) (hn : n < 18446744073709551616) (w : World) (ht : Tab w) (ht2 : Tab2 w) :
    Calls Tryd.prog 9 #[.int .u64 (n : Int)] w (RetB true w) := by
  have HT := Lib.hid (And.intro ht ht2)
  have AWH := Lib.hid AW
  obtain ⟨S, hS⟩ : ∃ S : ByteArray, S = ⟨(Lib.decDigits n).toArray⟩ := ⟨_, rfl⟩
  have lS : S.data.toList = Lib.decDigits n := by rw [hS]
  have sS : S.size ≤ 100 := by rw [hS]; exact Nat.le_trans (Nat.le_of_eq (by simp [ByteArray.size])) (Nat.le_trans (dec_len (c := n) (by omega)) (by decide))
  have OW := Lib.hid (show ∀ w : World, Calls Tryd.prog 33 #[.int .u64 (n : Int)] w (fun e w' => e = .returned (U 0 n) ∧ Below w.heap.size w w') from fun w => (of_any n w).mono (by rintro e w' ⟨rfl, c, rfl⟩; exact ⟨rfl, by go_grown⟩))
  have TX := Lib.hid (show ∀ w : World, Tab w → Tab2 w → Calls Tryd.prog 34 #[U 0 n] w (fun e w' => e = .returned (.string S) ∧ Below w.heap.size w w') from fun w a b => by rw [hS]; exact text_any n 0 n (nv01 n) (ww1 hn) w a b)
  have R1 := Lib.hid (show ∀ w : World, Tab w → Calls Tryd.prog 30 #[.string (S ++ ⟨#[48]⟩)] w (RetDO (some (false, n * 10, 0)) w) from fun w a => by
    have k := read_any (S ++ ⟨#[48]⟩) (by rw [size_add]; show S.size + 1 ≤ _; omega) w a
    rw [str_add S _ [48] lS, read_s0 hn] at k; exact k)
  have R2 := Lib.hid (show ∀ w : World, Tab w → Calls Tryd.prog 30 #[.string (⟨#[48]⟩ ++ S)] w (RetDO (some (false, n, 0)) w) from fun w a => by
    have k := read_any (⟨#[48]⟩ ++ S) (by rw [size_add]; show 1 + S.size ≤ _; omega) w a
    rw [add_str S _ [48] lS] at k
    rw [show [48] ++ Lib.decDigits n = 48 :: Lib.decDigits n from rfl, read_0s hn] at k; exact k)
  have R3 := Lib.hid (show ∀ w : World, Tab w → Calls Tryd.prog 30 #[.string (S ++ ⟨#[46, 48]⟩)] w (RetDO (some (false, n * 10, -1)) w) from fun w a => by
    have k := read_any (S ++ ⟨#[46, 48]⟩) (by rw [size_add]; show S.size + 2 ≤ _; omega) w a
    rw [str_add S _ [46, 48] lS, read_s1 hn] at k; exact k)
  have R4 := Lib.hid (show ∀ w : World, Tab w → Calls Tryd.prog 30 #[.string (S ++ ⟨#[69, 49]⟩)] w (RetDO (some (false, n, 1)) w) from fun w a => by
    have k := read_any (S ++ ⟨#[69, 49]⟩) (by rw [size_add]; show S.size + 2 ≤ _; omega) w a
    rw [str_add S _ [69, 49] lS, read_e1 hn] at k; exact k)
  have OF0 := Lib.hid (show ∀ w : World, Calls Tryd.prog 36 #[.int .u64 (n : Int), .int .i64 0] w (fun e w' => e = .returned (.agg #[.bool false, .int .u64 0, .int .u64 (n : Int), .int .i64 0]) ∧ Below w.heap.size w w') from fun w => (of5 n 0 w).mono (by rintro e w' ⟨n, h, l, y, ⟨rfl, rfl, rfl, rfl⟩, rfl, hb⟩; exact ⟨rfl, hb⟩))
  have OF1 := Lib.hid (show ∀ w : World, Calls Tryd.prog 36 #[.int .u64 (n : Int), .int .i64 1] w (fun e w' => e = .returned (.agg #[.bool false, .int .u64 0, .int .u64 (n : Int), .int .i64 1]) ∧ Below w.heap.size w w') from fun w => (of5 n 1 w).mono (by rintro e w' ⟨n, h, l, y, ⟨rfl, rfl, rfl, rfl⟩, rfl, hb⟩; exact ⟨rfl, hb⟩))
  have I10 := Lib.hid (show ∀ w : World, Calls Tryd.prog 37 #[.int .i64 10] w (fun e w' => e = .returned (.agg #[.bool false, .int .u64 0, .int .u64 10, .int .i64 0]) ∧ Below w.heap.size w w') from fun w => (int_yes 10 (by decide) w).mono (by rintro e w' ⟨n, h, l, y, ⟨rfl, rfl, rfl, rfl⟩, rfl, hb⟩; exact ⟨rfl, hb⟩))
  have ML := Lib.hid (show ∀ w : World, Tab w → Calls Tryd.prog 35 #[.agg #[.bool false, .int .u64 0, .int .u64 (n : Int), .int .i64 0], .agg #[.bool false, .int .u64 0, .int .u64 10, .int .i64 0]] w (RetDO (some (false, n * 10, 0)) w) from fun w a => by
    have k := mulD_any false 0 n 0 false 0 10 0 (ww1 hn) (ww1 (by decide)) (by decide) (by decide) (by decide) (by decide) w a
    rw [nv01, nv01, mul_ten hn] at k; exact k)
  have CM0 := Lib.hid (fun (h l : Nat) (hw : WW h l) (e : nv h l = n * 10) => (show ∀ w : World, Tab w → Calls Tryd.prog 38 #[.agg #[.bool false, .int .u64 (h : Int), .int .u64 (l : Int), .int .i64 (-1)], .agg #[.bool false, .int .u64 0, .int .u64 (n : Int), .int .i64 0]] w (RetI 0 w) from fun w a => by
    have k := cmp_dec false h l (-1) false 0 n 0 hw (ww1 hn) (by decide) (by decide) (by decide) (by decide) w a
    rw [nv01, e, cmp_ten hn] at k; exact k))
  have HL := Lib.hid hn
  clear ht ht2 AW hS lS hn
  go_enter Tryd.func9, Tryd.ntmps9
  go_wp2_with fail
  refine (AWH.out _ (HT.out.1.below (by go_grown)) (HT.out.2.below (by go_grown))).mono ?_
  rintro e w1 ⟨rfl, hb⟩
  have B : Below w.heap.size w w1 := bstep (by go_grown) hb
  clear hb AWH
  go_wp2_with fail
  refine (OW.out _).mono ?_
  rintro e w2 ⟨rfl, hb⟩
  replace B := bstep B hb
  clear hb OW
  go_wp2_with fail
  refine (TX.out _ (HT.out.1.below B) (HT.out.2.below B)).mono ?_
  rintro e w3 ⟨rfl, hb⟩
  replace B := bstep B hb
  clear hb TX
  go_wp2_with fail
  refine (R1.out _ (HT.out.1.below B)).mono ?_
  rintro e y1 ⟨n1, h1, l1, x1, k1, NO, rfl, hb⟩
  obtain ⟨hw1, rfl, rfl, e1, rfl⟩ := NO
  have CM := Lib.hid (CM0.out h1 l1 hw1 e1)
  have HW := Lib.hid (And.intro hw1 e1)
  clear hw1 e1 CM0
  replace B := ballD1 (bstep B hb) (.cells #[.bool false, .int .u64 (h1 : Int), .int .u64 (l1 : Int), .int .i64 0] 28)
  have P1 := Lib.hid (HoldsD.new4 rfl : HoldsD (y1.alloc (.cells #[.bool false, .int .u64 (h1 : Int), .int .u64 (l1 : Int), .int .i64 0] 28)) y1.heap.size false h1 l1 0)
  clear hb R1
  go_upto_region 5 with fail
  change Code.wp _ _ _ _ (y1.alloc (.cells #[.bool false, .int .u64 (h1 : Int), .int .u64 (l1 : Int), .int .i64 0] 28))
  generalize y1.alloc (.cells #[.bool false, .int .u64 (h1 : Int), .int .u64 (l1 : Int), .int .i64 0] 28) = V1 at *
  obtain ⟨g1, hg⟩ : ∃ g, g = y1.heap.size := ⟨_, rfl⟩
  rw [← hg] at P1 ⊢
  clear hg
  go_wp2_with fail
  refine (R2.out _ (HT.out.1.below B)).mono ?_
  rintro e y2 ⟨n2, h2, l2, x2, k2, NO, rfl, hb⟩
  obtain ⟨hw, rfl, rfl, e2, rfl⟩ := NO
  obtain ⟨rfl, rfl⟩ := nv_inj (ww1 HL.out) hw ((nv01 n).trans e2.symm)
  clear hw e2
  replace P1 := Lib.hid ((P1.out.below hb).alloc (.cells #[.bool false, .int .u64 0, .int .u64 (n : Int), .int .i64 0] 28))
  replace B := ballD1 (bstep B hb) (.cells #[.bool false, .int .u64 0, .int .u64 (n : Int), .int .i64 0] 28)
  have P2 := Lib.hid (HoldsD.new4 rfl : HoldsD (y2.alloc (.cells #[.bool false, .int .u64 0, .int .u64 (n : Int), .int .i64 0] 28)) y2.heap.size false 0 n 0)
  clear hb R2
  go_upto_region 6 with fail
  change Code.wp _ _ _ _ (y2.alloc (.cells #[.bool false, .int .u64 0, .int .u64 (n : Int), .int .i64 0] 28))
  generalize y2.alloc (.cells #[.bool false, .int .u64 0, .int .u64 (n : Int), .int .i64 0] 28) = V2 at *
  obtain ⟨g2, hg⟩ : ∃ g, g = y2.heap.size := ⟨_, rfl⟩
  rw [← hg] at P2 ⊢
  clear hg
  go_wp2_with fail
  refine (R3.out _ (HT.out.1.below B)).mono ?_
  rintro e y3 ⟨n3, h3, l3, x3, k3, NO, rfl, hb⟩
  obtain ⟨hw, rfl, rfl, e3, rfl⟩ := NO
  obtain ⟨rfl, rfl⟩ := nv_inj HW.out.1 hw (HW.out.2.trans e3.symm)
  clear hw e3
  replace P1 := Lib.hid ((P1.out.below hb).alloc (.cells #[.bool false, .int .u64 (h1 : Int), .int .u64 (l1 : Int), .int .i64 (-1)] 28))
  replace P2 := Lib.hid ((P2.out.below hb).alloc (.cells #[.bool false, .int .u64 (h1 : Int), .int .u64 (l1 : Int), .int .i64 (-1)] 28))
  replace B := ballD1 (bstep B hb) (.cells #[.bool false, .int .u64 (h1 : Int), .int .u64 (l1 : Int), .int .i64 (-1)] 28)
  have P3 := Lib.hid (HoldsD.new4 rfl : HoldsD (y3.alloc (.cells #[.bool false, .int .u64 (h1 : Int), .int .u64 (l1 : Int), .int .i64 (-1)] 28)) y3.heap.size false h1 l1 (-1))
  clear hb R3
  go_upto_region 7 with fail
  change Code.wp _ _ _ _ (y3.alloc (.cells #[.bool false, .int .u64 (h1 : Int), .int .u64 (l1 : Int), .int .i64 (-1)] 28))
  generalize y3.alloc (.cells #[.bool false, .int .u64 (h1 : Int), .int .u64 (l1 : Int), .int .i64 (-1)] 28) = V3 at *
  obtain ⟨g3, hg⟩ : ∃ g, g = y3.heap.size := ⟨_, rfl⟩
  rw [← hg] at P3 ⊢
  clear hg
  go_wp2_with fail
  refine (R4.out _ (HT.out.1.below B)).mono ?_
  rintro e y4 ⟨n4, h4, l4, x4, k4, NO, rfl, hb⟩
  obtain ⟨hw, rfl, rfl, e4, rfl⟩ := NO
  obtain ⟨rfl, rfl⟩ := nv_inj (ww1 HL.out) hw ((nv01 n).trans e4.symm)
  clear hw e4
  replace P1 := Lib.hid ((P1.out.below hb).alloc (.cells #[.bool false, .int .u64 0, .int .u64 (n : Int), .int .i64 1] 28))
  replace P2 := Lib.hid ((P2.out.below hb).alloc (.cells #[.bool false, .int .u64 0, .int .u64 (n : Int), .int .i64 1] 28))
  replace P3 := Lib.hid ((P3.out.below hb).alloc (.cells #[.bool false, .int .u64 0, .int .u64 (n : Int), .int .i64 1] 28))
  replace B := ballD1 (bstep B hb) (.cells #[.bool false, .int .u64 0, .int .u64 (n : Int), .int .i64 1] 28)
  have P4 := Lib.hid (HoldsD.new4 rfl : HoldsD (y4.alloc (.cells #[.bool false, .int .u64 0, .int .u64 (n : Int), .int .i64 1] 28)) y4.heap.size false 0 n 1)
  clear hb R4
  go_upto_region 8 with fail
  change Code.wp _ _ _ _ (y4.alloc (.cells #[.bool false, .int .u64 0, .int .u64 (n : Int), .int .i64 1] 28))
  generalize y4.alloc (.cells #[.bool false, .int .u64 0, .int .u64 (n : Int), .int .i64 1] 28) = V4 at *
  obtain ⟨g4, hg⟩ : ∃ g, g = y4.heap.size := ⟨_, rfl⟩
  rw [← hg] at P4 ⊢
  clear hg
  go_wp2_with fail
  refine (OF0.out _).mono ?_
  rintro e z1 ⟨rfl, hb⟩
  replace P1 := Lib.hid (P1.out.below hb)
  replace P2 := Lib.hid (P2.out.below hb)
  replace P3 := Lib.hid (P3.out.below hb)
  replace P4 := Lib.hid (P4.out.below hb)
  replace B := bstep B hb
  clear hb
  go_wp2_with fail
  refine (I10.out _).mono ?_
  rintro e z2 ⟨rfl, hb⟩
  replace P1 := Lib.hid (P1.out.below hb)
  replace P2 := Lib.hid (P2.out.below hb)
  replace P3 := Lib.hid (P3.out.below hb)
  replace P4 := Lib.hid (P4.out.below hb)
  replace B := bstep B hb
  clear hb I10
  go_wp2_with fail
  refine (ML.out _ (HT.out.1.below B)).mono ?_
  rintro e y5 ⟨n5, h5, l5, x5, k5, NO, rfl, hb⟩
  obtain ⟨hw, rfl, rfl, e5, rfl⟩ := NO
  obtain ⟨rfl, rfl⟩ := nv_inj HW.out.1 hw (HW.out.2.trans e5.symm)
  clear hw e5
  replace P1 := Lib.hid ((P1.out.below hb).alloc (.cells #[.bool false, .int .u64 (h1 : Int), .int .u64 (l1 : Int), .int .i64 0] 28))
  replace P2 := Lib.hid ((P2.out.below hb).alloc (.cells #[.bool false, .int .u64 (h1 : Int), .int .u64 (l1 : Int), .int .i64 0] 28))
  replace P3 := Lib.hid ((P3.out.below hb).alloc (.cells #[.bool false, .int .u64 (h1 : Int), .int .u64 (l1 : Int), .int .i64 0] 28))
  replace P4 := Lib.hid ((P4.out.below hb).alloc (.cells #[.bool false, .int .u64 (h1 : Int), .int .u64 (l1 : Int), .int .i64 0] 28))
  replace B := ballD1 (bstep B hb) (.cells #[.bool false, .int .u64 (h1 : Int), .int .u64 (l1 : Int), .int .i64 0] 28)
  have P5 := Lib.hid (HoldsD.new4 rfl : HoldsD (y5.alloc (.cells #[.bool false, .int .u64 (h1 : Int), .int .u64 (l1 : Int), .int .i64 0] 28)) y5.heap.size false h1 l1 0)
  clear hb ML
  go_upto_region 9 with fail
  change Code.wp _ _ _ _ (y5.alloc (.cells #[.bool false, .int .u64 (h1 : Int), .int .u64 (l1 : Int), .int .i64 0] 28))
  generalize y5.alloc (.cells #[.bool false, .int .u64 (h1 : Int), .int .u64 (l1 : Int), .int .i64 0] 28) = V5 at *
  obtain ⟨g5, hg⟩ : ∃ g, g = y5.heap.size := ⟨_, rfl⟩
  rw [← hg] at P5 ⊢
  clear hg
  refine wp_region_held_drew (S := fun w' => w'.cell? ⟨g1, 0, none⟩ = some (.bool false) ∧ w'.cell? ⟨g1, 1, none⟩ = some (.int .u64 (h1 : Int)) ∧ w'.cell? ⟨g1, 2, none⟩ = some (.int .u64 (l1 : Int)) ∧ w'.cell? ⟨g1, 3, none⟩ = some (.int .i64 0) ∧ w'.cell? ⟨g2, 0, none⟩ = some (.bool false) ∧ w'.cell? ⟨g2, 1, none⟩ = some (.int .u64 0) ∧ w'.cell? ⟨g2, 2, none⟩ = some (.int .u64 (n : Int)) ∧ w'.cell? ⟨g2, 3, none⟩ = some (.int .i64 0) ∧ w'.cell? ⟨g3, 0, none⟩ = some (.bool false) ∧ w'.cell? ⟨g3, 1, none⟩ = some (.int .u64 (h1 : Int)) ∧ w'.cell? ⟨g3, 2, none⟩ = some (.int .u64 (l1 : Int)) ∧ w'.cell? ⟨g3, 3, none⟩ = some (.int .i64 (-1)) ∧ w'.cell? ⟨g4, 0, none⟩ = some (.bool false) ∧ w'.cell? ⟨g4, 1, none⟩ = some (.int .u64 0) ∧ w'.cell? ⟨g4, 2, none⟩ = some (.int .u64 (n : Int)) ∧ w'.cell? ⟨g4, 3, none⟩ = some (.int .i64 1) ∧ w'.cell? ⟨g5, 0, none⟩ = some (.bool false) ∧ w'.cell? ⟨g5, 1, none⟩ = some (.int .u64 (h1 : Int)) ∧ w'.cell? ⟨g5, 2, none⟩ = some (.int .u64 (l1 : Int)) ∧ w'.cell? ⟨g5, 3, none⟩ = some (.int .i64 0) ∧ Below V5.heap.size V5 w') (by kernel_rfl) ?_ (fun hHeld => ?_)
  · exact ⟨keepCell2 P1.out.1.1 ((Below.refl _ _).drew), keepCell2 P1.out.1.2.1 ((Below.refl _ _).drew), keepCell2 P1.out.1.2.2.1 ((Below.refl _ _).drew), keepCell2 P1.out.1.2.2.2 ((Below.refl _ _).drew), keepCell2 P2.out.1.1 ((Below.refl _ _).drew), keepCell2 P2.out.1.2.1 ((Below.refl _ _).drew), keepCell2 P2.out.1.2.2.1 ((Below.refl _ _).drew), keepCell2 P2.out.1.2.2.2 ((Below.refl _ _).drew), keepCell2 P3.out.1.1 ((Below.refl _ _).drew), keepCell2 P3.out.1.2.1 ((Below.refl _ _).drew), keepCell2 P3.out.1.2.2.1 ((Below.refl _ _).drew), keepCell2 P3.out.1.2.2.2 ((Below.refl _ _).drew), keepCell2 P4.out.1.1 ((Below.refl _ _).drew), keepCell2 P4.out.1.2.1 ((Below.refl _ _).drew), keepCell2 P4.out.1.2.2.1 ((Below.refl _ _).drew), keepCell2 P4.out.1.2.2.2 ((Below.refl _ _).drew), keepCell2 P5.out.1.1 ((Below.refl _ _).drew), keepCell2 P5.out.1.2.1 ((Below.refl _ _).drew), keepCell2 P5.out.1.2.2.1 ((Below.refl _ _).drew), keepCell2 P5.out.1.2.2.2 ((Below.refl _ _).drew), (Below.refl _ _).drew⟩
  refine wpAnyH_take (i := 0) (oi := { dst := some 50, op := Go.Op.move (Go.Operand.tmp 5), type := 4, pos := "law.go:92", after := #[], guard := none }) (v := ?_) rfl (by kernel_rfl) (by kernel_rfl) (by kernel_rfl) (fun _ _ _ h => h) (Or.inl ⟨by rfl, ?_⟩) (by assumption) ?_
  rotate_left
  · intro w hSw
    try dsimp only at hSw
    go_simp
    try with_reducible rfl
  try simp only [Act.put, List.setIfInBounds_toArray, List.set_cons_zero, List.set_cons_succ]
  refine wpAnyH_take (i := 1) (oi := { dst := some 51, op := Go.Op.move (Go.Operand.tmp 50), type := 4, pos := "law.go:92", after := #[{ on := 0, ground := Go.Ground.data }], guard := none }) (v := ?_) rfl (by kernel_rfl) (by kernel_rfl) (by kernel_rfl) (fun _ _ _ h => h) (Or.inl ⟨by rfl, ?_⟩) (by assumption) ?_
  rotate_left
  · intro w hSw
    try dsimp only at hSw
    go_simp
    try with_reducible rfl
  try simp only [Act.put, List.setIfInBounds_toArray, List.set_cons_zero, List.set_cons_succ]
  refine wpAnyH_take (i := 2) (oi := { dst := some 52, op := Go.Op.move (Go.Operand.tmp 7), type := 4, pos := "law.go:92", after := #[{ on := 1, ground := Go.Ground.guard }], guard := some (1, true) }) (v := ?_) rfl (by kernel_rfl) (by kernel_rfl) (by kernel_rfl) (fun _ _ _ h => h) (Or.inl ⟨by rfl, ?_⟩) (by assumption) ?_
  rotate_left
  · intro w hSw
    try dsimp only at hSw
    go_simp
    try with_reducible rfl
  try simp only [Act.put, List.setIfInBounds_toArray, List.set_cons_zero, List.set_cons_succ]
  refine wpAnyH_take (i := 3) (oi := { dst := some 53, op := Go.Op.pick (Go.Operand.tmp 51) (Go.Operand.tmp 52) (Go.Operand.const (Go.Value.bool false)), type := 4, pos := "law.go:92", after := #[{ on := 1, ground := Go.Ground.data }, { on := 2, ground := Go.Ground.data }], guard := none }) (v := ?_) rfl (by kernel_rfl) (by kernel_rfl) (by kernel_rfl) (fun _ _ _ h => h) (Or.inl ⟨by rfl, ?_⟩) (by assumption) ?_
  rotate_left
  · intro w hSw
    try dsimp only at hSw
    go_simp
    try with_reducible rfl
  try simp only [Act.put, List.setIfInBounds_toArray, List.set_cons_zero, List.set_cons_succ]
  refine wpAnyH_take (i := 4) (oi := { dst := some 54, op := Go.Op.move (Go.Operand.tmp 53), type := 4, pos := "law.go:92", after := #[{ on := 3, ground := Go.Ground.data }, { on := 1, ground := Go.Ground.chain }], guard := none }) (v := ?_) rfl (by kernel_rfl) (by kernel_rfl) (by kernel_rfl) (fun _ _ _ h => h) (Or.inl ⟨by rfl, ?_⟩) (by assumption) ?_
  rotate_left
  · intro w hSw
    try dsimp only at hSw
    go_simp
    try with_reducible rfl
  try simp only [Act.put, List.setIfInBounds_toArray, List.set_cons_zero, List.set_cons_succ]
  refine wpAnyH_take (i := 5) (oi := { dst := some 55, op := Go.Op.move (Go.Operand.tmp 9), type := 4, pos := "law.go:92", after := #[{ on := 4, ground := Go.Ground.guard }], guard := some (4, true) }) (v := ?_) rfl (by kernel_rfl) (by kernel_rfl) (by kernel_rfl) (fun _ _ _ h => h) (Or.inl ⟨by rfl, ?_⟩) (by assumption) ?_
  rotate_left
  · intro w hSw
    try dsimp only at hSw
    go_simp
    try with_reducible rfl
  try simp only [Act.put, List.setIfInBounds_toArray, List.set_cons_zero, List.set_cons_succ]
  refine wpAnyH_take (i := 6) (oi := { dst := some 56, op := Go.Op.pick (Go.Operand.tmp 54) (Go.Operand.tmp 55) (Go.Operand.const (Go.Value.bool false)), type := 4, pos := "law.go:92", after := #[{ on := 4, ground := Go.Ground.data }, { on := 5, ground := Go.Ground.data }], guard := none }) (v := ?_) rfl (by kernel_rfl) (by kernel_rfl) (by kernel_rfl) (fun _ _ _ h => h) (Or.inl ⟨by rfl, ?_⟩) (by assumption) ?_
  rotate_left
  · intro w hSw
    try dsimp only at hSw
    go_simp
    try with_reducible rfl
  try simp only [Act.put, List.setIfInBounds_toArray, List.set_cons_zero, List.set_cons_succ]
  refine wpAnyH_take (i := 7) (oi := { dst := some 57, op := Go.Op.move (Go.Operand.tmp 56), type := 4, pos := "law.go:92", after := #[{ on := 6, ground := Go.Ground.data }, { on := 4, ground := Go.Ground.chain }], guard := none }) (v := ?_) rfl (by kernel_rfl) (by kernel_rfl) (by kernel_rfl) (fun _ _ _ h => h) (Or.inl ⟨by rfl, ?_⟩) (by assumption) ?_
  rotate_left
  · intro w hSw
    try dsimp only at hSw
    go_simp
    try with_reducible rfl
  try simp only [Act.put, List.setIfInBounds_toArray, List.set_cons_zero, List.set_cons_succ]
  refine wpAnyH_take (i := 8) (oi := { dst := some 58, op := Go.Op.move (Go.Operand.tmp 11), type := 4, pos := "law.go:92", after := #[{ on := 7, ground := Go.Ground.guard }], guard := some (7, true) }) (v := ?_) rfl (by kernel_rfl) (by kernel_rfl) (by kernel_rfl) (fun _ _ _ h => h) (Or.inl ⟨by rfl, ?_⟩) (by assumption) ?_
  rotate_left
  · intro w hSw
    try dsimp only at hSw
    go_simp
    try with_reducible rfl
  try simp only [Act.put, List.setIfInBounds_toArray, List.set_cons_zero, List.set_cons_succ]
  refine wpAnyH_take (i := 9) (oi := { dst := some 59, op := Go.Op.pick (Go.Operand.tmp 57) (Go.Operand.tmp 58) (Go.Operand.const (Go.Value.bool false)), type := 4, pos := "law.go:92", after := #[{ on := 7, ground := Go.Ground.data }, { on := 8, ground := Go.Ground.data }], guard := none }) (v := ?_) rfl (by kernel_rfl) (by kernel_rfl) (by kernel_rfl) (fun _ _ _ h => h) (Or.inl ⟨by rfl, ?_⟩) (by assumption) ?_
  rotate_left
  · intro w hSw
    try dsimp only at hSw
    go_simp
    try with_reducible rfl
  try simp only [Act.put, List.setIfInBounds_toArray, List.set_cons_zero, List.set_cons_succ]
  refine wpAnyH_take (i := 10) (oi := { dst := some 60, op := Go.Op.move (Go.Operand.tmp 59), type := 4, pos := "law.go:92", after := #[{ on := 9, ground := Go.Ground.data }, { on := 7, ground := Go.Ground.chain }], guard := none }) (v := ?_) rfl (by kernel_rfl) (by kernel_rfl) (by kernel_rfl) (fun _ _ _ h => h) (Or.inl ⟨by rfl, ?_⟩) (by assumption) ?_
  rotate_left
  · intro w hSw
    try dsimp only at hSw
    go_simp
    try with_reducible rfl
  try simp only [Act.put, List.setIfInBounds_toArray, List.set_cons_zero, List.set_cons_succ]
  refine wpAnyH_take (i := 11) (oi := { dst := some 61, op := Go.Op.move (Go.Operand.tmp 13), type := 4, pos := "law.go:92", after := #[{ on := 10, ground := Go.Ground.guard }], guard := some (10, true) }) (v := ?_) rfl (by kernel_rfl) (by kernel_rfl) (by kernel_rfl) (fun _ _ _ h => h) (Or.inl ⟨by rfl, ?_⟩) (by assumption) ?_
  rotate_left
  · intro w hSw
    try dsimp only at hSw
    go_simp
    try with_reducible rfl
  try simp only [Act.put, List.setIfInBounds_toArray, List.set_cons_zero, List.set_cons_succ]
  refine wpAnyH_take (i := 12) (oi := { dst := some 62, op := Go.Op.pick (Go.Operand.tmp 60) (Go.Operand.tmp 61) (Go.Operand.const (Go.Value.bool false)), type := 4, pos := "law.go:92", after := #[{ on := 10, ground := Go.Ground.data }, { on := 11, ground := Go.Ground.data }], guard := none }) (v := ?_) rfl (by kernel_rfl) (by kernel_rfl) (by kernel_rfl) (fun _ _ _ h => h) (Or.inl ⟨by rfl, ?_⟩) (by assumption) ?_
  rotate_left
  · intro w hSw
    try dsimp only at hSw
    go_simp
    try with_reducible rfl
  try simp only [Act.put, List.setIfInBounds_toArray, List.set_cons_zero, List.set_cons_succ]
  refine wpAnyH_take (i := 13) (oi := { dst := some 63, op := Go.Op.move (Go.Operand.tmp 62), type := 4, pos := "law.go:92", after := #[{ on := 12, ground := Go.Ground.data }, { on := 10, ground := Go.Ground.chain }], guard := none }) (v := ?_) rfl (by kernel_rfl) (by kernel_rfl) (by kernel_rfl) (fun _ _ _ h => h) (Or.inl ⟨by rfl, ?_⟩) (by assumption) ?_
  rotate_left
  · intro w hSw
    try dsimp only at hSw
    go_simp
    try with_reducible rfl
  try simp only [Act.put, List.setIfInBounds_toArray, List.set_cons_zero, List.set_cons_succ]
  refine wpAnyH_take (i := 14) (oi := { dst := some 64, op := Go.Op.load 28 (Go.Operand.tmp 4), type := 28, pos := "law.go:92", after := #[{ on := 13, ground := Go.Ground.guard }], guard := some (13, true) }) (v := ?_) rfl (by kernel_rfl) (by kernel_rfl) (by kernel_rfl) (fun _ _ _ h => h) (Or.inl ⟨by rfl, ?_⟩) (by assumption) ?_
  rotate_left
  · intro w hSw
    try dsimp only at hSw
    go_simp
    try with_reducible rfl
  try simp only [Act.put, List.setIfInBounds_toArray, List.set_cons_zero, List.set_cons_succ]
  refine wpAnyH_take (i := 15) (oi := { dst := some 65, op := Go.Op.load 28 (Go.Operand.tmp 12), type := 28, pos := "law.go:92", after := #[{ on := 13, ground := Go.Ground.guard }], guard := some (13, true) }) (v := ?_) rfl (by kernel_rfl) (by kernel_rfl) (by kernel_rfl) (fun _ _ _ h => h) (Or.inl ⟨by rfl, ?_⟩) (by assumption) ?_
  rotate_left
  · intro w hSw
    try dsimp only at hSw
    go_simp
    try with_reducible rfl
  try simp only [Act.put, List.setIfInBounds_toArray, List.set_cons_zero, List.set_cons_succ]
  refine wpAnyH_take (i := 16) (oi := { dst := some 66, op := Go.Op.binOp Go.BinOp.eql 28 (Go.Operand.tmp 64) (Go.Operand.tmp 65) 28, type := 4, pos := "law.go:92", after := #[{ on := 14, ground := Go.Ground.data }, { on := 15, ground := Go.Ground.data }, { on := 13, ground := Go.Ground.guard }], guard := some (13, true) }) (v := ?_) rfl (by kernel_rfl) (by kernel_rfl) (by kernel_rfl) (fun _ _ _ h => h) (Or.inl ⟨by rfl, ?_⟩) (by assumption) ?_
  rotate_left
  · intro w hSw
    try dsimp only at hSw
    go_simp
    try with_reducible rfl
  try simp only [Act.put, List.setIfInBounds_toArray, List.set_cons_zero, List.set_cons_succ]
  refine wpAnyH_take (i := 17) (oi := { dst := some 67, op := Go.Op.pick (Go.Operand.tmp 63) (Go.Operand.tmp 66) (Go.Operand.const (Go.Value.bool false)), type := 4, pos := "law.go:92", after := #[{ on := 13, ground := Go.Ground.data }, { on := 16, ground := Go.Ground.data }], guard := none }) (v := ?_) rfl (by kernel_rfl) (by kernel_rfl) (by kernel_rfl) (fun _ _ _ h => h) (Or.inl ⟨by rfl, ?_⟩) (by assumption) ?_
  rotate_left
  · intro w hSw
    try dsimp only at hSw
    go_simp
    try with_reducible rfl
  try simp only [Act.put, List.setIfInBounds_toArray, List.set_cons_zero, List.set_cons_succ]
  refine wpAnyH_take (i := 18) (oi := { dst := some 68, op := Go.Op.move (Go.Operand.tmp 67), type := 4, pos := "law.go:92", after := #[{ on := 17, ground := Go.Ground.data }, { on := 13, ground := Go.Ground.chain }], guard := none }) (v := ?_) rfl (by kernel_rfl) (by kernel_rfl) (by kernel_rfl) (fun _ _ _ h => h) (Or.inl ⟨by rfl, ?_⟩) (by assumption) ?_
  rotate_left
  · intro w hSw
    try dsimp only at hSw
    go_simp
    try with_reducible rfl
  try simp only [Act.put, List.setIfInBounds_toArray, List.set_cons_zero, List.set_cons_succ]
  refine wpAnyH_take (i := 19) (oi := { dst := some 69, op := Go.Op.load 28 (Go.Operand.tmp 6), type := 28, pos := "law.go:92", after := #[{ on := 18, ground := Go.Ground.guard }], guard := some (18, true) }) (v := ?_) rfl (by kernel_rfl) (by kernel_rfl) (by kernel_rfl) (fun _ _ _ h => h) (Or.inl ⟨by rfl, ?_⟩) (by assumption) ?_
  rotate_left
  · intro w hSw
    try dsimp only at hSw
    go_simp
    try with_reducible rfl
  try simp only [Act.put, List.setIfInBounds_toArray, List.set_cons_zero, List.set_cons_succ]
  refine wpAnyH_take (i := 20) (oi := { dst := some 70, op := Go.Op.move (Go.Operand.tmp 0), type := 22, pos := "law.go:92", after := #[{ on := 18, ground := Go.Ground.guard }], guard := some (18, true) }) (v := ?_) rfl (by kernel_rfl) (by kernel_rfl) (by kernel_rfl) (fun _ _ _ h => h) (Or.inl ⟨by rfl, ?_⟩) (by assumption) ?_
  rotate_left
  · intro w hSw
    try dsimp only at hSw
    go_simp
    try with_reducible rfl
  try simp only [Act.put, List.setIfInBounds_toArray, List.set_cons_zero, List.set_cons_succ]
  refine wpAnyH_ready (rs := [21]) (by kernel_rfl) (by simp) ?_
  refine AllReadyH.cons (o := { dst := some 71, op := Go.Op.call { callee := Go.Callee.value (Go.Operand.func 36), args := #[Go.Operand.tmp 70, Go.Operand.const (Go.Value.int Go.IntKind.i64 0)], argTypes := #[22, 3] }, type := 28, pos := "law.go:92", after := #[{ on := 20, ground := Go.Ground.data }, { on := 18, ground := Go.Ground.chain }, { on := 18, ground := Go.Ground.guard }], guard := some (18, true) }) rfl (fun K hK => ?_) AllReadyH.nil
  go_simp
  refine (OF0.out _).mono ?_
  rintro e v0 ⟨rfl, hbv0⟩
  have HBx := Lib.hid (bstep hHeld.2.2.2.2.2.2.2.2.2.2.2.2.2.2.2.2.2.2.2.2 hbv0)
  clear hHeld hbv0
  refine hK.out _ _ ?_ (fun hHeld => ?_)
  · exact ⟨keepCell2 P1.out.1.1 (HBx.out), keepCell2 P1.out.1.2.1 (HBx.out), keepCell2 P1.out.1.2.2.1 (HBx.out), keepCell2 P1.out.1.2.2.2 (HBx.out), keepCell2 P2.out.1.1 (HBx.out), keepCell2 P2.out.1.2.1 (HBx.out), keepCell2 P2.out.1.2.2.1 (HBx.out), keepCell2 P2.out.1.2.2.2 (HBx.out), keepCell2 P3.out.1.1 (HBx.out), keepCell2 P3.out.1.2.1 (HBx.out), keepCell2 P3.out.1.2.2.1 (HBx.out), keepCell2 P3.out.1.2.2.2 (HBx.out), keepCell2 P4.out.1.1 (HBx.out), keepCell2 P4.out.1.2.1 (HBx.out), keepCell2 P4.out.1.2.2.1 (HBx.out), keepCell2 P4.out.1.2.2.2 (HBx.out), keepCell2 P5.out.1.1 (HBx.out), keepCell2 P5.out.1.2.1 (HBx.out), keepCell2 P5.out.1.2.2.1 (HBx.out), keepCell2 P5.out.1.2.2.2 (HBx.out), HBx.out⟩
  clear hK K HBx
  try simp only [Act.put, List.setIfInBounds_toArray, List.set_cons_zero, List.set_cons_succ]
  refine wpAnyH_take (i := 22) (oi := { dst := some 72, op := Go.Op.binOp Go.BinOp.eql 28 (Go.Operand.tmp 69) (Go.Operand.tmp 71) 28, type := 4, pos := "law.go:92", after := #[{ on := 19, ground := Go.Ground.data }, { on := 21, ground := Go.Ground.data }, { on := 18, ground := Go.Ground.guard }], guard := some (18, true) }) (v := ?_) rfl (by kernel_rfl) (by kernel_rfl) (by kernel_rfl) (fun _ _ _ h => h) (Or.inl ⟨by rfl, ?_⟩) (by assumption) ?_
  rotate_left
  · intro w hSw
    try dsimp only at hSw
    go_simp
    try with_reducible rfl
  try simp only [Act.put, List.setIfInBounds_toArray, List.set_cons_zero, List.set_cons_succ]
  refine wpAnyH_take (i := 23) (oi := { dst := some 73, op := Go.Op.pick (Go.Operand.tmp 68) (Go.Operand.tmp 72) (Go.Operand.const (Go.Value.bool false)), type := 4, pos := "law.go:92", after := #[{ on := 18, ground := Go.Ground.data }, { on := 22, ground := Go.Ground.data }], guard := none }) (v := ?_) rfl (by kernel_rfl) (by kernel_rfl) (by kernel_rfl) (fun _ _ _ h => h) (Or.inl ⟨by rfl, ?_⟩) (by assumption) ?_
  rotate_left
  · intro w hSw
    try dsimp only at hSw
    go_simp
    try with_reducible rfl
  try simp only [Act.put, List.setIfInBounds_toArray, List.set_cons_zero, List.set_cons_succ]
  refine wpAnyH_take (i := 24) (oi := { dst := some 74, op := Go.Op.move (Go.Operand.tmp 73), type := 4, pos := "law.go:92", after := #[{ on := 23, ground := Go.Ground.data }, { on := 21, ground := Go.Ground.chain }], guard := none }) (v := ?_) rfl (by kernel_rfl) (by kernel_rfl) (by kernel_rfl) (fun _ _ _ h => h) (Or.inl ⟨by rfl, ?_⟩) (by assumption) ?_
  rotate_left
  · intro w hSw
    try dsimp only at hSw
    go_simp
    try with_reducible rfl
  try simp only [Act.put, List.setIfInBounds_toArray, List.set_cons_zero, List.set_cons_succ]
  refine wpAnyH_take (i := 25) (oi := { dst := some 75, op := Go.Op.load 28 (Go.Operand.tmp 8), type := 28, pos := "law.go:92", after := #[{ on := 24, ground := Go.Ground.guard }], guard := some (24, true) }) (v := ?_) rfl (by kernel_rfl) (by kernel_rfl) (by kernel_rfl) (fun _ _ _ h => h) (Or.inl ⟨by rfl, ?_⟩) (by assumption) ?_
  rotate_left
  · intro w hSw
    try dsimp only at hSw
    go_simp
    try with_reducible rfl
  try simp only [Act.put, List.setIfInBounds_toArray, List.set_cons_zero, List.set_cons_succ]
  refine wpAnyH_take (i := 26) (oi := { dst := some 76, op := Go.Op.load 28 (Go.Operand.tmp 6), type := 28, pos := "law.go:92", after := #[{ on := 24, ground := Go.Ground.guard }], guard := some (24, true) }) (v := ?_) rfl (by kernel_rfl) (by kernel_rfl) (by kernel_rfl) (fun _ _ _ h => h) (Or.inl ⟨by rfl, ?_⟩) (by assumption) ?_
  rotate_left
  · intro w hSw
    try dsimp only at hSw
    go_simp
    try with_reducible rfl
  try simp only [Act.put, List.setIfInBounds_toArray, List.set_cons_zero, List.set_cons_succ]
  refine wpAnyH_ready (rs := [27]) (by kernel_rfl) (by simp) ?_
  refine AllReadyH.cons (o := { dst := some 77, op := Go.Op.call { callee := Go.Callee.value (Go.Operand.func 38), args := #[Go.Operand.tmp 75, Go.Operand.tmp 76], argTypes := #[28, 28] }, type := 3, pos := "law.go:92", after := #[{ on := 25, ground := Go.Ground.data }, { on := 26, ground := Go.Ground.data }, { on := 24, ground := Go.Ground.chain }, { on := 24, ground := Go.Ground.guard }], guard := some (24, true) }) rfl (fun K hK => ?_) AllReadyH.nil
  go_simp
  refine (CM.out _ (HT.out.1.below (bstep B hHeld.2.2.2.2.2.2.2.2.2.2.2.2.2.2.2.2.2.2.2.2))).mono ?_
  rintro e v1 ⟨rfl, hbv1⟩
  have HBx := Lib.hid (bstep hHeld.2.2.2.2.2.2.2.2.2.2.2.2.2.2.2.2.2.2.2.2 hbv1)
  clear hHeld hbv1
  refine hK.out _ _ ?_ (fun hHeld => ?_)
  · exact ⟨keepCell2 P1.out.1.1 (HBx.out), keepCell2 P1.out.1.2.1 (HBx.out), keepCell2 P1.out.1.2.2.1 (HBx.out), keepCell2 P1.out.1.2.2.2 (HBx.out), keepCell2 P2.out.1.1 (HBx.out), keepCell2 P2.out.1.2.1 (HBx.out), keepCell2 P2.out.1.2.2.1 (HBx.out), keepCell2 P2.out.1.2.2.2 (HBx.out), keepCell2 P3.out.1.1 (HBx.out), keepCell2 P3.out.1.2.1 (HBx.out), keepCell2 P3.out.1.2.2.1 (HBx.out), keepCell2 P3.out.1.2.2.2 (HBx.out), keepCell2 P4.out.1.1 (HBx.out), keepCell2 P4.out.1.2.1 (HBx.out), keepCell2 P4.out.1.2.2.1 (HBx.out), keepCell2 P4.out.1.2.2.2 (HBx.out), keepCell2 P5.out.1.1 (HBx.out), keepCell2 P5.out.1.2.1 (HBx.out), keepCell2 P5.out.1.2.2.1 (HBx.out), keepCell2 P5.out.1.2.2.2 (HBx.out), HBx.out⟩
  clear hK K HBx
  try simp only [Act.put, List.setIfInBounds_toArray, List.set_cons_zero, List.set_cons_succ]
  refine wpAnyH_take (i := 28) (oi := { dst := some 78, op := Go.Op.binOp Go.BinOp.eql 3 (Go.Operand.tmp 77) (Go.Operand.const (Go.Value.int Go.IntKind.i64 0)) 3, type := 4, pos := "law.go:92", after := #[{ on := 27, ground := Go.Ground.data }, { on := 24, ground := Go.Ground.guard }], guard := some (24, true) }) (v := ?_) rfl (by kernel_rfl) (by kernel_rfl) (by kernel_rfl) (fun _ _ _ h => h) (Or.inl ⟨by rfl, ?_⟩) (by assumption) ?_
  rotate_left
  · intro w hSw
    try dsimp only at hSw
    go_simp
    try with_reducible rfl
  try simp only [Act.put, List.setIfInBounds_toArray, List.set_cons_zero, List.set_cons_succ]
  refine wpAnyH_take (i := 29) (oi := { dst := some 79, op := Go.Op.pick (Go.Operand.tmp 74) (Go.Operand.tmp 78) (Go.Operand.const (Go.Value.bool false)), type := 4, pos := "law.go:92", after := #[{ on := 24, ground := Go.Ground.data }, { on := 28, ground := Go.Ground.data }], guard := none }) (v := ?_) rfl (by kernel_rfl) (by kernel_rfl) (by kernel_rfl) (fun _ _ _ h => h) (Or.inl ⟨by rfl, ?_⟩) (by assumption) ?_
  rotate_left
  · intro w hSw
    try dsimp only at hSw
    go_simp
    try with_reducible rfl
  try simp only [Act.put, List.setIfInBounds_toArray, List.set_cons_zero, List.set_cons_succ]
  refine wpAnyH_take (i := 30) (oi := { dst := some 80, op := Go.Op.move (Go.Operand.tmp 79), type := 4, pos := "law.go:92", after := #[{ on := 29, ground := Go.Ground.data }, { on := 27, ground := Go.Ground.chain }], guard := none }) (v := ?_) rfl (by kernel_rfl) (by kernel_rfl) (by kernel_rfl) (fun _ _ _ h => h) (Or.inl ⟨by rfl, ?_⟩) (by assumption) ?_
  rotate_left
  · intro w hSw
    try dsimp only at hSw
    go_simp
    try with_reducible rfl
  try simp only [Act.put, List.setIfInBounds_toArray, List.set_cons_zero, List.set_cons_succ]
  refine wpAnyH_take (i := 31) (oi := { dst := some 81, op := Go.Op.fieldAddr 28 (Go.Operand.tmp 8) 2, type := 0, pos := "law.go:92", after := #[{ on := 30, ground := Go.Ground.guard }], guard := some (30, true) }) (v := ?_) rfl (by kernel_rfl) (by kernel_rfl) (by kernel_rfl) (fun _ _ _ h => h) (Or.inl ⟨by rfl, ?_⟩) (by assumption) ?_
  rotate_left
  · intro w hSw
    try dsimp only at hSw
    go_simp
    try with_reducible rfl
  try simp only [Act.put, List.setIfInBounds_toArray, List.set_cons_zero, List.set_cons_succ]
  refine wpAnyH_take (i := 32) (oi := { dst := some 82, op := Go.Op.load 3 (Go.Operand.tmp 81), type := 3, pos := "law.go:92", after := #[{ on := 31, ground := Go.Ground.data }, { on := 30, ground := Go.Ground.guard }], guard := some (30, true) }) (v := ?_) rfl (by kernel_rfl) (by kernel_rfl) (by kernel_rfl) (fun _ _ _ h => h) (Or.inl ⟨by rfl, ?_⟩) (by assumption) ?_
  rotate_left
  · intro w hSw
    try dsimp only at hSw
    go_simp
    try with_reducible rfl
  try simp only [Act.put, List.setIfInBounds_toArray, List.set_cons_zero, List.set_cons_succ]
  refine wpAnyH_take (i := 33) (oi := { dst := some 83, op := Go.Op.binOp Go.BinOp.eql 3 (Go.Operand.tmp 82) (Go.Operand.const (Go.Value.int Go.IntKind.i64 (-1))) 3, type := 4, pos := "law.go:92", after := #[{ on := 32, ground := Go.Ground.data }, { on := 30, ground := Go.Ground.guard }], guard := some (30, true) }) (v := ?_) rfl (by kernel_rfl) (by kernel_rfl) (by kernel_rfl) (fun _ _ _ h => h) (Or.inl ⟨by rfl, ?_⟩) (by assumption) ?_
  rotate_left
  · intro w hSw
    try dsimp only at hSw
    go_simp
    try with_reducible rfl
  try simp only [Act.put, List.setIfInBounds_toArray, List.set_cons_zero, List.set_cons_succ]
  refine wpAnyH_take (i := 34) (oi := { dst := some 84, op := Go.Op.pick (Go.Operand.tmp 80) (Go.Operand.tmp 83) (Go.Operand.const (Go.Value.bool false)), type := 4, pos := "law.go:92", after := #[{ on := 30, ground := Go.Ground.data }, { on := 33, ground := Go.Ground.data }], guard := none }) (v := ?_) rfl (by kernel_rfl) (by kernel_rfl) (by kernel_rfl) (fun _ _ _ h => h) (Or.inl ⟨by rfl, ?_⟩) (by assumption) ?_
  rotate_left
  · intro w hSw
    try dsimp only at hSw
    go_simp
    try with_reducible rfl
  try simp only [Act.put, List.setIfInBounds_toArray, List.set_cons_zero, List.set_cons_succ]
  refine wpAnyH_take (i := 35) (oi := { dst := some 85, op := Go.Op.move (Go.Operand.tmp 84), type := 4, pos := "law.go:92", after := #[{ on := 34, ground := Go.Ground.data }, { on := 30, ground := Go.Ground.chain }], guard := none }) (v := ?_) rfl (by kernel_rfl) (by kernel_rfl) (by kernel_rfl) (fun _ _ _ h => h) (Or.inl ⟨by rfl, ?_⟩) (by assumption) ?_
  rotate_left
  · intro w hSw
    try dsimp only at hSw
    go_simp
    try with_reducible rfl
  try simp only [Act.put, List.setIfInBounds_toArray, List.set_cons_zero, List.set_cons_succ]
  refine wpAnyH_take (i := 36) (oi := { dst := some 86, op := Go.Op.load 28 (Go.Operand.tmp 10), type := 28, pos := "law.go:92", after := #[{ on := 35, ground := Go.Ground.guard }], guard := some (35, true) }) (v := ?_) rfl (by kernel_rfl) (by kernel_rfl) (by kernel_rfl) (fun _ _ _ h => h) (Or.inl ⟨by rfl, ?_⟩) (by assumption) ?_
  rotate_left
  · intro w hSw
    try dsimp only at hSw
    go_simp
    try with_reducible rfl
  try simp only [Act.put, List.setIfInBounds_toArray, List.set_cons_zero, List.set_cons_succ]
  refine wpAnyH_take (i := 37) (oi := { dst := some 87, op := Go.Op.move (Go.Operand.tmp 0), type := 22, pos := "law.go:92", after := #[{ on := 35, ground := Go.Ground.guard }], guard := some (35, true) }) (v := ?_) rfl (by kernel_rfl) (by kernel_rfl) (by kernel_rfl) (fun _ _ _ h => h) (Or.inl ⟨by rfl, ?_⟩) (by assumption) ?_
  rotate_left
  · intro w hSw
    try dsimp only at hSw
    go_simp
    try with_reducible rfl
  try simp only [Act.put, List.setIfInBounds_toArray, List.set_cons_zero, List.set_cons_succ]
  refine wpAnyH_ready (rs := [38]) (by kernel_rfl) (by simp) ?_
  refine AllReadyH.cons (o := { dst := some 88, op := Go.Op.call { callee := Go.Callee.value (Go.Operand.func 36), args := #[Go.Operand.tmp 87, Go.Operand.const (Go.Value.int Go.IntKind.i64 1)], argTypes := #[22, 3] }, type := 28, pos := "law.go:92", after := #[{ on := 37, ground := Go.Ground.data }, { on := 35, ground := Go.Ground.chain }, { on := 35, ground := Go.Ground.guard }], guard := some (35, true) }) rfl (fun K hK => ?_) AllReadyH.nil
  go_simp
  refine (OF1.out _).mono ?_
  rintro e v2 ⟨rfl, hbv2⟩
  have HBx := Lib.hid (bstep hHeld.2.2.2.2.2.2.2.2.2.2.2.2.2.2.2.2.2.2.2.2 hbv2)
  clear hHeld hbv2
  refine hK.out _ _ ?_ (fun hHeld => ?_)
  · exact ⟨keepCell2 P1.out.1.1 (HBx.out), keepCell2 P1.out.1.2.1 (HBx.out), keepCell2 P1.out.1.2.2.1 (HBx.out), keepCell2 P1.out.1.2.2.2 (HBx.out), keepCell2 P2.out.1.1 (HBx.out), keepCell2 P2.out.1.2.1 (HBx.out), keepCell2 P2.out.1.2.2.1 (HBx.out), keepCell2 P2.out.1.2.2.2 (HBx.out), keepCell2 P3.out.1.1 (HBx.out), keepCell2 P3.out.1.2.1 (HBx.out), keepCell2 P3.out.1.2.2.1 (HBx.out), keepCell2 P3.out.1.2.2.2 (HBx.out), keepCell2 P4.out.1.1 (HBx.out), keepCell2 P4.out.1.2.1 (HBx.out), keepCell2 P4.out.1.2.2.1 (HBx.out), keepCell2 P4.out.1.2.2.2 (HBx.out), keepCell2 P5.out.1.1 (HBx.out), keepCell2 P5.out.1.2.1 (HBx.out), keepCell2 P5.out.1.2.2.1 (HBx.out), keepCell2 P5.out.1.2.2.2 (HBx.out), HBx.out⟩
  clear hK K HBx
  try simp only [Act.put, List.setIfInBounds_toArray, List.set_cons_zero, List.set_cons_succ]
  refine wpAnyH_take (i := 39) (oi := { dst := some 89, op := Go.Op.binOp Go.BinOp.eql 28 (Go.Operand.tmp 86) (Go.Operand.tmp 88) 28, type := 4, pos := "law.go:92", after := #[{ on := 36, ground := Go.Ground.data }, { on := 38, ground := Go.Ground.data }, { on := 35, ground := Go.Ground.guard }], guard := some (35, true) }) (v := ?_) rfl (by kernel_rfl) (by kernel_rfl) (by kernel_rfl) (fun _ _ _ h => h) (Or.inl ⟨by rfl, ?_⟩) (by assumption) ?_
  rotate_left
  · intro w hSw
    try dsimp only at hSw
    go_simp
    try with_reducible rfl
  try simp only [Act.put, List.setIfInBounds_toArray, List.set_cons_zero, List.set_cons_succ]
  refine wpAnyH_take (i := 40) (oi := { dst := some 90, op := Go.Op.pick (Go.Operand.tmp 85) (Go.Operand.tmp 89) (Go.Operand.const (Go.Value.bool false)), type := 4, pos := "law.go:92", after := #[{ on := 35, ground := Go.Ground.data }, { on := 39, ground := Go.Ground.data }], guard := none }) (v := ?_) rfl (by kernel_rfl) (by kernel_rfl) (by kernel_rfl) (fun _ _ _ h => h) (Or.inl ⟨by rfl, ?_⟩) (by assumption) ?_
  rotate_left
  · intro w hSw
    try dsimp only at hSw
    go_simp
    try with_reducible rfl
  try simp only [Act.put, List.setIfInBounds_toArray, List.set_cons_zero, List.set_cons_succ]
  refine wpAnyH_take (i := 41) (oi := { dst := some 2, op := Go.Op.assign (Go.Operand.tmp 90), type := 4, pos := "law.go:92", after := #[{ on := 40, ground := Go.Ground.data }, { on := 38, ground := Go.Ground.chain }, { on := 0, ground := Go.Ground.phase }, { on := 1, ground := Go.Ground.phase }, { on := 2, ground := Go.Ground.phase }, { on := 3, ground := Go.Ground.phase }, { on := 4, ground := Go.Ground.phase }, { on := 5, ground := Go.Ground.phase }, { on := 6, ground := Go.Ground.phase }, { on := 7, ground := Go.Ground.phase }, { on := 8, ground := Go.Ground.phase }, { on := 9, ground := Go.Ground.phase }, { on := 10, ground := Go.Ground.phase }, { on := 11, ground := Go.Ground.phase }, { on := 12, ground := Go.Ground.phase }, { on := 13, ground := Go.Ground.phase }, { on := 14, ground := Go.Ground.phase }, { on := 15, ground := Go.Ground.phase }, { on := 16, ground := Go.Ground.phase }, { on := 17, ground := Go.Ground.phase }, { on := 18, ground := Go.Ground.phase }, { on := 19, ground := Go.Ground.phase }, { on := 20, ground := Go.Ground.phase }, { on := 21, ground := Go.Ground.phase }, { on := 22, ground := Go.Ground.phase }, { on := 23, ground := Go.Ground.phase }, { on := 24, ground := Go.Ground.phase }, { on := 25, ground := Go.Ground.phase }, { on := 26, ground := Go.Ground.phase }, { on := 27, ground := Go.Ground.phase }, { on := 28, ground := Go.Ground.phase }, { on := 29, ground := Go.Ground.phase }, { on := 30, ground := Go.Ground.phase }, { on := 31, ground := Go.Ground.phase }, { on := 32, ground := Go.Ground.phase }, { on := 33, ground := Go.Ground.phase }, { on := 34, ground := Go.Ground.phase }, { on := 35, ground := Go.Ground.phase }, { on := 36, ground := Go.Ground.phase }, { on := 37, ground := Go.Ground.phase }, { on := 38, ground := Go.Ground.phase }, { on := 39, ground := Go.Ground.phase }, { on := 40, ground := Go.Ground.phase }], guard := none }) (v := ?_) rfl (by kernel_rfl) (by kernel_rfl) (by kernel_rfl) (fun _ _ _ h => h) (Or.inl ⟨by rfl, ?_⟩) (by assumption) ?_
  rotate_left
  · intro w hSw
    try dsimp only at hSw
    go_simp
    try with_reducible rfl
  try simp only [Act.put, List.setIfInBounds_toArray, List.set_cons_zero, List.set_cons_succ]
  refine wpAnyH_done (by kernel_rfl) ?_ _
  go_wp2
  go_ret
  exact ⟨rfl, bstep B hHeld.2.2.2.2.2.2.2.2.2.2.2.2.2.2.2.2.2.2.2.2⟩
theorem numeralShifts_walkI (AW : Aw5C) (m : Int) (h1 : 0 ≤ m) (h2 : m ≤ 18446744073709551615) (w : World) (ht : Tab w) (ht2 : Tab2 w) :
    Calls Tryd.prog 9 #[.int .u64 m] w (RetB true w) := by
  obtain ⟨n, rfl⟩ := Int.eq_ofNat_of_zero_le h1
  exact numeralShifts_walk AW n (by omega) w ht ht2
end Go.Proofs.YtmelblnfjcbmjaaDoor

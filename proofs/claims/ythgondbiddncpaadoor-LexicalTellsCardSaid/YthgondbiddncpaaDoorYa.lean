/-
  Package lexical: days, times, moments and durations as texts, each as a contract of its call.
-/
import Derived.Test.YthgondbiddncpaaDoorY0
import Derived.Test.YthgondbiddncpaaDoorMb
namespace Go.Proofs.YthgondbiddncpaaDoor
open Go.RowKit

/-- A number's text. -/
def itS (x : Int) : ByteArray := ⟨(Lib.itoa x).toArray⟩
theorem itoa_len {x : Int} (h : I64 x) : (Lib.itoa x).length ≤ 35 := by
  obtain ⟨h1, h2⟩ := h
  unfold Lib.itoa
  split
  · have := dec_len (c := x.natAbs) (Nat.lt_of_le_of_lt (show x.natAbs ≤ 9223372036854775808 by omega) (by decide))
    rw [List.length_cons]; omega
  · have := dec_len (c := x.toNat) (Nat.lt_of_le_of_lt (show x.toNat ≤ 9223372036854775808 by omega) (by decide))
    omega
theorem it_size {x : Int} (h : I64 x) : (itS x).size ≤ 35 := by unfold itS; rw [size_list]; exact itoa_len h
theorem itoaP (x : Int) (h : I64 x) (w : World) (ht : Tab2 w) : Calls Tryd.prog 59 #[.int .i64 x] w (Ret (.string (itS x)) w) :=
  (Tryd.strconv_Itoa x h.1 h.2 w ht).mono fun e w' H => ⟨H.1, by obtain ⟨_, k, os, q⟩ := H; exact below_grow q⟩
theorem repP (c : Nat) (hc : c ≤ 1000) (w : World) : Calls Tryd.prog 60 #[.string ⟨#[48]⟩, .int .i64 (c : Int)] w (Ret (.string ⟨(List.replicate c 48).toArray⟩) w) :=
  (Tryd.strings_Repeat ⟨#[48]⟩ c w (by omega) (by show 1 * c ≤ _; omega)).mono fun e w' H => ⟨by rw [H.1]; show Ending.returned (.string ⟨(Lib.repeatL [48] c).toArray⟩) = _; rw [repeat48], H.2⟩

/-- A number's digits, with noughts ahead up to k. -/
def padL (x : Int) (k : Nat) : List UInt8 := List.replicate (k - (Lib.itoa x).length) 48 ++ Lib.itoa x
def padS (x : Int) (k : Nat) : ByteArray := ⟨(padL x k).toArray⟩
theorem pad_size {x : Int} {k : Nat} (h : I64 x) (hk : k ≤ 65) : (padS x k).size ≤ 100 := by
  have := itoa_len h
  unfold padS padL
  rw [size_list, List.length_append, List.length_replicate]
  omega
set_option linter.unusedSimpArgs false in
set_option linter.unusedVariables false in
set_option maxRecDepth 100000 in
set_option maxHeartbeats 4000000 in
theorem padded_any (x : Int) (h : I64 x) (k : Nat) (ki : Int) (hk : ki = (k : Int)) (k6 : k ≤ 65) (w : World) (ht : Tab2 w) : Calls Tryd.prog 33 #[.int .i64 x, .int .i64 ki] w (Ret (.string (padS x k)) w) := by
  have HT := Lib.hid ht
  obtain ⟨D, hD⟩ : ∃ D, D = itS x := ⟨_, rfl⟩
  have IT := Lib.hid (show ∀ w, Tab2 w → Calls Tryd.prog 59 #[.int .i64 x] w (Ret (.string D) w) from fun w a => by rw [hD]; exact itoaP x h w a)
  have sD : D.size ≤ 35 := by rw [hD]; exact it_size h
  obtain ⟨c, hc⟩ : ∃ c : Nat, c = k - D.size := ⟨_, rfl⟩
  obtain ⟨R, hR⟩ : ∃ R : ByteArray, R = ⟨(List.replicate c 48).toArray⟩ := ⟨_, rfl⟩
  have sR : R.size ≤ 65 := by rw [hR, size_list, List.length_replicate]; omega
  have RES := Lib.hid (show R ++ D = padS x k from by
    rw [hR, hD]
    unfold itS padS padL
    rw [str_append, hc, hD]
    unfold itS
    rw [size_list])
  have RP0 := repP c (by omega)
  rw [← hR] at RP0
  obtain ⟨ci, hci⟩ : ∃ i : Int, i = (c : Int) := ⟨_, rfl⟩
  rw [← hci] at RP0
  have RP := Lib.hid RP0
  obtain ⟨k2, hk2⟩ : ∃ i : Int, i = ki - (D.size : Int) := ⟨_, rfl⟩
  have e2 : wrap64 (ki - (D.size : Int)) = k2 := by unfold wrap64; omega
  have e2' : IntKind.i64.wrap (ki - (D.size : Int)) = k2 := by rw [IntKind.wrap_i64]; omega
  have e3 : max 0 k2 = ci := by omega
  have e4 : max k2 0 = ci := by omega
  clear RP0 ht h hc hci hk2 hR hD hk k6
  go_enter Tryd.func33, Tryd.ntmps33
  go_wp2_with fail
  refine (IT.out _ (HT.out.below (by go_grown))).mono ?_
  rintro e w1 ⟨rfl, hb⟩
  have B : Below w.heap.size w w1 := bstep (by go_grown) hb
  clear hb IT
  go_wp2_with fail
  refine (RP.out _).mono ?_
  rintro e w2 ⟨rfl, hb⟩
  replace B := bstep B hb
  clear hb RP
  go_wp2
  go_ret
  exact ⟨congrArg (fun z => Ending.returned (.string z)) RES.out, B⟩

/-- A number's sign, if it is below 0, and its size. -/
def sgS (x : Int) : ByteArray := if x < 0 then ⟨#[45]⟩ else ⟨#[]⟩
def absI (x : Int) : Int := if x < 0 then -x else x
theorem sg_size (x : Int) : (sgS x).size ≤ 1 := by unfold sgS; split <;> decide
theorem abs_nonneg (x : Int) : 0 ≤ absI x := by unfold absI; split <;> omega
theorem abs_le {x m : Int} (h1 : -m ≤ x) (h2 : x ≤ m) : absI x ≤ m := by unfold absI; split <;> omega
set_option linter.unusedSimpArgs false in
set_option linter.unusedVariables false in
set_option maxRecDepth 100000 in
set_option maxHeartbeats 4000000 in
theorem split_any (x : Int) (h1 : -9223372036854775807 ≤ x) (h2 : x ≤ 9223372036854775807) (w : World) : Calls Tryd.prog 32 #[.int .i64 x] w (Ret (.tuple #[.string (sgS x), .int .i64 (absI x)]) w) := by
  unfold sgS absI
  by_cases k : x < 0
  · rw [if_pos k, if_pos k]
    have t1 : decide (x < 0) = true := decide_eq_true k
    have e1 : wrap64 (-x) = -x := by unfold wrap64; omega
    have e2 : IntKind.i64.wrap (-x) = -x := by rw [IntKind.wrap_i64]; omega
    clear k h1 h2
    go_enter Tryd.func32, Tryd.ntmps32
    go_wp2
    refine ret_via (v := .tuple #[.string ⟨#[45]⟩, .int .i64 (-x)]) (fun _ => True) (fun VF _ => ?_) trivial rfl ⟨rfl, by go_grown⟩
    simp [results, Tryd.results32, go_sem, *]
  · rw [if_neg k, if_neg k]
    have t1 : decide (x < 0) = false := decide_eq_false k
    clear k h1 h2
    go_enter Tryd.func32, Tryd.ntmps32
    go_wp2
    refine ret_via (v := .tuple #[.string ⟨#[]⟩, .int .i64 x]) (fun _ => True) (fun VF _ => ?_) trivial rfl ⟨rfl, by go_grown⟩
    simp [results, Tryd.results32, go_sem, *]

/-- Hours and minutes; what is left beside the minutes. -/
def minS (n : Int) : ByteArray := padS (n / 3600) 2 ++ { data := #[58] } ++ padS (n % 3600 / 60) 2
def secS (n : Int) : ByteArray := { data := #[58] } ++ padS (n % 60) 2
theorem min_size {n : Int} (h1 : 0 ≤ n) (h2 : n ≤ 9007199254740992) : (minS n).size ≤ 210 := size_le (a := 110) (b := 100) (size_le (a := 100) (b := 1) (pad_size (by unfold I64; omega) (by decide)) (by decide) (by decide)) (pad_size (by unfold I64; omega) (by decide)) (by decide)
theorem sec_size (n : Int) : (secS n).size ≤ 110 := size_le (a := 1) (b := 100) (by decide) (pad_size (by unfold I64; omega) (by decide)) (by decide)
set_option linter.unusedSimpArgs false in
set_option linter.unusedVariables false in
set_option maxRecDepth 100000 in
set_option maxHeartbeats 4000000 in
theorem minutesOf_any (n : Int) (h1 : 0 ≤ n) (h2 : n ≤ 9007199254740992) (w : World) (ht : Tab2 w) : Calls Tryd.prog 35 #[.int .i64 n] w (Ret (.string (minS n)) w) := by
  obtain ⟨A, hA⟩ : ∃ zz : ByteArray, zz = padS (n / 3600) 2 := ⟨_, rfl⟩
  have sA : A.size ≤ 100 := by rw [hA]; exact pad_size (by unfold I64; omega) (by decide)
  obtain ⟨C, hC⟩ : ∃ zz : ByteArray, zz = padS (n % 3600 / 60) 2 := ⟨_, rfl⟩
  have sC : C.size ≤ 100 := by rw [hC]; exact pad_size (by unfold I64; omega) (by decide)
  have CA := Lib.hid (show ∀ w, Tab2 w → Calls Tryd.prog 33 #[.int .i64 (n / 3600), .int .i64 2] w (Ret (.string A) w) from fun w a => by rw [hA]; exact padded_any (n / 3600) (by unfold I64; omega) 2 2 rfl (by decide) w a)
  have CC := Lib.hid (show ∀ w, Tab2 w → Calls Tryd.prog 33 #[.int .i64 (n % 3600 / 60), .int .i64 2] w (Ret (.string C) w) from fun w a => by rw [hC]; exact padded_any (n % 3600 / 60) (by unfold I64; omega) 2 2 rfl (by decide) w a)
  obtain ⟨q, eq⟩ : ∃ zz : ByteArray, A ++ ({ data := #[58] } : ByteArray) = zz := ⟨_, rfl⟩
  have sq : q.size ≤ 110 := by rw [← eq]; exact size_le (a := 100) (b := 1) sA (by decide) (by decide)
  obtain ⟨r, er⟩ : ∃ zz : ByteArray, q ++ C = zz := ⟨_, rfl⟩
  have sr : r.size ≤ 210 := by rw [← er]; exact size_le (a := 110) (b := 100) sq sC (by decide)
  have RES := Lib.hid (show r = minS n from by rw [← er, ← eq, hA, hC]; rfl)
  have d1 : n.tdiv 3600 = n / 3600 := Int.tdiv_eq_ediv_of_nonneg h1
  have d2 : n.tmod 3600 = n % 3600 := Int.tmod_eq_emod_of_nonneg h1
  have d3 : (n % 3600).tdiv 60 = n % 3600 / 60 := Int.tdiv_eq_ediv_of_nonneg (by omega)
  have f1 : wrap64 (n / 3600) = n / 3600 := by unfold wrap64; omega
  have g1 : IntKind.i64.wrap (n / 3600) = n / 3600 := by rw [IntKind.wrap_i64]; omega
  have f2 : wrap64 (n % 3600 / 60) = n % 3600 / 60 := by unfold wrap64; omega
  have g2 : IntKind.i64.wrap (n % 3600 / 60) = n % 3600 / 60 := by rw [IntKind.wrap_i64]; omega
  have HT := Lib.hid ht
  clear ht hA hC h1 h2
  go_enter Tryd.func35, Tryd.ntmps35
  go_wp2_with fail
  refine (CA.out _ (HT.out.below (by go_grown))).mono ?_
  rintro e w1 ⟨rfl, hb⟩
  have B : Below w.heap.size w w1 := bstep (by go_grown) hb
  clear hb CA
  go_wp2_with fail
  refine (CC.out _ (HT.out.below B)).mono ?_
  rintro e w2 ⟨rfl, hb⟩
  replace B := bstep B hb
  clear hb CC
  go_wp2
  go_ret
  exact ⟨congrArg (fun z => Ending.returned (.string z)) RES.out, B⟩
set_option linter.unusedSimpArgs false in
set_option linter.unusedVariables false in
set_option maxRecDepth 100000 in
set_option maxHeartbeats 4000000 in
theorem secondsOf_any (n : Int) (h1 : 0 ≤ n) (w : World) (ht : Tab2 w) : Calls Tryd.prog 36 #[.int .i64 n] w (Ret (.string (secS n)) w) := by
  obtain ⟨A, hA⟩ : ∃ zz : ByteArray, zz = padS (n % 60) 2 := ⟨_, rfl⟩
  have sA : A.size ≤ 100 := by rw [hA]; exact pad_size (by unfold I64; omega) (by decide)
  have CA := Lib.hid (show ∀ w, Tab2 w → Calls Tryd.prog 33 #[.int .i64 (n % 60), .int .i64 2] w (Ret (.string A) w) from fun w a => by rw [hA]; exact padded_any (n % 60) (by unfold I64; omega) 2 2 rfl (by decide) w a)
  obtain ⟨q, eq⟩ : ∃ zz : ByteArray, ({ data := #[58] } : ByteArray) ++ A = zz := ⟨_, rfl⟩
  have sq : q.size ≤ 110 := by rw [← eq]; exact size_le (a := 1) (b := 100) (by decide) sA (by decide)
  have RES := Lib.hid (show q = secS n from by rw [← eq, hA]; rfl)
  have d1 : n.tmod 60 = n % 60 := Int.tmod_eq_emod_of_nonneg h1
  have HT := Lib.hid ht
  clear ht hA h1
  go_enter Tryd.func36, Tryd.ntmps36
  go_wp2_with fail
  refine (CA.out _ (HT.out.below (by go_grown))).mono ?_
  rintro e w1 ⟨rfl, hb⟩
  have B : Below w.heap.size w w1 := bstep (by go_grown) hb
  clear hb CA
  go_wp2
  go_ret
  exact ⟨congrArg (fun z => Ending.returned (.string z)) RES.out, B⟩

/-- An offset's sign, and its text. -/
def sg2 (x : Int) : ByteArray := if x < 0 then ⟨#[45]⟩ else ⟨#[43]⟩
def offS (n : Int) : ByteArray := if n = 0 then { data := #[90] } else if absI n % 60 = 0 then sg2 n ++ minS (absI n) else sg2 n ++ minS (absI n) ++ secS (absI n)
theorem sg2_size (x : Int) : (sg2 x).size ≤ 1 := by unfold sg2; split <;> decide
theorem off_size {n : Int} (h1 : -64800 ≤ n) (h2 : n ≤ 64800) : (offS n).size ≤ 330 := by
  have a := abs_nonneg n
  have b := abs_le h1 h2
  unfold offS
  split
  · decide
  · split
    · exact size_le (a := 1) (b := 210) (sg2_size n) (min_size a (by omega)) (by decide)
    · exact size_le (a := 211) (b := 110) (size_le (a := 1) (b := 210) (sg2_size n) (min_size a (by omega)) (by decide)) (sec_size _) (by decide)
set_option linter.unusedSimpArgs false in
set_option linter.unusedVariables false in
set_option maxRecDepth 100000 in
set_option maxHeartbeats 4000000 in
theorem offset_any (n : Int) (h1 : -64800 ≤ n) (h2 : n ≤ 64800) (w : World) (ht : Tab2 w) : Calls Tryd.prog 37 #[.int .i64 n] w (Ret (.string (offS n)) w) := by
  by_cases z : n = 0
  · subst z
    have t0 : ((0 : Int) == 0) = true := rfl
    clear h1 h2 ht
    go_enter Tryd.func37, Tryd.ntmps37
    go_wp2
    go_ret
    exact ⟨rfl, by go_grown⟩
  have t0 : (n == 0) = false := by simpa using z
  have a0 := abs_nonneg n
  have a1 := abs_le h1 h2
  have SP0 := split_any n (by omega) (by omega)
  have HO : offS n = if absI n % 60 = 0 then sg2 n ++ minS (absI n) else sg2 n ++ minS (absI n) ++ secS (absI n) := by unfold offS; rw [if_neg z]
  rw [HO]
  clear HO
  obtain ⟨G, hG⟩ : ∃ zz : ByteArray, zz = sgS n := ⟨_, rfl⟩
  have sG : G.size ≤ 1 := by rw [hG]; exact sg_size n
  rw [← hG] at SP0
  obtain ⟨H, hH⟩ : ∃ zz : ByteArray, zz = sg2 n := ⟨_, rfl⟩
  have sH : H.size ≤ 1 := by rw [hH]; exact sg2_size n
  rw [← hH]
  have SG : (G = { data := #[45] } ∧ H = { data := #[45] }) ∨ (G = { data := #[] } ∧ H = { data := #[43] }) := by rw [hG, hH]; unfold sgS sg2; by_cases k : n < 0 <;> simp [k]
  clear sG sH hG hH
  generalize absI n = x at *
  have SP := Lib.hid SP0
  clear SP0
  obtain ⟨M, hM⟩ : ∃ zz : ByteArray, zz = minS x := ⟨_, rfl⟩
  have sM : M.size ≤ 210 := by rw [hM]; exact min_size a0 (by omega)
  obtain ⟨S, hS⟩ : ∃ zz : ByteArray, zz = secS x := ⟨_, rfl⟩
  have sS : S.size ≤ 110 := by rw [hS]; exact sec_size x
  have CM := Lib.hid (show ∀ w, Tab2 w → Calls Tryd.prog 35 #[.int .i64 x] w (Ret (.string M) w) from fun w a => by rw [hM]; exact minutesOf_any x a0 (by omega) w a)
  have CS := Lib.hid (show ∀ w, Tab2 w → Calls Tryd.prog 36 #[.int .i64 x] w (Ret (.string S) w) from fun w a => by rw [hS]; exact secondsOf_any x a0 w a)
  rw [← hM, ← hS]
  clear hM hS
  have d1 : x.tmod 60 = x % 60 := Int.tmod_eq_emod_of_nonneg a0
  have HT := Lib.hid ht
  clear ht h1 h2 z
  rcases SG with ⟨rfl, rfl⟩ | ⟨rfl, rfl⟩
  all_goals
    by_cases k : x % 60 = 0
    · rw [if_pos k]
      have t1 : (x % 60 != 0) = false := by rw [k]; rfl
      clear k a0 a1 CS
      go_enter Tryd.func37, Tryd.ntmps37
      go_wp2_with fail
      refine (SP.out _).mono ?_
      rintro e w1 ⟨rfl, hb⟩
      have B : Below w.heap.size w w1 := bstep (by go_grown) hb
      clear hb SP
      go_wp2_with fail
      refine (CM.out _ (HT.out.below B)).mono ?_
      rintro e w2 ⟨rfl, hb⟩
      replace B := bstep B hb
      clear hb CM
      go_wp2
      go_ret
      exact ⟨rfl, B⟩
    · rw [if_neg k]
      have t1 : (x % 60 != 0) = true := by simpa using k
      clear k a0 a1
      go_enter Tryd.func37, Tryd.ntmps37
      go_wp2_with fail
      refine (SP.out _).mono ?_
      rintro e w1 ⟨rfl, hb⟩
      have B : Below w.heap.size w w1 := bstep (by go_grown) hb
      clear hb SP
      go_wp2_with fail
      refine (CM.out _ (HT.out.below B)).mono ?_
      rintro e w2 ⟨rfl, hb⟩
      replace B := bstep B hb
      clear hb CM
      go_wp2_with fail
      refine (CS.out _ (HT.out.below B)).mono ?_
      rintro e w3 ⟨rfl, hb⟩
      replace B := bstep B hb
      clear hb CS
      go_wp2
      go_ret
      exact ⟨rfl, B⟩
end Go.Proofs.YthgondbiddncpaaDoor

/-
  The document's examples of layer 9, and awake.
-/
import Derived.Test.YthgondbiddncpaaDoorYi
import Derived.Test.YthgondbiddncpaaDoorYc
namespace Go.Proofs.YthgondbiddncpaaDoor
open Go.RowKit

theorem itoa_one {x : Int} (h1 : 0 ≤ x) (h2 : x < 10) : Lib.itoa x = [UInt8.ofNat (48 + x.toNat)] := by
  unfold Lib.itoa
  rw [if_neg (by omega), Lib.decDigits_one (by omega)]
theorem itoa_two {x : Int} (h1 : 10 ≤ x) (h2 : x < 100) : Lib.itoa x = [UInt8.ofNat (48 + x.toNat / 10), UInt8.ofNat (48 + x.toNat % 10)] := by
  unfold Lib.itoa
  rw [if_neg (by omega), Lib.decDigits_two (by omega) (by omega)]
theorem ex_date : dateT 5 1 2 = ⟨#[48, 48, 48, 53, 45, 48, 49, 45, 48, 50]⟩ := by
  unfold dateT
  rw [if_pos (by decide)]
  unfold dateS sgS padS padL
  rw [show absI 5 = 5 from rfl, itoa_one (x := 5) (by decide) (by decide), itoa_one (x := 1) (by decide) (by decide), itoa_one (x := 2) (by decide) (by decide)]
  rfl
theorem ex_time : timeT 3661 true (-19800) = ⟨#[48, 49, 58, 48, 49, 58, 48, 49, 45, 48, 53, 58, 51, 48]⟩ := by
  unfold timeT
  rw [if_pos (by decide)]
  unfold timeS offS sg2 minS secS padS padL
  rw [show absI (-19800) = 19800 from rfl, show (3661 : Int) / 3600 = 1 from rfl, show (3661 : Int) % 3600 / 60 = 1 from rfl, show (3661 : Int) % 60 = 1 from rfl, show (19800 : Int) / 3600 = 5 from rfl, show (19800 : Int) % 3600 / 60 = 30 from rfl, itoa_one (x := 5) (by decide) (by decide), itoa_one (x := 1) (by decide) (by decide), itoa_two (x := 30) (by decide) (by decide)]
  rfl
theorem ex_days : daysS 90061 = ⟨#[80, 49, 68, 84, 49, 72, 49, 77, 49, 83]⟩ := by
  unfold daysS
  rw [if_neg (by decide), if_neg (by decide), show absI 90061 = 90061 from rfl, show (90061 : Int) / 86400 = 1 from rfl, show (90061 : Int) % 86400 = 3661 from rfl]
  have r : restS 3661 = ⟨#[49, 72, 49, 77, 49, 83]⟩ := by
    unfold restS
    rw [show (3661 : Int) / 3600 = 1 from rfl, show (3661 : Int) % 3600 / 60 = 1 from rfl, show (3661 : Int) % 60 = 1 from rfl]
    unfold partS itS
    rw [if_neg (by decide), if_neg (by decide), if_neg (by decide), itoa_one (x := 1) (by decide) (by decide)]
    rfl
  unfold restT
  rw [r, if_neg (by decide)]
  unfold partS itS
  rw [if_neg (by decide), itoa_one (x := 1) (by decide) (by decide)]
  rfl
theorem ex_months : monthsS 14 = ⟨#[80, 49, 89, 50, 77]⟩ := by
  unfold monthsS
  rw [if_neg (by decide), if_neg (by decide), show absI 14 = 14 from rfl, show (14 : Int) / 12 = 1 from rfl, show (14 : Int) % 12 = 2 from rfl]
  unfold partS itS
  rw [if_neg (by decide), if_neg (by decide), itoa_one (x := 1) (by decide) (by decide), itoa_one (x := 2) (by decide) (by decide)]
  rfl
theorem ex_r1 : readDL [80, 84, 51, 54, 72] = some 129600 := by decide
theorem ex_r2 : readML [80, 49, 52, 77] = some 14 := by decide
theorem ex_r3 : readDL [80, 49, 68, 84] = none := by decide
set_option linter.unusedSimpArgs false in
set_option maxRecDepth 100000 in
set_option maxHeartbeats 8000000 in
theorem awake9 (w : World) (ht : Tab2 w) : Calls Tryd.prog 8 #[] w (Ret (.bool true) w) := by
  have HT := Lib.hid ht
  have R1 := Lib.hid (show ∀ w, Calls Tryd.prog 24 #[.string ⟨#[80, 84, 51, 54, 72]⟩] w (Ret (.tuple #[.int .i64 129600, .bool true]) w) from fun w => by
    have e := readDays_any ⟨#[80, 84, 51, 54, 72]⟩ (by decide) w
    rw [ex_r1] at e
    exact e)
  have R2 := Lib.hid (show ∀ w, Calls Tryd.prog 25 #[.string ⟨#[80, 49, 52, 77]⟩] w (Ret (.tuple #[.int .i64 14, .bool true]) w) from fun w => by
    have e := readMonths_any ⟨#[80, 49, 52, 77]⟩ (by decide) w
    rw [ex_r2] at e
    exact e)
  have R3 := Lib.hid (show ∀ w, Calls Tryd.prog 24 #[.string ⟨#[80, 49, 68, 84]⟩] w (Ret (.tuple #[.int .i64 0, .bool false]) w) from fun w => by
    have e := readDays_any ⟨#[80, 49, 68, 84]⟩ (by decide) w
    rw [ex_r3] at e
    exact e)
  have D1 := Lib.hid (show ∀ w, Tab2 w → Calls Tryd.prog 10 #[Dt 5 1 2] w (Ret (.string ⟨#[48, 48, 48, 53, 45, 48, 49, 45, 48, 50]⟩) w) from fun w a => by rw [← ex_date]; exact date_any 5 1 2 w a)
  have D2 := Lib.hid (show ∀ w, Tab2 w → Calls Tryd.prog 12 #[Tm 3661 true (-19800)] w (Ret (.string ⟨#[48, 49, 58, 48, 49, 58, 48, 49, 45, 48, 53, 58, 51, 48]⟩) w) from fun w a => by rw [← ex_time]; exact time_any 3661 true (-19800) w a)
  have D3 := Lib.hid (show ∀ w, Tab2 w → Calls Tryd.prog 15 #[.int .i64 90061] w (Ret (.string ⟨#[80, 49, 68, 84, 49, 72, 49, 77, 49, 83]⟩) w) from fun w a => by rw [← ex_days]; exact days_any 90061 w a)
  have D4 := Lib.hid (show ∀ w, Tab2 w → Calls Tryd.prog 16 #[.int .i64 14] w (Ret (.string ⟨#[80, 49, 89, 50, 77]⟩) w) from fun w a => by rw [← ex_months]; exact months_any 14 w a)
  clear ht
  go_enter Tryd.func8, Tryd.ntmps8
  go_wp2_with fail
  refine (R1.out _).mono ?_
  rintro e w1 ⟨rfl, hb⟩
  have B : Below w.heap.size w w1 := bstep (by go_grown) hb
  clear hb R1
  go_wp2_with fail
  refine (R2.out _).mono ?_
  rintro e w2 ⟨rfl, hb⟩
  replace B := bstep B hb
  clear hb R2
  go_wp2_with fail
  refine (R3.out _).mono ?_
  rintro e w3 ⟨rfl, hb⟩
  replace B := bstep B hb
  clear hb R3
  go_wp2_with fail
  refine (D1.out _ (HT.out.below B)).mono ?_
  rintro e w4 ⟨rfl, hb⟩
  replace B := bstep B hb
  clear hb D1
  go_wp2_with fail
  refine (D2.out _ (HT.out.below B)).mono ?_
  rintro e w5 ⟨rfl, hb⟩
  replace B := bstep B hb
  clear hb D2
  go_wp2_with fail
  refine (D3.out _ (HT.out.below B)).mono ?_
  rintro e w6 ⟨rfl, hb⟩
  replace B := bstep B hb
  clear hb D3
  go_wp2_with fail
  refine (D4.out _ (HT.out.below B)).mono ?_
  rintro e w7 ⟨rfl, hb⟩
  replace B := bstep B hb
  clear hb D4
  go_wp2
  go_ret
  exact ⟨rfl, B⟩
end Go.Proofs.YthgondbiddncpaaDoor

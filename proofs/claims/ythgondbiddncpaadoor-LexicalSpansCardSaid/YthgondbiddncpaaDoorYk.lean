/-
  The statement LexicalSpans, walked: it answers true.
-/
import Derived.Test.YthgondbiddncpaaDoorYj
namespace Go.Proofs.YthgondbiddncpaaDoor
open Go.RowKit

theorem spanD (l : List UInt8) : lawDL l = readDL l := by unfold lawDL readDL; rw [days_eq]
theorem spanM (l : List UInt8) : lawML l = readML l := by unfold lawML readML; rw [months_eq]
set_option linter.unusedSimpArgs false in
set_option linter.unusedVariables false in
set_option maxRecDepth 100000 in
set_option maxHeartbeats 4000000 in
theorem lexicalSpans_walk (s : ByteArray) (hs : s.size ≤ 200000000000000) (w : World) (ht : Tab2 w) : Calls Tryd.prog 5 #[.string s] w (Ret (.bool true) w) := by
  have HT := Lib.hid ht
  have AW := Lib.hid awake9
  have RD0 := readDays_any s hs
  have RM0 := readMonths_any s hs
  have LD0 := daysR_any s hs
  have LM0 := monthsR_any s hs
  rw [spanD] at LD0
  rw [spanM] at LM0
  generalize readDL s.data.toList = x at *
  generalize readML s.data.toList = y at *
  clear ht hs
  cases x <;> cases y
  · have RD := Lib.hid (show ∀ w, Calls Tryd.prog 24 #[.string s] w (Ret (.tuple #[.int .i64 0, .bool false]) w) from RD0)
    have RM := Lib.hid (show ∀ w, Calls Tryd.prog 25 #[.string s] w (Ret (.tuple #[.int .i64 0, .bool false]) w) from RM0)
    have LD := Lib.hid (show ∀ w, Calls Tryd.prog 26 #[.string s] w (Ret (.tuple #[.int .i64 0, .bool false]) w) from LD0)
    have LM := Lib.hid (show ∀ w, Calls Tryd.prog 27 #[.string s] w (Ret (.tuple #[.int .i64 0, .bool false]) w) from LM0)
    clear RD0 RM0 LD0 LM0
    go_enter Tryd.func5, Tryd.ntmps5
    go_wp2_with fail
    refine (AW.out _ (HT.out.below (by go_grown))).mono ?_
    rintro e w1 ⟨rfl, hb⟩
    have B : Below w.heap.size w w1 := bstep (by go_grown) hb
    clear hb AW
    go_wp2_with fail
    refine (RD.out _).mono ?_
    rintro e w2 ⟨rfl, hb⟩
    replace B := bstep B hb
    clear hb RD
    go_wp2_with fail
    refine (RM.out _).mono ?_
    rintro e w3 ⟨rfl, hb⟩
    replace B := bstep B hb
    clear hb RM
    go_wp2_with fail
    refine (LD.out _).mono ?_
    rintro e w4 ⟨rfl, hb⟩
    replace B := bstep B hb
    clear hb LD
    go_wp2_with fail
    refine (LM.out _).mono ?_
    rintro e w5 ⟨rfl, hb⟩
    replace B := bstep B hb
    clear hb LM
    go_wp2
    go_ret
    exact ⟨rfl, B⟩
  · rename_i j
    have RD := Lib.hid (show ∀ w, Calls Tryd.prog 24 #[.string s] w (Ret (.tuple #[.int .i64 0, .bool false]) w) from RD0)
    have RM := Lib.hid (show ∀ w, Calls Tryd.prog 25 #[.string s] w (Ret (.tuple #[.int .i64 j, .bool true]) w) from RM0)
    have LD := Lib.hid (show ∀ w, Calls Tryd.prog 26 #[.string s] w (Ret (.tuple #[.int .i64 0, .bool false]) w) from LD0)
    have LM := Lib.hid (show ∀ w, Calls Tryd.prog 27 #[.string s] w (Ret (.tuple #[.int .i64 j, .bool true]) w) from LM0)
    clear RD0 RM0 LD0 LM0
    go_enter Tryd.func5, Tryd.ntmps5
    go_wp2_with fail
    refine (AW.out _ (HT.out.below (by go_grown))).mono ?_
    rintro e w1 ⟨rfl, hb⟩
    have B : Below w.heap.size w w1 := bstep (by go_grown) hb
    clear hb AW
    go_wp2_with fail
    refine (RD.out _).mono ?_
    rintro e w2 ⟨rfl, hb⟩
    replace B := bstep B hb
    clear hb RD
    go_wp2_with fail
    refine (RM.out _).mono ?_
    rintro e w3 ⟨rfl, hb⟩
    replace B := bstep B hb
    clear hb RM
    go_wp2_with fail
    refine (LD.out _).mono ?_
    rintro e w4 ⟨rfl, hb⟩
    replace B := bstep B hb
    clear hb LD
    go_wp2_with fail
    refine (LM.out _).mono ?_
    rintro e w5 ⟨rfl, hb⟩
    replace B := bstep B hb
    clear hb LM
    go_wp2
    go_ret
    exact ⟨rfl, B⟩
  · rename_i i
    have RD := Lib.hid (show ∀ w, Calls Tryd.prog 24 #[.string s] w (Ret (.tuple #[.int .i64 i, .bool true]) w) from RD0)
    have RM := Lib.hid (show ∀ w, Calls Tryd.prog 25 #[.string s] w (Ret (.tuple #[.int .i64 0, .bool false]) w) from RM0)
    have LD := Lib.hid (show ∀ w, Calls Tryd.prog 26 #[.string s] w (Ret (.tuple #[.int .i64 i, .bool true]) w) from LD0)
    have LM := Lib.hid (show ∀ w, Calls Tryd.prog 27 #[.string s] w (Ret (.tuple #[.int .i64 0, .bool false]) w) from LM0)
    clear RD0 RM0 LD0 LM0
    go_enter Tryd.func5, Tryd.ntmps5
    go_wp2_with fail
    refine (AW.out _ (HT.out.below (by go_grown))).mono ?_
    rintro e w1 ⟨rfl, hb⟩
    have B : Below w.heap.size w w1 := bstep (by go_grown) hb
    clear hb AW
    go_wp2_with fail
    refine (RD.out _).mono ?_
    rintro e w2 ⟨rfl, hb⟩
    replace B := bstep B hb
    clear hb RD
    go_wp2_with fail
    refine (RM.out _).mono ?_
    rintro e w3 ⟨rfl, hb⟩
    replace B := bstep B hb
    clear hb RM
    go_wp2_with fail
    refine (LD.out _).mono ?_
    rintro e w4 ⟨rfl, hb⟩
    replace B := bstep B hb
    clear hb LD
    go_wp2_with fail
    refine (LM.out _).mono ?_
    rintro e w5 ⟨rfl, hb⟩
    replace B := bstep B hb
    clear hb LM
    go_wp2
    go_ret
    exact ⟨rfl, B⟩
  · rename_i i j
    have RD := Lib.hid (show ∀ w, Calls Tryd.prog 24 #[.string s] w (Ret (.tuple #[.int .i64 i, .bool true]) w) from RD0)
    have RM := Lib.hid (show ∀ w, Calls Tryd.prog 25 #[.string s] w (Ret (.tuple #[.int .i64 j, .bool true]) w) from RM0)
    have LD := Lib.hid (show ∀ w, Calls Tryd.prog 26 #[.string s] w (Ret (.tuple #[.int .i64 i, .bool true]) w) from LD0)
    have LM := Lib.hid (show ∀ w, Calls Tryd.prog 27 #[.string s] w (Ret (.tuple #[.int .i64 j, .bool true]) w) from LM0)
    clear RD0 RM0 LD0 LM0
    go_enter Tryd.func5, Tryd.ntmps5
    go_wp2_with fail
    refine (AW.out _ (HT.out.below (by go_grown))).mono ?_
    rintro e w1 ⟨rfl, hb⟩
    have B : Below w.heap.size w w1 := bstep (by go_grown) hb
    clear hb AW
    go_wp2_with fail
    refine (RD.out _).mono ?_
    rintro e w2 ⟨rfl, hb⟩
    replace B := bstep B hb
    clear hb RD
    go_wp2_with fail
    refine (RM.out _).mono ?_
    rintro e w3 ⟨rfl, hb⟩
    replace B := bstep B hb
    clear hb RM
    go_wp2_with fail
    refine (LD.out _).mono ?_
    rintro e w4 ⟨rfl, hb⟩
    replace B := bstep B hb
    clear hb LD
    go_wp2_with fail
    refine (LM.out _).mono ?_
    rintro e w5 ⟨rfl, hb⟩
    replace B := bstep B hb
    clear hb LM
    go_wp2
    go_ret
    exact ⟨rfl, B⟩
end Go.Proofs.YthgondbiddncpaaDoor

/-
  The document's examples of layer 15, walked (the law's awake).
-/
import Derived.Test.YtfdbpeplmkfijaaDoorIwr
namespace Go.Proofs.YtfdbpeplmkfijaaDoor
open Go.RowKit Go.Lib

theorem retsub_yes {o : Option (List Nat)} {M : List Nat} {l : ByteArray} {w : World} {e : Ending} {w' : World} (ho : o = some M) (hl : (⟨(enc M).toArray⟩ : ByteArray) = l) (h : RetSub o w e w') : Ret (.tuple #[.string l, .bool true]) w e w' := by
  subst ho hl
  exact h
theorem retsub_no {o : Option (List Nat)} {w : World} {e : Ending} {w' : World} (ho : o = none) (h : RetSub o w e w') : Ret (.tuple #[.string ⟨#[]⟩, .bool false]) w e w' := by
  subst ho
  exact h
theorem rett_lit {L : List UInt8} {l : ByteArray} {w : World} {e : Ending} {w' : World} (hl : (⟨L.toArray⟩ : ByteArray) = l) (h : RetTx L w e w') : Ret (.string l) w e w' := by
  subst hl
  exact h
set_option linter.unusedVariables false in
set_option linter.unusedSimpArgs false in
set_option maxRecDepth 100000 in
set_option maxHeartbeats 8000000 in
theorem awake15 (w : World) : Calls Tryd.prog 7 #[] w (Ret (.bool true) w) := by
  have S1 := Lib.hid (fun W => (sub_any ⟨#[102, 111, 111, 98, 97, 114]⟩ 3 (-1) ⟨by decide, by decide⟩ ⟨by decide, by decide⟩ (by decide) W).mono fun e w' h => retsub_yes (M := [111, 98, 97, 114]) (l := ⟨#[111, 98, 97, 114]⟩) (by decide +kernel) (by decide +kernel) h)
  have S2 := Lib.hid (fun W => (sub_any ⟨#[102, 111, 111, 98, 97, 114]⟩ (-2) 1 ⟨by decide, by decide⟩ ⟨by decide, by decide⟩ (by decide) W).mono fun e w' h => retsub_yes (M := [97]) (l := ⟨#[97]⟩) (by decide +kernel) (by decide +kernel) h)
  have S3 := Lib.hid (fun W => (sub_any ⟨#[97]⟩ 0 1 ⟨by decide, by decide⟩ ⟨by decide, by decide⟩ (by decide) W).mono fun e w' h => retsub_no (by decide +kernel) h)
  have U1 := Lib.hid (fun W => (upper_any ⟨#[97, 195, 169]⟩ (by decide) W).mono fun e w' h => rett_lit (l := ⟨#[65, 195, 169]⟩) (by decide +kernel) h)
  go_enter Tryd.func7, Tryd.ntmps7
  go_wp2_with (first
    | (go_at_call 9; (with_reducible refine (S1.out _).mono ?_); rintro e w1 ⟨rfl, b1⟩)
    | (go_at_call 9; (with_reducible refine (S2.out _).mono ?_); rintro e w2 ⟨rfl, b2⟩)
    | (go_at_call 9; (with_reducible refine (S3.out _).mono ?_); rintro e w3 ⟨rfl, b3⟩))
  refine (split_ex _).mono ?_
  rintro e w4 ⟨g, o, c, rfl, c1, c2, gl, sp, b4⟩
  have B4 : Below w.heap.size w w4 := bstep (bstep (bstep b1 b2) b3) b4
  have SP := Lib.hid (fun W (hW : Below w4.heap.size w4 W) => ((bcell hW).1 g (o + 1) gl).trans sp)
  clear b1 b2 b3 b4
  go_wp2_with (first
    | (go_at_call 14; (with_reducible refine (U1.out _).mono ?_); rintro e w5 ⟨rfl, b5⟩; have sp5 := SP.out _ b5; clear sp; have gl5 := Nat.lt_of_lt_of_le gl b5.size)
    | (go_at_call 23; (with_reducible refine (before_ex _).mono ?_); rintro e w6 ⟨rfl, b6⟩)
    | (go_at_call 24; (with_reducible refine (after_ex _).mono ?_); rintro e w7 ⟨rfl, b7⟩))
  go_ret
  exact ⟨rfl, bstep (bstep (bstep B4 b5) b6) b7⟩
end Go.Proofs.YtfdbpeplmkfijaaDoor

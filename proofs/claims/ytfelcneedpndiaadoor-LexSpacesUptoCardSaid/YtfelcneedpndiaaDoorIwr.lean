/-
  What package runes answers: Valid, Reverse, and Split, Before and After at the document's examples, as contracts of their calls.
-/
import Derived.Test.YtfelcneedpndiaaDoorIws
import Derived.Shelf.Unicode.ValidAny
import Derived.Shelf.SlGeneric
import Derived.Shelf.SlicesE.Reverse
import Derived.Lib.OwnBridge
import Derived.Lib.RuneCount
import Derived.Laws.Cover4
import Derived.Laws.IdiomStrings
namespace Go.Proofs.YtfelcneedpndiaaDoor
open Go.RowKit Go.Lib Go.Shelf Go.Sort

def vren : Go.Shelf.Ren := ⟨fun | 196 => 22 | 259 => 37 | n => n, fun | 9 => 9 | 4 => 4 | 3 => 3 | 5 => 5 | 12 => 12 | 119 => 69 | 0 => 0 | 46 => 73 | 139 => 72 | 138 => 71 | 53 => 38 | n => n, fun | 3 => 0 | 4 => 1 | n => n⟩
theorem vlays196 : Go.Proofs.Lays.n196 Tryd.prog vren := {
  mixed := by kernel_rfl
  f196 := Tryd.func22.trans (congrArg some (by kernel_rfl))
  f259 := Tryd.func37.trans (congrArg some (by kernel_rfl))
  t0 := Tryd.underlying0
  a0 := Tryd.isAgg0
  z0 := Tryd.sizeOf0
  v0 := Tryd.zeroValue0
  t3 := Tryd.underlying3
  a3 := Tryd.isAgg3
  z3 := Tryd.sizeOf3
  v3 := Tryd.zeroValue3
  t4 := Tryd.underlying4
  a4 := Tryd.isAgg4
  z4 := Tryd.sizeOf4
  v4 := Tryd.zeroValue4
  t5 := Tryd.underlying5
  a5 := Tryd.isAgg5
  z5 := Tryd.sizeOf5
  v5 := Tryd.zeroValue5
  t9 := Tryd.underlying9
  a9 := Tryd.isAgg9
  z9 := Tryd.sizeOf9
  v9 := Tryd.zeroValue9
  t12 := Tryd.underlying12
  a12 := Tryd.isAgg12
  z12 := Tryd.sizeOf12
  v12 := Tryd.zeroValue12
  t46 := Tryd.underlying73
  a46 := Tryd.isAgg73
  z46 := Tryd.sizeOf73
  v46 := Tryd.zeroValue73
  t53 := Tryd.underlying38
  a53 := Tryd.isAgg38
  z53 := Tryd.sizeOf38
  v53 := Tryd.zeroValue38
  t119 := Tryd.underlying69
  a119 := Tryd.isAgg69
  z119 := Tryd.sizeOf69
  t138 := Tryd.underlying71
  a138 := Tryd.isAgg71
  z138 := Tryd.sizeOf71
  v138 := Tryd.zeroValue71
  t139 := Tryd.underlying72
  a139 := Tryd.isAgg72
  z139 := Tryd.sizeOf72
  v139 := Tryd.zeroValue72
  g3 := by kernel_rfl
  g4 := by kernel_rfl }
/-- The tables of the library as they are laid. -/
def TabU (w : World) : Prop := Lib.Utf8Tabs 0 1 w
theorem TabU.below {w w' : World} (h : TabU w) (hb : Below w.heap.size w w') : TabU w' := Utf8Tabs_below h hb
set_option linter.unusedVariables false in
set_option linter.unusedSimpArgs false in
set_option maxRecDepth 100000 in
set_option maxHeartbeats 2000000 in
theorem valid_any (s : ByteArray) (hs : s.size ≤ 17592186044416) (w : World) (hT : TabU w) : Calls Tryd.prog 14 #[.string s] w (Ret (.bool (validD s.data.toList)) w) := by
  have CV := Lib.hid (show Calls Tryd.prog 22 #[.string s] w fun e w' => e = .returned (.bool (Lib.validD s.data.toList)) ∧ Below w.heap.size w w' from Any.utf8_ValidString vlays196 s w (by omega) hT)
  generalize validD s.data.toList = V at *
  go_enter Tryd.func14, Tryd.ntmps14
  go_wp2_with (go_at_call 22; (with_reducible refine CV.out.mono ?_); rintro e w1 ⟨rfl, b1⟩)
  go_ret
  exact ⟨rfl, b1⟩
/-- What []rune(s) makes. -/
theorem runesFrom_rn (s : ByteArray) : ∀ (bound i : Nat) (acc : Array Value), s.size ≤ i + bound → Conv.runesFrom s bound i acc = acc ++ ((rn (s.data.toList.drop i)).map rc).toArray
  | 0, i, acc, h => by
    rw [rn_end s i (by omega)]
    simp [Conv.runesFrom]
  | bound + 1, i, acc, h => by
    unfold Conv.runesFrom
    by_cases hi : i < s.size
    · have wd := Lib.decode_width_pos s i hi
      rw [if_pos hi, rn_at s i hi]
      show Conv.runesFrom s bound (i + (Utf8.decode s i).2) (acc.push (.int .i32 (Int.ofNat (Utf8.decode s i).1))) = _
      rw [runesFrom_rn s bound _ _ (by omega)]
      apply Array.ext'
      simp [rc]
    · rw [if_neg hi, rn_end s i hi]
      simp
theorem runesBytes_enc : ∀ (L : List Nat) (a : ByteArray), (L.map fun r : Nat => (r : Int)).foldl (fun r n => r ++ Utf8.encode n) a = a ++ ⟨(enc L).toArray⟩
  | [], a => by
    apply ByteArray.ext
    simp
  | x :: t, a => by
    rw [List.map_cons, List.foldl_cons, runesBytes_enc t, encI_list, enc_cons]
    apply ByteArray.ext
    simp [Array.append_assoc]
theorem runesBytes_L (L : List Nat) : runesBytes (L.map fun r : Nat => (r : Int)) = ⟨(enc L).toArray⟩ := by
  unfold runesBytes
  rw [runesBytes_enc]
  apply ByteArray.ext
  simp
theorem rc_one : OneCell rc := fun _ => rfl
set_option linter.unusedVariables false in
set_option linter.unusedSimpArgs false in
set_option maxRecDepth 100000 in
set_option maxHeartbeats 2000000 in
theorem index_ex (w : World) : Calls Tryd.prog 50 #[.string ⟨#[97, 98, 99]⟩, .string ⟨#[]⟩] w fun e w' => e = .returned (.int .i64 0) ∧ w' = w := by
  go_enter Tryd.func50, Tryd.ntmps50
  go_wp2
  go_ret
  exact ⟨rfl, rfl⟩
set_option linter.unusedVariables false in
set_option linter.unusedSimpArgs false in
set_option maxRecDepth 100000 in
set_option maxHeartbeats 2000000 in
theorem cut_ex (w : World) : Calls Tryd.prog 27 #[.string ⟨#[97, 98, 99]⟩, .string ⟨#[]⟩] w fun e w' => e = .returned (.tuple #[.string ⟨#[]⟩, .string ⟨#[97, 98, 99]⟩, .bool true]) ∧ Below w.heap.size w w' := by
  have CL := Lib.hid (show ∀ W, Calls Tryd.prog 39 #[.string ⟨#[97, 98, 99]⟩, .string ⟨#[]⟩] W fun e w' => e = .returned (.tuple #[.string ⟨#[]⟩, .string ⟨#[97, 98, 99]⟩, .bool true]) ∧ Below W.heap.size W w' from fun W => by
    have IX := Lib.hid (fun W => index_ex W)
    have mixed : Tryd.prog.follows .mixedOrders = true := by kernel_rfl
    have wr0 : IntKind.i64.wrap 0 = 0 := by decide
    go_enter Tryd.func39, Tryd.ntmps39
    go_wp2_with (go_at_call 50; (with_reducible refine (IX.out _).mono ?_); rintro e w1 ⟨rfl, rfl⟩)
    go_region_o
    go_wp2
    go_ret3
    exact ⟨rfl, by go_grown⟩)
  go_enter Tryd.func27, Tryd.ntmps27
  go_wp2_with (go_at_call 39; (with_reducible refine (CL.out _).mono ?_); rintro e w1 ⟨rfl, b1⟩)
  go_ret3
  exact ⟨rfl, b1⟩
end Go.Proofs.YtfelcneedpndiaaDoor
